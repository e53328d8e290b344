/-
  token.Digits; the reference's row and Digits.
-/
import Derived.Test.YtjbamlmdeopcaaaDoorJoin
namespace Go.Proofs.YtjbamlmdeopcaaaDoor.tok
open Go.RowKit

theorem slice_from (s : ByteArray) (n : Nat) (h : n ≤ s.size) (u : World) :
    (Instr.slice 9 (.string s) (some (.int .i64 (n : Int))) none none).run Tryd.prog u = .ok (.string (B (s.data.toList.drop n))) u := by
  have e : s.extract n s.size = B (s.data.toList.drop n) := by
    rw [b_extract, List.take_of_length_le (by rw [List.length_drop, sdata]; omega)]
  rw [← e]
  exact run_slice_string_l (P := Tryd.prog) (w := u) (t := 9) (s := s) (ht := Tryd.underlying9) .i64 (n : Int) (by omega) (by omega)
theorem index_at (s : ByteArray) (z : Int) (k : Nat) (hz : z = (k : Int)) (h : k < s.size) (u : World) : (Instr.index 9 (.string s) (.int .i64 z)).run Tryd.prog u = .ok (.int .u8 (s[k].toNat : Int)) u := by
  subst hz
  simp [Instr.index, asIntOf, run_underlying Tryd.underlying9, h]

/-- A number's digits, what stands ahead of them taken away. -/
def restOf (l : List UInt8) : List UInt8 := if 0 < (prefixOf l).2 then Lib.trimPrefix (l.drop (prefixOf l).2) [95] else l.drop (prefixOf l).2
def numOf (l : List UInt8) : Nat × List UInt8 × Bool :=
  match jTo (prefixOf l).1 (restOf l) (restOf l).length with
  | some (d, false) => ((prefixOf l).1, d, true)
  | _ => (0, [], false)
theorem trim_le (x p : List UInt8) : (Lib.trimPrefix x p).length ≤ x.length := by
  unfold Lib.trimPrefix
  split
  · rw [List.length_drop]; omega
  · exact Nat.le_refl _
def Triple (b : Nat) (d : List UInt8) (ok : Bool) (w : World) (e : Ending) (w' : World) : Prop := e = .returned (.tuple #[.int .i64 b, .string (B d), .bool ok]) ∧ Below w.heap.size w w'
theorem trim_any (x : List UInt8) (w : World) : Calls Tryd.prog 39 #[.string (B x), .string { data := #[95] }] w fun e w' => e = .returned (.string (B (Lib.trimPrefix x [95]))) ∧ w = w' := by
  refine (Tryd.strings_TrimPrefix (B x) ⟨#[95]⟩ w).mono ?_
  rintro e w' ⟨rfl, rfl⟩
  rw [bdata]
  exact ⟨rfl, rfl⟩
theorem join_b (x : List UInt8) (base : Int) (w : World) (hs : x.length ≤ 16777216) :
    Calls Tryd.prog 40 #[.string (B x), .int .i64 base] w (Joined (joined base x).1 (joined base x).2 w) := by
  have := join_any (B x) base w (by rw [bsize]; exact hs)
  rwa [bdata] at this

set_option maxRecDepth 100000 in
set_option maxHeartbeats 2000000 in
theorem digits_any (s : ByteArray) (w : World) (hs : s.size ≤ 16777216) : Calls Tryd.prog 30 #[.string s] w (Triple (numOf s.data.toList).1 (numOf s.data.toList).2.1 (numOf s.data.toList).2.2 w) := by
  have hp := (prefix_le s.data.toList).1
  rw [sdata] at hp
  have HP := Lib.hid (prefix_any s)
  have HN : Hid (numOf s.data.toList = match jTo (prefixOf s.data.toList).1 (restOf s.data.toList) (restOf s.data.toList).length with | some (d, false) => ((prefixOf s.data.toList).1, d, true) | _ => (0, [], false)) := Lib.hid rfl
  have HR : Hid (restOf s.data.toList = if 0 < (prefixOf s.data.toList).2 then Lib.trimPrefix (s.data.toList.drop (prefixOf s.data.toList).2) [95] else s.data.toList.drop (prefixOf s.data.toList).2) := Lib.hid rfl
  obtain ⟨b, n, hbn⟩ : ∃ b n, prefixOf s.data.toList = (b, n) := ⟨_, _, rfl⟩
  rw [hbn] at hp HP HN HR
  obtain ⟨r, hr⟩ : ∃ r, numOf s.data.toList = r := ⟨_, rfl⟩
  obtain ⟨y, hy⟩ : ∃ y, restOf s.data.toList = y := ⟨_, rfl⟩
  rw [hr] at HN ⊢
  rw [hy] at HN HR
  clear hbn hr hy
  simp only [] at hp HP HR
  have hsl := slice_from s n hp
  obtain ⟨x, hx⟩ : ∃ x, s.data.toList.drop n = x := ⟨_, rfl⟩
  rw [hx] at hsl HR
  have hxl : x.length ≤ 16777216 := by rw [← hx, List.length_drop, sdata]; omega
  have hyl : y.length ≤ 16777216 := by rw [HR.out]; split; exact Nat.le_trans (trim_le _ _) hxl; exact hxl
  clear hx
  obtain ⟨jd, jb, hj⟩ : ∃ jd jb, joined (b : Int) y = (jd, jb) := ⟨_, _, rfl⟩
  have HJ := Lib.hid hj
  have HV : Hid (r = if jb then (b, jd, true) else (0, [], false)) := Lib.hid (by
    rw [HN.out]
    unfold joined at hj
    revert hj
    show _ → (match jTo (b : Int) y y.length with | some (d, false) => (b, d, true) | _ => ((0 : Nat), ([] : List UInt8), false)) = _
    cases jTo (b : Int) y y.length with
    | none => rintro ⟨⟩; rfl
    | some p =>
      obtain ⟨d, a⟩ := p
      cases a with
      | false => rintro ⟨⟩; rfl
      | true => rintro ⟨⟩; rfl)
  clear HN hj
  by_cases h0 : 0 < n
  · have hd : decide ((0 : Int) < (n : Int)) = true := decide_eq_true (by omega)
    have HY : Hid (Lib.trimPrefix x [95] = y) := Lib.hid (by rw [HR.out, if_pos h0])
    clear HR
    cases jb with
    | true =>
      have HE : Hid (r = (b, jd, true)) := Lib.hid (by rw [HV.out, if_pos rfl])
      clear HV
      go_enter Tryd.func30, Tryd.ntmps30
      go_wp2_with (first | (go_at_call 38; refine (HP.out _).mono ?_; rintro e w' ⟨rfl, rfl⟩) | (go_at_call 39; refine (trim_any _ _).mono ?_; rintro e w' ⟨rfl, rfl⟩; rw [HY.out]) | (go_at_call 40; refine (join_b _ _ _ hyl).mono ?_; rintro e w1 ⟨rfl, hb⟩; rw [HJ.out]; have HB := Lib.hid hb; clear hb))
      go_ret3
      exact ⟨by rw [HE.out]; rfl, HB.out⟩
    | false =>
      have HE : Hid (r = (0, [], false)) := Lib.hid (by rw [HV.out, if_neg (by simp)])
      clear HV
      go_enter Tryd.func30, Tryd.ntmps30
      go_wp2_with (first | (go_at_call 38; refine (HP.out _).mono ?_; rintro e w' ⟨rfl, rfl⟩) | (go_at_call 39; refine (trim_any _ _).mono ?_; rintro e w' ⟨rfl, rfl⟩; rw [HY.out]) | (go_at_call 40; refine (join_b _ _ _ hyl).mono ?_; rintro e w1 ⟨rfl, hb⟩; rw [HJ.out]; have HB := Lib.hid hb; clear hb))
      go_ret3
      exact ⟨by rw [HE.out]; rfl, HB.out⟩
  · obtain rfl : n = 0 := by omega
    have HP0 : Hid (∀ w : World, Calls Tryd.prog 38 #[.string s] w fun e w' => e = .returned (.tuple #[.int .i64 b, .int .i64 0]) ∧ w = w') := HP
    have hsl0 : ∀ u : World, (Instr.slice 9 (.string s) (some (.int .i64 0)) none none).run Tryd.prog u = .ok (.string (B x)) u := hsl
    clear hsl HP
    have HY : Hid (x = y) := Lib.hid (by rw [HR.out, if_neg h0])
    clear HR
    rw [HY.out] at hsl0
    clear h0
    cases jb with
    | true =>
      have HE : Hid (r = (b, jd, true)) := Lib.hid (by rw [HV.out, if_pos rfl])
      clear HV
      go_enter Tryd.func30, Tryd.ntmps30
      go_wp2_with (first | (go_at_call 38; refine (HP0.out _).mono ?_; rintro e w' ⟨rfl, rfl⟩) | (go_at_call 40; refine (join_b _ _ _ hyl).mono ?_; rintro e w1 ⟨rfl, hb⟩; rw [HJ.out]; have HB := Lib.hid hb; clear hb))
      go_ret3
      exact ⟨by rw [HE.out]; rfl, HB.out⟩
    | false =>
      have HE : Hid (r = (0, [], false)) := Lib.hid (by rw [HV.out, if_neg (by simp)])
      clear HV
      go_enter Tryd.func30, Tryd.ntmps30
      go_wp2_with (first | (go_at_call 38; refine (HP0.out _).mono ?_; rintro e w' ⟨rfl, rfl⟩) | (go_at_call 40; refine (join_b _ _ _ hyl).mono ?_; rintro e w1 ⟨rfl, hb⟩; rw [HJ.out]; have HB := Lib.hid hb; clear hb))
      go_ret3
      exact ⟨by rw [HE.out]; rfl, HB.out⟩
end Go.Proofs.YtjbamlmdeopcaaaDoor.tok
