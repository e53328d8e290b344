/-
  token.character, token.Rune.
-/
import Derived.Test.YtjbamlmdeopcaaaDoorRaw
import Derived.BigQuiet
import Derived.Deep.QuietTactic
namespace Go.Proofs.YtjbamlmdeopcaaaDoor.tok
open Go.RowKit

/-- The character that a text begins with: its number and its width; 0 and 0: there is none. -/
def charL (x : List UInt8) : Nat × Nat := if (Lib.decodeGo (B x)).1 = 65533 ∧ (Lib.decodeGo (B x)).2 < 2 then (0, 0) else Lib.decodeGo (B x)
theorem go_bounds (s : ByteArray) : (Lib.decodeGo s).1 ≤ 1114111 ∧ (Lib.decodeGo s).2 ≤ s.size ∧ (Lib.decodeGo s).2 ≤ 4 := by
  unfold Lib.decodeGo
  split
  · exact ⟨by decide, Nat.zero_le _, by decide⟩
  · next h =>
    rw [Lib.decode_at]
    have b0 := UInt8.toNat_lt (s.get! 0)
    have b1 := UInt8.toNat_lt (s.get! (0 + 1))
    have b2 := UInt8.toNat_lt (s.get! (0 + 2))
    have b3 := UInt8.toNat_lt (s.get! (0 + 3))
    unfold Lib.decodeN
    repeat' split
    all_goals (simp only; omega)
theorem charL_bounds (x : List UInt8) : (charL x).1 ≤ 1114111 ∧ (charL x).2 ≤ x.length ∧ (charL x).2 ≤ 4 := by
  unfold charL
  split
  · exact ⟨by decide, Nat.zero_le _, by decide⟩
  · have := go_bounds (B x)
    rw [bsize] at this
    exact this
theorem below_drewN {B0 : Nat} {a w : World} (h : Below B0 a w) : ∀ {n : Nat}, Below B0 a (w.drewN n) := fun {_} => ⟨h.os, h.tape, h.output, h.size, h.block⟩
def Two (p q : Int) (w : World) (e : Ending) (w' : World) : Prop := e = .returned (.tuple #[.int .i64 p, .int .i64 q]) ∧ Below w.heap.size w w'
theorem decode_b (x : List UInt8) (w : World) (hE : Env w) :
    Calls Tryd.prog 9 #[.string (B x)] w fun e w' => e = .returned (.tuple #[.int .i32 (Lib.decodeGo (B x)).1, .int .i64 (Lib.decodeGo (B x)).2]) ∧ Below w.heap.size w w' :=
  Tryd.utf8_DecodeRuneInString (B x) w hE.tabs

set_option maxRecDepth 100000 in
set_option maxHeartbeats 1000000 in
theorem character_any (s : ByteArray) (z : Int) (i : Nat) (w : World) (hz : z = (i : Int)) (hE : Env w) (hi : i ≤ s.size) :
    Calls Tryd.prog 51 #[.string s, .int .i64 z] w (Two ((charL (s.data.toList.drop i)).1 : Nat) ((charL (s.data.toList.drop i)).2 : Nat) w) := by
  have hsl : ∀ u : World, (Instr.slice 9 (.string s) (some (.int .i64 z)) none none).run Tryd.prog u = .ok (.string (B (s.data.toList.drop i))) u := fun u => by rw [hz]; exact slice_from s i hi u
  obtain ⟨x, hx⟩ : ∃ x, s.data.toList.drop i = x := ⟨_, rfl⟩
  rw [hx] at hsl ⊢
  clear hx hz
  have HD := Lib.hid (decode_b x)
  obtain ⟨hb1, _, hb3⟩ := go_bounds (B x)
  have HC : Hid (charL x = if (Lib.decodeGo (B x)).1 = 65533 ∧ (Lib.decodeGo (B x)).2 < 2 then (0, 0) else Lib.decodeGo (B x)) := Lib.hid rfl
  obtain ⟨r, n, hrn⟩ : ∃ r n, Lib.decodeGo (B x) = (r, n) := ⟨_, _, rfl⟩
  rw [hrn] at HD HC hb1 hb3
  simp only [] at HD HC hb1 hb3
  clear hrn
  have HE := Lib.hid hE
  clear hE
  by_cases h1 : r = 65533
  · have d1 : ((r : Int) == 65533) = true := by rw [h1]; rfl
    by_cases h2 : n < 2
    · have d2 : decide ((n : Int) < 2) = true := decide_eq_true (by omega)
      have HF : Hid (charL x = (0, 0)) := Lib.hid (by rw [HC.out, if_pos ⟨h1, h2⟩])
      clear HC h1
      go_enter Tryd.func51, Tryd.ntmps51
      go_wp2_with (go_at_call 9; refine (HD.out _ HE.out).mono ?_; rintro e w1 ⟨rfl, hb⟩; have HB := Lib.hid hb; clear hb)
      go_ret2
      exact ⟨by rw [HF.out]; rfl, HB.out⟩
    · have d2 : decide ((n : Int) < 2) = false := decide_eq_false (by omega)
      have HF : Hid (charL x = (r, n)) := Lib.hid (by rw [HC.out, if_neg (fun g => h2 g.2)])
      clear HC h1
      go_enter Tryd.func51, Tryd.ntmps51
      go_wp2_with (go_at_call 9; refine (HD.out _ HE.out).mono ?_; rintro e w1 ⟨rfl, hb⟩; have HB := Lib.hid hb; clear hb)
      go_ret2
      exact ⟨by rw [HF.out]; rfl, HB.out⟩
  · have d1 : ((r : Int) == 65533) = false := beq_eq_false_iff_ne.2 (by omega)
    have HF : Hid (charL x = (r, n)) := Lib.hid (by rw [HC.out, if_neg (fun g => h1 g.1)])
    clear HC h1
    go_enter Tryd.func51, Tryd.ntmps51
    go_wp2_with (go_at_call 9; refine (HD.out _ HE.out).mono ?_; rintro e w1 ⟨rfl, hb⟩; have HB := Lib.hid hb; clear hb)
    go_ret2
    exact ⟨by rw [HF.out]; rfl, HB.out⟩

/-- What stands behind a literal's character or escape: its number, if that is the quote alone. -/
def finOf (l : List UInt8) (u : Int) (n : Nat) : Int × Int × Nat := if n = 0 ∨ l.drop (1 + n) ≠ [39] then (0, 107, 0) else (u, 0, 0)
/-- What a rune literal says. -/
def runeOf (l : List UInt8) : Int × Int × Nat := match l with
  | a :: c :: _ => if a = 39 then
      (if c = 92 then (if (escV l 1 39).2.2 = 0 then (0, 108, 1) else finOf l (escV l 1 39).1 (escV l 1 39).2.2)
       else if c = 39 ∨ c = 10 then (0, 107, 0) else finOf l ((charL (l.drop 1)).1 : Nat) (charL (l.drop 1)).2)
    else (0, 107, 0)
  | _ => (0, 107, 0)
theorem rune_short {l : List UInt8} (h : l.length < 2) : runeOf l = (0, 107, 0) := by
  match l, h with
  | [], _ => rfl
  | [_], _ => rfl
theorem rune_long {l : List UInt8} (h : 1 < l.length) : runeOf l = if l[0] = 39 then
      (if l[1] = 92 then (if (escV l 1 39).2.2 = 0 then (0, 108, 1) else finOf l (escV l 1 39).1 (escV l 1 39).2.2)
       else if l[1] = 39 ∨ l[1] = 10 then (0, 107, 0) else finOf l ((charL (l.drop 1)).1 : Nat) (charL (l.drop 1)).2)
    else (0, 107, 0) := by
  match l, h with
  | a :: c :: _, _ => rfl
def Runed (v : Int × Int × Nat) (w : World) (e : Ending) (w' : World) : Prop := e = .returned (.tuple #[.int .i64 v.1, .int .i64 v.2.1, .int .i64 v.2.2]) ∧ Below w.heap.size w w'

set_option maxRecDepth 100000 in
set_option maxHeartbeats 4000000 in
theorem rune_any (s : ByteArray) (w : World) (hE : Env w) (hs : s.size ≤ 140737488351232) :
    Calls Tryd.prog 41 #[.string s] w (Runed (runeOf s.data.toList) w) := by
  by_cases h2 : s.size < 2
  · have hd : decide ((s.size : Int) < 2) = true := decide_eq_true (by omega)
    have HF := Lib.hid (rune_short (l := s.data.toList) (by rw [sdata]; exact h2))
    go_enter Tryd.func41, Tryd.ntmps41
    go_wp2_with fail
    go_ret3
    exact ⟨by rw [HF.out]; rfl, Below.refl _ _⟩
  have hd : decide ((s.size : Int) < 2) = false := decide_eq_false (by omega)
  have h0 : 0 < s.size := by omega
  have h1 : 1 < s.size := by omega
  have e := rune_long (l := s.data.toList) (by rw [sdata]; exact h1)
  rw [at_data h0, at_data h1] at e
  obtain ⟨a, ha⟩ : ∃ a, s[0]'h0 = a := ⟨_, rfl⟩
  obtain ⟨c, hc⟩ : ∃ c, s[1]'h1 = c := ⟨_, rfl⟩
  rw [ha, hc] at e
  by_cases ca : a = 39
  · have za : ((a.toNat : Int) != 39) = false := byte_eq' (d := 39) ca
    rw [if_pos ca] at e
    clear ca
    by_cases c92 : c = 92
    · have z92 : ((c.toNat : Int) == 92) = true := byte_eq (d := 92) c92
      rw [if_pos c92] at e
      have hfit := escV_fit s.data.toList 1 39
      obtain ⟨n, r, wd, hv⟩ : ∃ n r wd, escV s.data.toList 1 39 = (n, r, wd) := ⟨_, _, _, rfl⟩
      rw [hv] at e hfit
      simp only [] at e
      have HV := Lib.hid hv
      have HFIT := Lib.hid hfit
      clear c92 hv hfit
      by_cases hw : wd = 0
      · have hwz : ((wd : Int) == 0) = true := by rw [hw]; rfl
        rw [if_pos hw] at e
        have HF := Lib.hid e
        clear e HFIT
        go_enter Tryd.func41, Tryd.ntmps41
        go_wp2_with (go_at_call 50; refine (escapeAt_any s 1 39 _ (by omega) h1).mono ?_; rintro e w1 ⟨rfl, hb⟩; rw [HV.out]; have HB1 := Lib.hid hb; obtain ⟨hbc, hbf⟩ := bcell hb; have hbz := hb.size; clear hb)
        go_ret3
        exact ⟨by rw [HF.out]; rfl, HB1.out.alloc hbz _⟩
      · have hwz : ((wd : Int) == 0) = false := beq_eq_false_iff_ne.2 (by omega)
        rw [if_neg hw] at e
        obtain ⟨_, hfw⟩ := HFIT.out
        obtain ⟨f1, _, _⟩ := hfw hw
        simp only [] at f1
        rw [sdata] at f1
        have hsl : ∀ u : World, (Instr.slice 9 (.string s) (some (.int .i64 (1 + (wd : Int)))) none none).run Tryd.prog u = .ok (.string (B (s.data.toList.drop (1 + wd)))) u := fun u => by
          have := slice_from s (1 + wd) f1 u
          rwa [Int.natCast_add] at this
        obtain ⟨y, hy⟩ : ∃ y, s.data.toList.drop (1 + wd) = y := ⟨_, rfl⟩
        rw [hy] at hsl
        unfold finOf at e
        rw [hy] at e
        by_cases hq : y = [39]
        · have hqz : ((B y).toList == [39]) = true := by rw [blist, hq]; rfl
          have HF : Hid (runeOf s.data.toList = (n, 0, 0)) := Lib.hid (by rw [e, if_neg (by simp only [not_or]; exact ⟨hw, by simpa using hq⟩)])
          clear e HFIT hw hy hq hfw
          go_enter Tryd.func41, Tryd.ntmps41
          go_wp2_with (go_at_call 50; refine (escapeAt_any s 1 39 _ (by omega) h1).mono ?_; rintro e w1 ⟨rfl, hb⟩; rw [HV.out]; have HB1 := Lib.hid hb; obtain ⟨hbc, hbf⟩ := bcell hb; have hbz := hb.size; clear hb)
          go_quiet (fail)
          go_wp2_with fail
          go_ret3
          exact ⟨by rw [HF.out]; rfl, below_drewN (HB1.out.alloc hbz _)⟩
        · have hqz : ((B y).toList == [39]) = false := by rw [blist]; simpa using hq
          have HF : Hid (runeOf s.data.toList = (0, 107, 0)) := Lib.hid (by rw [e, if_pos (.inr hq)])
          clear e HFIT hw hy hq hfw
          go_enter Tryd.func41, Tryd.ntmps41
          go_wp2_with (go_at_call 50; refine (escapeAt_any s 1 39 _ (by omega) h1).mono ?_; rintro e w1 ⟨rfl, hb⟩; rw [HV.out]; have HB1 := Lib.hid hb; obtain ⟨hbc, hbf⟩ := bcell hb; have hbz := hb.size; clear hb)
          go_quiet (fail)
          go_wp2_with fail
          go_ret3
          exact ⟨by rw [HF.out]; rfl, below_drewN (HB1.out.alloc hbz _)⟩
    · have z92 : ((c.toNat : Int) == 92) = false := byte_ne (d := 92) c92
      rw [if_neg c92] at e
      by_cases c39 : c = 39
      · have z39 : ((c.toNat : Int) == 39) = true := byte_eq (d := 39) c39
        rw [if_pos (.inl c39)] at e
        have HF := Lib.hid e
        clear e c39 c92
        go_enter Tryd.func41, Tryd.ntmps41
        go_wp2_with fail
        go_ret3
        exact ⟨by rw [HF.out]; rfl, Below.refl _ _⟩
      have z39 : ((c.toNat : Int) == 39) = false := byte_ne (d := 39) c39
      by_cases c10 : c = 10
      · have z10 : ((c.toNat : Int) == 10) = true := byte_eq (d := 10) c10
        rw [if_pos (.inr c10)] at e
        have HF := Lib.hid e
        clear e c39 c92 c10
        go_enter Tryd.func41, Tryd.ntmps41
        go_wp2_with fail
        go_ret3
        exact ⟨by rw [HF.out]; rfl, Below.refl _ _⟩
      have z10 : ((c.toNat : Int) == 10) = false := byte_ne (d := 10) c10
      rw [if_neg (fun g => g.elim c39 c10)] at e
      clear c39 c92 c10
      obtain ⟨b1, b2, b3⟩ := charL_bounds (s.data.toList.drop 1)
      rw [List.length_drop, sdata] at b2
      obtain ⟨n, wd, hv⟩ : ∃ n wd, charL (s.data.toList.drop 1) = (n, wd) := ⟨_, _, rfl⟩
      rw [hv] at e b1 b2 b3
      simp only [] at e b1 b2 b3
      have HV := Lib.hid hv
      have HEn := Lib.hid hE
      clear hv hE
      unfold finOf at e
      by_cases hw : wd = 0
      · subst hw
        rw [if_pos (.inl rfl)] at e
        have HF := Lib.hid e
        clear e
        go_enter Tryd.func41, Tryd.ntmps41
        go_wp2_with (go_at_call 51; refine (character_any s _ 1 _ rfl HEn.out (by omega)).mono ?_; rintro e w1 ⟨rfl, hb⟩; rw [HV.out]; have HB := Lib.hid hb; clear hb)
        go_ret3
        exact ⟨by rw [HF.out]; rfl, HB.out⟩
      · have hwz : ((wd : Int) == 0) = false := beq_eq_false_iff_ne.2 (by omega)
        have f1 : 1 + wd ≤ s.size := by omega
        have hsl : ∀ u : World, (Instr.slice 9 (.string s) (some (.int .i64 (1 + (wd : Int)))) none none).run Tryd.prog u = .ok (.string (B (s.data.toList.drop (1 + wd)))) u := fun u => by
          have := slice_from s (1 + wd) f1 u
          rwa [Int.natCast_add] at this
        obtain ⟨y, hy⟩ : ∃ y, s.data.toList.drop (1 + wd) = y := ⟨_, rfl⟩
        rw [hy] at hsl e
        by_cases hq : y = [39]
        · have hqz : ((B y).toList == [39]) = true := by rw [blist, hq]; rfl
          have HF : Hid (runeOf s.data.toList = (((n : Nat) : Int), 0, 0)) := Lib.hid (by rw [e, if_neg (by simp only [not_or]; exact ⟨hw, by simpa using hq⟩)])
          clear e hw hy hq
          go_enter Tryd.func41, Tryd.ntmps41
          go_wp2_with (go_at_call 51; refine (character_any s _ 1 _ rfl HEn.out (by omega)).mono ?_; rintro e w1 ⟨rfl, hb⟩; rw [HV.out]; have HB := Lib.hid hb; clear hb)
          go_ret3
          exact ⟨by rw [HF.out]; rfl, HB.out⟩
        · have hqz : ((B y).toList == [39]) = false := by rw [blist]; simpa using hq
          have HF : Hid (runeOf s.data.toList = (0, 107, 0)) := Lib.hid (by rw [e, if_pos (.inr hq)])
          clear e hw hy hq
          go_enter Tryd.func41, Tryd.ntmps41
          go_wp2_with (go_at_call 51; refine (character_any s _ 1 _ rfl HEn.out (by omega)).mono ?_; rintro e w1 ⟨rfl, hb⟩; rw [HV.out]; have HB := Lib.hid hb; clear hb)
          go_ret3
          exact ⟨by rw [HF.out]; rfl, HB.out⟩
  · have za : ((a.toNat : Int) != 39) = true := byte_ne' (d := 39) ca
    rw [if_neg ca] at e
    have HF := Lib.hid e
    clear e ca
    go_enter Tryd.func41, Tryd.ntmps41
    go_wp2_with fail
    go_ret3
    exact ⟨by rw [HF.out]; rfl, Below.refl _ _⟩
end Go.Proofs.YtjbamlmdeopcaaaDoor.tok
