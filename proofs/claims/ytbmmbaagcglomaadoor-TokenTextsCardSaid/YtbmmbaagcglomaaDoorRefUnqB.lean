/-
  The reference's Unquote: a literal between double quotes; no literal.
-/
import Derived.Test.YtbmmbaagcglomaaDoorRefUnqA
namespace Go.Proofs.YtbmmbaagcglomaaDoor.tok
open Go.RowKit

set_option maxRecDepth 100000 in
set_option maxHeartbeats 4000000 in
theorem refUnq_text (s : ByteArray) (w : World) (hs : s.size ≤ 140737488351232) (h1 : 1 ≤ s.size) (h0 : s[0] = 34) :
    Calls Tryd.prog 28 #[.string s] w (UnqPost (uqAt s.data.toList 1 []) w) := by
  have hix0 : ∀ u : World, (Instr.index 9 (.string s) (.int .i64 0)).run Tryd.prog u = .ok (.int .u8 34) u := fun u => by
    rw [index_at s 0 0 (by omega) (by omega) u, h0]; rfl
  have hd : decide ((0 : Int) < (s.size : Int)) = true := decide_eq_true (by omega)
  have hz : ((s.size : Int) == 0) = false := beq_eq_false_iff_ne.2 (by omega)
  obtain ⟨R, hR⟩ : ∃ R, uqAt s.data.toList 1 [] = R := ⟨_, rfl⟩
  rw [hR]
  have HR := Lib.hid hR
  clear hR h0
  go_enter Tryd.func28, Tryd.ntmps28
  go_wp2_with fail
  go_loopw [5, 7] (fun o i wr => ∃ (p : Nat) (acc : List UInt8), p ≤ s.size ∧ i = .int .i64 p ∧ o = .string (B acc) ∧ acc.length ≤ p ∧ uqAt s.data.toList p acc = R ∧ Below w.heap.size w wr) (fun _ i _ => s.size - (intOf i).toNat)
  case atStart => exact ⟨1, [], h1, rfl, rfl, by simp, HR.out, Below.refl _ _⟩
  case round =>
    obtain ⟨p, acc, hp, rfl, rfl, hacc, hu, hbel⟩ := hrel
    have hsd := sdata s
    have hsz := hbel.size
    have HB := Lib.hid hbel
    have HU := Lib.hid hu
    clear hbel hu
    by_cases hlt : p < s.size
    · have HN := Lib.hid (uqAt_step (l := s.data.toList) (p := p) (acc := acc) (by omega))
      obtain ⟨c, hc⟩ : ∃ c, s[p]'hlt = c := ⟨_, rfl⟩
      rw [at_data hlt, hc, HU.out] at HN
      have hix : ∀ u : World, (Instr.index 9 (.string s) (.int .i64 (p : Int))).run Tryd.prog u = .ok (.int .u8 (c.toNat : Int)) u := fun u => by
        rw [← hc]; exact index_at s _ p rfl hlt u
      have hsl := slice_one s p hlt c hc
      have hdl : decide ((p : Int) < (s.size : Int)) = true := decide_eq_true (by omega)
      have hc0 : (0 : Int) ≤ (c.toNat : Int) := by omega
      have hc1 : (c.toNat : Int) ≤ 255 := by have := UInt8.toNat_lt c; omega
      have HD := Lib.hid hsd
      clear hsd hc
      by_cases h10 : c = 10
      · have z10 : ((c.toNat : Int) != 10) = false := byte_eq' (d := 10) h10
        have HN1 : Hid (R = ([], 106, 0)) := Lib.hid (by rw [HN.out, if_neg (by rw [h10]; decide), if_neg (by rw [h10]; decide), if_pos h10])
        clear HN h10 hsl
        go_wp2_with fail
        go_ret3
        exact ⟨by rw [HN1.out]; rfl, HB.out⟩
      have z10 : ((c.toNat : Int) != 10) = true := byte_ne' (d := 10) h10
      by_cases h34 : c = 34
      · have z34 : ((c.toNat : Int) == 34) = true := byte_eq (d := 34) h34
        by_cases hend : p + 1 = s.size
        · have HN1 : Hid (R = (acc, 0, 0)) := Lib.hid (by rw [HN.out, if_neg (by rw [h34]; decide), if_pos h34, if_pos (by rw [HD.out]; exact hend)])
          have hpe : ((p : Int) + 1 == (s.size : Int)) = true := beq_iff_eq.2 (by omega)
          clear HN h34 h10 hsl
          go_wp2_with fail
          go_ret3
          exact ⟨by rw [HN1.out]; rfl, HB.out⟩
        · have HN1 : Hid (R = ([], 106, 0)) := Lib.hid (by rw [HN.out, if_neg (by rw [h34]; decide), if_pos h34, if_neg (by rw [HD.out]; exact hend)])
          have hpe : ((p : Int) + 1 == (s.size : Int)) = false := beq_eq_false_iff_ne.2 (by omega)
          clear HN h34 h10 hsl
          go_wp2_with fail
          go_ret3
          exact ⟨by rw [HN1.out]; rfl, HB.out⟩
      have z34 : ((c.toNat : Int) == 34) = false := byte_ne (d := 34) h34
      by_cases h92 : c = 92
      · have z92 : ((c.toNat : Int) == 92) = true := byte_eq (d := 92) h92
        have hfit := escV_fit s.data.toList p 34
        obtain ⟨v, hv⟩ : ∃ v, escV s.data.toList p 34 = v := ⟨_, rfl⟩
        have HN1 : Hid (R = if v.2.2 = 0 then ([], 108, p) else uqAt s.data.toList (p + v.2.2) (acc ++ escB v)) := Lib.hid (by rw [HN.out, if_pos h92, hv])
        rw [hv] at hfit
        have HF := Lib.hid hfit
        have HV := Lib.hid hv
        clear HN h92 hfit hv h10 h34 hsl
        obtain ⟨n, r, wd⟩ := v
        by_cases hw : wd = 0
        · have HN2 : Hid (R = ([], 108, p)) := Lib.hid (by rw [HN1.out, if_pos hw])
          have hwz : ((wd : Int) == 0) = true := by rw [hw]; rfl
          clear HN1 HF
          go_wp2_with (go_at_call 44; refine (refEsc_any s p 34 _ (by omega) hlt (.inl rfl)).mono ?_; rintro e w1 ⟨rfl, hb⟩; rw [HV.out]; have HB1 := Lib.hid hb; clear hb)
          go_ret3
          exact ⟨by rw [HN2.out]; rfl, HB.out.trans (HB1.out.mono hsz)⟩
        · have hfit := HF.out
          obtain ⟨hok, hfw⟩ := hfit
          obtain ⟨f1, f2, f3⟩ := hfw hw
          simp only [] at f1 f2 f3
          have HN2 : Hid (uqAt s.data.toList (p + wd) (acc ++ escB (n, r, wd)) = R) := Lib.hid (by rw [HN1.out, if_neg hw])
          have hwz : ((wd : Int) == 0) = false := beq_eq_false_iff_ne.2 (by omega)
          have hpw : p + wd ≤ s.size := by have := HD.out; omega
          have hal : (acc ++ escB (n, r, wd)).length ≤ p + wd := by rw [List.length_append]; omega
          have HA := Lib.hid hal
          have het : escT (n, r, wd) = escB (n, r, wd) := by unfold escT; rw [if_neg hw]
          have hcat := cat_eq (x := acc) (y := escB (n, r, wd)) (by omega)
          obtain ⟨b, hb0⟩ : ∃ b, escB (n, r, wd) = b := ⟨_, rfl⟩
          rw [hb0] at HN2 HA het hcat
          have HT := Lib.hid het
          clear HN1 HF hok hfw f1 f3 hal hw het hb0
          go_wp2_with (go_at_call 44; refine (refEsc_any s p 34 _ (by omega) hlt (.inl rfl)).mono ?_; rintro e w1 ⟨rfl, hb⟩; rw [HV.out, HT.out]; have HB1 := Lib.hid hb; clear hb)
          have HB0 := Lib.hid (HB.out.trans (HB1.out.mono hsz))
          go_roundw
          case rel => exact ⟨p + wd, acc ++ b, hpw, by go_num, rfl, HA.out, HN2.out, HB0.out⟩
          case measure => simp [intOf]; omega
      · have z92 : ((c.toNat : Int) == 92) = false := byte_ne (d := 92) h92
        have HN1 : Hid (uqAt s.data.toList (p + 1) (acc ++ [c]) = R) := Lib.hid (by rw [HN.out, if_neg h92, if_neg h34, if_neg h10])
        have hal : (acc ++ [c]).length ≤ p + 1 := by simp; omega
        have HA := Lib.hid hal
        have hcat := cat_eq (x := acc) (y := [c]) (by simp only [List.length_cons, List.length_nil]; omega)
        clear HN h92 h34 h10 hal
        go_wp2_with fail
        go_roundw
        case rel => exact ⟨p + 1, acc ++ [c], by omega, by go_num, rfl, HA.out, HN1.out, HB.out⟩
        case measure => simp [intOf]; omega
    · have HN1 : Hid (R = ([], 106, 0)) := Lib.hid (by rw [← HU.out, uqAt_past (by omega)])
      have hdl : decide ((p : Int) < (s.size : Int)) = false := decide_eq_false (by omega)
      clear hsd
      go_wp2_with fail
      go_ret3
      exact ⟨by rw [HN1.out]; rfl, HB.out⟩
set_option maxRecDepth 100000 in
set_option maxHeartbeats 4000000 in
theorem refUnq_none (s : ByteArray) (w : World) (h : s.size = 0) :
    Calls Tryd.prog 28 #[.string s] w (UnqPost ([], 106, 0) w) := by
  have hd : decide ((0 : Int) < (s.size : Int)) = false := decide_eq_false (by omega)
  have hz : ((s.size : Int) == 0) = true := beq_iff_eq.2 (by omega)
  clear h
  go_enter Tryd.func28, Tryd.ntmps28
  go_wp2_with fail
  go_ret3
  exact ⟨rfl, Below.refl _ _⟩
set_option maxRecDepth 100000 in
set_option maxHeartbeats 4000000 in
theorem refUnq_other (s : ByteArray) (w : World) (h1 : 1 ≤ s.size) (c : UInt8) (h0 : s[0] = c) (n96 : c ≠ 96) (n34 : c ≠ 34) :
    Calls Tryd.prog 28 #[.string s] w (UnqPost ([], 106, 0) w) := by
  have hix0 : ∀ u : World, (Instr.index 9 (.string s) (.int .i64 0)).run Tryd.prog u = .ok (.int .u8 (c.toNat : Int)) u := fun u => by
    rw [index_at s 0 0 (by omega) (by omega) u, h0]
  have hd : decide ((0 : Int) < (s.size : Int)) = true := decide_eq_true (by omega)
  have hz : ((s.size : Int) == 0) = false := beq_eq_false_iff_ne.2 (by omega)
  have z96 : ((c.toNat : Int) == 96) = false := byte_ne (d := 96) n96
  have z34 : ((c.toNat : Int) != 34) = true := byte_ne' (d := 34) n34
  clear h0 n96 n34
  go_enter Tryd.func28, Tryd.ntmps28
  go_wp2_with fail
  go_ret3
  exact ⟨rfl, Below.refl _ _⟩
end Go.Proofs.YtbmmbaagcglomaaDoor.tok
