/-
  The laws TokenKinds, TokenWords, TokenDigits.
-/
import Derived.Test.YtbmmbaagcglomaaDoorShown
import Derived.Test.YtbmmbaagcglomaaDoorRefName
import Derived.Test.YtbmmbaagcglomaaDoorRefDigits
namespace Go.Proofs.YtbmmbaagcglomaaDoor.tok
open Go.RowKit

set_option maxRecDepth 100000 in
set_option maxHeartbeats 2000000 in
theorem kinds_law (z : Int) (w : World) (hE : Env w) : Calls Tryd.prog 3 #[.int .i64 z] w (Gives (.bool true) w) := by
  have HE := Lib.hid hE
  clear hE
  go_enter Tryd.func3, Tryd.ntmps3
  go_wp2_with (go_at_call 10; refine (shown_any _ HE.out).mono ?_; rintro e w1 ⟨rfl, hb1⟩; have B1 := Lib.hid hb1; have z1 := hb1.size; clear hb1)
  refine (name_any z _).mono ?_
  rintro e w2 ⟨rfl, hb2⟩
  have B2 := Lib.hid (B1.out.trans (hb2.mono z1))
  have z2 := B2.out.size
  clear hb2 B1 z1
  go_wp2_with fail
  refine (refName_any z _).mono ?_
  rintro e w3 ⟨rfl, hb3⟩
  have B3 := Lib.hid (B2.out.trans (hb3.mono z2))
  clear hb3 B2 z2
  go_wp2_with (first | (go_at_call 13; refine (trivia_any z _).mono ?_; rintro e w' ⟨rfl, rfl⟩) | (go_at_call 14; refine (refTrivia_any z _).mono ?_; rintro e w' ⟨rfl, rfl⟩) | (go_at_call 15; refine (ends_any z _).mono ?_; rintro e w' ⟨rfl, rfl⟩) | (go_at_call 16; refine (refEnds_any z _).mono ?_; rintro e w' ⟨rfl, rfl⟩) | (go_at_call 17; refine (prec_any z _).mono ?_; rintro e w' ⟨rfl, rfl⟩) | (go_at_call 18; refine (refPrec_any z _).mono ?_; rintro e w' ⟨rfl, rfl⟩) | (go_at_call 19; refine (plain_any z _).mono ?_; rintro e w' ⟨rfl, rfl⟩) | (go_at_call 20; refine (refPlain_any z _).mono ?_; rintro e w' ⟨rfl, rfl⟩))
  go_ret
  exact ⟨rfl, B3.out⟩

set_option maxRecDepth 100000 in
set_option maxHeartbeats 2000000 in
theorem words_law (s : ByteArray) (w : World) (hE : Env w) : Calls Tryd.prog 4 #[.string s] w (Gives (.bool true) w) := by
  have HE := Lib.hid hE
  have HO := Lib.hid (operator_any s)
  have HO2 := Lib.hid (refOperator_any s)
  obtain ⟨p, q, hpq⟩ : ∃ p q, opOf s.data.toList = (p, q) := ⟨_, _, rfl⟩
  rw [hpq] at HO HO2
  simp only [] at HO HO2
  clear hE hpq
  go_enter Tryd.func4, Tryd.ntmps4
  go_wp2_with (go_at_call 10; refine (shown_any _ HE.out).mono ?_; rintro e w1 ⟨rfl, hb1⟩; have B1 := Lib.hid hb1; have z1 := hb1.size; clear hb1)
  refine (HO.out _).mono ?_
  rintro e w2 ⟨rfl, hb2⟩
  have B2 := Lib.hid (B1.out.trans (hb2.mono z1))
  have z2 := B2.out.size
  clear hb2 B1 z1
  go_wp2_with fail
  refine (HO2.out _).mono ?_
  rintro e w3 ⟨rfl, hb3⟩
  have B3 := Lib.hid (B2.out.trans (hb3.mono z2))
  have z3 := B3.out.size
  clear hb3 B2 z2
  go_wp2_with fail
  refine (keyword_any s _).mono ?_
  rintro e w4 ⟨rfl, hb4⟩
  have B4 := Lib.hid (B3.out.trans (hb4.mono z3))
  have z4 := B4.out.size
  clear hb4 B3 z3
  go_wp2_with fail
  refine (refKeyword_any s _).mono ?_
  rintro e w5 ⟨rfl, hb5⟩
  have B5 := Lib.hid (B4.out.trans (hb5.mono z4))
  clear hb5 B4 z4
  go_wp2_with fail
  go_ret
  exact ⟨rfl, B5.out⟩

set_option maxRecDepth 100000 in
set_option maxHeartbeats 2000000 in
theorem digits_law (s : ByteArray) (w : World) (hE : Env w) : Calls Tryd.prog 6 #[.string s] w (Gives (.bool true) w) := by
  by_cases hs : s.size ≤ 4096
  · have hd : decide ((4096 : Int) < (s.size : Int)) = false := decide_eq_false (by omega)
    have HE := Lib.hid hE
    have HO := Lib.hid (fun u => digits_any s u (by omega))
    have HO2 := Lib.hid (fun u => refDigits_any s u (by omega))
    obtain ⟨b, d, ok, hpq⟩ : ∃ b d ok, numOf s.data.toList = (b, d, ok) := ⟨_, _, _, rfl⟩
    rw [hpq] at HO HO2
    simp only [] at HO HO2
    clear hE hpq
    go_enter Tryd.func6, Tryd.ntmps6
    go_wp2_with (go_at_call 10; refine (shown_any _ HE.out).mono ?_; rintro e w1 ⟨rfl, hb1⟩; have B1 := Lib.hid hb1; have z1 := hb1.size; clear hb1)
    refine (HO.out _).mono ?_
    rintro e w2 ⟨rfl, hb2⟩
    have B2 := Lib.hid (B1.out.trans (hb2.mono z1))
    have z2 := B2.out.size
    clear hb2 B1 z1
    go_wp2_with fail
    refine (HO2.out _).mono ?_
    rintro e w3 ⟨rfl, hb3⟩
    have B3 := Lib.hid (B2.out.trans (hb3.mono z2))
    clear hb3 B2 z2
    go_wp2_with fail
    go_ret
    exact ⟨rfl, B3.out⟩
  · have hd : decide ((4096 : Int) < (s.size : Int)) = true := decide_eq_true (by omega)
    go_enter Tryd.func6, Tryd.ntmps6
    go_wp2_with fail
    go_ret
    exact ⟨rfl, Below.refl _ _⟩
end Go.Proofs.YtbmmbaagcglomaaDoor.tok
