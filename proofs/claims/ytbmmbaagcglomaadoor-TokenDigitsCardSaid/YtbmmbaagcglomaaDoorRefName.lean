/-
  The reference's Name.
-/
import Derived.Test.YtbmmbaagcglomaaDoorRefOper
namespace Go.Proofs.YtbmmbaagcglomaaDoor.tok
open Go.RowKit

def triv5 : List (List UInt8) := [[115, 112, 97, 99, 101], [102, 101, 101, 100], [99, 111, 109, 109, 101, 110, 116], [98, 108, 111, 99, 107], [98, 97, 100]]
def kind7 : List (List UInt8) := [[110, 97, 109, 101], [105, 110, 116], [114, 117, 110, 101], [115, 116, 114, 105, 110, 103], [114, 97, 119], [59], [97, 117, 116, 111]]
theorem name_1 (k : Nat) (hk : k < 5) : nameOf ((k : Int) + 1) = triv5.getD k [] := by
  have : ∀ j : Fin 5, nameOf ((j.val : Int) + 1) = triv5.getD j.val [] := by decide
  exact this ⟨k, hk⟩
theorem name_10 (k : Nat) (hk : k < 7) : nameOf ((k : Int) + 10) = kind7.getD k [] := by
  have : ∀ j : Fin 7, nameOf ((j.val : Int) + 10) = kind7.getD j.val [] := by decide
  exact this ⟨k, hk⟩
theorem name_20 (k : Nat) (hk : k < 46) : nameOf ((k : Int) + 20) = signs.getD k [] := by
  rw [nameOf, if_neg (by omega), if_pos ⟨by omega, by omega⟩]
  congr 1; omega
theorem name_70 (k : Nat) (hk : k < 21) : nameOf ((k : Int) + 70) = words.getD k [] := by
  rw [nameOf, if_neg (by omega), if_neg (by omega), if_pos ⟨by omega, by omega⟩]
  congr 1; omega
theorem name_none (z : Int) (h1 : ¬ (1 ≤ z ∧ z ≤ 5)) (h2 : ¬ (10 ≤ z ∧ z ≤ 16)) (h3 : ¬ (20 ≤ z ∧ z ≤ 65)) (h4 : ¬ (70 ≤ z ∧ z ≤ 90)) : nameOf z = [] := by
  rw [nameOf, if_neg (by omega), if_neg h3, if_neg h4, otherOf]
  repeat rw [if_neg (by omega)]
def Named (z : Int) (w : World) (e : Ending) (w' : World) : Prop := e = .returned (.string (B (nameOf z))) ∧ Below w.heap.size w w'
theorem side (z a b : Int) (h : ¬ (a ≤ z ∧ z ≤ b)) : decide (a ≤ z) = false ∨ (decide (a ≤ z) = true ∧ decide (z ≤ b) = false) := (two_bounds z a b).resolve_left h

set_option maxRecDepth 100000 in
set_option maxHeartbeats 2000000 in
theorem refName_1 (k : Nat) (hk : k < 5) (w : World) : Calls Tryd.prog 12 #[.int .i64 ((k : Int) + 1)] w (Named ((k : Int) + 1) w) := by
  have e := name_1 k hk
  have p1 : decide ((1 : Int) ≤ (k : Int) + 1) = true := decide_eq_true (by omega)
  have q1 : decide ((k : Int) + 1 ≤ 5) = true := decide_eq_true (by omega)
  have HE := Lib.hid e
  clear e
  go_enter Tryd.func12, Tryd.ntmps12
  go_wp2_with (go_at_call 34; refine (cut_any _ _ (by decide)).mono ?_; rintro e w1 ⟨v, rfl, ho, hb⟩; obtain ⟨g, cap, rfl, hcell⟩ := Texts.shape (l := triv5) ho (by decide); have HL : Hid (triv5.length = 5) := Lib.hid (by decide); have hcell' := hcell k (by rw [HL.out]; exact hk); rw [HL.out]; have HB := Lib.hid hb; clear ho hb hcell)
  go_ret
  exact ⟨by rw [HE.out]; rfl, HB.out⟩
set_option maxRecDepth 100000 in
set_option maxHeartbeats 2000000 in
theorem refName_10 (k : Nat) (hk : k < 7) (w : World) : Calls Tryd.prog 12 #[.int .i64 ((k : Int) + 10)] w (Named ((k : Int) + 10) w) := by
  have e := name_10 k hk
  have p1 : decide ((1 : Int) ≤ (k : Int) + 10) = true := decide_eq_true (by omega)
  have q1 : decide ((k : Int) + 10 ≤ 5) = false := decide_eq_false (by omega)
  have p10 : decide ((10 : Int) ≤ (k : Int) + 10) = true := decide_eq_true (by omega)
  have q10 : decide ((k : Int) + 10 ≤ 16) = true := decide_eq_true (by omega)
  have HE := Lib.hid e
  clear e
  go_enter Tryd.func12, Tryd.ntmps12
  go_wp2_with (go_at_call 34; refine (cut_any _ _ (by decide)).mono ?_; rintro e w1 ⟨v, rfl, ho, hb⟩; obtain ⟨g, cap, rfl, hcell⟩ := Texts.shape (l := kind7) ho (by decide); have HL : Hid (kind7.length = 7) := Lib.hid (by decide); have hcell' := hcell k (by rw [HL.out]; exact hk); rw [HL.out]; have HB := Lib.hid hb; clear ho hb hcell)
  go_ret
  exact ⟨by rw [HE.out]; rfl, HB.out⟩
set_option maxRecDepth 100000 in
set_option maxHeartbeats 2000000 in
theorem refName_20 (k : Nat) (hk : k < 46) (w : World) : Calls Tryd.prog 12 #[.int .i64 ((k : Int) + 20)] w (Named ((k : Int) + 20) w) := by
  have e := name_20 k hk
  have p1 : decide ((1 : Int) ≤ (k : Int) + 20) = true := decide_eq_true (by omega)
  have q1 : decide ((k : Int) + 20 ≤ 5) = false := decide_eq_false (by omega)
  have p10 : decide ((10 : Int) ≤ (k : Int) + 20) = true := decide_eq_true (by omega)
  have q10 : decide ((k : Int) + 20 ≤ 16) = false := decide_eq_false (by omega)
  have p20 : decide ((20 : Int) ≤ (k : Int) + 20) = true := decide_eq_true (by omega)
  have q20 : decide ((k : Int) + 20 ≤ 65) = true := decide_eq_true (by omega)
  have HE := Lib.hid e
  clear e
  go_enter Tryd.func12, Tryd.ntmps12
  go_wp2_with (go_at_call 35; refine (refSigns_any _).mono ?_; rintro e w1 ⟨v, rfl, ho, hb⟩; obtain ⟨g, cap, rfl, hcell⟩ := Texts.shape (l := signs) ho (by decide); have HL : Hid (signs.length = 46) := Lib.hid (by decide); have hcell' := hcell k (by rw [HL.out]; exact hk); rw [HL.out]; have HB := Lib.hid hb; clear ho hb hcell)
  go_ret
  exact ⟨by rw [HE.out]; rfl, HB.out⟩
set_option maxRecDepth 100000 in
set_option maxHeartbeats 2000000 in
theorem refName_70 (k : Nat) (hk : k < 21) (w : World) : Calls Tryd.prog 12 #[.int .i64 ((k : Int) + 70)] w (Named ((k : Int) + 70) w) := by
  have e := name_70 k hk
  have p1 : decide ((1 : Int) ≤ (k : Int) + 70) = true := decide_eq_true (by omega)
  have q1 : decide ((k : Int) + 70 ≤ 5) = false := decide_eq_false (by omega)
  have p10 : decide ((10 : Int) ≤ (k : Int) + 70) = true := decide_eq_true (by omega)
  have q10 : decide ((k : Int) + 70 ≤ 16) = false := decide_eq_false (by omega)
  have p20 : decide ((20 : Int) ≤ (k : Int) + 70) = true := decide_eq_true (by omega)
  have q20 : decide ((k : Int) + 70 ≤ 65) = false := decide_eq_false (by omega)
  have p70 : decide ((70 : Int) ≤ (k : Int) + 70) = true := decide_eq_true (by omega)
  have q70 : decide ((k : Int) + 70 ≤ 90) = true := decide_eq_true (by omega)
  have HE := Lib.hid e
  clear e
  go_enter Tryd.func12, Tryd.ntmps12
  go_wp2_with (go_at_call 36; refine (refWords_any _).mono ?_; rintro e w1 ⟨v, rfl, ho, hb⟩; obtain ⟨g, cap, rfl, hcell⟩ := Texts.shape (l := words) ho (by decide); have HL : Hid (words.length = 21) := Lib.hid (by decide); have hcell' := hcell k (by rw [HL.out]; exact hk); rw [HL.out]; have HB := Lib.hid hb; clear ho hb hcell)
  go_ret
  exact ⟨by rw [HE.out]; rfl, HB.out⟩
set_option maxRecDepth 100000 in
set_option maxHeartbeats 2000000 in
theorem refName_none (z : Int) (h1 : ¬ (1 ≤ z ∧ z ≤ 5)) (h2 : ¬ (10 ≤ z ∧ z ≤ 16)) (h3 : ¬ (20 ≤ z ∧ z ≤ 65)) (h4 : ¬ (70 ≤ z ∧ z ≤ 90)) (w : World) : Calls Tryd.prog 12 #[.int .i64 z] w (Named z w) := by
  have HE := Lib.hid (name_none z h1 h2 h3 h4)
  have b1 := side z 1 5 h1
  have b2 := side z 10 16 h2
  have b3 := side z 20 65 h3
  have b4 := side z 70 90 h4
  clear h1 h2 h3 h4
  rcases b1 with b1 | ⟨b1, b1'⟩ <;> rcases b2 with b2 | ⟨b2, b2'⟩ <;> rcases b3 with b3 | ⟨b3, b3'⟩ <;> rcases b4 with b4 | ⟨b4, b4'⟩
  all_goals
    go_enter Tryd.func12, Tryd.ntmps12
    go_wp2_with fail
    go_ret
    exact ⟨by rw [HE.out]; rfl, Below.refl _ _⟩
theorem refName_any (z : Int) (w : World) : Calls Tryd.prog 12 #[.int .i64 z] w (Named z w) := by
  by_cases h1 : 1 ≤ z ∧ z ≤ 5
  · obtain ⟨k, rfl⟩ : ∃ k : Nat, z = (k : Int) + 1 := ⟨(z - 1).toNat, by omega⟩
    exact refName_1 k (by omega) w
  by_cases h2 : 10 ≤ z ∧ z ≤ 16
  · obtain ⟨k, rfl⟩ : ∃ k : Nat, z = (k : Int) + 10 := ⟨(z - 10).toNat, by omega⟩
    exact refName_10 k (by omega) w
  by_cases h3 : 20 ≤ z ∧ z ≤ 65
  · obtain ⟨k, rfl⟩ : ∃ k : Nat, z = (k : Int) + 20 := ⟨(z - 20).toNat, by omega⟩
    exact refName_20 k (by omega) w
  by_cases h4 : 70 ≤ z ∧ z ≤ 90
  · obtain ⟨k, rfl⟩ : ∃ k : Nat, z = (k : Int) + 70 := ⟨(z - 70).toNat, by omega⟩
    exact refName_70 k (by omega) w
  exact refName_none z h1 h2 h3 h4 w
end Go.Proofs.YtbmmbaagcglomaaDoor.tok
