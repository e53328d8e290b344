/-
  Signs and their names: what follows (plain facts on lists of bytes).
-/
import Derived.Test.YtbmmbaagcglomaaDoorKinds
namespace Go.Proofs.YtbmmbaagcglomaaDoor.tok
open Go.RowKit

theorem prefix_iff {s p : List UInt8} : Lib.hasPrefix s p = true ↔ ∃ t, p ++ t = s := by
  unfold Lib.hasPrefix
  rw [List.isPrefixOf_iff_prefix]
  exact Iff.rfl
theorem prefix_take {s p : List UInt8} (h : Lib.hasPrefix s p = true) : s.take p.length = p := by
  obtain ⟨t, rfl⟩ := prefix_iff.1 h
  simp
theorem prefix_more {s p : List UInt8} (t : List UInt8) (h : Lib.hasPrefix s p = true) : Lib.hasPrefix (s ++ t) p = true := by
  obtain ⟨u, rfl⟩ := prefix_iff.1 h
  exact prefix_iff.2 ⟨u ++ t, by simp⟩
/-- The best of the first k signs is one of them, or there is none. -/
theorem best_is (s : List UInt8) (k : Nat) : best s k = (0, 0) ∨ ∃ j, j < k ∧ best s k = (20 + j, (signs.getD j []).length) ∧ Lib.hasPrefix s (signs.getD j []) = true := by
  induction k with
  | zero => exact .inl rfl
  | succ k ih =>
    by_cases h : (best s k).2 < (signs.getD k []).length ∧ Lib.hasPrefix s (signs.getD k []) = true
    · exact .inr ⟨k, by omega, best_yes h.1 h.2, h.2⟩
    · rw [best_no h]
      rcases ih with e | ⟨j, hj, e, hp⟩
      · exact .inl e
      · exact .inr ⟨j, by omega, e, hp⟩
theorem best_most (s : List UInt8) (k j : Nat) (hj : j < k) (hp : Lib.hasPrefix s (signs.getD j []) = true) : (signs.getD j []).length ≤ (best s k).2 := by
  induction k with
  | zero => omega
  | succ k ih =>
    by_cases h : (best s k).2 < (signs.getD k []).length ∧ Lib.hasPrefix s (signs.getD k []) = true
    · rw [best_yes h.1 h.2]
      by_cases e : j = k
      · subst e; exact Nat.le_refl _
      · exact Nat.le_trans (ih (by omega)) (Nat.le_of_lt h.1)
    · rw [best_no h]
      by_cases e : j = k
      · subst e; exact Nat.le_of_not_lt (fun g => h ⟨g, hp⟩)
      · exact ih (by omega)
theorem no_semi : ∀ j : Fin 46, (signs.getD j.val []).head? ≠ some 59 := by decide
theorem semi_head {s : List UInt8} (h : Lib.hasPrefix s [59] = true) : s.head? = some 59 := by
  obtain ⟨t, rfl⟩ := prefix_iff.1 h
  rfl
theorem sign_ne : ∀ j : Fin 46, signs.getD j.val [] ≠ [] := by decide
theorem name_sign (j : Nat) (hj : j < 46) : nameOf ((20 + j : Nat) : Int) = signs.getD j [] := by
  rw [nameOf, if_neg (by omega), if_pos ⟨by omega, by omega⟩]
  have e : (((20 + j : Nat) : Int) - 20).toNat = j := by omega
  rw [e]
/-- What a text begins with, by its name. -/
theorem op_name (x : List UInt8) (h : 0 < (opOf x).2) : nameOf ((opOf x).1 : Nat) = x.take (opOf x).2 := by
  unfold opOf at h ⊢
  by_cases hs : Lib.hasPrefix x [59] = true
  · rw [if_pos hs] at h ⊢
    have := prefix_take hs
    exact this.symm
  · rw [if_neg hs] at h ⊢
    rcases best_is x 46 with e | ⟨j, hj, e, hp⟩
    · rw [e] at h; simp at h
    · rw [e]
      simp only []
      rw [prefix_take hp, name_sign j hj]
/-- A sign that goes on is that sign, or a longer one. -/
theorem op_more (N t : List UInt8) (h0 : 0 < (opOf N).2) (hl : (opOf N).2 = N.length) : (opOf N).2 ≤ (opOf (N ++ t)).2 := by
  by_cases hs : Lib.hasPrefix N [59] = true
  · have e1 : opOf N = (15, 1) := by rw [opOf, if_pos hs]
    have e2 : opOf (N ++ t) = (15, 1) := by rw [opOf, if_pos (prefix_more t hs)]
    rw [e1, e2]
    exact Nat.le_refl _
  · have e1 : opOf N = best N 46 := by rw [opOf, if_neg hs]
    rw [e1] at h0 hl ⊢
    rcases best_is N 46 with e | ⟨j, hj, e, hp⟩
    · rw [e] at h0; simp at h0
    · rw [e] at hl ⊢
      simp only [] at hl ⊢
      have hN : signs.getD j [] = N := by rw [← prefix_take hp, hl, List.take_length]
      by_cases hs2 : Lib.hasPrefix (N ++ t) [59] = true
      · exfalso
        have h1 := semi_head hs2
        have h2 := no_semi ⟨j, hj⟩
        have h3 := sign_ne ⟨j, hj⟩
        simp only [hN] at h2 h3
        cases N with
        | nil => exact h3 rfl
        | cons a N => exact h2 (by simpa using h1)
      · have e2 : opOf (N ++ t) = best (N ++ t) 46 := by rw [opOf, if_neg hs2]
        rw [e2]
        exact best_most (N ++ t) 46 j hj (prefix_more t hp)
theorem op_le (x : List UInt8) : (opOf x).2 ≤ x.length := by
  unfold opOf
  split
  · next h => obtain ⟨t, rfl⟩ := prefix_iff.1 h; simp
  · rcases best_is x 46 with e | ⟨j, hj, e, hp⟩
    · rw [e]; exact Nat.zero_le _
    · rw [e]; obtain ⟨t, ht⟩ := prefix_iff.1 hp
      simp only []
      conv => rhs; rw [← ht]
      simp
/-- What a name is, as a word and as a sign. -/
def nameFine (z : Int) : Bool :=
  (kwOf (nameOf z) == 0 || kwOf (nameOf z) == z) && !(decide ((opOf (nameOf z)).2 = (nameOf z).length) && decide (0 < (opOf (nameOf z)).2) && (((opOf (nameOf z)).1 : Int) != z)) && (kwOf (nameOf z) == 0 || (opOf (nameOf z)).2 == 0)
    && (plainOf z == 0 || (nameOf (plainOf z) ++ [61] == nameOf z && decide (3 < precOf (plainOf z)) && precOf z == 0)) && decide ((nameOf z).length ≤ 11) && decide ((opOf (nameOf z)).1 = 0 ↔ (opOf (nameOf z)).2 = 0)
theorem fine_few : ∀ k : Fin 91, nameFine k.val = true := by decide +kernel
theorem name_past (z : Int) (h : ¬ (0 ≤ z ∧ z ≤ 90)) : nameOf z = [] := by
  unfold nameOf otherOf
  repeat rw [if_neg (by omega)]
theorem plain_past (z : Int) (h : ¬ (0 ≤ z ∧ z ≤ 90)) : plainOf z = 0 := by
  unfold plainOf
  rw [if_neg (by omega)]
theorem fine_any (z : Int) : nameFine z = true := by
  by_cases h : 0 ≤ z ∧ z ≤ 90
  · obtain ⟨k, rfl⟩ : ∃ k : Nat, z = (k : Int) := ⟨z.toNat, by omega⟩
    exact fine_few ⟨k, by omega⟩
  · unfold nameFine
    rw [name_past z h, plain_past z h]
    have e1 : kwOf [] = 0 := by kernel_rfl
    have e2 : opOf [] = (0, 0) := by kernel_rfl
    rw [e1, e2]
    simp
structure Fine (z : Int) : Prop where
  word : kwOf (nameOf z) = 0 ∨ kwOf (nameOf z) = z
  sign : (opOf (nameOf z)).2 = (nameOf z).length → 0 < (opOf (nameOf z)).2 → ((opOf (nameOf z)).1 : Int) = z
  apart : kwOf (nameOf z) = 0 ∨ (opOf (nameOf z)).2 = 0
  plain : plainOf z = 0 ∨ (nameOf (plainOf z) ++ [61] = nameOf z ∧ 3 < precOf (plainOf z) ∧ precOf z = 0)
  short : (nameOf z).length ≤ 11
  zero : (opOf (nameOf z)).1 = 0 ↔ (opOf (nameOf z)).2 = 0
theorem fine (z : Int) : Fine z := by
  have h := fine_any z
  unfold nameFine at h
  simp only [Bool.and_eq_true, Bool.or_eq_true, beq_iff_eq, decide_eq_true_eq, Bool.not_eq_true', Bool.and_eq_false_iff, decide_eq_false_iff_not, bne_eq_false_iff_eq] at h
  obtain ⟨⟨⟨⟨⟨h1, h2⟩, h3⟩, h4⟩, h5⟩, h6⟩ := h
  refine ⟨h1, fun a b => ?_, h3, ?_, h5, h6⟩
  · rcases h2 with (h2 | h2) | h2
    · exact absurd a h2
    · exact absurd b h2
    · exact h2
  · rcases h4 with h4 | ⟨⟨a, b⟩, c⟩
    · exact .inl h4
    · exact .inr ⟨a, b, c⟩
end Go.Proofs.YtbmmbaagcglomaaDoor.tok
