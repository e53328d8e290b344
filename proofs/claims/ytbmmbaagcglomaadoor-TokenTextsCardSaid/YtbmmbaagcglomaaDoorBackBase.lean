/-
  The law TokenBack: what its ways ask.
-/
import Derived.Test.YtbmmbaagcglomaaDoorShown
import Derived.Test.YtbmmbaagcglomaaDoorBackFacts
namespace Go.Proofs.YtbmmbaagcglomaaDoor.tok
open Go.RowKit

theorem cat_eq {x y : List UInt8} (h : x.length + y.length ≤ 9223372036854775807) : Op.stringOp .add (B x) (B y) = pure (.string (B (x ++ y))) := by
  unfold Op.stringOp
  simp only []
  rw [if_neg (by rw [bsize, bsize]; show ¬ ((_ : Nat) : Int) > 9223372036854775807; omega), b_append]
/-- What is known where a sign is one that assigns. -/
def PlainFacts (z p : Int) (N : List UInt8) : Prop := ∃ (P : List UInt8) (r : Int), Op.stringOp .add (B P) { data := #[61] } = pure (.string (B N)) ∧ decide ((3 : Int) < r) = true
  ∧ (∀ u : World, Calls Tryd.prog 11 #[.int .i64 p] u (Gives (.string (B P)) u))
  ∧ (∀ u : World, Calls Tryd.prog 17 #[.int .i64 p] u fun e w' => e = .returned (.int .i64 r) ∧ u = w')
  ∧ (∀ u : World, Calls Tryd.prog 17 #[.int .i64 z] u fun e w' => e = .returned (.int .i64 0) ∧ u = w')
theorem plain_facts (z : Int) (h : plainOf z ≠ 0) : PlainFacts z (plainOf z) (nameOf z) := by
  have hf := fine z
  obtain ⟨q1, q2, q3⟩ := hf.plain.resolve_left h
  have hs := hf.short
  refine ⟨nameOf (plainOf z), precOf (plainOf z), ?_, decide_eq_true q2, fun u => name_any _ u, fun u => prec_any _ u, fun u => ?_⟩
  · have hl := congrArg List.length q1
    rw [List.length_append] at hl
    have := cat_eq (x := nameOf (plainOf z)) (y := [61]) (by simp at hl ⊢; omega)
    rw [q1] at this
    exact this
  · have := prec_any z u
    rwa [q3] at this
end Go.Proofs.YtbmmbaagcglomaaDoor.tok
