/-
  token.Name.
-/
import Derived.Test.YtjbamlmdeopcaaaDoorOper
namespace Go.Proofs.YtjbamlmdeopcaaaDoor.tok
open Go.RowKit

/-- The words of the kinds whose tokens have no text of their own. -/
def otherOf (z : Int) : List UInt8 :=
  if z = 1 then [115, 112, 97, 99, 101] else if z = 2 then [102, 101, 101, 100] else if z = 3 then [99, 111, 109, 109, 101, 110, 116] else if z = 4 then [98, 108, 111, 99, 107] else if z = 5 then [98, 97, 100]
  else if z = 10 then [110, 97, 109, 101] else if z = 11 then [105, 110, 116] else if z = 12 then [114, 117, 110, 101] else if z = 13 then [115, 116, 114, 105, 110, 103] else if z = 14 then [114, 97, 119] else if z = 16 then [97, 117, 116, 111] else []
def nameOf (z : Int) : List UInt8 :=
  if z = 15 then [59] else if 20 ≤ z ∧ z ≤ 65 then signs.getD (z - 20).toNat [] else if 70 ≤ z ∧ z ≤ 90 then words.getD (z - 70).toNat [] else otherOf z

theorem two_bounds (z : Int) (a b : Int) : (a ≤ z ∧ z ≤ b) ∨ decide (a ≤ z) = false ∨ (decide (a ≤ z) = true ∧ decide (z ≤ b) = false) := by
  by_cases h : a ≤ z
  · by_cases h' : z ≤ b
    · exact .inl ⟨h, h'⟩
    · exact .inr (.inr ⟨decide_eq_true h, decide_eq_false h'⟩)
  · exact .inr (.inl (decide_eq_false h))
end Go.Proofs.YtjbamlmdeopcaaaDoor.tok
