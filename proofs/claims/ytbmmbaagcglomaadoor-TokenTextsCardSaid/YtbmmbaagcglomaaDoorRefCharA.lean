/-
  The reference's Char.
-/
import Derived.Test.YtbmmbaagcglomaaDoorRefEscB
import Derived.Deep.RegionHeld3
namespace Go.Proofs.YtbmmbaagcglomaaDoor.tok
open Go.RowKit

def ldC (n : Nat) : Int := if n = 2 then 192 else if n = 3 then 224 else 240
def capC (n : Nat) : Int := if n = 2 then 32 else if n = 3 then 16 else 8
def leastC (n : Nat) : Int := if n = 2 then 128 else if n = 3 then 2048 else 65536
def bz (l : List UInt8) (j : Nat) : Int := ((l.getD j 0).toNat : Int)
def okTo (l : List UInt8) (n : Nat) : Nat → Bool
  | 0 => decide (ldC n ≤ bz l 1) && decide (bz l 1 - ldC n < capC n)
  | k + 1 => okTo l n k && decide (bz l (2 + k) / 64 * 64 = 128)
def uTo (l : List UInt8) (n : Nat) : Nat → Int
  | 0 => bz l 1 - ldC n
  | k + 1 => uTo l n k * 64 + bz l (2 + k) % 64
def hitC (l : List UInt8) (n : Nat) : Prop := okTo l n (n - 1) = true ∧ uTo l n (n - 1) ≤ 1114111 ∧ (uTo l n (n - 1) < 55296 ∨ 57343 < uTo l n (n - 1)) ∧ leastC n ≤ uTo l n (n - 1)
open Classical in
/-- The character that begins behind a first byte, if no single byte says it. -/
noncomputable def charC (l : List UInt8) : Int × Nat :=
  if 3 ≤ l.length ∧ hitC l 2 then (uTo l 2 1, 2) else if 4 ≤ l.length ∧ hitC l 3 then (uTo l 3 2, 3) else if 5 ≤ l.length ∧ hitC l 4 then (uTo l 4 3, 4) else (0, 0)
theorem bz_bounds (l : List UInt8) (j : Nat) : 0 ≤ bz l j ∧ bz l j ≤ 255 := by
  have := UInt8.toNat_lt (l.getD j 0)
  unfold bz
  omega
theorem ldC_bounds (n : Nat) : 192 ≤ ldC n ∧ ldC n ≤ 240 := by unfold ldC; split <;> (try split) <;> omega
theorem uTo_bounds (l : List UInt8) (n k : Nat) (hk : k ≤ 3) : -67108864 ≤ uTo l n k ∧ uTo l n k ≤ 67108864 := by
  have h1 := bz_bounds l 1
  have h2 := bz_bounds l 2
  have h3 := bz_bounds l 3
  have h4 := bz_bounds l 4
  have hl := ldC_bounds n
  match k, hk with
  | 0, _ => simp only [uTo]; omega
  | 1, _ => simp only [uTo, Nat.add_zero]; omega
  | 2, _ => simp only [uTo, Nat.add_zero, Nat.reduceAdd]; omega
  | 3, _ => simp only [uTo, Nat.add_zero, Nat.reduceAdd]; omega
theorem and192 (n : Int) (h0 : 0 ≤ n) (h1 : n ≤ 255) : bits .and .u8 n 192 = n / 64 * 64 := by
  have all : ∀ j : Fin 256, bits .and .u8 (j.val : Int) 192 = (j.val : Int) / 64 * 64 := by decide +kernel
  have := all ⟨n.toNat, by omega⟩
  simpa [show ((n.toNat : Nat) : Int) = n by omega] using this
theorem and63 (n : Int) (h0 : 0 ≤ n) (h1 : n ≤ 255) : bits .and .u8 n 63 = n % 64 := by
  have all : ∀ j : Fin 256, bits .and .u8 (j.val : Int) 63 = (j.val : Int) % 64 := by decide +kernel
  have := all ⟨n.toNat, by omega⟩
  simpa [show ((n.toNat : Nat) : Int) = n by omega] using this
def Chr (v : Int × Nat) (w : World) (e : Ending) (w' : World) : Prop := e = .returned (.tuple #[.int .i64 v.1, .int .i64 v.2]) ∧ Below w.heap.size w w'
end Go.Proofs.YtbmmbaagcglomaaDoor.tok
