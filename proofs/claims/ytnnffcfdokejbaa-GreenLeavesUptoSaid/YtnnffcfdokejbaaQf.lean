/-
  Layer 8: what the pool of the program is held to.
-/
import Derived.Test.YtnnffcfdokejbaaPd
import Derived.Test.YtnnffcfdokejbaaNo
import Derived.Test.YtnnffcfdokejbaaQe
namespace Go.Proofs.Ytnnffcfdokejbaa.rd
open Go.RowKit

/-- Trees one behind the other, from a place on. -/
def kidsT (L : List Gr) (F : Nat → Int → Tree) : List Int → Int → List Tree
  | [], _ => []
  | x :: l, a => F x.toNat a :: kidsT L F l (a + ((L[x.toNat]?.map fun g => (g.s.size : Int)).getD 0))
/-- The tree of a number, from a place on. -/
def nodeT (L : List Gr) : Nat → Nat → Int → Tree
  | 0, _, a => .mk 0 a a []
  | f + 1, id, a => match L[id]? with
    | none => .mk 0 a a []
    | some g => .mk g.k a (a + (g.s.size : Int)) (kidsT L (nodeT L f) g.l a)
/-- What the program's pool is held to. -/
structure PoolC (Pl : World → Nat → (Nat → Prop) → List Gr → Prop) : Prop where
  keep : ∀ {w w' : World} {b : Nat} {D : Nat → Prop} {L : List Gr}, Pl w b D L → w.heap.size ≤ w'.heap.size → (∀ k, D k → w'.heap[k]? = w.heap[k]?) → Pl w' b D L
  dead : ∀ {w : World} {b : Nat} {D : Nat → Prop} {L : List Gr}, Pl w b D L → ∀ k, D k → k < w.heap.size
  new : ∀ w, Calls Try.prog 15 #[] w fun e w' => ∃ b D, e = .returned (.pointer (some ⟨b, 0, none⟩)) ∧ Below w.heap.size w w' ∧ Pl w' b D [] ∧ ∀ k, D k → w.heap.size ≤ k
  len : ∀ {w : World} {b : Nat} {D : Nat → Prop} {L : List Gr}, Pl w b D L → Calls Try.prog 17 #[.pointer (some ⟨b, 0, none⟩)] w fun e w' => e = .returned (.int .i64 (L.length : Int)) ∧ Below w.heap.size w w'
  put : ∀ {w : World} {b : Nat} {D T : Nat → Prop} {L : List Gr} {t : Tree} {n : Rn} {s : ByteArray}, Pl w b D L → Tie w T t n → (∀ k, T k → k < w.heap.size ∧ ¬ D k) → InR t → s.size ≤ 281474976710656 → (putT s t L).1.length ≤ 4294967296 → Calls Try.prog 18 #[.pointer (some ⟨b, 0, none⟩), .string s, n.v] w fun e w' => e = .returned (.tuple #[.int .i64 (if fitT s.size t then ((putT s t L).2 : Int) else 0), .int .i64 (errOf (fitT s.size t))]) ∧ ∃ D', Pl w' b D' (if fitT s.size t then (putT s t L).1 else L) ∧ Marked D w w' ∧ ∀ k, D' k → D k ∨ w.heap.size ≤ k
  kids : ∀ {w : World} {b : Nat} {D : Nat → Prop} {L : List Gr}, Pl w b D L → ∀ (id : Nat) (h : id < L.length), Calls Try.prog 27 #[.pointer (some ⟨b, 0, none⟩), .int .i64 (id : Int)] w fun e w' => ∃ v, e = .returned (.tuple #[v, .int .i64 0]) ∧ Below w.heap.size w w' ∧ Mine it w' w.heap.size v L[id].l
  text : ∀ {w : World} {b : Nat} {D : Nat → Prop} {L : List Gr}, Pl w b D L → ∀ (id : Nat) (h : id < L.length), L[id].s.size ≤ 140737488355328 → Calls Try.prog 28 #[.pointer (some ⟨b, 0, none⟩), .int .i64 (id : Int)] w fun e w' => e = .returned (.tuple #[.string L[id].s, .int .i64 0]) ∧ Below w.heap.size w w'
  node : ∀ {w : World} {b : Nat} {D : Nat → Prop} {L : List Gr}, Pl w b D L → ∀ (id : Nat) (a : Int), id < L.length → 0 ≤ a → a ≤ 2147483647 → Calls Try.prog 29 #[.pointer (some ⟨b, 0, none⟩), .int .i64 (id : Int), .int .i64 a] w fun e w' => ∃ n, e = .returned (.tuple #[n.v, .int .i64 0]) ∧ Below w.heap.size w w' ∧ Fresh w.heap.size w' (nodeT L (id + 1) id a) n
abbrev exA : ByteArray := ⟨#[97]⟩
abbrev exS : ByteArray := ⟨#[97, 43, 97]⟩
abbrev exP : ByteArray := ⟨#[43]⟩
abbrev exX : ByteArray := ⟨#[120, 121, 122, 97, 43, 97]⟩
abbrev exL : List Gr := [⟨10, exA, []⟩, ⟨201, exA, [0]⟩, ⟨20, exP, []⟩, ⟨206, exS, [1, 2, 1]⟩]
theorem ex_put : putT exS (sumT 0) [] = (exL, 3) := by kernel_rfl
theorem ex_put2 : putT exX (sumT 3) exL = (exL, 3) := by kernel_rfl
theorem ex_node : sameT (nodeT exL 4 3 4) (sumT 4) = true := by kernel_rfl
theorem ex_node2 : nodeT exL 4 3 4 = sumT 4 := by kernel_rfl
theorem ex_in0 : InR (sumT 0) := by unfold sumT; simp [InR, InRs, In64]
theorem ex_in3 : InR (sumT 3) := by unfold sumT; simp [InR, InRs, In64]
theorem ex_fit : fitT exS.size (sumT 0) = true := by kernel_rfl
theorem ex_fit2 : fitT exX.size (sumT 3) = true := by kernel_rfl
theorem ex_find : findT 2 3 (sumT 0) = some [2, 0] := by kernel_rfl
end Go.Proofs.Ytnnffcfdokejbaa.rd
