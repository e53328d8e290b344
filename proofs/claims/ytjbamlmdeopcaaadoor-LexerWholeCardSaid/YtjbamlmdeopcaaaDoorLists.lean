/-
  The two lists of the program (signs, keywords): what they hold.
-/
import Derived.Test.YtjbamlmdeopcaaaDoorRows
import Derived.Handy
import Derived.Deep.DeepFit
import Derived.Lib.Hide
import Derived.WalkKit
import Derived.Laws.Rows
import Derived.Deep.WholeRow
namespace Go.Proofs.YtjbamlmdeopcaaaDoor.tok
open Go.RowKit

def B (l : List UInt8) : ByteArray := ⟨l.toArray⟩
def signs : List (List UInt8) := [[43], [45], [42], [47], [37], [38], [124], [94], [60, 60], [62, 62], [38, 94],
  [43, 61], [45, 61], [42, 61], [47, 61], [37, 61], [38, 61], [124, 61], [94, 61], [60, 60, 61], [62, 62, 61], [38, 94, 61],
  [38, 38], [124, 124], [43, 43], [45, 45], [61, 61], [60], [62], [61], [33], [126],
  [33, 61], [60, 61], [62, 61], [58, 61], [46, 46, 46],
  [40], [91], [123], [44], [46], [41], [93], [125], [58]]
def words : List (List UInt8) := [[98, 114, 101, 97, 107], [99, 97, 115, 101], [99, 111, 110, 115, 116], [99, 111, 110, 116, 105, 110, 117, 101], [100, 101, 102, 97, 117, 108, 116], [100, 101, 102, 101, 114], [101, 108, 115, 101],
  [102, 97, 108, 108, 116, 104, 114, 111, 117, 103, 104], [102, 111, 114], [102, 117, 110, 99], [105, 102], [105, 109, 112, 111, 114, 116], [105, 110, 116, 101, 114, 102, 97, 99, 101], [109, 97, 112],
  [112, 97, 99, 107, 97, 103, 101], [114, 97, 110, 103, 101], [114, 101, 116, 117, 114, 110], [115, 116, 114, 117, 99, 116], [115, 119, 105, 116, 99, 104], [116, 121, 112, 101], [118, 97, 114]]
def signA : Array Value := (signs.map fun l => Value.string (B l)).toArray
def wordA : Array Value := (words.map fun l => Value.string (B l)).toArray

section
variable {P : Program}
theorem wpList_builtTo {ops : Array Oper} {rest : List Oper} {o : Oper} {a : Act} {w : World} {Q : Exit → Act → World → Prop} (hg : o.guard = none) (t : TypeId) (parts : Array (Nat × Operand)) (ho : o.op = .build t parts)
    (d : Option Tmp) (hd : o.dst = d) (cells : Array Value) (hc : P.built t (parts.map fun (i, x) => (i, a.eval x)).toList = some cells)
    (h : wpList P ops Q rest (a.put d (.agg cells)) w) : wpList P ops Q (o :: rest) a w := by
  subst hd
  refine wpList_build hg t parts ho (by rw [hc]; rfl) ?_
  rw [hc]
  exact h
end

set_option maxRecDepth 100000 in
set_option maxHeartbeats 1000000 in
theorem signs_any (w : World) : Calls Tryd.prog 43 #[] w fun e w' => e = .returned (.agg signA) ∧ Below w.heap.size w w' := by
  go_enter Tryd.func43, Tryd.ntmps43
  go_wp2_with (refine wpList_builtTo rfl 70 _ rfl _ rfl signA (by as_aux_lemma => kernel_rfl) ?_)
  rw [run_storeCells_new w 70 _ signA (by as_aux_lemma => kernel_rfl) (by as_aux_lemma => kernel_rfl) (by as_aux_lemma => kernel_rfl)]
  go_wp2
  refine bodyPost_ret (v := .agg signA) (results_cell_row Tryd.results43 _ _ w.heap.size 70 signA (0, 0) _ rfl (heap_alloc_last w _) Tryd.underlying70 rfl (by as_aux_lemma => kernel_rfl)) rfl ⟨rfl, ?_⟩
  exact (Below.refl _ _).alloc (Nat.le_refl _) _
set_option maxRecDepth 100000 in
set_option maxHeartbeats 1000000 in
theorem keywords_any (w : World) : Calls Tryd.prog 37 #[] w fun e w' => e = .returned (.agg wordA) ∧ Below w.heap.size w w' := by
  go_enter Tryd.func37, Tryd.ntmps37
  go_wp2_with (refine wpList_builtTo rfl 61 _ rfl _ rfl wordA (by as_aux_lemma => kernel_rfl) ?_)
  rw [run_storeCells_new w 61 _ wordA (by as_aux_lemma => kernel_rfl) (by as_aux_lemma => kernel_rfl) (by as_aux_lemma => kernel_rfl)]
  go_wp2
  refine bodyPost_ret (v := .agg wordA) (results_cell_row Tryd.results37 _ _ w.heap.size 61 wordA (0, 0) _ rfl (heap_alloc_last w _) Tryd.underlying61 rfl (by as_aux_lemma => kernel_rfl)) rfl ⟨rfl, ?_⟩
  exact (Below.refl _ _).alloc (Nat.le_refl _) _
end Go.Proofs.YtjbamlmdeopcaaaDoor.tok
