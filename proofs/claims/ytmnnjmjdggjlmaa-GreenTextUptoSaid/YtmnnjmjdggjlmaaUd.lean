/-
  Layer 8: a tree and its text that are read as data.
-/
import Derived.Test.YtmnnjmjdggjlmaaUc
import Derived.Test.YtmnnjmjdggjlmaaTw
namespace Go.Proofs.Ytmnnjmjdggjlmaa.rd
open Go.ChangeShapes Go.WideShapes Go.ChangeAt Go.RowKit

theorem stree_of_trod {H : Type} {enc : TypeId × Value → H} {W : World} {sp : Nat → Bool} {held : Bool} (fuel : Nat) (cs : List Value) (x : DataW H × List MemPlace) (h : DataW.trod enc Try.prog W 0 sp held fuel 38 cs = some x) (hb : Light 38 x.1) : ∃ (s : ByteArray) (t : Tree) (n : Rn), cs = [.string s, .int .i64 n.k, .int .i64 n.i, .int .i64 n.j, .slice n.o n.n n.c] ∧ Tie W (· < W.heap.size) t n ∧ InR t ∧ s.size ≤ 140737488351232 ∧ s.size + bulkT t ≤ Rows.uptoBulk x.1 := by
  obtain ⟨ys, n', hfu, hx, hcl, hyl, hf⟩ := DataW.trod_struct Try.underlying38 h
  rw [show Try.prog.cellsOf 38 = 5 from by kernel_rfl] at hcl
  have hyl2 : ys.length = 2 := hyl
  have f0 := hf 0 _ rfl
  have f1 := hf 1 _ rfl
  change DataW.trod _ _ _ _ _ _ _ 9 ((cs.drop 0).take (Try.prog.cellsOf 9)) = _ at f0
  change DataW.trod _ _ _ _ _ _ _ 24 ((cs.drop 1).take (Try.prog.cellsOf 24)) = _ at f1
  rw [cellsStr] at f0
  rw [cellsN] at f1
  clear hf hyl h
  match cs, hcl with
  | [c0, c1, c2, c3, c4], _ =>
  match ys, hyl2 with
  | [y0, y1], _ =>
  obtain ⟨s, hs, hy, _⟩ := DataW.trod_string Try.underlying9 (x := y0) f0
  simp only [List.drop_zero, List.take_succ_cons, List.take_zero, List.cons.injEq, and_true] at hs
  subst hs
  have f1' : DataW.trod enc Try.prog W 0 sp held n' 24 [c1, c2, c3, c4] = some y1 := f1
  rw [hx] at hb
  unfold Light at hb
  simp only [DataW.weights, Try.underlying38, List.map_cons, List.map_nil, DataW.weightsEach, List.all_append, Bool.and_eq_true] at hb
  have hl0 : Light 9 y0.1 := by unfold Light; exact hb.1
  have hl1 : Light 24 y1.1 := by unfold Light; exact hb.2.1
  obtain ⟨t, n, hn, hT, hin, hu⟩ := tree_bulk_of_trod n' [c1, c2, c3, c4] y1 f1' hl1
  rw [hy] at hl0
  have hsz := string_light hl0
  refine ⟨s, t, n, by rw [hn], hT, hin, hsz, ?_⟩
  rw [hx, hy]
  have hd : s.data.toList.length = s.size := sdata s
  simp only [List.map_cons, List.map_nil, Rows.uptoBulk, Rows.uptoBulkAll]
  omega
end Go.Proofs.Ytmnnjmjdggjlmaa.rd
