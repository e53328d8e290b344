/-
  Layer 8: the reference's Copy, Parts; ints.
-/
import Derived.Test.YtnnffcfdokejbaaNh
namespace Go.Proofs.Ytnnffcfdokejbaa.rd
open Go.RowKit

theorem wrap_zero {z : Int} (h : In64 z) : wrap64 (z + 0) = z := by
  unfold In64 at h
  rw [Int.add_zero]
  exact IntWalk.wrap64_in z (by omega)
mutual
theorem shiftT_zero : ∀ (t : Tree), InR t → shiftT 0 t = t
  | .mk k i j l, h => by
    rw [InR] at h
    rw [shiftT, wrap_zero h.2.1, wrap_zero h.2.2.1, shiftTs_zero l h.2.2.2]
theorem shiftTs_zero : ∀ (l : List Tree), InRs l → shiftTs 0 l = l
  | [], _ => by rw [shiftTs]
  | t :: l, h => by
    rw [InRs] at h
    rw [shiftTs, shiftT_zero t h.1, shiftTs_zero l h.2]
end
/-- A node's box that is written over. -/
theorem put_box {W : World} {Y : Nat} {z0 z1 z2 z3 : Value} (h : W.heap[Y]? = some (.cells #[z0, z1, z2, z3] 24 (0, 0))) (k i j : Int) (o : Option Addr) (n c : Nat) : ∃ W8, W8 = (((W.setCell ⟨Y, 0, none⟩ (.int .i64 k)).setCell ⟨Y, 1, none⟩ (.int .i64 i)).setCell ⟨Y, 2, none⟩ (.int .i64 j)).setCell ⟨Y, 3, none⟩ (.slice o n c) ∧ W8.heap[Y]? = some (.cells #[.int .i64 k, .int .i64 i, .int .i64 j, .slice o n c] 24 (0, 0)) ∧ (∀ k', k' ≠ Y → W8.heap[k']? = W.heap[k']?) ∧ ∀ u, Below u.heap.size u W → u.heap.size ≤ Y → Below u.heap.size u W8 := by
  have hs : ∀ k', k' ≠ Y → ((((W.setCell ⟨Y, 0, none⟩ (.int .i64 k)).setCell ⟨Y, 1, none⟩ (.int .i64 i)).setCell ⟨Y, 2, none⟩ (.int .i64 j)).setCell ⟨Y, 3, none⟩ (.slice o n c)).heap[k']? = W.heap[k']? := fun k' hk => by
    rw [set_one _ _ _ _ _ hk, set_one _ _ _ _ _ hk, set_one _ _ _ _ _ hk, set_one _ _ _ _ _ hk]
  refine ⟨_, rfl, heap_setCell_same _ _ 3 _ _ _ (heap_setCell_same _ _ 2 _ _ _ (heap_setCell_same _ _ 1 _ _ _ (heap_setCell_same _ _ 0 _ _ _ h))), hs, fun u hu hY => ⟨hu.os, hu.tape, hu.output, by rw [size_set, size_set, size_set, size_set]; exact hu.size, fun k' hk => (hs k' (by omega)).trans (hu.block k' hk)⟩⟩
theorem Fresh.off {B : Nat} {w w' : World} {t : Tree} {n : Rn} (h : Fresh B w t n) {Y : Nat} (hY : Y < B) (hs : ∀ k, k ≠ Y → w'.heap[k]? = w.heap[k]?) (hz : w.heap.size ≤ w'.heap.size) : Fresh B w' t n := by
  obtain ⟨D, h1, h2⟩ := h
  exact ⟨D, OTie.keep (fun g hg => hs g (by have := (h2 g hg).1; omega)) (fun _ h => h) _ _ h1, fun g hg => ⟨(h2 g hg).1, Nat.lt_of_lt_of_le (h2 g hg).2 hz⟩⟩
set_option maxRecDepth 100000 in
set_option maxHeartbeats 4000000 in
/-- Copy, of any tree. -/
theorem copy_any (t : Tree) (w : World) (n : Rn) (h : Hid (TieB w t n)) : Calls Try.prog 11 #[n.v] w fun e w' => ∃ n', e = .returned n'.v ∧ Below w.heap.size w w' ∧ Fresh w.heap.size w' (shiftT 0 t) n' := by
  obtain ⟨nk, ni, nj, no, nn, nc⟩ := n
  show Calls Try.prog 11 #[.agg #[.int .i64 nk, .int .i64 ni, .int .i64 nj, .slice no nn nc]] w _
  obtain ⟨W2, hW2, hx, hy, hb⟩ := two_node_boxes w nk ni nj 0 0 0 no none nn nc 0 0
  have HC := Lib.hid (shift_t t W2 ⟨nk, ni, nj, no, nn, nc⟩ 0 (TieB.below h hb))
  rw [show (Rn.mk nk ni nj no nn nc).v = .agg #[.int .i64 nk, .int .i64 ni, .int .i64 nj, .slice no nn nc] from rfl] at HC
  have HW2 := Lib.hid hW2
  have HB := Lib.hid hb
  have HY := Lib.hid hy
  clear h hW2 hx hb hy
  go_enter Try.func11, Try.ntmps11
  go_wp2_with fail
  go_at_call 31
  rw [HW2.out]
  refine HC.out.mono ?_
  rintro e w9 ⟨⟨mk, mi, mj, mo, mn, mc⟩, rfl, hb9, hf9⟩
  have h9 := (hb9.block _ (Array.getElem?_eq_some_iff.1 HY.out).1).trans HY.out
  obtain ⟨⟨m0, m1, m2, m3⟩, fm⟩ := four_cells0 h9
  have f0 := fm 0
  have f1 := fm 1
  have f2 := fm 2
  have f3 := fm 3
  have q9 := (Array.getElem?_eq_some_iff.1 h9).1
  obtain ⟨W8, hW8, hbox, hs, hbl⟩ := put_box h9 mk mi mj mo mn mc
  have hbw := hbl w (HB.out.trans (hb9.mono HB.out.size)) (by omega)
  have hlt : w.heap.size < W2.heap.size := by have := (Array.getElem?_eq_some_iff.1 HY.out).1; omega
  have hz : w9.heap.size ≤ W8.heap.size := by rw [hW8, size_set, size_set, size_set, size_set]; exact Nat.le_refl _
  have hff := (hf9.off (Y := w.heap.size + 1) (Array.getElem?_eq_some_iff.1 HY.out).1 hs hz).mono (Nat.le_of_lt hlt)
  have HE := Lib.hid (And.intro hbox (And.intro hbw hff))
  have HW8 := Lib.hid hW8
  clear hb9 hf9 h9 fm hW8 hbox hs hbl hbw hlt hz hff
  dsimp only [Rn.v]
  go_wp2_with fail
  rw [← HW8.out]
  refine bodyPost_ret (v := .agg #[.int .i64 mk, .int .i64 mi, .int .i64 mj, .slice mo mn mc]) (results_cell_row rfl _ _ (w.heap.size + 1) 24 _ (0, 0) _ rfl HE.out.1 Try.underlying24 rfl (by as_aux_lemma => kernel_rfl)) rfl ⟨⟨mk, mi, mj, mo, mn, mc⟩, rfl, HE.out.2.1, HE.out.2.2⟩
end Go.Proofs.Ytnnffcfdokejbaa.rd
