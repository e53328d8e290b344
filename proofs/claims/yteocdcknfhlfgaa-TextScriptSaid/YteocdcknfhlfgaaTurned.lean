/-
  A step that clones: what stands between.
-/
import Derived.Test.YteocdcknfhlfgaaStep
namespace Go.Proofs.Yteocdcknfhlfgaa.buf
open Go.RowKit

section
variable {w0 : World} {P Q g h g2 h2 : Nat} {s s2 : ByteArray} {W : World}
theorem other_block {W : World} {N M : Nat} {cs cs' : Array Value} {t t' : TypeId} {f f' : Nat × Nat} (hN : W.heap[N]? = some (.cells cs t f)) (hM : W.heap[M]? = some (.cells cs' t' f')) (h : t ≠ t') : N ≠ M := by
  rintro rfl
  rw [hN] at hM
  simp only [Option.some.injEq, Obj.cells.injEq] at hM
  exact h hM.2.1
theorem Law.left (x : Law w0 P Q g h g2 h2 s s2 W) : BufAt ((W.setCell ⟨Q, 0, none⟩ (.pointer (some ⟨g, 0, none⟩))).setCell ⟨Q, 1, none⟩ (.pointer (some ⟨h, 0, none⟩))) g s.data.toList :=
  x.b1.aside (((Save.refl W.heap.size Q W).setCell 0 _).setCell 1 _) x.pQ (by decide) (by decide) (fun z => pair_ne x.b1 x.pQ (by decide) z.symm)
/-- What the clone finds. -/
theorem Law.between (x : Law w0 P Q g h g2 h2 s s2 W) {E : Nat} {cs : Array Value} (hE : W.heap[E]? = some (.cells cs 43 (0, 0))) {W2 : World}
    (hw : Below ((W.setCell ⟨Q, 0, none⟩ (.pointer (some ⟨g, 0, none⟩))).setCell ⟨Q, 1, none⟩ (.pointer (some ⟨h, 0, none⟩))).heap.size ((W.setCell ⟨Q, 0, none⟩ (.pointer (some ⟨g, 0, none⟩))).setCell ⟨Q, 1, none⟩ (.pointer (some ⟨h, 0, none⟩))) W2) :
    W2.cell? ⟨P, 1, none⟩ = some (.pointer (some ⟨h, 0, none⟩)) ∧ W2.cell? ⟨h, 0, none⟩ = some (.string s) ∧ (∀ i, W2.frozen? ⟨P, i, none⟩ = false) ∧ W2.cell? ⟨P, 0, none⟩ = some (.pointer (some ⟨g, 0, none⟩)) ∧
    (((W2.setCell ⟨P, 0, none⟩ (.pointer (some ⟨W.heap.size, 0, none⟩))).setCell ⟨P, 1, none⟩ (.pointer (some ⟨W2.heap.size, 0, none⟩))).alloc (.cells #[.string s] 49)).heap[E]? = some (.cells cs 43 (0, 0)) := by
  obtain ⟨l1, l2, l3, l4, l5, l6, l7⟩ := x.low
  have hz1 : ((W.setCell ⟨Q, 0, none⟩ (.pointer (some ⟨g, 0, none⟩))).setCell ⟨Q, 1, none⟩ (.pointer (some ⟨h, 0, none⟩))).heap.size = W.heap.size := by simp [World.setCell]
  have sQ : Save W.heap.size Q W ((W.setCell ⟨Q, 0, none⟩ (.pointer (some ⟨g, 0, none⟩))).setCell ⟨Q, 1, none⟩ (.pointer (some ⟨h, 0, none⟩))) := ((Save.refl _ _ _).setCell 0 _).setCell 1 _
  generalize (W.setCell ⟨Q, 0, none⟩ (.pointer (some ⟨g, 0, none⟩))).setCell ⟨Q, 1, none⟩ (.pointer (some ⟨h, 0, none⟩)) = W1 at hw hz1 sQ
  have get : ∀ {N : Nat} {c : Array Value} {t : TypeId}, W.heap[N]? = some (.cells c t (0, 0)) → N ≠ Q → W2.heap[N]? = some (.cells c t (0, 0)) := fun {N c t} hN hne => by
    have hlt := (Array.getElem?_eq_some_iff.1 hN).1
    exact (hw.block N (by rw [hz1]; exact hlt)).trans ((sQ.block N hlt hne).trans hN)
  have p2 := get x.pP l7
  have r2 : RefAt W2 h s := get x.r1 (other_block x.r1 x.pQ (by decide))
  have e2 := get hE (other_block hE x.pQ (by decide))
  have sP : Save W2.heap.size P W2 ((W2.setCell ⟨P, 0, none⟩ (.pointer (some ⟨W.heap.size, 0, none⟩))).setCell ⟨P, 1, none⟩ (.pointer (some ⟨W2.heap.size, 0, none⟩))) := ((Save.refl _ _ _).setCell 0 _).setCell 1 _
  have e3 := (sP.block E (Array.getElem?_eq_some_iff.1 e2).1 (other_block e2 p2 (by decide))).trans e2
  refine ⟨by simp [World.cell?, p2], r2.cell, fun i => frozen_of_row W2 P i _ _ p2, by simp [World.cell?, p2], ?_⟩
  exact (((Below.refl _ _).alloc (Nat.le_refl _) (.cells #[.string s] 49)).block E (Array.getElem?_eq_some_iff.1 e3).1).trans e3
theorem step_cells {W : World} {E : Nat} {k n m : Int} {ev : Value} (h : W.heap[E]? = some (.cells #[.int .i64 k, .int .i64 n, .int .i64 m, ev] 43 (0, 0))) :
    W.cell? ⟨E, 0, none⟩ = some (.int .i64 k) ∧ W.cell? ⟨E, 1, none⟩ = some (.int .i64 n) ∧ W.cell? ⟨E, 2, none⟩ = some (.int .i64 m) ∧ W.cell? ⟨E, 3, none⟩ = some ev := by
  refine ⟨?_, ?_, ?_, ?_⟩ <;> simp [World.cell?, h]
theorem Law.step_kept {W' : World} (x : Law w0 P Q g h g2 h2 s s2 W) {E : Nat} {cs : Array Value} (hE : W.heap[E]? = some (.cells cs 43 (0, 0))) (hs : Save W.heap.size g W W') : W'.heap[E]? = some (.cells cs 43 (0, 0)) := keep_block x.b1 hs hE (by decide)
end
end Go.Proofs.Yteocdcknfhlfgaa.buf
