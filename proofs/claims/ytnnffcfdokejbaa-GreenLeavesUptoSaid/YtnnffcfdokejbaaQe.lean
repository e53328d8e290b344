/-
  Layer 8: what the law GreenTells wants of the marks.
-/
import Derived.Test.YtnnffcfdokejbaaQc
namespace Go.Proofs.Ytnnffcfdokejbaa.rd
open Go.RowKit

theorem OTies.at {w : World} : ∀ {L : List Tree} {R : List Rn} {D : Nat → Prop}, OTies w D L R → ∀ (q : Nat) (h1 : q < L.length) (h2 : q < R.length), OTie w D L[q] R[q]
  | [], _, _, _, q, h1, _ => by simp at h1
  | t :: l, R, D, h, q, h1, h2 => by
    rw [OTies] at h
    obtain ⟨n, R', D1, D2, rfl, a1, a2, a3, a4, a5⟩ := h
    cases q with
    | zero => exact OTie.keep (fun _ _ => rfl) a1 _ _ a4
    | succ q => exact OTie.keep (fun _ _ => rfl) a2 _ _ (OTies.at a5 q (by simpa using h1) (by simpa using h2))
/-- One of a row of trees. -/
theorem PR.at {B : Nat} {u : World} {o : Option Addr} {K c : Nat} {L : List Tree} (h : PR B u (.slice o K c) L) (hK : L.length = K) (q : Nat) (hq : q < K) :
    ∃ g k i j o' n' c', o = some ⟨g, 0, none⟩ ∧ g < u.heap.size ∧ u.cell? ⟨g, q * 4, none⟩ = some (.int .i64 k) ∧ u.cell? ⟨g, q * 4 + 1, none⟩ = some (.int .i64 i) ∧ u.cell? ⟨g, q * 4 + 2, none⟩ = some (.int .i64 j) ∧ u.cell? ⟨g, q * 4 + 3, none⟩ = some (.slice o' n' c') ∧ Hid (TieB u (L[q]'(by rw [hK]; exact hq)) ⟨k, i, j, o', n', c'⟩) := by
  obtain ⟨R, E, h1, h2, h3⟩ := h
  have hlR := h2.length
  have hqR : q < R.length := by omega
  obtain ⟨g, o1, c1, hv, ho, _⟩ := h1.shape
  simp only [Value.slice.injEq] at hv
  obtain ⟨e1, e2, e3⟩ := hv
  have ho' := ho (by intro e; rw [e] at hqR; simp at hqR)
  rw [← e1] at ho'
  subst ho'
  obtain ⟨a0, a1, a2, a3⟩ := cells_nd h1.cells q hqR
  simp only [Nat.zero_add] at a0 a1 a2 a3
  have hg := h1.lt g rfl
  have ht := h2.at q (by omega) hqR
  refine ⟨g, R[q].k, R[q].i, R[q].j, R[q].o, R[q].n, R[q].c, rfl, hg, a0, a1, a2, a3, Lib.hid ⟨E, OTie.tie _ _ ht, fun k hk => (h3 k hk).2.1⟩⟩
/-- While a row's trees are written over. -/
structure Mk2 (Z3 : Nat) (wB wr : World) (E : Nat → Prop) (v : Value) (L : List Tree) (R : List Rn) (q : Nat) : Prop where
  m : Marked E wB wr
  row : Mine nd wr Z3 v R
  own : ∃ E', OTies wr E' (L.drop q) (R.drop q) ∧ ∀ g, E' g → E g
theorem Mk2.go {Z3 : Nat} {wB wr : World} {E : Nat → Prop} {o : Option Addr} {K c : Nat} {L : List Tree} {R : List Rn} {q : Nat} (h : Mk2 Z3 wB wr E (.slice o K c) L R q) (hK : L.length = K) (hR : R.length = K) (hE : ∀ g, E g → g < wB.heap.size ∧ (Value.slice o K c).ownBlock ≠ some g) (hq : q < K) :
    ∃ g k i j o' n' c', o = some ⟨g, 0, none⟩ ∧ g < wr.heap.size ∧ wr.cell? ⟨g, q * 4, none⟩ = some (.int .i64 k) ∧ wr.cell? ⟨g, q * 4 + 1, none⟩ = some (.int .i64 i) ∧ wr.cell? ⟨g, q * 4 + 2, none⟩ = some (.int .i64 j) ∧ wr.cell? ⟨g, q * 4 + 3, none⟩ = some (.slice o' n' c') ∧ ∀ u, Below wr.heap.size wr u → Calls Try.prog 23 #[.agg #[.int .i64 k, .int .i64 i, .int .i64 j, .slice o' n' c']] u fun e w' => (∃ v, e = .returned v) ∧ Mk2 Z3 wB w' E (.slice o K c) L R (q + 1) := by
  have hqR : q < R.length := by omega
  have hqL : q < L.length := by omega
  obtain ⟨g, o1, c1, hv, ho, _⟩ := h.row.shape
  simp only [Value.slice.injEq] at hv
  obtain ⟨e1, e2, e3⟩ := hv
  have ho' := ho (by intro e; rw [e] at hqR; simp at hqR)
  rw [← e1] at ho'
  subst ho'
  obtain ⟨a0, a1, a2, a3⟩ := cells_nd h.row.cells q hqR
  simp only [Nat.zero_add] at a0 a1 a2 a3
  have hg := h.row.lt g rfl
  obtain ⟨E', hot, hE'⟩ := h.own
  rw [List.drop_eq_getElem_cons hqL, List.drop_eq_getElem_cons hqR, OTies] at hot
  obtain ⟨n0, R0, D1, D2, he, h1, h2, h3, h4, h5⟩ := hot
  simp only [List.cons.injEq] at he
  obtain ⟨rfl, rfl⟩ := he
  have hz := h.m.size
  refine ⟨g, R[q].k, R[q].i, R[q].j, R[q].o, R[q].n, R[q].c, rfl, hg, a0, a1, a2, a3, fun u hu => ?_⟩
  have hDu : ∀ k, E' k → k < wr.heap.size := fun k hk => by have := (hE k (hE' k hk)).1; omega
  have hm := mark_t L[q] u D1 R[q] (OTie.keep (fun k hk => hu.block k (hDu k (h1 k hk))) (fun _ h => h) _ _ h4) (fun k hk => Nat.lt_of_lt_of_le (hDu k (h1 k hk)) hu.size)
  refine hm.mono fun e w' ⟨hv, h9⟩ => ⟨hv, (h.m.trans (Marked.of_below (D := fun _ => False) hu) (fun _ hk => hk.elim)).trans h9 (fun k hk => .inl (hE' k (h1 k hk))), (h.row.below hu).keep (fun k hk hlt => h9.keep k hlt (fun e => (hE k (hE' k (h1 k e))).2 hk)), D2, OTies.keep (fun k hk => (h9.keep k (Nat.lt_of_lt_of_le (hDu k (h2 k hk)) hu.size) (fun e => h3 k e hk)).trans (hu.block k (hDu k (h2 k hk)))) (fun _ h => h) _ _ h5, fun k hk => hE' k (h2 k hk)⟩
theorem Marked.low {D : Nat → Prop} {w w' : World} {B : Nat} (h : Marked D w w') (hD : ∀ g, D g → B ≤ g) (hB : B ≤ w.heap.size) : Below B w w' := ⟨h.os, h.tape, h.output, h.size, fun k hk => h.keep k (by omega) (fun e => by have := hD k e; omega)⟩
/-- An element behind a row of one's own. -/
theorem push_end {W3 w6 : World} {Z3 : Nat} {o : Option Addr} {K c : Nat} {R : List Rn} (hZ : W3.heap.size = Z3) (hb : Below W3.heap.size W3 w6) (hm : Mine nd w6 Z3 (.slice o K c) R) (hR : R.length = K) (hl : K ≤ 2932031007317) (x : Rn) :
    ∀ u, Below w6.heap.size w6 u → ∀ ad, u.heap[ad]? = some (.cells #[.int .i64 x.k, .int .i64 x.i, .int .i64 x.j, .slice x.o x.n x.c] 24 (0, 0)) → ∃ g cap' w', (∀ ty, (Builtin.append_ #[22, 22] ty #[.slice o K c, .slice (some ⟨ad, 0, none⟩) 1 1]).run Try.prog u = .ok (.slice (some ⟨g, 0, none⟩) (K + 1) cap') w') ∧ Below W3.heap.size W3 w' := by
  intro u hu ad had
  have hbu := hb.trans (hu.mono hb.size)
  have z1 := hbu.size
  obtain ⟨g, cap', w', h3, h4, h5, h6⟩ := app_lies (F := nd) (x := x) (hm.below hu) had (by omega) (by simp [maxLen]; omega) (by show (_ + 1) * 48 ≤ _; omega)
  rw [hR] at h3
  have z2 := h5.size
  refine ⟨g, cap', w', h3, h5.os.trans hbu.os, h5.tape.trans hbu.tape, h5.output.trans hbu.output, by omega, fun k hk => (h5.block k (by omega) (fun e => ?_)).trans (hbu.block k hk)⟩
  have := (World.ownsRow.lt hm k e.symm).1
  omega
end Go.Proofs.Ytnnffcfdokejbaa.rd
