/-
  Layer 8: the reference's pool in memory.
-/
import Derived.Test.YtnnffcfdokejbaaPa
namespace Go.Proofs.Ytnnffcfdokejbaa.rd
open Go.RowKit

/-- The node itself is found in a pool, or comes behind it. -/
def endPut (L : List Gr) (g : Gr) : List Gr × Nat := match L.findIdx? (fun x => likeG x g) with
  | some q => (L, q)
  | none => (L ++ [g], L.length)
theorem endPut_more (L : List Gr) (g : Gr) : L.length ≤ (endPut L g).1.length := by
  unfold endPut
  split
  · exact Nat.le_refl _
  · show _ ≤ List.length (_ ++ _)
    rw [List.length_append]
    exact Nat.le_add_right _ _
theorem endPut_some {L : List Gr} {g : Gr} {q : Nat} (h : q < L.length) (hq : likeG L[q] g = true) (hn : ∀ (i : Nat) (hi : i < L.length), i < q → likeG L[i] g = false) : endPut L g = (L, q) := by
  have : L.findIdx? (fun x => likeG x g) = some q := by
    rw [List.findIdx?_eq_some_iff_getElem]
    exact ⟨h, hq, fun j hj => by simp [hn j (by omega) hj]⟩
  unfold endPut
  rw [this]
theorem endPut_none {L : List Gr} {g : Gr} (hn : ∀ (i : Nat) (hi : i < L.length), likeG L[i] g = false) : endPut L g = (L ++ [g], L.length) := by
  have : L.findIdx? (fun x => likeG x g) = none := by
    rw [List.findIdx?_eq_none_iff]
    intro x hx
    obtain ⟨i, hi, rfl⟩ := List.getElem_of_mem hx
    exact hn i hi
  unfold endPut
  rw [this]
mutual
/-- A tree is put into a pool: the pool, and the tree's number. -/
def putT (s : ByteArray) : Tree → List Gr → List Gr × Nat
  | .mk k i j l, L => endPut (putTs s l L).1 ⟨k, B ((s.data.toList.drop i.toNat).take (j.toNat - i.toNat)), (putTs s l L).2⟩
def putTs (s : ByteArray) : List Tree → List Gr → List Gr × List Int
  | [], L => (L, [])
  | t :: l, L => ((putTs s l (putT s t L).1).1, ((putT s t L).2 : Int) :: (putTs s l (putT s t L).1).2)
end
theorem putTs_append (s : ByteArray) : ∀ (a b : List Tree) (L : List Gr), putTs s (a ++ b) L = ((putTs s b (putTs s a L).1).1, (putTs s a L).2 ++ (putTs s b (putTs s a L).1).2)
  | [], b, L => by rw [putTs]; rfl
  | t :: a, b, L => by
    show putTs s (t :: (a ++ b)) L = _
    rw [putTs, putTs, putTs_append s a b]
    rfl
theorem putTs_snoc {s : ByteArray} {l : List Tree} {q : Nat} (h : q < l.length) (L : List Gr) : putTs s (l.take (q + 1)) L = ((putT s l[q] (putTs s (l.take q) L).1).1, (putTs s (l.take q) L).2 ++ [((putT s l[q] (putTs s (l.take q) L).1).2 : Int)]) := by
  rw [List.take_add_one, List.getElem?_eq_getElem h, putTs_append]
  show (_, _ ++ (putTs s [l[q]] _).2) = _
  show ((putTs s [l[q]] _).1, _) = _
  rw [putTs, putTs]
theorem putTs_len (s : ByteArray) : ∀ (l : List Tree) (L : List Gr), (putTs s l L).2.length = l.length
  | [], L => by rw [putTs]; rfl
  | t :: l, L => by
    rw [putTs]
    show _ + 1 = _ + 1
    rw [putTs_len s l]
mutual
theorem putT_more (s : ByteArray) : ∀ (t : Tree) (L : List Gr), L.length ≤ (putT s t L).1.length
  | .mk k i j l, L => by
    rw [putT]
    exact Nat.le_trans (putTs_more s l L) (endPut_more _ _)
theorem putTs_more (s : ByteArray) : ∀ (l : List Tree) (L : List Gr), L.length ≤ (putTs s l L).1.length
  | [], L => by rw [putTs]; exact Nat.le_refl _
  | t :: l, L => by
    rw [putTs]
    exact Nat.le_trans (putT_more s t L) (putTs_more s l _)
end
theorem putTs_take {s : ByteArray} {l : List Tree} (q : Nat) (L : List Gr) : (putTs s (l.take q) L).1.length ≤ (putTs s l L).1.length := by
  have e := putTs_append s (l.take q) (l.drop q) L
  rw [List.take_append_drop] at e
  rw [e]
  exact putTs_more s _ _
/-- A pool in memory. -/
structure PoolR (w : World) (b : Nat) (D : Nat → Prop) (L : List Gr) (vL : Value) (R : List Gn) : Prop where
  cell : w.heap[b]? = some (.cells #[vL] 84 (0, 0))
  row : Mine gr w 0 vL R
  len : R.length = L.length
  ties : ∀ (i : Nat) (h : i < L.length) (h2 : i < R.length), GTie w D L[i] R[i]
  dead : ∀ k, D k → k < w.heap.size ∧ k ≠ b ∧ vL.ownBlock ≠ some k
theorem PoolR.keep {w w' : World} {b : Nat} {D : Nat → Prop} {L : List Gr} {vL : Value} {R : List Gn} (h : PoolR w b D L vL R) (hz : w.heap.size ≤ w'.heap.size) (hb : w'.heap[b]? = w.heap[b]?) (hv : ∀ k, vL.ownBlock = some k → w'.heap[k]? = w.heap[k]?) (hd : ∀ k, D k → w'.heap[k]? = w.heap[k]?) : PoolR w' b D L vL R :=
  ⟨hb.trans h.cell, h.row.keep (fun k hk _ => hv k hk), h.len, fun i h1 h2 => (h.ties i h1 h2).keep hd (fun _ h => h), fun k hk => ⟨Nat.lt_of_lt_of_le (h.dead k hk).1 hz, (h.dead k hk).2⟩⟩
theorem PoolR.below {w w' : World} {b : Nat} {D : Nat → Prop} {L : List Gr} {vL : Value} {R : List Gn} (h : PoolR w b D L vL R) (hb : Below w.heap.size w w') : PoolR w' b D L vL R :=
  h.keep hb.size (hb.block b (Array.getElem?_eq_some_iff.1 h.cell).1) (fun k hk => hb.block k (h.row.lt k hk)) (fun k hk => hb.block k (h.dead k hk).1)
/-- Within put: so many kids are in the pool. -/
structure Pu (w wr : World) (b X : Nat) (k i j : Int) (vn : Value) (ps : ByteArray) (O : Nat → Prop) (L : List Gr) (ids : List Int) (D : Nat → Prop) (vL : Value) (R : List Gn) (vK : Value) : Prop where
  m : Marked O w wr
  x0 : wr.heap[X]? = some (.cells #[.int .i64 k, .int .i64 i, .int .i64 j, vn] 24 (0, 0))
  x1 : wr.heap[X + 1]? = some (.cells #[.int .i64 k, .string ps, vK] 46 (0, 0))
  pool : PoolR wr b D L vL R
  old : ∀ q, vL.ownBlock = some q → O q ∨ X + 2 ≤ q
  kids : Mine it wr (X + 2) vK ids
  apart : ∀ q, D q → q ≠ X ∧ q ≠ X + 1 ∧ vK.ownBlock ≠ some q
section
variable {w wr w9 : World} {b X : Nat} {k i j : Int} {vn : Value} {ps : ByteArray} {O : Nat → Prop} {L L9 : List Gr} {ids : List Int} {D D9 : Nat → Prop} {vL vL9 vK : Value} {R R9 : List Gn}
theorem Pu.more (h : Pu w wr b X k i j vn ps O L ids D vL R vK) (hb : Below wr.heap.size wr w9) : Pu w w9 b X k i j vn ps O L ids D vL R vK :=
  ⟨h.m.trans (Marked.of_below (D := O) hb) (fun _ hk => .inl hk), (hb.block _ (Array.getElem?_eq_some_iff.1 h.x0).1).trans h.x0, (hb.block _ (Array.getElem?_eq_some_iff.1 h.x1).1).trans h.x1, h.pool.below hb, h.old, h.kids.below hb, h.apart⟩
/-- One more kid's number. -/
theorem Pu.push (h : Pu w wr b X k i j vn ps O L ids D vL R vK) (hX : w.heap.size = X) (hO : ∀ q, O q → q < X) (hOb : O b) (hl : ids.length + 1 ≤ 2932031007318)
    {u : World} (hu : Below wr.heap.size wr u) (hp9 : PoolR w9 b D9 L9 vL9 R9) (hm9 : Marked (fun q => q = b ∨ vL.ownBlock = some q) u w9) (hD9 : ∀ q, D9 q → D q ∨ u.heap.size ≤ q) (hv9 : ∀ q, vL9.ownBlock = some q → vL.ownBlock = some q ∨ u.heap.size ≤ q) (id : Int) :
    ∀ u2, Below w9.heap.size w9 u2 → ∀ ad, u2.heap[ad]? = some (.cells #[.int .i64 id] 3 (0, 0)) →
      ∃ v' w', (∀ ty, (Builtin.append_ #[32, 32] ty #[vK, .slice (some ⟨ad, 0, none⟩) 1 1]).run Try.prog u2 = .ok v' w') ∧ (∃ g cap', v' = .slice (some ⟨g, 0, none⟩) (ids.length + 1) cap') ∧ w'.cell? ⟨X + 1, 2, none⟩ = some vK ∧ w'.frozen? ⟨X + 1, 2, none⟩ = false ∧ X + 1 < w'.heap.size ∧
        Pu w (w'.setCell ⟨X + 1, 2, none⟩ v') b X k i j vn ps O L9 (ids ++ [id]) D9 vL9 R9 v' := by
  intro u2 hu2 ad had
  have hk : ∀ q, vK.ownBlock = some q → X + 2 ≤ q ∧ q < wr.heap.size := fun q hq => World.ownsRow.lt h.kids q hq
  have hz1 := hu.size
  have hz2 := hm9.size
  have hz3 := hu2.size
  have hXz := (Array.getElem?_eq_some_iff.1 h.x1).1
  have hbX := hO b hOb
  -- what stays from wr to u2
  have hst : ∀ q, q < wr.heap.size → q ≠ b → vL.ownBlock ≠ some q → u2.heap[q]? = wr.heap[q]? := fun q hq h1 h2 =>
    (hu2.block q (by omega)).trans ((hm9.keep q (by omega) (fun e => e.elim h1 h2)).trans (hu.block q hq))
  have hvX : ∀ q, q = X ∨ q = X + 1 → vL.ownBlock ≠ some q := fun q hq e => by
    rcases h.old q e with h1 | h1
    · have := hO q h1
      omega
    · omega
  have hx0 := (hst X (by omega) (by omega) (hvX X (.inl rfl))).trans h.x0
  have hx1 := (hst (X + 1) hXz (by omega) (hvX (X + 1) (.inr rfl))).trans h.x1
  have hkid : Mine it u2 (X + 2) vK ids := h.kids.keep (fun q hq hqz => hst q hqz (by have := hk q hq; omega) (h.kids.differs h.pool.row (by decide) q hq))
  obtain ⟨g, cap', w', h3, h4, h5, h6⟩ := app_lies (F := it) (x := id) hkid had (by omega) (by simp [maxLen]; omega) (by show (ids.length + 1) * 8 ≤ _; omega)
  have hw' := h5.size
  have hold : ∀ q, q < u2.heap.size → vK.ownBlock ≠ some q → w'.heap[q]? = u2.heap[q]? := fun q hq hn => h5.block q hq (fun e => hn e.symm)
  have hg : (vK.ownBlock = some g ∧ X + 2 ≤ g ∧ g < wr.heap.size) ∨ g = u2.heap.size := by
    rcases h6 with h6 | h6
    · exact .inl ⟨h6, hk g h6⟩
    · exact .inr h6
  have hnX : ∀ q, q < X + 2 → vK.ownBlock ≠ some q := fun q hq e => by have := hk q e; omega
  have hx1' : w'.heap[X + 1]? = _ := (hold _ (by omega) (hnX _ (by omega))).trans hx1
  obtain ⟨⟨_, _, b2⟩, bf⟩ := three_cells hx1'
  have hrun : ∀ q, q ≠ X + 1 → (w'.setCell ⟨X + 1, 2, none⟩ (.slice (some ⟨g, 0, none⟩) (ids.length + 1) cap')).heap[q]? = w'.heap[q]? := fun q hq => set_one _ _ _ _ _ hq
  have hsz9 : ∀ q, vL9.ownBlock = some q → q < w9.heap.size := fun q hq => hp9.row.lt q hq
  have hDq : ∀ q, D9 q → q < w9.heap.size ∧ q ≠ X ∧ q ≠ X + 1 ∧ vK.ownBlock ≠ some q ∧ q ≠ g := fun q hq => by
    have h1 := (hp9.dead q hq).1
    rcases hD9 q hq with h2 | h2
    · obtain ⟨a1, a2, a3⟩ := h.apart q h2
      refine ⟨h1, a1, a2, a3, ?_⟩
      rintro rfl
      rcases hg with hg | hg
      · exact a3 hg.1
      · omega
    · refine ⟨h1, by omega, by omega, fun e => by have := hk q e; omega, ?_⟩
      rintro rfl
      rcases hg with hg | hg <;> omega
  refine ⟨_, w', h3, ⟨g, cap', rfl⟩, b2, bf 2, by omega, ⟨?_, ?_, ?_, ?_, ?_, ?_, ?_⟩⟩
  · have m1 := h.m.trans (Marked.of_below (D := O) hu) (fun _ hk => .inl hk)
    have m2 := m1.trans hm9 (fun q hq => by
      rcases hq with hq | hq
      · exact .inl (by rw [hq]; exact hOb)
      · rcases h.old q hq with h1 | h1
        · exact .inl h1
        · exact .inr (by omega))
    have m3 := m2.trans (Marked.of_below (D := O) hu2) (fun _ hk => .inl hk)
    have hwz := h.m.size
    exact ⟨h5.os.trans m3.os, h5.tape.trans m3.tape, h5.output.trans m3.output, by rw [size_set]; exact Nat.le_trans m3.size hw', fun q hq hn => (hrun q (by omega)).trans ((hold q (by omega) (hnX q (by omega))).trans (m3.keep q hq hn))⟩
  · exact (hrun X (by omega)).trans ((hold X (by omega) (hnX X (by omega))).trans hx0)
  · exact heap_setCell_same _ _ 2 _ _ _ hx1'
  · refine (hp9.below hu2).keep (by rw [size_set]; exact hw') ?_ (fun q hq => ?_) (fun q hq => ?_)
    · exact (hrun b (by omega)).trans (hold b (by omega) (hnX b (by omega)))
    · have hq9 := hsz9 q hq
      refine (hrun q ?_).trans (hold q (by omega) ?_)
      · rintro rfl
        rcases hv9 _ hq with h1 | h1
        · exact hvX _ (.inr rfl) h1
        · omega
      · intro e
        exact hkid.differs (hp9.below hu2).row (by decide) q e hq
    · obtain ⟨a1, a2, a3, a4, _⟩ := hDq q hq
      exact (hrun q a3).trans (hold q (by omega) a4)
  · intro q hq
    rcases hv9 q hq with h1 | h1
    · exact h.old q h1
    · exact .inr (by omega)
  · exact h4.keep (fun q hq _ => hrun q (by simp only [Value.ownBlock, Option.some.injEq] at hq; omega))
  · intro q hq
    obtain ⟨a1, a2, a3, a4, a5⟩ := hDq q hq
    refine ⟨a2, a3, fun e => ?_⟩
    simp only [Value.ownBlock, Option.some.injEq] at e
    exact a5 e.symm
/-- The node itself behind the pool. -/
theorem Pu.add {o : Option Addr} {n c : Nat} (h : Pu w wr b X k i j vn ps O L ids D vL R (.slice o n c)) (hX : w.heap.size = X) (hO : ∀ q, O q → q < X) (hOb : O b) (hOv : ∀ q, O q → q = b ∨ vL.ownBlock = some q ∨ True) (hl : L.length + 1 ≤ 2932031007318) (hn : ids.length = n) (hnl : n ≤ 2932031007317) :
    ∀ u2, Below wr.heap.size wr u2 → ∀ ad, u2.heap[ad]? = some (.cells #[.int .i64 k, .string ps, .slice o n c] 46 (0, 0)) →
      ∃ v' w', (∀ ty, (Builtin.append_ #[82, 82] ty #[vL, .slice (some ⟨ad, 0, none⟩) 1 1]).run Try.prog u2 = .ok v' w') ∧ (∃ g cap', v' = .slice (some ⟨g, 0, none⟩) (L.length + 1) cap') ∧ w'.cell? ⟨b, 0, none⟩ = some vL ∧ w'.frozen? ⟨b, 0, none⟩ = false ∧ b < w'.heap.size ∧
        (w'.setCell ⟨b, 0, none⟩ v').cell? ⟨b, 0, none⟩ = some v' ∧ Marked O w (w'.setCell ⟨b, 0, none⟩ v') ∧ (∀ q, v'.ownBlock = some q → O q ∨ X + 2 ≤ q) ∧ PoolR (w'.setCell ⟨b, 0, none⟩ v') b (fun q => D q ∨ (Value.slice o n c).ownBlock = some q) (L ++ [⟨k, ps, ids⟩]) v' (R ++ [⟨k, ps, o, n, c⟩]) := by
  intro u2 hu2 ad had
  have h2 := h.more hu2
  have hbX := hO b hOb
  have hXz := (Array.getElem?_eq_some_iff.1 h2.x1).1
  have hlR := h.pool.len
  obtain ⟨g, cap', w', h3, h4, h5, h6⟩ := app_lies (F := gr) (x := ⟨k, ps, o, n, c⟩) h2.pool.row had (Nat.zero_le _) (by simp [maxLen]; omega) (by show (R.length + 1) * 48 ≤ _; omega)
  rw [hlR] at h3 h4
  have hw' := h5.size
  have hvb : vL.ownBlock ≠ some b := h2.pool.row.ne h2.pool.cell (by decide)
  have hold : ∀ q, q < u2.heap.size → vL.ownBlock ≠ some q → w'.heap[q]? = u2.heap[q]? := fun q hq hn => h5.block q hq (fun e => hn e.symm)
  have hbz := (Array.getElem?_eq_some_iff.1 h2.pool.cell).1
  have hcb : w'.heap[b]? = some (.cells #[vL] 84 (0, 0)) := (hold b hbz hvb).trans h2.pool.cell
  have hgz : g ≠ b ∧ (vL.ownBlock = some g ∨ g = u2.heap.size) := by
    refine ⟨?_, h6⟩
    rintro rfl
    rcases h6 with h6 | h6
    · exact hvb h6
    · omega
  have hrun : ∀ q, q ≠ b → (w'.setCell ⟨b, 0, none⟩ (.slice (some ⟨g, 0, none⟩) (L.length + 1) cap')).heap[q]? = w'.heap[q]? := fun q hq => set_one _ _ _ _ _ hq
  have hbox : (w'.setCell ⟨b, 0, none⟩ (.slice (some ⟨g, 0, none⟩) (L.length + 1) cap')).heap[b]? = some (.cells #[.slice (some ⟨g, 0, none⟩) (L.length + 1) cap'] 84 (0, 0)) := heap_setCell_same _ _ 0 _ _ _ hcb
  have hkq : ∀ q, (Value.slice o n c).ownBlock = some q → X + 2 ≤ q ∧ q < u2.heap.size := fun q hq => World.ownsRow.lt h2.kids q hq
  have hDq : ∀ q, (D q ∨ (Value.slice o n c).ownBlock = some q) → q < u2.heap.size ∧ q ≠ b ∧ vL.ownBlock ≠ some q ∧ q ≠ g := fun q hq => by
    have a : q < u2.heap.size ∧ q ≠ b ∧ vL.ownBlock ≠ some q := by
      rcases hq with hq | hq
      · exact h2.pool.dead q hq
      · have := hkq q hq
        exact ⟨this.2, by omega, h2.kids.differs h2.pool.row (by decide) q hq⟩
    refine ⟨a.1, a.2.1, a.2.2, ?_⟩
    rintro rfl
    rcases hgz.2 with h | h
    · exact a.2.2 h
    · omega
  have hm2 := h2.m
  have hwz := hm2.size
  refine ⟨_, w', h3, ⟨g, cap', rfl⟩, by rw [cell_of_row w' b 0 _ _ _ hcb]; rfl, frozen_of_row w' b 0 _ _ hcb, by omega, by rw [cell_of_row _ b 0 _ _ _ hbox]; rfl, ⟨h5.os.trans hm2.os, h5.tape.trans hm2.tape, h5.output.trans hm2.output, by rw [size_set]; omega, fun q hq hn => ?_⟩, fun q hq => ?_, ⟨hbox, ?_, ?_, ?_, ?_⟩⟩
  · have hqb : q ≠ b := fun e => hn (by rw [e]; exact hOb)
    have hqv : vL.ownBlock ≠ some q := fun e => by
      rcases h.old q e with h1 | h1
      · exact hn h1
      · omega
    exact (hrun q hqb).trans ((hold q (by omega) hqv).trans (hm2.keep q hq hn))
  · simp only [Value.ownBlock, Option.some.injEq] at hq
    subst hq
    rcases hgz.2 with h1 | h1
    · exact h.old g h1
    · exact .inr (by omega)
  · exact h4.keep (fun q hq _ => hrun q (by simp only [Value.ownBlock, Option.some.injEq] at hq; rw [← hq]; exact hgz.1))
  · rw [List.length_append, List.length_append, hlR]
    rfl
  · intro q h1 h1'
    have hsame : ∀ q, (D q ∨ (Value.slice o n c).ownBlock = some q) → (w'.setCell ⟨b, 0, none⟩ (.slice (some ⟨g, 0, none⟩) (L.length + 1) cap')).heap[q]? = u2.heap[q]? := fun q hq => by
      obtain ⟨a1, a2, a3, _⟩ := hDq q hq
      exact (hrun q a2).trans (hold q a1 a3)
    by_cases hq : q < L.length
    · rw [List.getElem_append_left hq, List.getElem_append_left (by omega)]
      exact (h2.pool.ties q hq (by omega)).keep (fun q hq => hsame q (.inl hq)) (fun q hq => .inl hq)
    · have e1 : q = L.length := by rw [List.length_append] at h1; simp at h1; omega
      subst e1
      have e2 : (R ++ [(⟨k, ps, o, n, c⟩ : Gn)])[L.length]'h1' = ⟨k, ps, o, n, c⟩ := by
        rw [List.getElem_append_right (by omega)]
        simp
      rw [e2, List.getElem_append_right (Nat.le_refl _)]
      simp only [Nat.sub_self, List.getElem_cons_zero]
      obtain ⟨gv, ov, cv, hv, hov, _⟩ := Mine.shape h2.kids
      simp only [Value.slice.injEq] at hv
      have hrw := h2.kids.row
      refine GTie.keep (w := u2) (D := fun q => (Value.slice o n c).ownBlock = some q) ⟨rfl, rfl, gv, 0, hrw, by rw [← hn], by rw [hn]; exact hnl, fun hne => ?_⟩ (fun q hq => hsame q (.inr hq)) (fun q hq => .inr hq)
      have := hov hne
      exact ⟨by rw [hv.1]; exact this, by show (Value.slice o n c).ownBlock = some gv; rw [hv.1, this]; rfl⟩
  · intro q hq
    obtain ⟨a1, a2, a3, a4⟩ := hDq q hq
    refine ⟨by rw [size_set]; omega, a2, fun e => ?_⟩
    simp only [Value.ownBlock, Option.some.injEq] at e
    exact a4 e.symm
end
end Go.Proofs.Ytnnffcfdokejbaa.rd
