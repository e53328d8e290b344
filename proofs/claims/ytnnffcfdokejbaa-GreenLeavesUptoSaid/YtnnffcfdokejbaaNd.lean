/-
  Layer 8: trees in memory of their own.
-/
import Derived.Test.YtnnffcfdokejbaaNc
namespace Go.Proofs.Ytnnffcfdokejbaa.rd
open Go.RowKit

mutual
/-- A tree in blocks of its own, of which none is used twice. -/
def OTie (w : World) (D : Nat → Prop) : Tree → Rn → Prop
  | .mk k i j l, n => n.k = k ∧ n.i = i ∧ n.j = j ∧ n.n = l.length ∧ l.length ≤ 2932031007317 ∧ ∃ (R : List Rn) (E : Nat → Prop), Mine nd w 0 (.slice n.o n.n n.c) R ∧ (∀ g, (Value.slice n.o n.n n.c).ownBlock = some g → D g ∧ ¬ E g) ∧ (∀ g, E g → D g) ∧ OTies w E l R
def OTies (w : World) (D : Nat → Prop) : List Tree → List Rn → Prop
  | [], R => R = []
  | t :: l, R => ∃ (n : Rn) (R' : List Rn) (D1 D2 : Nat → Prop), R = n :: R' ∧ (∀ g, D1 g → D g) ∧ (∀ g, D2 g → D g) ∧ (∀ g, D1 g → ¬ D2 g) ∧ OTie w D1 t n ∧ OTies w D2 l R'
end
mutual
theorem OTie.keep {w w' : World} {D D' : Nat → Prop} (hs : ∀ g, D g → w'.heap[g]? = w.heap[g]?) (hD : ∀ g, D g → D' g) : ∀ (t : Tree) (n : Rn), OTie w D t n → OTie w' D' t n
  | .mk k i j l, n, h => by
    rw [OTie] at h ⊢
    obtain ⟨h1, h2, h3, h4, h5, R, E, h6, h7, h8, h9⟩ := h
    exact ⟨h1, h2, h3, h4, h5, R, E, h6.keep (fun g hg _ => hs g (h7 g hg).1), fun g hg => ⟨hD g (h7 g hg).1, (h7 g hg).2⟩, fun g hg => hD g (h8 g hg), OTies.keep (fun g hg => hs g (h8 g hg)) (fun _ h => h) l R h9⟩
theorem OTies.keep {w w' : World} {D D' : Nat → Prop} (hs : ∀ g, D g → w'.heap[g]? = w.heap[g]?) (hD : ∀ g, D g → D' g) : ∀ (l : List Tree) (R : List Rn), OTies w D l R → OTies w' D' l R
  | [], R, h => by rw [OTies] at h ⊢; exact h
  | t :: l, R, h => by
    rw [OTies] at h ⊢
    obtain ⟨n, R', D1, D2, h1, h2, h3, h4, h5, h6⟩ := h
    exact ⟨n, R', D1, D2, h1, fun g hg => hD g (h2 g hg), fun g hg => hD g (h3 g hg), h4, OTie.keep (fun g hg => hs g (h2 g hg)) (fun _ h => h) t n h5, OTies.keep (fun g hg => hs g (h3 g hg)) (fun _ h => h) l R' h6⟩
end
theorem OTies.length {w : World} : ∀ {l : List Tree} {R : List Rn} {D : Nat → Prop}, OTies w D l R → R.length = l.length
  | [], R, D, h => by rw [OTies] at h; subst h; rfl
  | t :: l, R, D, h => by
    rw [OTies] at h
    obtain ⟨n, R', D1, D2, rfl, _, _, _, _, h6⟩ := h
    rw [List.length_cons, List.length_cons, h6.length]
mutual
theorem OTie.tie {w : World} {D : Nat → Prop} : ∀ (t : Tree) (n : Rn), OTie w D t n → Tie w D t n
  | .mk k i j l, n, h => by
    rw [OTie] at h
    rw [Tie]
    obtain ⟨h1, h2, h3, h4, h5, R, E, h6, h7, h8, h9⟩ := h
    have hl := h9.length
    have hr := h6.row
    obtain ⟨g, off, o, cap, hc, hv, ho, hcell⟩ := hr
    simp only [Value.slice.injEq] at hv
    obtain ⟨e1, e2, e3⟩ := hv
    refine ⟨h1, h2, h3, h4, g, off, R, ⟨by omega, h5⟩, fun hne => ?_, hcell, Ties.keep (fun _ _ => rfl) h8 _ _ (OTies.ties l R h9)⟩
    have ho' := ho (fun e => hne (List.eq_nil_of_length_eq_zero (by rw [← hl, e]; rfl)))
    refine ⟨by rw [e1, ho'], (h7 g ?_).1⟩
    rw [e1, ho']
    rfl
theorem OTies.ties {w : World} {D : Nat → Prop} : ∀ (l : List Tree) (R : List Rn), OTies w D l R → Ties w D l R
  | [], R, h => by rw [OTies] at h; rw [Ties]; exact h
  | t :: l, R, h => by
    rw [OTies] at h
    rw [Ties]
    obtain ⟨n, R', D1, D2, h1, h2, h3, h4, h5, h6⟩ := h
    exact ⟨n, R', h1, Tie.keep (fun _ _ => rfl) h2 _ _ (OTie.tie t n h5), Ties.keep (fun _ _ => rfl) h3 _ _ (OTies.ties l R' h6)⟩
end
theorem OTies.nil {w : World} {D : Nat → Prop} : OTies w D [] [] := by rw [OTies]
theorem OTies.snoc {w : World} {t : Tree} {n : Rn} {D2 : Nat → Prop} (h2 : OTie w D2 t n) : ∀ {l : List Tree} {R : List Rn} {D : Nat → Prop}, OTies w D l R → (∀ g, D g → ¬ D2 g) → OTies w (fun g => D g ∨ D2 g) (l ++ [t]) (R ++ [n])
  | [], R, D, h, hd => by
    rw [OTies] at h
    subst h
    show OTies w _ [t] [n]
    rw [OTies]
    exact ⟨n, [], D2, fun _ => False, rfl, fun g hg => .inr hg, fun g hg => hg.elim, fun _ _ h => h, h2, OTies.nil⟩
  | u :: l, R, D, h, hd => by
    rw [OTies] at h
    obtain ⟨m, R', D1, D3, rfl, h3, h4, h5, h6, h7⟩ := h
    show OTies w _ (u :: (l ++ [t])) (m :: (R' ++ [n]))
    rw [OTies]
    exact ⟨m, R' ++ [n], D1, fun g => D3 g ∨ D2 g, rfl, fun g hg => .inl (h3 g hg), fun g hg => hg.elim (fun h => .inl (h4 g h)) .inr, fun g hg hx => hx.elim (h5 g hg) (hd g (h3 g hg)), h6, OTies.snoc h2 h7 (fun g hg => hd g (h4 g hg))⟩
/-- A tree in new blocks. -/
def Fresh (B : Nat) (w : World) (t : Tree) (n : Rn) : Prop := ∃ D, OTie w D t n ∧ ∀ g, D g → B ≤ g ∧ g < w.heap.size
theorem Fresh.below {B : Nat} {w w' : World} {t : Tree} {n : Rn} (h : Fresh B w t n) (hb : Below w.heap.size w w') : Fresh B w' t n := by
  obtain ⟨D, h1, h2⟩ := h
  exact ⟨D, OTie.keep (fun g hg => hb.block g (h2 g hg).2) (fun _ h => h) _ _ h1, fun g hg => ⟨(h2 g hg).1, Nat.lt_of_lt_of_le (h2 g hg).2 hb.size⟩⟩
theorem Fresh.mono {B B' : Nat} {w : World} {t : Tree} {n : Rn} (h : Fresh B w t n) (hb : B' ≤ B) : Fresh B' w t n := by
  obtain ⟨D, h1, h2⟩ := h
  exact ⟨D, h1, fun g hg => ⟨Nat.le_trans hb (h2 g hg).1, (h2 g hg).2⟩⟩
theorem Fresh.tieB {B : Nat} {w : World} {t : Tree} {n : Rn} (h : Fresh B w t n) : Hid (TieB w t n) := by
  obtain ⟨D, h1, h2⟩ := h
  exact Lib.hid ⟨D, OTie.tie _ _ h1, fun g hg => (h2 g hg).2⟩

mutual
/-- A tree elsewhere. -/
def shiftT (d : Int) : Tree → Tree
  | .mk k i j l => .mk k (wrap64 (i + d)) (wrap64 (j + d)) (shiftTs d l)
def shiftTs (d : Int) : List Tree → List Tree
  | [] => []
  | t :: l => shiftT d t :: shiftTs d l
end
theorem shiftTs_map (d : Int) : ∀ l, shiftTs d l = l.map (shiftT d)
  | [] => by rw [shiftTs]; rfl
  | t :: l => by rw [shiftTs, shiftTs_map d l]; rfl
/-- Within Shift: so many kids are laid elsewhere. -/
structure Sh (w wr : World) (X : Nat) (d k i j : Int) (l : List Tree) (vn : Value) (q : Nat) (R' : List Rn) (E : Nat → Prop) (vo : Value) : Prop where
  base : w.heap.size = X
  below : Below w.heap.size w wr
  x0 : wr.heap[X]? = some (.cells #[.int .i64 k, .int .i64 i, .int .i64 j, vn] 24 (0, 0))
  x1 : wr.heap[X + 1]? = some (.cells #[.int .i64 0, .int .i64 0, .int .i64 0, .slice none 0 0] 24 (0, 0))
  x2 : wr.heap[X + 2]? = some (.cells #[.int .i64 k, .int .i64 (wrap64 (i + d)), .int .i64 (wrap64 (j + d)), vo] 24 (0, 0))
  row : Mine nd wr (X + 3) vo R'
  len : R'.length = q
  own : OTies wr E ((l.take q).map (shiftT d)) R'
  dead : ∀ h, E h → X + 3 ≤ h ∧ h < wr.heap.size ∧ vo.ownBlock ≠ some h
theorem Sh.more {w wr w2 : World} {X : Nat} {d k i j : Int} {l : List Tree} {vn : Value} {q : Nat} {R' : List Rn} {E : Nat → Prop} {vo : Value} (h : Sh w wr X d k i j l vn q R' E vo) (hb : Below wr.heap.size wr w2) : Sh w w2 X d k i j l vn q R' E vo := by
  have hlt : ∀ k o, wr.heap[k]? = some o → w2.heap[k]? = some o := fun k o hk => (hb.block k (Array.getElem?_eq_some_iff.1 hk).1).trans hk
  exact ⟨h.base, h.below.trans (hb.mono h.below.size), hlt _ _ h.x0, hlt _ _ h.x1, hlt _ _ h.x2, h.row.below hb, h.len, OTies.keep (fun g hg => hb.block g (h.dead g hg).2.1) (fun _ h => h) _ _ h.own, fun g hg => ⟨(h.dead g hg).1, Nat.lt_of_lt_of_le (h.dead g hg).2.1 hb.size, (h.dead g hg).2.2⟩⟩
/-- One more kid. -/
theorem Sh.put {w wr w9 : World} {X : Nat} {d k i j : Int} {l : List Tree} {vn : Value} {q : Nat} {R' : List Rn} {E : Nat → Prop} {vo : Value} {n : Rn} (h : Sh w wr X d k i j l vn q R' E vo) (hq : q < l.length) (hl : l.length ≤ 2932031007317) (hb : Below wr.heap.size wr w9) (hf : Fresh wr.heap.size w9 (shiftT d l[q]) n) :
    ∀ u, Below w9.heap.size w9 u → ∀ ad, u.heap[ad]? = some (.cells #[.int .i64 n.k, .int .i64 n.i, .int .i64 n.j, .slice n.o n.n n.c] 24 (0, 0)) →
      ∃ v' w', (∀ ty, (Builtin.append_ #[22, 22] ty #[vo, .slice (some ⟨ad, 0, none⟩) 1 1]).run Try.prog u = .ok v' w') ∧
        (∃ g cap', v' = .slice (some ⟨g, 0, none⟩) (q + 1) cap') ∧ w'.cell? ⟨X + 1 + 1, 3, none⟩ = some vo ∧ w'.frozen? ⟨X + 1 + 1, 3, none⟩ = false ∧ X + 1 + 1 < w'.heap.size ∧
        ∃ E', Sh w (w'.setCell ⟨X + 1 + 1, 3, none⟩ v') X d k i j l vn (q + 1) (R' ++ [n]) E' v' := by
  intro u hu ad had
  have hbu := hb.trans (hu.mono hb.size)
  have h2 := h.more hbu
  obtain ⟨D2, ho2, hd2⟩ := hf
  have hX2 := (Array.getElem?_eq_some_iff.1 h.x2).1
  have hle := h.len
  have hbase := h.base
  have hzz := hbu.size
  obtain ⟨g, cap', w', h3, h4, h5, h6⟩ := app_lies (F := nd) (x := n) h2.row had (by omega) (by simp [maxLen]; omega) (by show (R'.length + 1) * 48 ≤ _; omega)
  have hown : ∀ g, vo.ownBlock = some g → X + 3 ≤ g ∧ g < wr.heap.size := fun g hg => World.ownsRow.lt h.row g hg
  have hg : (vo.ownBlock = some g ∧ X + 3 ≤ g ∧ g < wr.heap.size) ∨ g = u.heap.size := by
    rcases h6 with h6 | h6
    · exact .inl ⟨h6, hown g h6⟩
    · exact .inr h6
  have hold : ∀ k, k < u.heap.size → vo.ownBlock ≠ some k → w'.heap[k]? = u.heap[k]? := fun k hk hn => h5.block k hk (fun e => hn e.symm)
  have hrun : ∀ k, k ≠ X + 2 → (w'.setCell ⟨X + 2, 3, none⟩ (.slice (some ⟨g, 0, none⟩) (R'.length + 1) cap')).heap[k]? = w'.heap[k]? := fun k hk => set_one _ _ _ _ _ hk
  have hnX : ∀ k, k < X + 3 → vo.ownBlock ≠ some k := fun k hk e => by have := hown k e; omega
  have hx2 : w'.heap[X + 2]? = some (.cells #[.int .i64 k, .int .i64 (wrap64 (i + d)), .int .i64 (wrap64 (j + d)), vo] 24 (0, 0)) := (hold _ (by omega) (hnX _ (by omega))).trans h2.x2
  obtain ⟨⟨_, _, _, b3⟩, bf⟩ := four_cells0 hx2
  have hgX : X + 3 ≤ g := by omega
  have hw' := h5.size
  have hE : ∀ k, (E k ∨ D2 k) → X + 3 ≤ k ∧ k < u.heap.size ∧ vo.ownBlock ≠ some k ∧ k ≠ g := by
    intro k hk
    rcases hk with hk | hk
    · obtain ⟨a1, a2, a3⟩ := h.dead k hk
      refine ⟨a1, by omega, a3, ?_⟩
      rintro rfl
      rcases hg with hg | hg
      · exact a3 hg.1
      · omega
    · obtain ⟨a1, a2⟩ := hd2 k hk
      have := hu.size
      refine ⟨by omega, by omega, fun e => by have := hown k e; omega, ?_⟩
      rintro rfl
      rcases hg with hg | hg <;> omega
  have hb2 := h2.below
  rw [hle] at h3 h4 hrun
  refine ⟨_, w', h3, ⟨g, cap', rfl⟩, b3, bf 3, by omega, fun k => E k ∨ D2 k, hbase, ⟨h5.os.trans hb2.os, h5.tape.trans hb2.tape, h5.output.trans hb2.output, by rw [size_set]; omega, fun k hk => ?_⟩, ?_, ?_, ?_, ?_, by rw [List.length_append, hle]; rfl, ?_, ?_⟩
  · exact (hrun k (by omega)).trans ((hold k (by omega) (hnX k (by omega))).trans (hb2.block k hk))
  · exact (hrun X (by omega)).trans ((hold X (by omega) (hnX X (by omega))).trans h2.x0)
  · exact (hrun (X + 1) (by omega)).trans ((hold (X + 1) (by omega) (hnX (X + 1) (by omega))).trans h2.x1)
  · exact heap_setCell_same _ _ 3 _ _ _ hx2
  · exact h4.keep (fun k hk _ => hrun k (by simp only [Value.ownBlock, Option.some.injEq] at hk; omega))
  · rw [List.take_add_one, List.getElem?_eq_getElem hq, List.map_append]
    refine OTies.keep (w := u) (fun k hk => ?_) (fun _ h => h) _ _ (OTies.snoc (OTie.keep (fun g hg => hu.block g (hd2 g hg).2) (fun _ h => h) _ _ ho2) h2.own (fun g h1 h2' => ?_))
    · obtain ⟨a1, a2, a3, _⟩ := hE k hk
      exact (hrun k (by omega)).trans (hold k a2 a3)
    · have := (h.dead g h1).2.1
      have := (hd2 g h2').1
      omega
  · intro k hk
    obtain ⟨a1, a2, a3, a4⟩ := hE k hk
    refine ⟨a1, by rw [size_set]; omega, fun e => ?_⟩
    simp only [Value.ownBlock, Option.some.injEq] at e
    exact a4 e.symm
end Go.Proofs.Ytnnffcfdokejbaa.rd
