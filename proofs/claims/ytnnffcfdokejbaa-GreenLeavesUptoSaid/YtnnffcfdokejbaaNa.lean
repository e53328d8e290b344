/-
  Taken together.
-/
import Derived.Test.YtnnffcfdokejbaaEa
import Derived.Deep.RegionLaw
import Derived.Deep.AppendLies
namespace Go.Proofs.Ytnnffcfdokejbaa.rd
open Go.RowKit

def Rn.v (N : Rn) : Value := .agg #[.int .i64 N.k, .int .i64 N.i, .int .i64 N.j, .slice N.o N.n N.c]
section
variable {α β : Type} {F : Kd α} {G : Kd β}
theorem Mine.keep {w w' : World} {B : Nat} {v : Value} {T : List α} (h : Mine F w B v T) (hs : ∀ k, v.ownBlock = some k → k < w.heap.size → w'.heap[k]? = w.heap[k]?) : Mine F w' B v T := by
  refine ⟨h.1, ?_⟩
  rcases h.2 with hn | ⟨q, cap, cur, rfl, hq, hh, rest⟩
  · exact .inl hn
  · exact .inr ⟨q, cap, cur, rfl, hq, (hs q rfl (Array.getElem?_eq_some_iff.1 hh).1).trans hh, rest⟩
end
section
variable {α β : Type} {F : Kd α} {G : Kd β}
theorem Mine.differs {w : World} {B B2 : Nat} {v v2 : Value} {T : List α} {T2 : List β} (h : Mine F w B v T) (h2 : Mine G w B2 v2 T2) (hne : F.e ≠ G.e) (k : Nat) (hk : v.ownBlock = some k) : v2.ownBlock ≠ some k := by
  intro hk2
  rcases h.2 with ⟨rfl, _⟩ | ⟨q, cap, cur, rfl, hq, hh, _⟩
  · simp [Value.ownBlock] at hk
  · rcases h2.2 with ⟨rfl, _⟩ | ⟨q2, cap2, cur2, rfl, hq2, hh2, _⟩
    · simp [Value.ownBlock] at hk2
    · simp only [Value.ownBlock, Option.some.injEq] at hk hk2
      subst hk hk2
      rw [hh] at hh2
      simp only [Option.some.injEq, Obj.cells.injEq] at hh2
      exact hne hh2.2.1
end
section
variable {α β : Type} {F : Kd α} {G : Kd β}
theorem Mine.ne {w : World} {B b : Nat} {v : Value} {T : List α} {cs : Array Value} {e : TypeId} (h : Mine F w B v T) (hb : w.heap[b]? = some (.cells cs e (0, 0))) (hne : e ≠ F.e) : v.ownBlock ≠ some b := by
  intro hk
  rcases h.2 with ⟨rfl, _⟩ | ⟨q, cap, cur, rfl, hq, hh, _⟩
  · simp [Value.ownBlock] at hk
  · simp only [Value.ownBlock, Option.some.injEq] at hk
    subst hk
    rw [hh] at hb
    simp only [Option.some.injEq, Obj.cells.injEq] at hb
    exact hne hb.2.1.symm
end
section
variable {α β : Type} {F : Kd α} {G : Kd β}
theorem Mine.lt {w : World} {B : Nat} {v : Value} {T : List α} (h : Mine F w B v T) (k : Nat) (hk : v.ownBlock = some k) : k < w.heap.size := (World.ownsRow.lt h k hk).2
end
section
variable {α β : Type} {F : Kd α} {G : Kd β}
theorem Mine.free {w : World} {B g cap m : Nat} {T : List α} (h : Mine F w B (.slice (some ⟨g, 0, none⟩) m cap) T) (j : Nat) : w.frozen? ⟨g, j, none⟩ = false := by
  have hm : m = T.length := by
    rcases h.2 with ⟨h', _⟩ | ⟨g', cap', cur, h', _⟩
    · simp at h'
    · simp only [Value.slice.injEq] at h'
      exact h'.2.1
  subst hm
  exact World.ownsRow.frozenAt h j
end
section
variable {α β : Type} {F : Kd α} {G : Kd β}
theorem app_lies {w : World} {base : Nat} {v : Value} {T0 : List α} {x : α} {ad : Nat} (hown : Mine F w base v T0) (hh : w.heap[ad]? = some (.cells (F.c x).toArray F.e (0, 0))) (hb : base ≤ w.heap.size) (hm : T0.length + 1 ≤ maxLen) (hby : (T0.length + 1) * F.bytes ≤ 140737488355328) :
    ∃ g cap w', (∀ ty, (Builtin.append_ #[F.t, F.t] ty #[v, .slice (some ⟨ad, 0, none⟩) 1 1]).run Try.prog w = .ok (.slice (some ⟨g, 0, none⟩) (T0.length + 1) cap) w') ∧ Mine F w' base (.slice (some ⟨g, 0, none⟩) (T0.length + 1) cap) (T0 ++ [x]) ∧ w.grownBy w' v.ownBlock ∧ (v.ownBlock = some g ∨ g = w.heap.size) := by
  obtain ⟨i0, hi, hz0, hz1, hz2⟩ := info_parts F.hi
  obtain ⟨g, cap, w', h1, h2, h3, h4, _⟩ := run_append_lies (P := Try.prog) w F.t 0 base F.e i0 F.z F.k F.bytes F.ht hi hz0 hz1 hz2 F.hz F.hk v T0.length (flat F T0) hown ⟨ad, 0, none⟩ 1 1 (flat F [x]) (flat_length F [x]) (fun j u hu => by
    rw [Addr.add_lit, cell_of_row w ad (0 + j) _ _ (0, 0) hh, Nat.zero_add]
    simpa [flat] using hu) (flat_one F [x]) (by omega) hm hby hb w.heap.size rfl
  refine ⟨g, cap, w', fun ty => h1, ?_, h3, h4⟩
  unfold Mine
  rw [List.length_append, flat_append]
  exact h2
end
theorem flat_set_nd (T : List Rn) (t : Rn) : ∀ n, n < T.length → flat nd (T.set n t) = ((((flat nd T).set (n * 4) (.int .i64 t.k)).set (n * 4 + 1) (.int .i64 t.i)).set (n * 4 + 2) (.int .i64 t.j)).set (n * 4 + 3) (.slice t.o t.n t.c) := by
  induction T with
  | nil => intro n h; simp at h
  | cons d T ih =>
    intro n h
    have e : ∀ (d : Rn) (T : List Rn), flat nd (d :: T) = .int .i64 d.k :: .int .i64 d.i :: .int .i64 d.j :: .slice d.o d.n d.c :: flat nd T := fun _ _ => rfl
    cases n with
    | zero => rw [List.set_cons_zero, e, e]; rfl
    | succ n =>
      rw [List.set_cons_succ, e, e, ih n (by simpa using h), show (n + 1) * 4 = n * 4 + 1 + 1 + 1 + 1 by omega, show n * 4 + 1 + 1 + 1 + 1 + 2 = n * 4 + 2 + 1 + 1 + 1 + 1 by omega, show n * 4 + 1 + 1 + 1 + 1 + 3 = n * 4 + 3 + 1 + 1 + 1 + 1 by omega]
      rfl
theorem Mine.put_nd {w : World} {B g cap m : Nat} {T : List Rn} (h : Mine nd w B (.slice (some ⟨g, 0, none⟩) m cap) T) (hm : T.length = m) (n : Nat) (hn : n < T.length) (t : Rn) :
    Mine nd ((((w.setCell ⟨g, n * 4, none⟩ (.int .i64 t.k)).setCell ⟨g, n * 4 + 1, none⟩ (.int .i64 t.i)).setCell ⟨g, n * 4 + 2, none⟩ (.int .i64 t.j)).setCell ⟨g, n * 4 + 3, none⟩ (.slice t.o t.n t.c)) B (.slice (some ⟨g, 0, none⟩) m cap) (T.set n t) := by
  unfold Mine at *
  rw [List.length_set, flat_set_nd T t n hn, hm]
  rw [hm] at h
  exact ((((h.stored _ _).1.stored _ _).1.stored _ _).1.stored _ _).1
theorem Mine.shape {α : Type} {F : Kd α} {w : World} {B : Nat} {v : Value} {T : List α} (h : Mine F w B v T) : ∃ g o cap, v = .slice o T.length cap ∧ (T ≠ [] → o = some ⟨g, 0, none⟩) ∧ B ≤ g ∧ (g < w.heap.size ∨ (T = [] ∧ g = B)) := by
  rcases h.2 with ⟨rfl, h0⟩ | ⟨q, cap, cur, rfl, hq, hh, rest⟩
  · have h0 := List.eq_nil_of_length_eq_zero h0
    subst h0
    exact ⟨B, none, 0, rfl, fun e => absurd rfl e, Nat.le_refl _, .inr ⟨rfl, rfl⟩⟩
  · exact ⟨q, _, cap, rfl, fun _ => rfl, hq, .inl (Array.getElem?_eq_some_iff.1 hh).1⟩
theorem Mine.cells {α : Type} {F : Kd α} {w : World} {B g cap n : Nat} {T : List α} (h : Mine F w B (.slice (some ⟨g, 0, none⟩) n cap) T) : Cells F w g 0 T := by
  intro j u hu
  have := World.ownsRow.cells h (g := g) rfl j u hu
  rw [Addr.add_lit] at this
  exact this
theorem set_one (W : World) (b o : Nat) (u : Value) (k : Nat) : k ≠ b → (W.setCell ⟨b, o, none⟩ u).heap[k]? = W.heap[k]? := fun hk => Below.heap_setCell _ _ _ _ hk
theorem size_set (W : World) (b o : Nat) (u : Value) : (W.setCell ⟨b, o, none⟩ u).heap.size = W.heap.size := by simp [World.setCell]
theorem four_cells0 {w : World} {X : Nat} {x0 x1 x2 x3 : Value} {e : TypeId} (h : w.heap[X]? = some (.cells #[x0, x1, x2, x3] e (0, 0))) : (w.cell? ⟨X, 0, none⟩ = some x0 ∧ w.cell? ⟨X, 1, none⟩ = some x1 ∧ w.cell? ⟨X, 2, none⟩ = some x2 ∧ w.cell? ⟨X, 3, none⟩ = some x3) ∧ ∀ j, w.frozen? ⟨X, j, none⟩ = false :=
  ⟨⟨by rw [cell_of_row w X 0 _ _ _ h]; rfl, by rw [cell_of_row w X 1 _ _ _ h]; rfl, by rw [cell_of_row w X 2 _ _ _ h]; rfl, by rw [cell_of_row w X 3 _ _ _ h]; rfl⟩, fun j => frozen_of_row w X j _ _ h⟩
theorem three_cells {w : World} {X : Nat} {x0 x1 x2 : Value} {e : TypeId} (h : w.heap[X]? = some (.cells #[x0, x1, x2] e (0, 0))) : (w.cell? ⟨X, 0, none⟩ = some x0 ∧ w.cell? ⟨X, 1, none⟩ = some x1 ∧ w.cell? ⟨X, 2, none⟩ = some x2) ∧ ∀ j, w.frozen? ⟨X, j, none⟩ = false :=
  ⟨⟨by rw [cell_of_row w X 0 _ _ _ h]; rfl, by rw [cell_of_row w X 1 _ _ _ h]; rfl, by rw [cell_of_row w X 2 _ _ _ h]; rfl⟩, fun j => frozen_of_row w X j _ _ h⟩
/-- A tree. -/
inductive Tree where
  | mk (k i j : Int) (l : List Tree)
def Tree.k : Tree → Int | .mk k _ _ _ => k
def Tree.i : Tree → Int | .mk _ i _ _ => i
def Tree.j : Tree → Int | .mk _ _ j _ => j
def Tree.l : Tree → List Tree | .mk _ _ _ l => l
def Tk.tree (t : Tk) : Tree := .mk t.k t.i t.j []
mutual
/-- A node of memory is a tree, whose rows of kids lie in some of the blocks. -/
def Tie (w : World) (D : Nat → Prop) : Tree → Rn → Prop
  | .mk k i j l, n => n.k = k ∧ n.i = i ∧ n.j = j ∧ n.n = l.length ∧ ∃ (g off : Nat) (R : List Rn), (n.n ≤ n.c ∧ l.length ≤ 2932031007317) ∧ (l ≠ [] → n.o = some ⟨g, off, none⟩ ∧ D g) ∧ Cells nd w g off R ∧ Ties w D l R
def Ties (w : World) (D : Nat → Prop) : List Tree → List Rn → Prop
  | [], R => R = []
  | t :: l, R => ∃ n R', R = n :: R' ∧ Tie w D t n ∧ Ties w D l R'
end
theorem cell_same {w w' : World} {g : Nat} (h : w'.heap[g]? = w.heap[g]?) (o : Nat) : w'.cell? ⟨g, o, none⟩ = w.cell? ⟨g, o, none⟩ := by
  simp only [World.cell?, h]
mutual
theorem Tie.keep {w w' : World} {D D' : Nat → Prop} (hs : ∀ g, D g → w'.heap[g]? = w.heap[g]?) (hD : ∀ g, D g → D' g) : ∀ (t : Tree) (n : Rn), Tie w D t n → Tie w' D' t n
  | .mk k i j l, n, h => by
    rw [Tie] at h ⊢
    obtain ⟨h1, h2, h3, h4, g, off, R, h5, h6, h7, h8⟩ := h
    refine ⟨h1, h2, h3, h4, g, off, R, h5, fun e => ⟨(h6 e).1, hD _ (h6 e).2⟩, ?_, Ties.keep hs hD l R h8⟩
    cases l with
    | nil =>
      rw [Ties] at h8
      subst h8
      intro j u hu
      simp [flat] at hu
    | cons t l => exact fun j u hu => (cell_same (hs g (h6 (by simp)).2) _).trans (h7 j u hu)
theorem Ties.keep {w w' : World} {D D' : Nat → Prop} (hs : ∀ g, D g → w'.heap[g]? = w.heap[g]?) (hD : ∀ g, D g → D' g) : ∀ (l : List Tree) (R : List Rn), Ties w D l R → Ties w' D' l R
  | [], R, h => by rw [Ties] at h ⊢; exact h
  | t :: l, R, h => by
    rw [Ties] at h ⊢
    obtain ⟨n, R', h1, h2, h3⟩ := h
    exact ⟨n, R', h1, Tie.keep hs hD t n h2, Ties.keep hs hD l R' h3⟩
end
theorem Ties.nil {w : World} {D : Nat → Prop} : Ties w D [] [] := by rw [Ties]
theorem Ties.cons {w : World} {D : Nat → Prop} {t : Tree} {n : Rn} {l : List Tree} {R : List Rn} (h : Tie w D t n) (h2 : Ties w D l R) : Ties w D (t :: l) (n :: R) := by rw [Ties]; exact ⟨n, R, rfl, h, h2⟩
theorem Ties.append {w : World} {D : Nat → Prop} : ∀ {l : List Tree} {R : List Rn} {l2 : List Tree} {R2 : List Rn}, Ties w D l R → Ties w D l2 R2 → Ties w D (l ++ l2) (R ++ R2)
  | [], R, l2, R2, h, h2 => by rw [Ties] at h; subst h; exact h2
  | t :: l, R, l2, R2, h, h2 => by
    rw [Ties] at h
    obtain ⟨n, R', rfl, h3, h4⟩ := h
    exact Ties.cons h3 (h4.append h2)
theorem Ties.length {w : World} {D : Nat → Prop} : ∀ {l : List Tree} {R : List Rn}, Ties w D l R → R.length = l.length
  | [], R, h => by rw [Ties] at h; subst h; rfl
  | t :: l, R, h => by
    rw [Ties] at h
    obtain ⟨n, R', rfl, _, h4⟩ := h
    rw [List.length_cons, List.length_cons, h4.length]
theorem Ties.drop {w : World} {D : Nat → Prop} : ∀ {l : List Tree} {R : List Rn} (m : Nat), Ties w D l R → Ties w D (l.drop m) (R.drop m)
  | _, _, 0, h => h
  | [], R, m + 1, h => by rw [Ties] at h; subst h; exact Ties.nil
  | t :: l, R, m + 1, h => by
    rw [Ties] at h
    obtain ⟨n, R', rfl, _, h4⟩ := h
    exact h4.drop m
theorem Ties.take {w : World} {D : Nat → Prop} : ∀ {l : List Tree} {R : List Rn} (m : Nat), Ties w D l R → Ties w D (l.take m) (R.take m)
  | _, _, 0, _ => Ties.nil
  | [], R, m + 1, h => by rw [Ties] at h; subst h; exact Ties.nil
  | t :: l, R, m + 1, h => by
    rw [Ties] at h
    obtain ⟨n, R', rfl, h3, h4⟩ := h
    exact Ties.cons h3 (h4.take m)
theorem Tie.k {w : World} {D : Nat → Prop} {t : Tree} {n : Rn} (h : Tie w D t n) : n.k = t.k := by cases t; rw [Tie] at h; exact h.1
theorem Tie.i {w : World} {D : Nat → Prop} {t : Tree} {n : Rn} (h : Tie w D t n) : n.i = t.i := by cases t; rw [Tie] at h; exact h.2.1
theorem Tie.j {w : World} {D : Nat → Prop} {t : Tree} {n : Rn} (h : Tie w D t n) : n.j = t.j := by cases t; rw [Tie] at h; exact h.2.2.1
/-- A node that lies in blocks of a world. -/
def TieB (w : World) (t : Tree) (n : Rn) : Prop := ∃ D, Tie w D t n ∧ ∀ k, D k → k < w.heap.size
theorem TieB.below {w w' : World} {t : Tree} {n : Rn} (h : Hid (TieB w t n)) (hb : Below w.heap.size w w') : Hid (TieB w' t n) := by
  obtain ⟨D, h1, h2⟩ := h.out
  exact Lib.hid ⟨D, Tie.keep (fun g hg => hb.block g (h2 g hg)) (fun _ h => h) t n h1, fun k hk => Nat.lt_of_lt_of_le (h2 k hk) hb.size⟩
theorem Tie.kids {w : World} {D : Nat → Prop} {t : Tree} {n : Rn} (h : Tie w D t n) : ∃ R, Row nd w (.slice n.o n.n n.c) R ∧ R.length ≤ 2932031007317 ∧ Ties w D t.l R := by
  obtain ⟨k, i, j, l⟩ := t
  rw [Tie] at h
  obtain ⟨_, _, _, h4, g, off, R, ⟨h5, h5'⟩, h6, h7, h8⟩ := h
  have hl := h8.length
  refine ⟨R, ⟨g, off, n.o, n.c, by omega, by rw [hl, ← h4], fun e => (h6 (fun e2 => e (List.eq_nil_of_length_eq_zero (by rw [hl, e2]; rfl)))).1, h7⟩, by omega, h8⟩
theorem ties_get' {w : World} {D : Nat → Prop} {l : List Tree} {R : List Rn} (h : Ties w D l R) {i : Nat} (hi : i < l.length) (hi2 : i < R.length) : Tie w D l[i] R[i] := by
  induction l generalizing R i with
  | nil => simp at hi
  | cons t l ih =>
    rw [Ties] at h
    obtain ⟨n, R', rfl, h1, h2⟩ := h
    cases i with
    | zero => exact h1
    | succ i => exact ih h2 (by simpa using hi) (by simpa using hi2)
end Go.Proofs.Ytnnffcfdokejbaa.rd
