/-
  Layer 4: rows that are written in place; an append in a region that draws its order.
-/
import Derived.Test.YtlemecnmjhhbiaaCk
namespace Go.Proofs.Ytlemecnmjhhbiaa.ck
open Go.RowKit

/-- Below block number B all blocks but one are as they were. -/
structure Save (B g : Nat) (w w' : World) : Prop where
  os : w'.os = w.os
  tape : w'.tape = w.tape
  output : w'.output = w.output
  size : w.heap.size ≤ w'.heap.size
  block : ∀ k, k < B → k ≠ g → w'.heap[k]? = w.heap[k]?
theorem Save.refl (B g : Nat) (w : World) : Save B g w w := ⟨rfl, rfl, rfl, Nat.le_refl _, fun _ _ _ => rfl⟩
theorem Save.trans {B g : Nat} {a b c : World} (h : Save B g a b) (k : Save B g b c) : Save B g a c :=
  ⟨k.os.trans h.os, k.tape.trans h.tape, k.output.trans h.output, Nat.le_trans h.size k.size, fun i hi hn => (k.block i hi hn).trans (h.block i hi hn)⟩
theorem Save.below {B B' g : Nat} {w w' : World} (h : Save B g w w') (hB : B' ≤ B) (hg : B' ≤ g) : Below B' w w' := ⟨h.os, h.tape, h.output, h.size, fun k hk => h.block k (by omega) (by omega)⟩
theorem Save.setCell {B g : Nat} {a w : World} (h : Save B g a w) (o : Nat) (u : Value) : Save B g a (w.setCell ⟨g, o, none⟩ u) :=
  h.trans ⟨rfl, rfl, rfl, by simp [World.setCell], fun k _ hk => Below.heap_setCell _ _ _ _ hk⟩
theorem Save.drewN {B g : Nat} {a w : World} (h : Save B g a w) (q : Nat) : Save B g a (w.drewN q) := ⟨h.os, h.tape, h.output, h.size, h.block⟩

section
variable {α : Type} {F : Kd α}
/-- A row of one's own, whose block is another one, stays. -/
theorem Mine.save {w w' : World} {B g K : Nat} {v : Value} {T : List α} (h : Mine F w B v T) (hs : Save K g w w') (hK : w.heap.size ≤ K) (hg : g < B) : Mine F w' B v T := by
  refine ⟨h.1, ?_⟩
  rcases h.2 with hn | ⟨q, cap, cur, rfl, hq, hh, rest⟩
  · exact .inl hn
  · have := (Array.getElem?_eq_some_iff.1 hh).1
    exact .inr ⟨q, cap, cur, rfl, hq, (hs.block q (by omega) (by omega)).trans hh, rest⟩
/-- What a row of one's own looks like. -/
theorem Mine.shape {w : World} {B : Nat} {v : Value} {T : List α} (h : Mine F w B v T) : ∃ g o cap, v = .slice o T.length cap ∧ (T ≠ [] → o = some ⟨g, 0, none⟩) ∧ B ≤ g ∧ (g < w.heap.size ∨ (T = [] ∧ g = B)) := by
  rcases h.2 with ⟨rfl, h0⟩ | ⟨q, cap, cur, rfl, hq, hh, rest⟩
  · have h0 := List.eq_nil_of_length_eq_zero h0
    subst h0
    exact ⟨B, none, 0, rfl, fun e => absurd rfl e, Nat.le_refl _, .inr ⟨rfl, rfl⟩⟩
  · exact ⟨q, _, cap, rfl, fun _ => rfl, hq, .inl (Array.getElem?_eq_some_iff.1 hh).1⟩
theorem Mine.full {w : World} {B : Nat} {v : Value} {T : List α} (h : Mine F w B v T) (hT : T ≠ []) : ∃ g cap, v = .slice (some ⟨g, 0, none⟩) T.length cap ∧ B ≤ g ∧ g < w.heap.size := by
  obtain ⟨g, o, cap, hv, ho, hB, hl⟩ := h.shape
  rcases hl with hl | ⟨e, _⟩
  · exact ⟨g, cap, by rw [hv, ho hT], hB, hl⟩
  · exact absurd e hT
theorem Mine.cells {w : World} {B g cap n : Nat} {T : List α} (h : Mine F w B (.slice (some ⟨g, 0, none⟩) n cap) T) : Cells F w g 0 T := by
  intro j u hu
  have := World.ownsRow.cells h (g := g) rfl j u hu
  rw [Addr.add_lit] at this
  exact this
end
theorem flat_set_tk (T : List Tk) (t : Tk) : ∀ n, n < T.length → flat tk (T.set n t) = (((flat tk T).set (n * 3) (.int .i64 t.k)).set (n * 3 + 1) (.int .i64 t.i)).set (n * 3 + 2) (.int .i64 t.j) := by
  induction T with
  | nil => intro n h; simp at h
  | cons d T ih =>
    intro n h
    have e : ∀ (d : Tk) (T : List Tk), flat tk (d :: T) = .int .i64 d.k :: .int .i64 d.i :: .int .i64 d.j :: flat tk T := fun _ _ => rfl
    cases n with
    | zero => rw [List.set_cons_zero, e, e]; rfl
    | succ n =>
      rw [List.set_cons_succ, e, e, ih n (by simpa using h), show (n + 1) * 3 = n * 3 + 1 + 1 + 1 by omega, show n * 3 + 1 + 1 + 1 + 2 = n * 3 + 2 + 1 + 1 + 1 by omega]
      rfl
theorem flat_set_sn (T : List Sn) (t : Sn) : ∀ n, n < T.length → flat sn (T.set n t) = ((flat sn T).set (n * 2) (.int .i64 t.a)).set (n * 2 + 1) (.int .i64 t.b) := by
  induction T with
  | nil => intro n h; simp at h
  | cons d T ih =>
    intro n h
    have e : ∀ (d : Sn) (T : List Sn), flat sn (d :: T) = .int .i64 d.a :: .int .i64 d.b :: flat sn T := fun _ _ => rfl
    cases n with
    | zero => rw [List.set_cons_zero, e, e]; rfl
    | succ n =>
      rw [List.set_cons_succ, e, e, ih n (by simpa using h), show (n + 1) * 2 = n * 2 + 1 + 1 by omega]
      rfl
/-- A token, a span is written in place. -/
theorem Mine.put_tk {w : World} {B g cap m : Nat} {T : List Tk} (h : Mine tk w B (.slice (some ⟨g, 0, none⟩) m cap) T) (hm : T.length = m) (n : Nat) (hn : n < T.length) (t : Tk) :
    Mine tk (((w.setCell ⟨g, n * 3, none⟩ (.int .i64 t.k)).setCell ⟨g, n * 3 + 1, none⟩ (.int .i64 t.i)).setCell ⟨g, n * 3 + 2, none⟩ (.int .i64 t.j)) B (.slice (some ⟨g, 0, none⟩) m cap) (T.set n t) := by
  unfold Mine at *
  rw [List.length_set, flat_set_tk T t n hn, hm]
  rw [hm] at h
  exact (((h.stored _ _).1.stored _ _).1.stored _ _).1
theorem Mine.put_sn {w : World} {B g cap m : Nat} {T : List Sn} (h : Mine sn w B (.slice (some ⟨g, 0, none⟩) m cap) T) (hm : T.length = m) (n : Nat) (hn : n < T.length) (t : Sn) :
    Mine sn ((w.setCell ⟨g, n * 2, none⟩ (.int .i64 t.a)).setCell ⟨g, n * 2 + 1, none⟩ (.int .i64 t.b)) B (.slice (some ⟨g, 0, none⟩) m cap) (T.set n t) := by
  unfold Mine at *
  rw [List.length_set, flat_set_sn T t n hn, hm]
  rw [hm] at h
  exact ((h.stored _ _).1.stored _ _).1
theorem Mine.free {α : Type} {F : Kd α} {w : World} {B g cap m : Nat} {T : List α} (h : Mine F w B (.slice (some ⟨g, 0, none⟩) m cap) T) (j : Nat) : w.frozen? ⟨g, j, none⟩ = false := by
  have hm : m = T.length := by
    rcases h.2 with ⟨h', _⟩ | ⟨g', cap', cur, h', _⟩
    · simp at h'
    · simp only [Value.slice.injEq] at h'
      exact h'.2.1
  subst hm
  exact World.ownsRow.frozenAt h j
theorem over_next {α : Type} (c : α) (T : List α) (n : Nat) (hn : n < T.length) : (List.replicate n c ++ T.drop n).set n c = List.replicate (n + 1) c ++ T.drop (n + 1) := by
  rw [List.drop_eq_getElem_cons hn, List.set_append_right _ _ (by simp), List.length_replicate, Nat.sub_self, List.set_cons_zero, List.replicate_succ', List.append_assoc]
  rfl
theorem over_at {α : Type} (c : α) (T : List α) (n : Nat) (hn : n < T.length) (h' : n < (List.replicate n c ++ T.drop n).length) : (List.replicate n c ++ T.drop n)[n] = T[n] := by
  rw [List.getElem_append_right (by simp)]
  simp
theorem over_len {α : Type} (c : α) (T : List α) (n : Nat) (hn : n ≤ T.length) : (List.replicate n c ++ T.drop n).length = T.length := by
  simp
  omega
theorem Mine.over_tk {w : World} {B g cap m n : Nat} {c : Tk} {D : List Tk} (h : Mine tk w B (.slice (some ⟨g, 0, none⟩) m cap) (List.replicate n c ++ D.drop n)) (hD : D.length = m) (hn : n < D.length) (q : Nat) :
    Mine tk ((((w.drewN q).setCell ⟨g, n * 3, none⟩ (.int .i64 c.k)).setCell ⟨g, n * 3 + 1, none⟩ (.int .i64 c.i)).setCell ⟨g, n * 3 + 2, none⟩ (.int .i64 c.j)) B (.slice (some ⟨g, 0, none⟩) m cap) (List.replicate (n + 1) c ++ D.drop (n + 1)) := by
  have hl := over_len c D n (by omega)
  have := (h.below (below_drewN (Below.refl _ _) q)).put_tk (by omega) n (by omega) c
  rw [over_next _ _ _ hn] at this
  exact this
theorem Mine.over_sn {w : World} {B g cap m n : Nat} {c : Sn} {D : List Sn} (h : Mine sn w B (.slice (some ⟨g, 0, none⟩) m cap) (List.replicate n c ++ D.drop n)) (hD : D.length = m) (hn : n < D.length) :
    Mine sn ((w.setCell ⟨g, n * 2, none⟩ (.int .i64 c.a)).setCell ⟨g, n * 2 + 1, none⟩ (.int .i64 c.b)) B (.slice (some ⟨g, 0, none⟩) m cap) (List.replicate (n + 1) c ++ D.drop (n + 1)) := by
  have hl := over_len c D n (by omega)
  have := h.put_sn (by omega) n (by omega) c
  rw [over_next _ _ _ hn] at this
  exact this
/-- A row of one's own stays where another one's block grows. -/
theorem Mine.grown {α : Type} {F : Kd α} {w w' : World} {B : Nat} {v : Value} {T : List α} {row : Option Nat} (h : Mine F w B v T) (hg : w.grownBy w' row) (hr : ∀ q, row = some q → q < B) : Mine F w' B v T := by
  refine ⟨h.1, ?_⟩
  rcases h.2 with hn | ⟨q, cap, cur, rfl, hq, hh, rest⟩
  · exact .inl hn
  · exact .inr ⟨q, cap, cur, rfl, hq, (hg.block q (Array.getElem?_eq_some_iff.1 hh).1 (fun e => by have := hr q e.symm; omega)).trans hh, rest⟩
/-- Two spans are put behind a row of one's own. -/
theorem push2_sn {w : World} {base : Nat} {v : Value} {T0 : List Sn} (hown : Mine sn w base v T0) (x y : Sn) (hb : base ≤ w.heap.size) (hm : (T0.length + 2) * 16 ≤ 140737488355328) :
    ∃ v' w', (∀ ty, (Builtin.append_ #[26, 26] ty #[v, .slice (some ⟨w.heap.size, 0, none⟩) 2 2]).run Try.prog (w.alloc (.cells #[.int .i64 x.a, .int .i64 x.b, .int .i64 y.a, .int .i64 y.b] 30)) = .ok v' w') ∧ Mine sn w' base v' (T0 ++ [x, y]) ∧ (w.alloc (.cells #[.int .i64 x.a, .int .i64 x.b, .int .i64 y.a, .int .i64 y.b] 30)).grownBy w' v.ownBlock ∧ ∀ K w0, K ≤ base → Below K w0 w → Below K w0 w' := by
  have hB : Below w.heap.size w (w.alloc (.cells #[.int .i64 x.a, .int .i64 x.b, .int .i64 y.a, .int .i64 y.b] 30)) := (Below.refl _ _).alloc (Nat.le_refl _) _
  have hr : Row sn (w.alloc (.cells #[.int .i64 x.a, .int .i64 x.b, .int .i64 y.a, .int .i64 y.b] 30)) (.slice (some ⟨w.heap.size, 0, none⟩) 2 2) [x, y] := Row.new (F := sn) w [x, y]
  obtain ⟨v', w', h1, h2, h3⟩ := run_append_row (hown.below hB) hr (by simp; omega) (by simp [maxLen]; omega) (by show (T0.length + 2) * 16 ≤ _; exact hm)
  exact ⟨v', w', h1, h2, h3, fun K w0 hK hw => Mine.more (hown.below hB) (hw.alloc (Nat.le_trans hK hb) _) hK (by simp; omega) h3⟩

section
variable {P : Program} {w : World}
/-- An append at a step of a region that draws its order. -/
theorem step_append_ex {ops : Array Oper} {o : Oper} {a : Act} {K : Act → World → Prop} {Q : Exit → Act → World → Prop} {E : Prop} (hgd : o.guard = none) (s x : Operand) (t tn : TypeId)
    (ho : o.op = .call { callee := .builtin .append, args := #[s, x], argTypes := #[t, tn] }) (vs vx : Value) (hs : a.eval s = vs) (hx : a.eval x = vx)
    {R : Value → World → Prop} (hr : ∃ v' w', (∀ ty, (Builtin.append_ #[t, tn] ty #[vs, vx]).run P w = .ok v' w') ∧ R v' w') (h : ∀ v' w', R v' w' → K (a.put o.dst v') w') :
    if Region.wanted o (yielded ops a.tmps) = true then Oper.wp P o a w K Q else E := by
  have hw : Region.wanted o (yielded ops a.tmps) = true := by simp [Region.wanted, hgd]
  rw [if_pos hw]
  obtain ⟨v', w', h1, h2⟩ := hr
  exact Lib.wp_append_run w s x t tn ho vs vx hs hx v' w' (h1 _) (h v' w' h2)
end
end Go.Proofs.Ytlemecnmjhhbiaa.ck
