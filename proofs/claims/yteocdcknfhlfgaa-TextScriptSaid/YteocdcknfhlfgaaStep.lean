/-
  The three calls of a step that edits: what each leaves.
-/
import Derived.Test.YteocdcknfhlfgaaLaw
namespace Go.Proofs.Yteocdcknfhlfgaa.buf
open Go.RowKit

/-- The step in block E; the list that was lent in block X. -/
structure Held (E X B cap : Nat) (k n m : Int) (ev : Value) (es : List Ed) (W : World) : Prop where
  row : Eds W B (.slice (some ⟨X, 0, none⟩) (es.length + 2) cap) (es ++ [markE, behindE])
  step : W.heap[E]? = some (.cells #[.int .i64 k, .int .i64 n, .int .i64 m, ev] 43 (0, 0))
theorem Held.kept {E X B cap : Nat} {k n m : Int} {ev : Value} {es : List Ed} {W W' : World} {g : Nat} {cs : Array Value} {t : TypeId} (x : Held E X B cap k n m ev es W) (hs : Save W.heap.size g W W') (hg : W.heap[g]? = some (.cells cs t (0, 0))) (h1 : 60 ≠ t) (h2 : 43 ≠ t) : Held E X B cap k n m ev es W' := by
  refine ⟨row_kept x.row hs.block (apart_ne x.row hg h1), (hs.block E (Array.getElem?_eq_some_iff.1 x.step).1 ?_).trans x.step⟩
  rintro rfl
  have := x.step
  rw [hg] at this
  simp only [Option.some.injEq, Obj.cells.injEq] at this
  exact h2 this.2.1.symm
theorem Held.below {E X B cap : Nat} {k n m : Int} {ev : Value} {es : List Ed} {W W' : World} (x : Held E X B cap k n m ev es W) (hb : Below W.heap.size W W') : Held E X B cap k n m ev es W' :=
  ⟨row_below x.row hb, (hb.block E (Array.getElem?_eq_some_iff.1 x.step).1).trans x.step⟩
theorem Held.cell {E X B cap : Nat} {k n m : Int} {ev : Value} {es : List Ed} {W : World} (x : Held E X B cap k n m ev es W) : W.cell? ⟨E, 3, none⟩ = some ev := by simp [World.cell?, x.step]
theorem Held.room {E X B cap : Nat} {k n m : Int} {ev : Value} {es : List Ed} {W : World} (x : Held E X B cap k n m ev es W) : es.length + 2 ≤ cap := by
  rcases x.row.2 with ⟨a, _⟩ | ⟨g, cap', cur, hv, _, _, hn, _⟩
  · simp at a
  · simp only [Value.slice.injEq] at hv
    have : (es ++ [markE, behindE]).length = es.length + 2 := by simp
    omega
theorem Held.eds {E X B cap : Nat} {k n m : Int} {ev : Value} {es : List Ed} {W : World} (x : Held E X B cap k n m ev es W) : EdsAt W (.slice (some ⟨X, 0, none⟩) es.length cap) es := by
  by_cases h0 : es.length = 0
  · have := List.eq_nil_of_length_eq_zero h0
    subst this
    exact .inl ⟨rfl, _, cap, rfl⟩
  · have hlen : (es ++ [markE, behindE]).length = es.length + 2 := by simp
    obtain ⟨X', cap', cur, hv, _, hX, _, hc⟩ := x.row.shape (by omega)
    simp only [Value.slice.injEq, Option.some.injEq, Addr.mk.injEq] at hv
    obtain ⟨⟨rfl, _⟩, _, rfl⟩ := hv
    refine .inr ⟨X, 0, cap, rfl, (Array.getElem?_eq_some_iff.1 hX).1, fun j hj => ?_⟩
    have := hc j (by omega)
    rw [Nat.zero_add]
    simpa [List.getElem_append_left hj] using this

section
variable {w0 : World} {P Q g h g2 h2 E X B cap : Nat} {s s2 : ByteArray} {k n m : Int} {ev : Value} {es : List Ed}
theorem do_apply (hl : es.length ≤ 16777216) (W : World) (x : Law w0 P Q g h g2 h2 s s2 W) (y : Held E X B cap k n m ev es W) :
    Calls Try.prog 14 #[.pointer (some ⟨g, 0, none⟩), .slice (some ⟨X, 0, none⟩) es.length cap] W fun e w' => e = .returned (.int .i64 (codeOf s.size es)) ∧ Half w0 P Q g h g2 h2 s s2 es w' ∧ Held E X B cap k n m ev es w' := by
  refine (apply_any g _ _ es W x.b1 y.eds (by omega)).mono ?_
  rintro e w' ⟨a, b, c⟩
  obtain ⟨x0, x1, x2, x3, x4, x5, h6⟩ := x.b1.six
  exact ⟨by rw [a, size_data], x.half c b, y.kept c h6 (by decide) (by decide)⟩
theorem do_ref (hl : es.length ≤ 16777216) (he : EdsAt w0 ev es) (W : World) (x : Half w0 P Q g h g2 h2 s s2 es W) (y : Held E X B cap k n m ev es W) (hs : s.size ≤ 16384) :
    Calls Try.prog 15 #[.pointer (some ⟨h, 0, none⟩), ev] W fun e w' => e = .returned (.int .i64 (codeOf s.size es)) ∧ (∃ s' s2', Law w0 P Q g h g2 h2 s' s2' w') ∧ Held E X B cap k n m ev es w' := by
  refine (refApply_any h ev s es W x.r1 hs (he.below x.below) (by omega)).mono ?_
  rintro e w' ⟨a, ⟨s', b, t⟩, c⟩
  obtain ⟨s2', l⟩ := x.whole c b t
  exact ⟨a, ⟨s', s2', l⟩, y.kept c x.r1 (by decide) (by decide)⟩
theorem Law.row {W W' : World} (x : Law w0 P Q g h g2 h2 s s2 W) {X : Nat} {cs : Array Value} (hs : Save W.heap.size X W W') (hr : W.heap[X]? = some (.cells cs 60 (0, 0))) (hX : w0.heap.size ≤ X) : Law w0 P Q g h g2 h2 s s2 W' := by
  have keep : ∀ {N : Nat} {c : Array Value} {t : TypeId}, W.heap[N]? = some (.cells c t (0, 0)) → t ≠ 60 → W'.heap[N]? = some (.cells c t (0, 0)) := fun {N c t} hN ht => (hs.block N (Array.getElem?_eq_some_iff.1 hN).1 (by
    rintro rfl
    rw [hr] at hN
    simp only [Option.some.injEq, Obj.cells.injEq] at hN
    exact ht hN.2.1.symm)).trans hN
  exact ⟨x.b1.aside hs hr (by decide) (by decide) (fun z => pair_ne x.b1 hr (by decide) z.symm), keep x.r1 (by decide), x.b2.aside hs hr (by decide) (by decide) (fun z => pair_ne x.b2 hr (by decide) z.symm), keep x.r2 (by decide), x.ap, keep x.pP (by decide), keep x.pQ (by decide), x.low, x.below.trans (hs.below x.below.size hX)⟩
theorem do_still (hl : es.length ≤ 16777216) (he : EdsAt w0 ev es) (hB : w0.heap.size ≤ B) (W : World) (x : Law w0 P Q g h g2 h2 s s2 W) (y : Held E X B cap k n m ev es W) :
    Calls Try.prog 16 #[.slice (some ⟨X, 0, none⟩) (es.length + 2) cap, ev] W fun e w' => e = .returned (.bool true) ∧ Law w0 P Q g h g2 h2 s s2 w' ∧ w'.heap[E]? = some (.cells #[.int .i64 k, .int .i64 n, .int .i64 m, ev] 43 (0, 0)) := by
  refine (still_any X cap ev B es W y.row (he.below x.below) (by omega)).mono ?_
  rintro e w' ⟨a, c⟩
  have hlen : (es ++ [markE, behindE]).length = es.length + 2 := by simp
  obtain ⟨X', cap', cur, hv, hBX, hX, _, _⟩ := y.row.shape (by omega)
  simp only [Value.slice.injEq, Option.some.injEq, Addr.mk.injEq] at hv
  obtain ⟨⟨rfl, _⟩, _, rfl⟩ := hv
  refine ⟨a, x.row c hX (by omega), (c.block E (Array.getElem?_eq_some_iff.1 y.step).1 ?_).trans y.step⟩
  rintro rfl
  have := y.step
  rw [hX] at this
  simp at this
end
end Go.Proofs.Yteocdcknfhlfgaa.buf
