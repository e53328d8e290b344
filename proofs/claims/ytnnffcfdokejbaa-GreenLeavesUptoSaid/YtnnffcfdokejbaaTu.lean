/-
  Layer 8: the program's Node.
-/
import Derived.Test.YtnnffcfdokejbaaTt
namespace Go.Proofs.Ytnnffcfdokejbaa.rd
open Go.RowKit

theorem results_ct {P : Program} {fn : Func} {p u : Tmp} {ty : TypeId} (h : fn.results = #[.cell p ty, .tmp u]) (tmps : Array Value) (w : World) (g : Nat) (e : TypeId) (cs : Array Value) (fr : Nat × Nat) (d : TypeDesc)
    (hp : tmps.getD p undef = .pointer (some ⟨g, 0, none⟩)) (hg : w.heap[g]? = some (.cells cs e fr)) (hu : P.underlying ty = some d) (hd : (match d with | .struct _ | .array _ _ => true | _ => false) = true) (hi : (P.info? ty).map (·.size) = some cs.size) :
    (results fn tmps).run P w = .ok (.tuple #[.agg cs, tmps.getD u undef]) w := by
  have hp' : tmps[p]?.getD undef = .pointer (some ⟨g, 0, none⟩) := by simpa using hp
  simp [results, h, hp', asAddr, run_loadVar_row w g e ty cs fr d hg hu hd hi]
/-- A node's box is written over. -/
theorem box_set {w : World} {X : Nat} {cs : Array Value} (h : w.heap[X]? = some (.cells cs 24 (0, 0))) (hc : cs.size = 4) (x0 x1 x2 x3 : Value) :
    ((((w.setCell ⟨X, 0, none⟩ x0).setCell ⟨X, 1, none⟩ x1).setCell ⟨X, 2, none⟩ x2).setCell ⟨X, 3, none⟩ x3).heap[X]? = some (.cells #[x0, x1, x2, x3] 24 (0, 0)) ∧ (∀ k', k' ≠ X → ((((w.setCell ⟨X, 0, none⟩ x0).setCell ⟨X, 1, none⟩ x1).setCell ⟨X, 2, none⟩ x2).setCell ⟨X, 3, none⟩ x3).heap[k']? = w.heap[k']?) ∧ ((((w.setCell ⟨X, 0, none⟩ x0).setCell ⟨X, 1, none⟩ x1).setCell ⟨X, 2, none⟩ x2).setCell ⟨X, 3, none⟩ x3).heap.size = w.heap.size := by
  obtain ⟨l⟩ := cs
  obtain ⟨c0, c1, c2, c3, rfl⟩ := list_four (l := l) hc
  exact ⟨heap_setCell_same _ _ 3 _ _ _ (heap_setCell_same _ _ 2 _ _ _ (heap_setCell_same _ _ 1 _ _ _ (heap_setCell_same _ _ 0 _ _ _ h))), fun k' hk => by rw [set_one _ _ _ _ _ hk, set_one _ _ _ _ _ hk, set_one _ _ _ _ _ hk, set_one _ _ _ _ _ hk], by rw [size_set, size_set, size_set, size_set]⟩
theorem zero_box (w : World) : (w.alloc (.cells #[.int .i64 0, .int .i64 0, .int .i64 0, .slice none 0 0] 24)).heap[w.heap.size]? = some (.cells #[.int .i64 0, .int .i64 0, .int .i64 0, .slice none 0 0] 24 (0, 0)) := heap_alloc_last w _
set_option maxRecDepth 100000 in
set_option maxHeartbeats 4000000 in
theorem node_any {w : World} {b m : Nat} {vN : Value} {L : List Gr} (h : PoolG w b m vN L) (id : Nat) (a : Int) (hid : id < L.length) (ha : 0 ≤ a) (hA : a ≤ 2147483647) : Calls Try.prog 29 #[.pointer (some ⟨b, 0, none⟩), .int .i64 (id : Int), .int .i64 a] w fun e w' => ∃ n : Rn, e = .returned (.tuple #[n.v, .int .i64 0]) ∧ Below w.heap.size w w' ∧ Fresh w.heap.size w' (nodeT L (id + 1) id a) n := by
  have HH := Lib.hid (fun w' hb => has_any (h.below (w' := w') hb) (id : Int))
  have htest : (decide (0 ≤ (id : Int)) && decide ((id : Int) < (L.length : Int))) = true := by simp; omega
  rw [htest] at HH
  have hfew := (h.ok.all id hid).few
  have HPL := Lib.hid (fun u (hu : Below w.heap.size w u) => placed_any id u b m vN L a (id + 1) hid (h.below hu) (by omega) ha (by omega))
  have hb1 : Below w.heap.size w (w.alloc (.cells #[.int .i64 0, .int .i64 0, .int .i64 0, .slice none 0 0] 24)) := (Below.refl _ _).alloc (Nat.le_refl _) _
  have hx1 := zero_box w
  obtain ⟨X, hX⟩ : ∃ X, w.heap.size = X := ⟨_, rfl⟩
  rw [hX] at hx1
  have HX := Lib.hid hX
  have HB1 := Lib.hid (And.intro hb1 hx1)
  have hn1 : decide (a < 0) = false := decide_eq_false (by omega)
  have hn2 : decide (2147483647 < a) = false := decide_eq_false (by omega)
  clear h htest hfew hb1 hx1 hX
  go_enter Try.func29, Try.ntmps29
  have hX := HX.out
  go_wp2_with (first
    | (go_at_call 48; (with_reducible refine (HH.out _ HB1.out.1).mono ?_); rintro e w1 ⟨rfl, rfl⟩)
    | (go_at_call 53; (with_reducible refine (HPL.out _ HB1.out.1).mono ?_); rintro e w2 ⟨⟨nk, ni, nj, no, nn, nc⟩, rfl, hb2, hf2⟩; have hx2 : w2.heap[X]? = _ := (hb2.block X (Array.getElem?_eq_some_iff.1 HB1.out.2).1).trans HB1.out.2; obtain ⟨⟨x0, x1, x2, x3⟩, fm⟩ := four_cells0 hx2; have xz := (Array.getElem?_eq_some_iff.1 hx2).1; have f0 := fm 0; have f1 := fm 1; have f2 := fm 2; have f3 := fm 3; have HE := Lib.hid (And.intro (HB1.out.1.trans (hb2.mono HB1.out.1.size)) (And.intro hf2 hx2)); clear hb2 hf2 hx2 fm; dsimp only [Rn.v]))
  obtain ⟨hb2, hf2, hx2⟩ := HE.out
  obtain ⟨s1, s2, s3⟩ := box_set hx2 rfl (.int .i64 nk) (.int .i64 ni) (.int .i64 nj) (.slice no nn nc)
  refine bodyPost_ret (results_ct rfl _ _ X 24 _ (0, 0) _ rfl s1 Try.underlying24 rfl (by as_aux_lemma => kernel_rfl)) rfl ?_
  have hXX := HX.out
  refine ⟨⟨nk, ni, nj, no, nn, nc⟩, rfl, ⟨hb2.os, hb2.tape, hb2.output, by rw [s3]; exact hb2.size, fun k' hk => (s2 k' (by omega)).trans (hb2.block k' hk)⟩, ?_⟩
  obtain ⟨D, h1, h2⟩ := hf2
  have hz1 := World.size_alloc w (.cells #[.int .i64 0, .int .i64 0, .int .i64 0, .slice none 0 0] 24)
  refine ⟨D, OTie.keep (fun g hg => s2 g (by have := (h2 g hg).1; omega)) (fun _ h => h) _ _ h1, fun g hg => ⟨by have := (h2 g hg).1; omega, by rw [s3]; exact (h2 g hg).2⟩⟩
theorem node_none {w : World} {b m : Nat} {vN : Value} {L : List Gr} (h : PoolG w b m vN L) (id a : Int) (hid : ¬ (0 ≤ id ∧ id < (L.length : Int))) : Calls Try.prog 29 #[.pointer (some ⟨b, 0, none⟩), .int .i64 id, .int .i64 a] w fun e w' => ∃ n : Rn, e = .returned (.tuple #[n.v, .int .i64 100]) ∧ Below w.heap.size w w' := by
  have HH := Lib.hid (fun w' hb => has_any (h.below (w' := w') hb) id)
  have htest : (decide (0 ≤ id) && decide (id < (L.length : Int))) = false := by
    rw [Bool.and_eq_false_iff]
    by_cases h0 : 0 ≤ id
    · exact .inr (decide_eq_false (fun e => hid ⟨h0, e⟩))
    · exact .inl (decide_eq_false h0)
  rw [htest] at HH
  have hb1 : Below w.heap.size w (w.alloc (.cells #[.int .i64 0, .int .i64 0, .int .i64 0, .slice none 0 0] 24)) := (Below.refl _ _).alloc (Nat.le_refl _) _
  have HB1 := Lib.hid (And.intro hb1 (zero_box w))
  clear h htest hid hb1
  go_enter Try.func29, Try.ntmps29
  go_wp2_with (go_at_call 48; (with_reducible refine (HH.out _ HB1.out.1).mono ?_); rintro e w1 ⟨rfl, rfl⟩)
  refine bodyPost_ret (results_ct rfl _ _ w.heap.size 24 _ (0, 0) _ rfl HB1.out.2 Try.underlying24 rfl (by as_aux_lemma => kernel_rfl)) rfl ?_
  exact ⟨⟨0, 0, 0, none, 0, 0⟩, rfl, HB1.out.1⟩
theorem node_arg {w : World} {b m : Nat} {vN : Value} {L : List Gr} (h : PoolG w b m vN L) (id : Nat) (a : Int) (hid : id < L.length) (ha : a < 0 ∨ 2147483647 < a) : Calls Try.prog 29 #[.pointer (some ⟨b, 0, none⟩), .int .i64 (id : Int), .int .i64 a] w fun e w' => ∃ n : Rn, e = .returned (.tuple #[n.v, .int .i64 1]) ∧ Below w.heap.size w w' := by
  have HH := Lib.hid (fun w' hb => has_any (h.below (w' := w') hb) (id : Int))
  have htest : (decide (0 ≤ (id : Int)) && decide ((id : Int) < (L.length : Int))) = true := by simp; omega
  rw [htest] at HH
  have hb1 : Below w.heap.size w (w.alloc (.cells #[.int .i64 0, .int .i64 0, .int .i64 0, .slice none 0 0] 24)) := (Below.refl _ _).alloc (Nat.le_refl _) _
  have HB1 := Lib.hid (And.intro hb1 (zero_box w))
  clear h htest hid hb1
  by_cases h0 : a < 0
  · have hn1 : decide (a < 0) = true := decide_eq_true h0
    go_enter Try.func29, Try.ntmps29
    go_wp2_with (go_at_call 48; (with_reducible refine (HH.out _ HB1.out.1).mono ?_); rintro e w1 ⟨rfl, rfl⟩)
    refine bodyPost_ret (results_ct rfl _ _ w.heap.size 24 _ (0, 0) _ rfl HB1.out.2 Try.underlying24 rfl (by as_aux_lemma => kernel_rfl)) rfl ?_
    exact ⟨⟨0, 0, 0, none, 0, 0⟩, rfl, HB1.out.1⟩
  · have hn1 : decide (a < 0) = false := decide_eq_false h0
    have hn2 : decide (2147483647 < a) = true := decide_eq_true (ha.resolve_left h0)
    go_enter Try.func29, Try.ntmps29
    go_wp2_with (go_at_call 48; (with_reducible refine (HH.out _ HB1.out.1).mono ?_); rintro e w1 ⟨rfl, rfl⟩)
    refine bodyPost_ret (results_ct rfl _ _ w.heap.size 24 _ (0, 0) _ rfl HB1.out.2 Try.underlying24 rfl (by as_aux_lemma => kernel_rfl)) rfl ?_
    exact ⟨⟨0, 0, 0, none, 0, 0⟩, rfl, HB1.out.1⟩
end Go.Proofs.Ytnnffcfdokejbaa.rd
