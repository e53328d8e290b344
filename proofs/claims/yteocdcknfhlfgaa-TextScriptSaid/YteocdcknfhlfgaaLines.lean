/-
  The contracts of Lines, Line, Place, At, Piece.
-/
import Derived.Test.YteocdcknfhlfgaaBegins
import Derived.Test.YteocdcknfhlfgaaSorted
namespace Go.Proofs.Yteocdcknfhlfgaa.buf
open Go.RowKit

theorem Ints.shape {w : World} {B : Nat} {v : Value} {l : List Nat} (h : Ints w B v l) (hl : 0 < l.length) :
    ∃ g cap, v = .slice (some ⟨g, 0, none⟩) l.length cap ∧ g < w.heap.size ∧ ∀ j (hj : j < l.length), w.cell? ⟨g, j, none⟩ = some (.int .i64 (l[j] : Nat)) := by
  rcases h.2 with ⟨a, b⟩ | ⟨g, cap, cur, rfl, hB, hg, hc, _⟩
  · omega
  · refine ⟨g, cap, rfl, (Array.getElem?_eq_some_iff.1 hg).1, fun j hj => ?_⟩
    have e : ((⟨g, 0, none⟩ : Addr).add j) = ⟨g, j, none⟩ := by rw [Addr.add_lit, Nat.zero_add]
    rw [← e]
    exact World.ownsRow.cells h (g := g) rfl j _ (by simp [intCells, hj])
theorem begins_few (T : List UInt8) : (begins T).length ≤ T.length + 1 := by
  unfold begins
  have := feeds_length T 0
  simp; omega

/-- What a question leaves of a buffer. -/
def Still (g : Nat) (T : List UInt8) (w w' : World) : Prop := BufAt w' g T ∧ Save w.heap.size g w w'

set_option maxRecDepth 100000 in
set_option maxHeartbeats 1000000 in
theorem lines_any (g : Nat) (T : List UInt8) (w : World) (h : BufAt w g T) :
    Calls Try.prog 9 #[.pointer (some ⟨g, 0, none⟩)] w fun e w' => e = .returned (.int .i64 ((begins T).length : Nat)) ∧ Still g T w w' := by
  have H := Lib.hid h
  clear h
  go_enter Try.func9, Try.ntmps9
  go_wp2_with fail
  refine (begins_any g T _ H.out).mono ?_
  rintro e w1 ⟨v, rfl, hi, hb, hs⟩
  obtain ⟨q, cap, rfl, _⟩ := hi.shape (begins_pos T)
  have HB := Lib.hid hb
  have HS := Lib.hid hs
  clear hi hb hs
  go_wp2_with fail
  go_ret
  exact ⟨rfl, HB.out, HS.out⟩

/-- A row is no block of yet other elements. -/
theorem apart_ne {w : World} {B e n s g : Nat} {v : Value} {cs : Array Value} {l : List Value} {e' : TypeId} {f : Nat × Nat} (h : w.ownsRow B e s v n l) (hg : w.heap[g]? = some (.cells cs e' f)) (he : e ≠ e') : v.ownBlock ≠ some g := by
  rcases h.2 with ⟨rfl, _⟩ | ⟨k, cap, cur, rfl, _, hh, _⟩
  · simp [Value.ownBlock]
  · intro c
    simp only [Value.ownBlock, Option.some.injEq] at c
    subst c
    rw [hh] at hg
    simp only [Option.some.injEq, Obj.cells.injEq] at hg
    exact he hg.2.1
theorem BufAt.aside {w w' : World} {g h : Nat} {T : List UInt8} {cs : Array Value} {e : TypeId} {f : Nat × Nat} (hb : BufAt w g T) (hs : Save w.heap.size h w w') (hr : w.heap[h]? = some (.cells cs e f)) (h1 : 9 ≠ e) (h2 : 3 ≠ e) (h3 : g ≠ h) : BufAt w' g T := by
  obtain ⟨v, l, d, p, h6, hv, hl, ht, hT, hk⟩ := hb
  refine ⟨v, l, d, p, (hs.block g h6.lt h3).trans h6, row_kept hv hs.block (apart_ne hv hr h1), hl, ht, hT, ?_⟩
  rcases hk with hk | ⟨e, hk⟩
  · exact .inl hk
  · exact .inr ⟨e, row_kept hk hs.block (apart_ne hk hr h2)⟩
/-- Two cells of a new block are written. -/
theorem Still.two {g N : Nat} {T : List UInt8} {w w1 : World} {x y : Value} {cs : Array Value} (h : Still g T w w1) (hN : w.heap.size ≤ N) (hg : g < N) (hr : w1.heap[N]? = some (.cells cs 30 (0, 0))) :
    Still g T w ((w1.setCell ⟨N, 0, none⟩ x).setCell ⟨N, 1, none⟩ y) := by
  have hs : Save w1.heap.size N w1 ((w1.setCell ⟨N, 0, none⟩ x).setCell ⟨N, 1, none⟩ y) := ((Save.refl _ _ _).setCell 0 _).setCell 1 _
  exact ⟨h.1.aside hs hr (by decide) (by decide) (by omega), h.2.trans (Save.of (((Below.refl w.heap.size w1).setCell (p := ⟨N, 0, none⟩) hN x).setCell (p := ⟨N, 1, none⟩) hN y))⟩

set_option maxRecDepth 100000 in
set_option maxHeartbeats 1000000 in
theorem line_out (g : Nat) (T : List UInt8) (n : Int) (w : World) (h : BufAt w g T) (hn : n < 0 ∨ ((begins T).length : Int) ≤ n) :
    Calls Try.prog 10 #[.pointer (some ⟨g, 0, none⟩), .int .i64 n] w fun e w' => e = .returned (.tuple #[.agg #[.int .i64 0, .int .i64 0], .int .i64 10]) ∧ Still g T w w' := by
  have H := Lib.hid h
  clear h
  have hbx : ∀ o : Obj, Below w.heap.size w (w.alloc o) := fun o => (Below.refl _ _).alloc (Nat.le_refl _) o
  have HX := Lib.hid hbx
  clear hbx
  go_enter Try.func10, Try.ntmps10
  go_wp2_with fail
  refine (begins_any g T _ (H.out.below (HX.out _))).mono ?_
  rintro e w1 ⟨v, rfl, hi, hb, hs⟩
  obtain ⟨q, cap, rfl, _⟩ := hi.shape (begins_pos T)
  have hg := H.out.lt
  have hnew := (hs.block w.heap.size (by simp) (by omega)).trans (heap_alloc_new w _)
  have cn : w1.cell? ⟨w.heap.size, 0, none⟩ = some (.int .i64 0) ∧ w1.cell? ⟨w.heap.size, 1, none⟩ = some (.int .i64 0) ∧ w1.frozen? ⟨w.heap.size, 0, none⟩ = false ∧ w1.frozen? ⟨w.heap.size, 1, none⟩ = false := by
    simp [World.cell?, World.frozen?, hnew]
  obtain ⟨n0, n1, m0, m1⟩ := cn
  have HW := Lib.hid (show Still g T w w1 from ⟨hb, (Save.of (HX.out _)).trans (hs.mono (by simp))⟩)
  have HN := Lib.hid hnew
  have p0 : ∀ x : Value, (w1.setCell ⟨w.heap.size, 0, none⟩ x).cell? ⟨w.heap.size, 0, none⟩ = some x := fun x => World.cell?_setCell_same w1 _ x n0
  have p1 : ∀ x y : Value, ((w1.setCell ⟨w.heap.size, 0, none⟩ x).setCell ⟨w.heap.size, 1, none⟩ y).cell? ⟨w.heap.size, 1, none⟩ = some y := fun x y => World.cell?_setCell_same _ _ y ((World.cell?_setCell_other _ ⟨w.heap.size, 0, none⟩ ⟨w.heap.size, 1, none⟩ _ (by simp)).trans n1)
  clear hi hb hs hnew
  by_cases h0 : n < 0
  · have t1 : decide (n < 0) = true := decide_eq_true h0
    go_wp2_with fail
    refine bodyPost_ret (v := .tuple #[.agg #[.int .i64 0, .int .i64 0], .int .i64 10]) ?_ rfl ⟨rfl, HW.out.two (Nat.le_refl _) hg HN.out⟩
    simp [results, Try.results10, go_sem, p0, p1]
  · have t1 : decide (n < 0) = false := decide_eq_false h0
    have t2 : decide (((begins T).length : Int) ≤ n) = true := decide_eq_true (by omega)
    go_wp2_with fail
    refine bodyPost_ret (v := .tuple #[.agg #[.int .i64 0, .int .i64 0], .int .i64 10]) ?_ rfl ⟨rfl, HW.out.two (Nat.le_refl _) hg HN.out⟩
    simp [results, Try.results10, go_sem, p0, p1]

set_option maxRecDepth 100000 in
set_option maxHeartbeats 1000000 in
theorem line_ok (g : Nat) (T : List UInt8) (n : Nat) (w : World) (h : BufAt w g T) (hn : n < (begins T).length) :
    Calls Try.prog 10 #[.pointer (some ⟨g, 0, none⟩), .int .i64 n] w fun e w' => e = .returned (.tuple #[.agg #[.int .i64 ((begins T)[n] : Nat), .int .i64 (lineTo T n : Nat)], .int .i64 0]) ∧ Still g T w w' := by
  have hT := h.short
  have hfew := begins_few T
  have hge := lineTo_ge T n hn
  obtain ⟨E, hE⟩ : ∃ E, lineTo T n = E := ⟨_, rfl⟩
  obtain ⟨F, hF⟩ : ∃ F, (begins T)[n] = F := ⟨_, rfl⟩
  rw [hE, hF] at hge ⊢
  have HE := Lib.hid hE
  have HF := Lib.hid hF
  have H := Lib.hid h
  clear h hE hF
  have hbx : ∀ o : Obj, Below w.heap.size w (w.alloc o) := fun o => (Below.refl _ _).alloc (Nat.le_refl _) o
  have HX := Lib.hid hbx
  clear hbx
  go_enter Try.func10, Try.ntmps10
  go_wp2_with fail
  refine (begins_any g T _ (H.out.below (HX.out _))).mono ?_
  rintro e w1 ⟨v, rfl, hi, hb, hs⟩
  obtain ⟨q, cap, rfl, _, hc⟩ := hi.shape (begins_pos T)
  have hg := H.out.lt
  have hnew := (hs.block w.heap.size (by simp) (by omega)).trans (heap_alloc_new w _)
  have cn : w1.cell? ⟨w.heap.size, 0, none⟩ = some (.int .i64 0) ∧ w1.cell? ⟨w.heap.size, 1, none⟩ = some (.int .i64 0) ∧ w1.frozen? ⟨w.heap.size, 0, none⟩ = false ∧ w1.frozen? ⟨w.heap.size, 1, none⟩ = false := by
    simp [World.cell?, World.frozen?, hnew]
  obtain ⟨n0, n1, m0, m1⟩ := cn
  have hlen : w1.cell? ⟨g, 1, none⟩ = some (.int .i64 (T.length : Nat)) := by
    obtain ⟨_, _, _, _, k6, _⟩ := hb
    exact k6.cells.2.1
  have cur := hc n hn
  rw [HF.out] at cur
  have HW := Lib.hid (show Still g T w w1 from ⟨hb, (Save.of (HX.out _)).trans (hs.mono (by simp))⟩)
  have HN := Lib.hid hnew
  have p0 : ∀ x : Value, (w1.setCell ⟨w.heap.size, 0, none⟩ x).cell? ⟨w.heap.size, 0, none⟩ = some x := fun x => World.cell?_setCell_same w1 _ x n0
  have p1 : ∀ x y : Value, ((w1.setCell ⟨w.heap.size, 0, none⟩ x).setCell ⟨w.heap.size, 1, none⟩ y).cell? ⟨w.heap.size, 1, none⟩ = some y := fun x y => World.cell?_setCell_same _ _ y ((World.cell?_setCell_other _ ⟨w.heap.size, 0, none⟩ ⟨w.heap.size, 1, none⟩ _ (by simp)).trans n1)
  by_cases hn1 : n + 1 < (begins T).length
  · have cnx := hc (n + 1) hn1
    obtain ⟨hf, hfe⟩ := line_feed T n hn1
    rw [hfe, HE.out] at cnx
    clear hi hb hs hnew hc hf hfe
    go_wp2_with fail
    refine bodyPost_ret (v := .tuple #[.agg #[.int .i64 (F : Nat), .int .i64 (E : Nat)], .int .i64 0]) ?_ rfl ⟨rfl, HW.out.two (Nat.le_refl _) hg HN.out⟩
    simp [results, Try.results10, go_sem, p0, p1]
  · have hE := line_end T n hn1
    have hE2 : T.length = E := by rw [← HE.out, hE]
    rw [hE2] at hlen
    clear hi hb hs hnew hc hE hE2
    go_wp2_with fail
    refine bodyPost_ret (v := .tuple #[.agg #[.int .i64 (F : Nat), .int .i64 (E : Nat)], .int .i64 0]) ?_ rfl ⟨rfl, HW.out.two (Nat.le_refl _) hg HN.out⟩
    simp [results, Try.results10, go_sem, p0, p1]
end Go.Proofs.Yteocdcknfhlfgaa.buf
