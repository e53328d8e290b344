/-
  The contract of pair.asks, of two buffers with the same text.
-/
import Derived.Test.YteocdcknfhlfgaaBoth
namespace Go.Proofs.Yteocdcknfhlfgaa.buf
open Go.RowKit

/-- The pair in block N, the step in the block behind it. -/
structure Three (g h N : Nat) (T : List UInt8) (s : ByteArray) (k n m : Int) (v : Value) (w W : World) : Prop where
  two : Two g h N T s w W
  step : W.heap[N + 1]? = some (.cells #[.int .i64 k, .int .i64 n, .int .i64 m, v] 43 (0, 0))
theorem Three.cells {g h N : Nat} {T : List UInt8} {s : ByteArray} {k n m : Int} {v : Value} {w W : World} (x : Three g h N T s k n m v w W) :
    W.cell? ⟨N, 0, none⟩ = some (.pointer (some ⟨g, 0, none⟩)) ∧ W.cell? ⟨N, 1, none⟩ = some (.pointer (some ⟨h, 0, none⟩)) ∧ W.cell? ⟨N + 1, 0, none⟩ = some (.int .i64 k) ∧ W.cell? ⟨N + 1, 1, none⟩ = some (.int .i64 n) ∧ W.cell? ⟨N + 1, 2, none⟩ = some (.int .i64 m) := by
  refine ⟨x.two.cells.1, x.two.cells.2.1, ?_, ?_, ?_⟩ <;> simp [World.cell?, x.step]
theorem Three.still {g h N : Nat} {T : List UInt8} {s : ByteArray} {k n m : Int} {v : Value} {w W W' : World} (x : Three g h N T s k n m v w W) (hs : Still g T W W') : Three g h N T s k n m v w W' := by
  have hN : N + 1 < W.heap.size := (Array.getElem?_eq_some_iff.1 x.step).1
  refine ⟨x.two.still hs, (hs.2.block _ hN ?_).trans x.step⟩
  rintro rfl
  obtain ⟨x0, x1, x2, x3, x4, x5, h6⟩ := x.two.buf.six
  have := x.step
  unfold Six at h6
  rw [this] at h6
  simp at h6
theorem Three.below {g h N : Nat} {T : List UInt8} {s : ByteArray} {k n m : Int} {v : Value} {w W W' : World} (x : Three g h N T s k n m v w W) (hb : Below W.heap.size W W') : Three g h N T s k n m v w W' := x.still ⟨x.two.buf.below hb, Save.of hb⟩

theorem One.left {g h N : Nat} {T : List UInt8} {s : ByteArray} {k n m : Int} {v : Value} {w : World} {F G : Nat} {xs : List Value} {r : Value} (o : One g h T s F G xs r) (W : World) (x : Three g h N T s k n m v w W) :
    Calls Try.prog F (Array.mk (.pointer (some ⟨g, 0, none⟩) :: xs)) W fun e w' => e = .returned r ∧ Three g h N T s k n m v w w' := (o.1 W x.two.buf).mono fun _ _ ⟨a, b⟩ => ⟨a, x.still b⟩
theorem One.right {g h N : Nat} {T : List UInt8} {s : ByteArray} {k n m : Int} {v : Value} {w : World} {F G : Nat} {xs : List Value} {r : Value} (o : One g h T s F G xs r) (W : World) (x : Three g h N T s k n m v w W) :
    Calls Try.prog G (Array.mk (.pointer (some ⟨h, 0, none⟩) :: xs)) W fun e w' => e = .returned r ∧ Three g h N T s k n m v w w' ∧ Below W.heap.size W w' := (o.2 W x.two.ref).mono fun _ _ ⟨a, b⟩ => ⟨a, x.below b, b⟩

def AskDone (g h : Nat) (T : List UInt8) (s : ByteArray) (w : World) (e : Ending) (w' : World) : Prop := e = .returned (.bool true) ∧ BufAt w' g T ∧ RefAt w' h s ∧ Save w.heap.size g w w'
theorem Three.done {g h N : Nat} {T : List UInt8} {s : ByteArray} {k n m : Int} {v : Value} {w W : World} (x : Three g h N T s k n m v w W) : AskDone g h T s w (.returned (.bool true)) W := ⟨rfl, x.two.buf, x.two.ref, x.two.save⟩

section
variable (g h : Nat) (T : List UInt8) (s : ByteArray) (n m : Int) (v : Value) (w : World)
theorem Three.start (k : Int) (hb : BufAt w g T) (hr : RefAt w h s) : Three g h w.heap.size T s k n m v w ((w.alloc (.cells #[.pointer (some ⟨g, 0, none⟩), .pointer (some ⟨h, 0, none⟩)] 40)).alloc (.cells #[.int .i64 k, .int .i64 n, .int .i64 m, v] 43)) := by
  have b1 : Below w.heap.size w (w.alloc (.cells #[.pointer (some ⟨g, 0, none⟩), .pointer (some ⟨h, 0, none⟩)] 40)) := (Below.refl _ _).alloc (Nat.le_refl _) _
  have t1 : Two g h w.heap.size T s w (w.alloc (.cells #[.pointer (some ⟨g, 0, none⟩), .pointer (some ⟨h, 0, none⟩)] 40)) := ⟨hb.below b1, hr.below b1, heap_alloc_new w _, Save.of b1⟩
  refine ⟨t1.below ((Below.refl _ _).alloc (Nat.le_refl _) _), ?_⟩
  have := heap_alloc_new (w.alloc (.cells #[.pointer (some ⟨g, 0, none⟩), .pointer (some ⟨h, 0, none⟩)] 40)) (.cells #[.int .i64 k, .int .i64 n, .int .i64 m, v] 43)
  simpa using this

variable (hb : BufAt w g T) (hr : RefAt w h s) (hs : s.data.toList = T)
include hb hr hs
set_option maxRecDepth 100000 in
set_option maxHeartbeats 1000000 in
theorem asks_piece : Calls Try.prog 18 #[.agg #[.pointer (some ⟨g, 0, none⟩), .pointer (some ⟨h, 0, none⟩)], .agg #[.int .i64 1, .int .i64 n, .int .i64 m, v]] w (AskDone g h T s w) := by
  have h3 := Three.start g h T s n m v w 1 hb hr
  obtain ⟨x, c, o⟩ := both_piece g h T s hs hb.short n m
  have A := Lib.hid (fun W y => o.left (N := w.heap.size) (k := 1) (n := n) (m := m) (v := v) (w := w) W y)
  have B := Lib.hid (fun W y => o.right (N := w.heap.size) (k := 1) (n := n) (m := m) (v := v) (w := w) W y)
  have H := Lib.hid h3
  clear hb hr hs o h3
  go_enter Try.func18, Try.ntmps18
  go_wp2_with fail
  refine (A.out _ H.out).mono ?_
  rintro e w1 ⟨rfl, h1⟩
  obtain ⟨x0, x1, x2, x3, x4⟩ := h1.cells
  have H1 := Lib.hid h1
  clear h1
  go_wp2_with fail
  refine (B.out _ H1.out).mono ?_
  rintro e w2 ⟨rfl, h2, _⟩
  obtain ⟨y0, y1, y2, y3, y4⟩ := h2.cells
  have H2 := Lib.hid h2
  clear h2
  go_wp2_with fail
  go_ret
  exact H2.out.done

set_option maxRecDepth 100000 in
set_option maxHeartbeats 1000000 in
theorem asks_at : Calls Try.prog 18 #[.agg #[.pointer (some ⟨g, 0, none⟩), .pointer (some ⟨h, 0, none⟩)], .agg #[.int .i64 4, .int .i64 n, .int .i64 m, v]] w (AskDone g h T s w) := by
  have h3 := Three.start g h T s n m v w 4 hb hr
  obtain ⟨x, c, o⟩ := both_at g h T s hs hb.short n m
  have A := Lib.hid (fun W y => o.left (N := w.heap.size) (k := 4) (n := n) (m := m) (v := v) (w := w) W y)
  have B := Lib.hid (fun W y => o.right (N := w.heap.size) (k := 4) (n := n) (m := m) (v := v) (w := w) W y)
  have H := Lib.hid h3
  clear hb hr hs o h3
  go_enter Try.func18, Try.ntmps18
  go_wp2_with fail
  refine (A.out _ H.out).mono ?_
  rintro e w1 ⟨rfl, h1⟩
  obtain ⟨x0, x1, x2, x3, x4⟩ := h1.cells
  have H1 := Lib.hid h1
  clear h1
  go_wp2_with fail
  refine (B.out _ H1.out).mono ?_
  rintro e w2 ⟨rfl, h2, _⟩
  obtain ⟨y0, y1, y2, y3, y4⟩ := h2.cells
  have H2 := Lib.hid h2
  clear h2
  go_wp2_with fail
  go_ret
  exact H2.out.done

set_option maxRecDepth 100000 in
set_option maxHeartbeats 1000000 in
theorem asks_place : Calls Try.prog 18 #[.agg #[.pointer (some ⟨g, 0, none⟩), .pointer (some ⟨h, 0, none⟩)], .agg #[.int .i64 3, .int .i64 n, .int .i64 m, v]] w (AskDone g h T s w) := by
  have h3 := Three.start g h T s n m v w 3 hb hr
  obtain ⟨x, c, d, o⟩ := both_place g h T s hs hb.short n
  have A := Lib.hid (fun W y => o.left (N := w.heap.size) (k := 3) (n := n) (m := m) (v := v) (w := w) W y)
  have B := Lib.hid (fun W y => o.right (N := w.heap.size) (k := 3) (n := n) (m := m) (v := v) (w := w) W y)
  have H := Lib.hid h3
  clear hb hr hs o h3
  go_enter Try.func18, Try.ntmps18
  go_wp2_with fail
  refine (A.out _ H.out).mono ?_
  rintro e w1 ⟨rfl, h1⟩
  obtain ⟨x0, x1, x2, x3, x4⟩ := h1.cells
  have H1 := Lib.hid h1
  clear h1
  go_wp2_with fail
  refine (B.out _ H1.out).mono ?_
  rintro e w2 ⟨rfl, h2, _⟩
  obtain ⟨y0, y1, y2, y3, y4⟩ := h2.cells
  have H2 := Lib.hid h2
  clear h2
  go_wp2_with fail
  go_ret
  exact H2.out.done

set_option maxRecDepth 100000 in
set_option maxHeartbeats 1000000 in
theorem asks_line : Calls Try.prog 18 #[.agg #[.pointer (some ⟨g, 0, none⟩), .pointer (some ⟨h, 0, none⟩)], .agg #[.int .i64 2, .int .i64 n, .int .i64 m, v]] w (AskDone g h T s w) := by
  have h3 := Three.start g h T s n m v w 2 hb hr
  obtain ⟨x, c, d, o⟩ := both_line g h T s hs hb.short n
  have A := Lib.hid (fun W y => o.left (N := w.heap.size) (k := 2) (n := n) (m := m) (v := v) (w := w) W y)
  have B := Lib.hid (fun W y => o.right (N := w.heap.size) (k := 2) (n := n) (m := m) (v := v) (w := w) W y)
  have H := Lib.hid h3
  clear hb hr hs o h3
  go_enter Try.func18, Try.ntmps18
  go_wp2_with fail
  refine (A.out _ H.out).mono ?_
  rintro e w1 ⟨rfl, h1⟩
  have h1' := h1.below ((Below.refl w1.heap.size w1).alloc (Nat.le_refl _) (.cells #[.int .i64 x, .int .i64 c] 30))
  obtain ⟨x0, x1, x2, x3, x4⟩ := h1.cells
  have u : ∀ o : Obj, Below w1.heap.size w1 (w1.alloc o) := fun o => (Below.refl w1.heap.size w1).alloc (Nat.le_refl _) o
  have u0 := fun o => (h1.below (u o)).cells.1
  have u1 := fun o => (h1.below (u o)).cells.2.1
  have u2 := fun o => (h1.below (u o)).cells.2.2.1
  have u3 := fun o => (h1.below (u o)).cells.2.2.2.1
  have u4 := fun o => (h1.below (u o)).cells.2.2.2.2
  clear u
  have z0 : (w1.alloc (.cells #[.int .i64 x, .int .i64 c] 30)).cell? ⟨w1.heap.size, 0, none⟩ = some (.int .i64 x) := by simp
  have z1 : (w1.alloc (.cells #[.int .i64 x, .int .i64 c] 30)).cell? ⟨w1.heap.size, 1, none⟩ = some (.int .i64 c) := by simp
  have Z := Lib.hid (And.intro z0 z1)
  have H1 := Lib.hid h1'
  clear h1 h1' z0 z1
  go_wp2_with fail
  refine (B.out _ H1.out).mono ?_
  rintro e w2 ⟨rfl, h2, hbw⟩
  have hlt : w1.heap.size < (w1.alloc (.cells #[.int .i64 x, .int .i64 c] 30)).heap.size := by simp
  have k0 := (hbw.cell (p := ⟨w1.heap.size, 0, none⟩) hlt).trans Z.out.1
  have k1 := (hbw.cell (p := ⟨w1.heap.size, 1, none⟩) hlt).trans Z.out.2
  have hlt2 : w1.heap.size < w2.heap.size := Nat.lt_of_lt_of_le hlt hbw.size
  have k2 : ∀ o : Obj, (w2.alloc o).cell? ⟨w1.heap.size, 0, none⟩ = some (.int .i64 x) := fun o => (((Below.refl w2.heap.size w2).alloc (Nat.le_refl _) o).cell (p := ⟨w1.heap.size, 0, none⟩) hlt2).trans k0
  have k3 : ∀ o : Obj, (w2.alloc o).cell? ⟨w1.heap.size, 1, none⟩ = some (.int .i64 c) := fun o => (((Below.refl w2.heap.size w2).alloc (Nat.le_refl _) o).cell (p := ⟨w1.heap.size, 1, none⟩) hlt2).trans k1
  obtain ⟨y0, y1, y2, y3, y4⟩ := h2.cells
  have H2 := Lib.hid h2
  clear h2 hbw k0 k1 hlt
  go_wp2_with fail
  go_ret
  exact (H2.out.below ((Below.refl _ _).alloc (Nat.le_refl _) _)).done

set_option maxRecDepth 100000 in
set_option maxHeartbeats 1000000 in
omit hs in
theorem asks_none (k : Int) (h1 : k ≠ 1) (h2 : k ≠ 2) (h3 : k ≠ 3) (h4 : k ≠ 4) : Calls Try.prog 18 #[.agg #[.pointer (some ⟨g, 0, none⟩), .pointer (some ⟨h, 0, none⟩)], .agg #[.int .i64 k, .int .i64 n, .int .i64 m, v]] w (AskDone g h T s w) := by
  have H := Lib.hid (Three.start g h T s n m v w k hb hr)
  have q1 : (k == 1) = false := beq_eq_false_iff_ne.2 h1
  have q2 : (k == 2) = false := beq_eq_false_iff_ne.2 h2
  have q3 : (k == 3) = false := beq_eq_false_iff_ne.2 h3
  have q4 : (k == 4) = false := beq_eq_false_iff_ne.2 h4
  clear hb hr h1 h2 h3 h4
  go_enter Try.func18, Try.ntmps18
  go_wp2_with fail
  go_ret
  exact H.out.done

theorem asks_any (k : Int) : Calls Try.prog 18 #[.agg #[.pointer (some ⟨g, 0, none⟩), .pointer (some ⟨h, 0, none⟩)], .agg #[.int .i64 k, .int .i64 n, .int .i64 m, v]] w (AskDone g h T s w) := by
  by_cases h1 : k = 1
  · subst h1; exact asks_piece g h T s n m v w hb hr hs
  by_cases h2 : k = 2
  · subst h2; exact asks_line g h T s n m v w hb hr hs
  by_cases h3 : k = 3
  · subst h3; exact asks_place g h T s n m v w hb hr hs
  by_cases h4 : k = 4
  · subst h4; exact asks_at g h T s n m v w hb hr hs
  exact asks_none g h T s n m v w hb hr k h1 h2 h3 h4
end
end Go.Proofs.Yteocdcknfhlfgaa.buf
