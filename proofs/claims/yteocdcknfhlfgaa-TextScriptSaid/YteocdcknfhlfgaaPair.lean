/-
  The contract of pair.same, of two buffers with the same text.
-/
import Derived.Test.YteocdcknfhlfgaaRefCol
import Derived.Test.YteocdcknfhlfgaaClone
import Derived.Deep.RegionHeld3
namespace Go.Proofs.Yteocdcknfhlfgaa.buf
open Go.RowKit

theorem ref_ne {w : World} {g h : Nat} {T : List UInt8} {s : ByteArray} (hb : BufAt w g T) (hr : RefAt w h s) : g ≠ h := by
  rintro rfl
  obtain ⟨x0, x1, x2, x3, x4, x5, h6⟩ := hb.six
  unfold RefAt at hr
  unfold Six at h6
  rw [hr] at h6
  simp at h6
theorem RefAt.save {w w' : World} {g h : Nat} {s : ByteArray} (k : RefAt w h s) (hs : Save w.heap.size g w w') (hn : g ≠ h) : RefAt w' h s := (hs.block h k.lt (fun e => hn e.symm)).trans k

/-- The pair in block N, and what it speaks of. -/
structure Two (g h N : Nat) (T : List UInt8) (s : ByteArray) (w W : World) : Prop where
  buf : BufAt W g T
  ref : RefAt W h s
  box : W.heap[N]? = some (.cells #[.pointer (some ⟨g, 0, none⟩), .pointer (some ⟨h, 0, none⟩)] 40 (0, 0))
  save : Save w.heap.size g w W
theorem Two.cells {g h N : Nat} {T : List UInt8} {s : ByteArray} {w W : World} (k : Two g h N T s w W) : W.cell? ⟨N, 0, none⟩ = some (.pointer (some ⟨g, 0, none⟩)) ∧ W.cell? ⟨N, 1, none⟩ = some (.pointer (some ⟨h, 0, none⟩)) ∧ W.cell? ⟨h, 0, none⟩ = some (.string s) := by
  refine ⟨?_, ?_, k.ref.cell⟩ <;> simp [World.cell?, k.box]
theorem Two.ne {g h N : Nat} {T : List UInt8} {s : ByteArray} {w W : World} (k : Two g h N T s w W) : g ≠ N := by
  rintro rfl
  obtain ⟨x0, x1, x2, x3, x4, x5, h6⟩ := k.buf.six
  have := k.box
  unfold Six at h6
  rw [this] at h6
  simp at h6
theorem Two.still {g h N : Nat} {T : List UInt8} {s : ByteArray} {w W W' : World} (k : Two g h N T s w W) (hs : Still g T W W') : Two g h N T s w W' := by
  have hN : N < W.heap.size := (Array.getElem?_eq_some_iff.1 k.box).1
  exact ⟨hs.1, k.ref.save hs.2 (ref_ne k.buf k.ref), (hs.2.block N hN (fun e => k.ne e.symm)).trans k.box, k.save.trans (hs.2.mono k.save.size)⟩
theorem Two.below {g h N : Nat} {T : List UInt8} {s : ByteArray} {w W W' : World} (k : Two g h N T s w W) (hb : Below W.heap.size W W') : Two g h N T s w W' := k.still ⟨k.buf.below hb, Save.of hb⟩

set_option maxRecDepth 100000 in
set_option maxHeartbeats 4000000 in
theorem same_any (g h : Nat) (T : List UInt8) (s : ByteArray) (w : World) (hb : BufAt w g T) (hr : RefAt w h s) (hs : s.data.toList = T) :
    Calls Try.prog 19 #[.agg #[.pointer (some ⟨g, 0, none⟩), .pointer (some ⟨h, 0, none⟩)]] w fun e w' => e = .returned (.bool true) ∧ BufAt w' g T ∧ RefAt w' h s ∧ Save w.heap.size g w w' := by
  have hT := hb.short
  have hsz : s.size ≤ 16384 := by rw [← size_data, hs]; exact hT
  have hst : (⟨T.toArray⟩ : ByteArray) = s := by rw [← hs]
  have hlen : (T.length : Int) = (s.size : Int) := by rw [← hs, size_data]
  have h0 : Two g h w.heap.size T s w (w.alloc (.cells #[.pointer (some ⟨g, 0, none⟩), .pointer (some ⟨h, 0, none⟩)] 40)) :=
    ⟨hb.below ((Below.refl _ _).alloc (Nat.le_refl _) _), hr.below ((Below.refl _ _).alloc (Nat.le_refl _) _), heap_alloc_new w _, Save.of ((Below.refl _ _).alloc (Nat.le_refl _) _)⟩
  clear hb hr
  have aT : ∀ W, Two g h w.heap.size T s w W → Calls Try.prog 23 #[.pointer (some ⟨g, 0, none⟩)] W fun e w' => e = .returned (.string s) ∧ Two g h w.heap.size T s w w' := fun W k =>
    (text_any g T W k.buf).mono fun e w' ⟨a, b⟩ => ⟨by rw [a, hst], k.below b⟩
  have aL : ∀ W, Two g h w.heap.size T s w W → Calls Try.prog 36 #[.pointer (some ⟨g, 0, none⟩)] W fun e w' => e = .returned (.int .i64 (s.size : Nat)) ∧ Two g h w.heap.size T s w w' := fun W k =>
    (len_any g T W k.buf).mono fun e w' ⟨a, b⟩ => ⟨by rw [a, hlen], b ▸ k⟩
  obtain ⟨m, hm⟩ : ∃ m, (begins T).length = m := ⟨_, rfl⟩
  have aN : ∀ W, Two g h w.heap.size T s w W → Calls Try.prog 9 #[.pointer (some ⟨g, 0, none⟩)] W fun e w' => e = .returned (.int .i64 (m : Nat)) ∧ Two g h w.heap.size T s w w' := fun W k =>
    (lines_any g T W k.buf).mono fun e w' ⟨a, b⟩ => ⟨by rw [a, hm], k.still b⟩
  have aR : ∀ W, Two g h w.heap.size T s w W → Calls Try.prog 37 #[.pointer (some ⟨h, 0, none⟩)] W fun e w' => e = .returned (.int .i64 (m : Nat)) ∧ Two g h w.heap.size T s w w' := fun W k =>
    (refLines_any h s W k.ref hsz).mono fun e w' ⟨a, b⟩ => ⟨by rw [a, hs, hm], b ▸ k⟩
  have AT := Lib.hid aT
  have AL := Lib.hid aL
  have AN := Lib.hid aN
  have AR := Lib.hid aR
  clear aT aL aN aR hst hlen hm hs
  go_enter Try.func19, Try.ntmps19
  go_wp2_with fail
  obtain ⟨wz, hwz⟩ : ∃ wz, w.alloc (.cells #[.pointer (some ⟨g, 0, none⟩), .pointer (some ⟨h, 0, none⟩)] 40) = wz := ⟨_, rfl⟩
  rw [hwz] at h0 ⊢
  clear hwz
  obtain ⟨b0, b1, b2⟩ := h0.cells
  have H0 := Lib.hid h0
  clear h0
  have hdr : ∀ W, Two g h w.heap.size T s w W → Two g h w.heap.size T s w (W.drew) := fun W k => ⟨k.buf, k.ref, k.box, ⟨k.save.os, k.save.tape, k.save.output, k.save.size, k.save.block⟩⟩
  go_cut [2] (fun u wx => u = .bool true ∧ Two g h w.heap.size T s w wx)
  case first =>
    go_region_held3 (fun W' => W'.cell? ⟨w.heap.size, 0, none⟩ = some (.pointer (some ⟨g, 0, none⟩)) ∧ W'.cell? ⟨w.heap.size, 1, none⟩ = some (.pointer (some ⟨h, 0, none⟩)) ∧ W'.cell? ⟨h, 0, none⟩ = some (.string s))
      (first | exact ⟨v0, v1, v2⟩ | exact ⟨z0, z1, z2⟩ | exact ⟨y0, y1, y2⟩ | exact ⟨x0, x1, x2⟩ | exact ⟨b0, b1, b2⟩ | go_keep)
      (first
        | (go_at_call 23; refine (AT.out _ ?_).mono ?_; exact H0.out.below (Below.refl _ _).drew; rintro e w3 ⟨rfl, r3⟩; obtain ⟨x0, x1, x2⟩ := r3.cells)
        | (go_at_call 36; refine (AL.out _ ?_).mono ?_; exact r3; rintro e w4 ⟨rfl, r4⟩; obtain ⟨y0, y1, y2⟩ := r4.cells)
        | (go_at_call 9; refine (AN.out _ ?_).mono ?_; exact r4; rintro e w5 ⟨rfl, r5⟩; obtain ⟨z0, z1, z2⟩ := r5.cells)
        | (go_at_call 37; refine (AR.out _ ?_).mono ?_; exact r5; rintro e w6 ⟨rfl, r6⟩; obtain ⟨v0, v1, v2⟩ := r6.cells))
    all_goals (try go_wp2_with fail)
    all_goals go_meet
    all_goals exact ⟨rfl, r6⟩
  case rest =>
    obtain ⟨rfl, hq⟩ := hcut
    have Q := Lib.hid hq
    clear hq
    go_wp2_with fail
    go_ret
    exact ⟨rfl, Q.out.buf, Q.out.ref, Q.out.save⟩
end Go.Proofs.Yteocdcknfhlfgaa.buf
