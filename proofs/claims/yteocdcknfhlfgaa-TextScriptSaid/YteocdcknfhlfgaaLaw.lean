/-
  Two pairs of buffers that agree: what each call leaves of them.
-/
import Derived.Test.YteocdcknfhlfgaaAsks
import Derived.Test.YteocdcknfhlfgaaStillness
import Derived.Test.YteocdcknfhlfgaaBeyond
import Derived.Test.YteocdcknfhlfgaaSingly
namespace Go.Proofs.Yteocdcknfhlfgaa.buf
open Go.RowKit

/-- The pair at hand (in block P), the one left (in block Q): each of a buffer and a reference with the same text. -/
structure Law (w0 : World) (P Q g h g2 h2 : Nat) (s s2 : ByteArray) (W : World) : Prop where
  b1 : BufAt W g s.data.toList
  r1 : RefAt W h s
  b2 : BufAt W g2 s2.data.toList
  r2 : RefAt W h2 s2
  ap : (g = g2 ∧ h = h2 ∧ s = s2) ∨ (g ≠ g2 ∧ h ≠ h2)
  pP : W.heap[P]? = some (.cells #[.pointer (some ⟨g, 0, none⟩), .pointer (some ⟨h, 0, none⟩)] 40 (0, 0))
  pQ : W.heap[Q]? = some (.cells #[.pointer (some ⟨g2, 0, none⟩), .pointer (some ⟨h2, 0, none⟩)] 40 (0, 0))
  low : w0.heap.size ≤ g ∧ w0.heap.size ≤ h ∧ w0.heap.size ≤ g2 ∧ w0.heap.size ≤ h2 ∧ w0.heap.size ≤ P ∧ w0.heap.size ≤ Q ∧ P ≠ Q
  below : Below w0.heap.size w0 W

theorem Law.swap {w0 : World} {P Q g h g2 h2 : Nat} {s s2 : ByteArray} {W : World} (x : Law w0 P Q g h g2 h2 s s2 W) : Law w0 Q P g2 h2 g h s2 s W := by
  obtain ⟨a, b, c, d, e, f, k⟩ := x.low
  refine ⟨x.b2, x.r2, x.b1, x.r1, ?_, x.pQ, x.pP, ⟨c, d, a, b, f, e, fun z => k z.symm⟩, x.below⟩
  rcases x.ap with ⟨p, q, r⟩ | ⟨p, q⟩
  · exact .inl ⟨p.symm, q.symm, r.symm⟩
  · exact .inr ⟨fun z => p z.symm, fun z => q z.symm⟩
theorem pair_ne {W : World} {g N : Nat} {T : List UInt8} {cs : Array Value} {t : TypeId} (hb : BufAt W g T) (hr : W.heap[N]? = some (.cells cs t (0, 0))) (ht : t ≠ 79) : N ≠ g := by
  rintro rfl
  obtain ⟨x0, x1, x2, x3, x4, x5, h6⟩ := hb.six
  unfold Six at h6
  rw [hr] at h6
  simp only [Option.some.injEq, Obj.cells.injEq] at h6
  exact ht h6.2.1
/-- Another block than the buffer's own is kept. -/
theorem keep_block {W W' : World} {g N : Nat} {T : List UInt8} {cs : Array Value} {t : TypeId} (hb : BufAt W g T) (hs : Save W.heap.size g W W') (hr : W.heap[N]? = some (.cells cs t (0, 0))) (ht : t ≠ 79) : W'.heap[N]? = some (.cells cs t (0, 0)) :=
  (hs.block N (Array.getElem?_eq_some_iff.1 hr).1 (pair_ne hb hr ht)).trans hr
theorem Law.save {w0 : World} {P Q g h g2 h2 : Nat} {s s2 : ByteArray} {W W' : World} (x : Law w0 P Q g h g2 h2 s s2 W) (hs : Save W.heap.size g W W') (hb : BufAt W' g s.data.toList) : Law w0 P Q g h g2 h2 s s2 W' := by
  refine ⟨hb, keep_block x.b1 hs x.r1 (by decide), ?_, keep_block x.b1 hs x.r2 (by decide), x.ap, keep_block x.b1 hs x.pP (by decide), keep_block x.b1 hs x.pQ (by decide), x.low, x.below.trans (hs.below x.below.size x.low.1)⟩
  rcases x.ap with ⟨rfl, rfl, rfl⟩ | ⟨p, _⟩
  · exact hb
  · exact x.b2.kept hs (fun z => p z.symm) x.b1.six
theorem Law.later {w0 : World} {P Q g h g2 h2 : Nat} {s s2 : ByteArray} {W W' : World} (x : Law w0 P Q g h g2 h2 s s2 W) (hb : Below W.heap.size W W') : Law w0 P Q g h g2 h2 s s2 W' := x.save (Save.of hb) (x.b1.below hb)
theorem Law.cells {w0 : World} {P Q g h g2 h2 : Nat} {s s2 : ByteArray} {W : World} (x : Law w0 P Q g h g2 h2 s s2 W) :
    W.cell? ⟨P, 0, none⟩ = some (.pointer (some ⟨g, 0, none⟩)) ∧ W.cell? ⟨P, 1, none⟩ = some (.pointer (some ⟨h, 0, none⟩)) ∧ W.cell? ⟨Q, 0, none⟩ = some (.pointer (some ⟨g2, 0, none⟩)) ∧ W.cell? ⟨Q, 1, none⟩ = some (.pointer (some ⟨h2, 0, none⟩)) := by
  refine ⟨?_, ?_, ?_, ?_⟩
  · simp [World.cell?, x.pP]
  · simp [World.cell?, x.pP]
  · simp [World.cell?, x.pQ]
  · simp [World.cell?, x.pQ]
theorem Law.free {w0 : World} {P Q g h g2 h2 : Nat} {s s2 : ByteArray} {W : World} (x : Law w0 P Q g h g2 h2 s s2 W) : (∀ j, W.frozen? ⟨P, j, none⟩ = false) ∧ (∀ j, W.frozen? ⟨Q, j, none⟩ = false) :=
  ⟨fun j => frozen_of_row W P j _ _ x.pP, fun j => frozen_of_row W Q j _ _ x.pQ⟩

/-- The edits are done at both of the pair at hand: first at the buffer .. -/
structure Half (w0 : World) (P Q g h g2 h2 : Nat) (s s2 : ByteArray) (l : List Ed) (W : World) : Prop where
  b1 : BufAt W g (textBy s.data.toList l)
  r1 : RefAt W h s
  b2 : BufAt W g2 (if g = g2 then textBy s.data.toList l else s2.data.toList)
  r2 : RefAt W h2 s2
  ap : (g = g2 ∧ h = h2 ∧ s = s2) ∨ (g ≠ g2 ∧ h ≠ h2)
  pP : W.heap[P]? = some (.cells #[.pointer (some ⟨g, 0, none⟩), .pointer (some ⟨h, 0, none⟩)] 40 (0, 0))
  pQ : W.heap[Q]? = some (.cells #[.pointer (some ⟨g2, 0, none⟩), .pointer (some ⟨h2, 0, none⟩)] 40 (0, 0))
  low : w0.heap.size ≤ g ∧ w0.heap.size ≤ h ∧ w0.heap.size ≤ g2 ∧ w0.heap.size ≤ h2 ∧ w0.heap.size ≤ P ∧ w0.heap.size ≤ Q ∧ P ≠ Q
  below : Below w0.heap.size w0 W
theorem Law.half {w0 : World} {P Q g h g2 h2 : Nat} {s s2 : ByteArray} {l : List Ed} {W W' : World} (x : Law w0 P Q g h g2 h2 s s2 W) (hs : Save W.heap.size g W W') (hb : BufAt W' g (textBy s.data.toList l)) : Half w0 P Q g h g2 h2 s s2 l W' := by
  refine ⟨hb, keep_block x.b1 hs x.r1 (by decide), ?_, keep_block x.b1 hs x.r2 (by decide), x.ap, keep_block x.b1 hs x.pP (by decide), keep_block x.b1 hs x.pQ (by decide), x.low, x.below.trans (hs.below x.below.size x.low.1)⟩
  by_cases p : g = g2
  · subst p; rw [if_pos rfl]; exact hb
  · rw [if_neg p]; exact x.b2.kept hs (fun z => p z.symm) x.b1.six
/-- .. then at the reference. -/
theorem Half.whole {w0 : World} {P Q g h g2 h2 : Nat} {s s2 s' : ByteArray} {l : List Ed} {W W' : World} (x : Half w0 P Q g h g2 h2 s s2 l W) (hs : Save W.heap.size h W W') (hr : RefAt W' h s') (ht : s'.data.toList = textBy s.data.toList l) : ∃ s2', Law w0 P Q g h g2 h2 s' s2' W' := by
  have keep : ∀ {N : Nat} {cs : Array Value} {t : TypeId}, W.heap[N]? = some (.cells cs t (0, 0)) → N ≠ h → W'.heap[N]? = some (.cells cs t (0, 0)) := fun {N cs t} hN hne => (hs.block N (Array.getElem?_eq_some_iff.1 hN).1 hne).trans hN
  have ne : ∀ {N : Nat} {cs : Array Value}, W.heap[N]? = some (.cells cs 40 (0, 0)) → N ≠ h := by
    rintro N cs hN rfl
    have := x.r1
    unfold RefAt at this
    rw [hN] at this
    simp at this
  have hB1 := x.b1.beside hs x.r1
  have hB2 := x.b2.beside hs x.r1
  have hbl : Below w0.heap.size w0 W' := x.below.trans (hs.below x.below.size x.low.2.1)
  rcases x.ap with ⟨rfl, rfl, rfl⟩ | ⟨p, q⟩
  · exact ⟨s', ⟨by rw [ht]; exact hB1, hr, by rw [ht]; exact hB1, hr, .inl ⟨rfl, rfl, rfl⟩, keep x.pP (ne x.pP), keep x.pQ (ne x.pQ), x.low, hbl⟩⟩
  · rw [if_neg p] at hB2
    exact ⟨s2, ⟨by rw [ht]; exact hB1, hr, hB2, keep x.r2 (fun z => q z.symm), .inr ⟨p, q⟩, keep x.pP (ne x.pP), keep x.pQ (ne x.pQ), x.low, hbl⟩⟩
theorem Half.cells {w0 : World} {P Q g h g2 h2 : Nat} {s s2 : ByteArray} {l : List Ed} {W : World} (x : Half w0 P Q g h g2 h2 s s2 l W) : W.cell? ⟨P, 0, none⟩ = some (.pointer (some ⟨g, 0, none⟩)) ∧ W.cell? ⟨P, 1, none⟩ = some (.pointer (some ⟨h, 0, none⟩)) := by
  refine ⟨?_, ?_⟩ <;> simp [World.cell?, x.pP]

/-- A new buffer and a new reference with the same text; the pair at hand is left for them. -/
theorem Law.cloned {w0 : World} {P Q g h g2 h2 : Nat} {s s2 : ByteArray} {W W2 : World} (x : Law w0 P Q g h g2 h2 s s2 W)
    (hb : BufAt W2 ((W.setCell ⟨Q, 0, none⟩ (.pointer (some ⟨g, 0, none⟩))).setCell ⟨Q, 1, none⟩ (.pointer (some ⟨h, 0, none⟩))).heap.size s.data.toList)
    (hw : Below ((W.setCell ⟨Q, 0, none⟩ (.pointer (some ⟨g, 0, none⟩))).setCell ⟨Q, 1, none⟩ (.pointer (some ⟨h, 0, none⟩))).heap.size ((W.setCell ⟨Q, 0, none⟩ (.pointer (some ⟨g, 0, none⟩))).setCell ⟨Q, 1, none⟩ (.pointer (some ⟨h, 0, none⟩))) W2) :
    Law w0 P Q W.heap.size W2.heap.size g h s s (((W2.setCell ⟨P, 0, none⟩ (.pointer (some ⟨W.heap.size, 0, none⟩))).setCell ⟨P, 1, none⟩ (.pointer (some ⟨W2.heap.size, 0, none⟩))).alloc (.cells #[.string s] 49)) := by
  obtain ⟨l1, l2, l3, l4, l5, l6, l7⟩ := x.low
  have hz1 : ((W.setCell ⟨Q, 0, none⟩ (.pointer (some ⟨g, 0, none⟩))).setCell ⟨Q, 1, none⟩ (.pointer (some ⟨h, 0, none⟩))).heap.size = W.heap.size := by simp [World.setCell]
  have sQ : Save W.heap.size Q W ((W.setCell ⟨Q, 0, none⟩ (.pointer (some ⟨g, 0, none⟩))).setCell ⟨Q, 1, none⟩ (.pointer (some ⟨h, 0, none⟩))) := ((Save.refl _ _ _).setCell 0 _).setCell 1 _
  have q1 : ((W.setCell ⟨Q, 0, none⟩ (.pointer (some ⟨g, 0, none⟩))).setCell ⟨Q, 1, none⟩ (.pointer (some ⟨h, 0, none⟩))).heap[Q]? = some (.cells #[.pointer (some ⟨g, 0, none⟩), .pointer (some ⟨h, 0, none⟩)] 40 (0, 0)) :=
    heap_setCell_same _ Q 1 _ _ _ (heap_setCell_same _ Q 0 _ _ _ x.pQ)
  have gQ : g ≠ Q := fun z => pair_ne x.b1 x.pQ (by decide) z.symm
  have b1 := x.b1.aside sQ x.pQ (by decide) (by decide) gQ
  have hQh : h ≠ Q := by
    rintro rfl
    have := x.r1
    unfold RefAt at this
    rw [x.pQ] at this
    simp at this
  have r1 : RefAt ((W.setCell ⟨Q, 0, none⟩ (.pointer (some ⟨g, 0, none⟩))).setCell ⟨Q, 1, none⟩ (.pointer (some ⟨h, 0, none⟩))) h s := (sQ.block h x.r1.lt hQh).trans x.r1
  have p1 : ((W.setCell ⟨Q, 0, none⟩ (.pointer (some ⟨g, 0, none⟩))).setCell ⟨Q, 1, none⟩ (.pointer (some ⟨h, 0, none⟩))).heap[P]? = some (.cells #[.pointer (some ⟨g, 0, none⟩), .pointer (some ⟨h, 0, none⟩)] 40 (0, 0)) := (sQ.block P (Array.getElem?_eq_some_iff.1 x.pP).1 l7).trans x.pP
  have e1 : Below w0.heap.size w0 ((W.setCell ⟨Q, 0, none⟩ (.pointer (some ⟨g, 0, none⟩))).setCell ⟨Q, 1, none⟩ (.pointer (some ⟨h, 0, none⟩))) := x.below.trans (sQ.below x.below.size l6)
  generalize (W.setCell ⟨Q, 0, none⟩ (.pointer (some ⟨g, 0, none⟩))).setCell ⟨Q, 1, none⟩ (.pointer (some ⟨h, 0, none⟩)) = W1 at hb hw hz1 q1 b1 r1 p1 e1
  rw [hz1] at hb
  have b2 := b1.below hw
  have r2 := r1.below hw
  have p2 := (hw.block P (Array.getElem?_eq_some_iff.1 p1).1).trans p1
  have q2 := (hw.block Q (Array.getElem?_eq_some_iff.1 q1).1).trans q1
  have e2 : Below w0.heap.size w0 W2 := e1.trans (hw.mono e1.size)
  have sP : Save W2.heap.size P W2 ((W2.setCell ⟨P, 0, none⟩ (.pointer (some ⟨W.heap.size, 0, none⟩))).setCell ⟨P, 1, none⟩ (.pointer (some ⟨W2.heap.size, 0, none⟩))) := ((Save.refl _ _ _).setCell 0 _).setCell 1 _
  have hz3 : ((W2.setCell ⟨P, 0, none⟩ (.pointer (some ⟨W.heap.size, 0, none⟩))).setCell ⟨P, 1, none⟩ (.pointer (some ⟨W2.heap.size, 0, none⟩))).heap.size = W2.heap.size := by simp [World.setCell]
  have p3 : ((W2.setCell ⟨P, 0, none⟩ (.pointer (some ⟨W.heap.size, 0, none⟩))).setCell ⟨P, 1, none⟩ (.pointer (some ⟨W2.heap.size, 0, none⟩))).heap[P]? = some (.cells #[.pointer (some ⟨W.heap.size, 0, none⟩), .pointer (some ⟨W2.heap.size, 0, none⟩)] 40 (0, 0)) :=
    heap_setCell_same _ P 1 _ _ _ (heap_setCell_same _ P 0 _ _ _ p2)
  have cP : W.heap.size ≠ P := fun z => pair_ne hb p2 (by decide) z.symm
  have gP : g ≠ P := fun z => pair_ne b2 p2 (by decide) z.symm
  have hP : h ≠ P := by
    rintro rfl
    have := r2
    unfold RefAt at this
    rw [p2] at this
    simp at this
  have c3 := hb.aside sP p2 (by decide) (by decide) cP
  have b3 := b2.aside sP p2 (by decide) (by decide) gP
  have r3 : RefAt _ h s := (sP.block h r2.lt hP).trans r2
  have q3 := (sP.block Q (Array.getElem?_eq_some_iff.1 q2).1 (fun z => l7 z.symm)).trans q2
  have e3 : Below w0.heap.size w0 _ := e2.trans (sP.below e2.size l5)
  generalize (W2.setCell ⟨P, 0, none⟩ (.pointer (some ⟨W.heap.size, 0, none⟩))).setCell ⟨P, 1, none⟩ (.pointer (some ⟨W2.heap.size, 0, none⟩)) = W3 at c3 b3 r3 q3 p3 e3 hz3
  have e4 : Below W3.heap.size W3 (W3.alloc (.cells #[.string s] 49)) := (Below.refl _ _).alloc (Nat.le_refl _) _
  have hr4 : RefAt (W3.alloc (.cells #[.string s] 49)) W2.heap.size s := by rw [← hz3]; exact heap_alloc_new W3 _
  have y1 := x.b1.lt
  have y2 := r2.lt
  have y3 := hb.lt
  have y4 := x.below.size
  exact ⟨c3.below e4, hr4, b3.below e4, r3.below e4, .inr ⟨by omega, by omega⟩, (e4.block P (Array.getElem?_eq_some_iff.1 p3).1).trans p3, (e4.block Q (Array.getElem?_eq_some_iff.1 q3).1).trans q3, ⟨by omega, by omega, l1, l2, l5, l6, l7⟩, e3.trans (e4.mono e3.size)⟩
end Go.Proofs.Yteocdcknfhlfgaa.buf
