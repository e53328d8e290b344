/-
  A buffer in memory; the contracts of set, New, Len, has, Text.
-/
import Derived.Test.YteocdcknfhlfgaaCut
namespace Go.Proofs.Yteocdcknfhlfgaa.buf
open Go.RowKit

/-- Below block B the world is as it was, but for block g. -/
structure Save (B g : Nat) (w w' : World) : Prop where
  os : w'.os = w.os
  tape : w'.tape = w.tape
  output : w'.output = w.output
  size : w.heap.size ≤ w'.heap.size
  block : ∀ k, k < B → k ≠ g → w'.heap[k]? = w.heap[k]?
theorem Save.refl (B g : Nat) (w : World) : Save B g w w := ⟨rfl, rfl, rfl, Nat.le_refl _, fun _ _ _ => rfl⟩
theorem Save.of {B g : Nat} {w w' : World} (h : Below B w w') : Save B g w w' := ⟨h.os, h.tape, h.output, h.size, fun k hk _ => h.block k hk⟩
theorem Save.trans {B g : Nat} {a b c : World} (h : Save B g a b) (k : Save B g b c) : Save B g a c :=
  ⟨k.os.trans h.os, k.tape.trans h.tape, k.output.trans h.output, Nat.le_trans h.size k.size, fun i hi hn => (k.block i hi hn).trans (h.block i hi hn)⟩
theorem Save.mono {B B' g : Nat} {w w' : World} (h : Save B g w w') (hB : B' ≤ B) : Save B' g w w' := ⟨h.os, h.tape, h.output, h.size, fun k hk => h.block k (Nat.lt_of_lt_of_le hk hB)⟩
theorem Save.below {B B' g : Nat} {w w' : World} (h : Save B g w w') (hB : B' ≤ B) (hg : B' ≤ g) : Below B' w w' := ⟨h.os, h.tape, h.output, h.size, fun k hk => h.block k (by omega) (by omega)⟩
theorem Save.setCell {B g : Nat} {a w : World} (h : Save B g a w) (o : Nat) (u : Value) : Save B g a (w.setCell ⟨g, o, none⟩ u) :=
  h.trans ⟨rfl, rfl, rfl, by simp [World.setCell], fun k _ hk => Below.heap_setCell _ _ _ _ hk⟩
theorem Save.drewN {B g : Nat} {a w : World} (h : Save B g a w) (q : Nat) : Save B g a (w.drewN q) := ⟨h.os, h.tape, h.output, h.size, h.block⟩

/-- The six cells of a buffer's block. -/
def Six (w : World) (g : Nat) (x0 x1 x2 x3 x4 x5 : Value) : Prop := w.heap[g]? = some (.cells #[x0, x1, x2, x3, x4, x5] 79 (0, 0))
theorem Six.cells {w : World} {g : Nat} {x0 x1 x2 x3 x4 x5 : Value} (h : Six w g x0 x1 x2 x3 x4 x5) :
    w.cell? ⟨g, 0, none⟩ = some x0 ∧ w.cell? ⟨g, 1, none⟩ = some x1 ∧ w.cell? ⟨g, 2, none⟩ = some x2 ∧ w.cell? ⟨g, 3, none⟩ = some x3 ∧ w.cell? ⟨g, 4, none⟩ = some x4 ∧ w.cell? ⟨g, 5, none⟩ = some x5 := by
  unfold Six at h
  simp [World.cell?, h]
theorem Six.free {w : World} {g : Nat} {x0 x1 x2 x3 x4 x5 : Value} (h : Six w g x0 x1 x2 x3 x4 x5) :
    w.frozen? ⟨g, 0, none⟩ = false ∧ w.frozen? ⟨g, 1, none⟩ = false ∧ w.frozen? ⟨g, 2, none⟩ = false ∧ w.frozen? ⟨g, 3, none⟩ = false ∧ w.frozen? ⟨g, 4, none⟩ = false ∧ w.frozen? ⟨g, 5, none⟩ = false :=
  ⟨frozen_of_row w g _ _ _ h, frozen_of_row w g _ _ _ h, frozen_of_row w g _ _ _ h, frozen_of_row w g _ _ _ h, frozen_of_row w g _ _ _ h, frozen_of_row w g _ _ _ h⟩
theorem Six.set0 {w : World} {g : Nat} {x0 x1 x2 x3 x4 x5 : Value} (h : Six w g x0 x1 x2 x3 x4 x5) (u : Value) : Six (w.setCell ⟨g, 0, none⟩ u) g u x1 x2 x3 x4 x5 := heap_setCell_same w g 0 _ _ u h
theorem Six.set1 {w : World} {g : Nat} {x0 x1 x2 x3 x4 x5 : Value} (h : Six w g x0 x1 x2 x3 x4 x5) (u : Value) : Six (w.setCell ⟨g, 1, none⟩ u) g x0 u x2 x3 x4 x5 := heap_setCell_same w g 1 _ _ u h
theorem Six.set2 {w : World} {g : Nat} {x0 x1 x2 x3 x4 x5 : Value} (h : Six w g x0 x1 x2 x3 x4 x5) (u : Value) : Six (w.setCell ⟨g, 2, none⟩ u) g x0 x1 u x3 x4 x5 := heap_setCell_same w g 2 _ _ u h
theorem Six.set3 {w : World} {g : Nat} {x0 x1 x2 x3 x4 x5 : Value} (h : Six w g x0 x1 x2 x3 x4 x5) (u : Value) : Six (w.setCell ⟨g, 3, none⟩ u) g x0 x1 x2 u x4 x5 := heap_setCell_same w g 3 _ _ u h
theorem Six.set4 {w : World} {g : Nat} {x0 x1 x2 x3 x4 x5 : Value} (h : Six w g x0 x1 x2 x3 x4 x5) (u : Value) : Six (w.setCell ⟨g, 4, none⟩ u) g x0 x1 x2 x3 u x5 := heap_setCell_same w g 4 _ _ u h
theorem Six.set5 {w : World} {g : Nat} {x0 x1 x2 x3 x4 x5 : Value} (h : Six w g x0 x1 x2 x3 x4 x5) (u : Value) : Six (w.setCell ⟨g, 5, none⟩ u) g x0 x1 x2 x3 x4 u := heap_setCell_same w g 5 _ _ u h
theorem Six.lt {w : World} {g : Nat} {x0 x1 x2 x3 x4 x5 : Value} (h : Six w g x0 x1 x2 x3 x4 x5) : g < w.heap.size := (Array.getElem?_eq_some_iff.1 h).1

theorem Strs.slice {w : World} {B : Nat} {v : Value} {l : List ByteArray} (h : Strs w B v l) : ∃ oa cap, v = .slice oa l.length cap := by
  rcases h.shape with ⟨rfl, rfl⟩ | ⟨g, cap, rfl, _⟩
  · exact ⟨none, 0, rfl⟩
  · exact ⟨_, cap, rfl⟩
theorem ownsRow_setCell {w : World} {B e n s : Nat} {v : Value} {xs : List Value} {g : Nat} (h : w.ownsRow B e s v n xs) (hg : v.ownBlock ≠ some g) (o : Nat) (u : Value) : (w.setCell ⟨g, o, none⟩ u).ownsRow B e s v n xs := by
  refine ⟨h.1, ?_⟩
  rcases h.2 with h2 | ⟨k, cap, cur, rfl, hk, hh, r⟩
  · exact .inl h2
  · exact .inr ⟨k, cap, cur, rfl, hk, by rw [Below.heap_setCell _ _ _ _ (fun e => hg (by simp [Value.ownBlock, e]))]; exact hh, r⟩
/-- A buffer's block is no row of other elements. -/
theorem row_ne {w : World} {B e n s g : Nat} {v : Value} {xs : List Value} {x0 x1 x2 x3 x4 x5 : Value} (h : w.ownsRow B e s v n xs) (h6 : Six w g x0 x1 x2 x3 x4 x5) (he : e ≠ 79) : v.ownBlock ≠ some g := by
  rcases h.2 with ⟨rfl, _⟩ | ⟨k, cap, cur, rfl, _, hh, _⟩
  · simp [Value.ownBlock]
  · intro e'
    simp only [Value.ownBlock, Option.some.injEq] at e'
    subst e'
    unfold Six at h6
    rw [hh] at h6
    simp only [Option.some.injEq, Obj.cells.injEq] at h6
    exact he h6.2.1

/-- What set leaves: a buffer of these pieces, whose lines nobody has asked for. -/
def SetDone (B g : Nat) (l : List ByteArray) (n : Int) (w w' : World) : Prop :=
  ∃ v' l', Six w' g v' (.int .i64 n) (.int .u32 0) (.int .i32 0) (.int .u32 0) (.slice none 0 0) ∧ Strs w' B v' l' ∧ l'.length ≤ 64 ∧ textOf l' = textOf l ∧ Save B g w w'

set_option maxRecDepth 100000 in
set_option maxHeartbeats 1000000 in
theorem set_any (B g : Nat) (v : Value) (l : List ByteArray) (n : Int) (x0 x1 x2 x3 x4 x5 : Value) (w : World) (hg : Six w g x0 x1 x2 x3 x4 x5) (hgB : g < B) (hB : B ≤ w.heap.size) (ho : Strs w B v l) (hl : l.length ≤ 1099511627776) (ht : (textOf l).length ≤ 1073741824) :
    Calls Try.prog 24 #[.pointer (some ⟨g, 0, none⟩), v, .int .i64 n] w fun e w' => e = .returned (.tuple #[]) ∧ SetDone B g l n w w' := by
  have HO := Lib.hid ho
  have HG := Lib.hid hg
  have c0 := hg.cells.1
  clear ho hg
  go_enter Try.func24, Try.ntmps24
  go_wp2_with fail
  refine (join_any B v l _ hB HO.out hl ht).mono ?_
  rintro e w1 ⟨v1, l1, rfl, o1, h64, htx, hb⟩
  obtain ⟨oa, cap, rfl⟩ := o1.slice
  have g1 : Six w1 g x0 x1 x2 x3 x4 x5 := (hb.below.block g hgB).trans HG.out
  have O1 := Lib.hid o1
  have HT := Lib.hid htx
  have HB := Lib.hid hb
  have G1 := Lib.hid g1
  obtain ⟨a0, a1, a2, a3, a4, a5⟩ := g1.cells
  obtain ⟨f0, f1, f2, f3, f4, f5⟩ := g1.free
  clear o1 htx hb g1 c0
  go_wp2_with fail
  go_end0
  have n0 := row_ne O1.out G1.out (by decide)
  have R : SetDone B g l n w ((((((w1.setCell ⟨g, 0, none⟩ (.slice oa l1.length cap)).setCell ⟨g, 1, none⟩ (.int .i64 n)).setCell ⟨g, 2, none⟩ (.int .u32 0)).setCell ⟨g, 3, none⟩ (.int .i32 0)).setCell ⟨g, 4, none⟩ (.int .u32 0)).setCell ⟨g, 5, none⟩ (.slice none 0 0)) :=
    ⟨_, l1, (((((G1.out.set0 _).set1 _).set2 _).set3 _).set4 _).set5 _, ownsRow_setCell (ownsRow_setCell (ownsRow_setCell (ownsRow_setCell (ownsRow_setCell (ownsRow_setCell O1.out n0 _ _) n0 _ _) n0 _ _) n0 _ _) n0 _ _) n0 _ _, h64, HT.out,
      ((((((Save.of HB.out.below).setCell _ _).setCell _ _).setCell _ _).setCell _ _).setCell _ _).setCell _ _⟩
  exact ⟨rfl, R⟩

/-! ### buffers -/
/-- Behind which places a text's lines begin: those of its line feeds. -/
def feeds : List UInt8 → Nat → List Nat
  | [], _ => []
  | c :: r, i => if c = 10 then (i + 1) :: feeds r (i + 1) else feeds r (i + 1)
def begins (T : List UInt8) : List Nat := 0 :: feeds T 0
/-- What a buffer knows of its lines: nothing yet, or all. -/
def Known (w : World) (T : List UInt8) (d : Int) (p : Value) : Prop :=
  (d = 0 ∧ p = .slice none 0 0) ∨ (d = 1 ∧ w.ownsRow 0 3 1 p (begins T).length ((begins T).map fun (n : Nat) => Value.int .i64 (n : Int)))
/-- A buffer with the text T in block g. -/
def BufAt (w : World) (g : Nat) (T : List UInt8) : Prop :=
  ∃ v l d p, Six w g v (.int .i64 (T.length : Nat)) (.int .u32 d) (.int .i32 0) (.int .u32 0) p ∧ Strs w 0 v l ∧ l.length ≤ 64 ∧ textOf l = T ∧ T.length ≤ 16384 ∧ Known w T d p
def IsSix (w : World) (g : Nat) : Prop := ∃ x0 x1 x2 x3 x4 x5, Six w g x0 x1 x2 x3 x4 x5
theorem BufAt.six {w : World} {g : Nat} {T : List UInt8} (h : BufAt w g T) : IsSix w g := by
  obtain ⟨v, l, d, p, h6, _⟩ := h
  exact ⟨_, _, _, _, _, _, h6⟩
theorem BufAt.lt {w : World} {g : Nat} {T : List UInt8} (h : BufAt w g T) : g < w.heap.size := by
  obtain ⟨_, _, _, _, _, _, h6⟩ := h.six
  exact h6.lt
theorem BufAt.short {w : World} {g : Nat} {T : List UInt8} (h : BufAt w g T) : T.length ≤ 16384 := by
  obtain ⟨_, _, _, _, _, _, _, _, hT, _⟩ := h
  exact hT
theorem row_kept {w w' : World} {B e n s g' : Nat} {v : Value} {xs : List Value} (h : w.ownsRow B e s v n xs) (hk : ∀ k, k < w.heap.size → k ≠ g' → w'.heap[k]? = w.heap[k]?) (hne : v.ownBlock ≠ some g') : w'.ownsRow B e s v n xs := by
  refine ⟨h.1, ?_⟩
  rcases h.2 with h2 | ⟨k, cap, cur, rfl, hB, hh, r⟩
  · exact .inl h2
  · exact .inr ⟨k, cap, cur, rfl, hB, by rw [hk k (Array.getElem?_eq_some_iff.1 hh).1 (fun e => hne (by simp [Value.ownBlock, e]))]; exact hh, r⟩
theorem BufAt.kept {w w' : World} {g g' : Nat} {T : List UInt8} (h : BufAt w g T) (hs : Save w.heap.size g' w w') (hne : g ≠ g') (h' : IsSix w g') : BufAt w' g T := by
  obtain ⟨v, l, d, p, h6, hv, hl, ht, hT, hk⟩ := h
  obtain ⟨_, _, _, _, _, _, k6⟩ := h'
  refine ⟨v, l, d, p, ?_, row_kept hv hs.block (row_ne hv k6 (by decide)), hl, ht, hT, ?_⟩
  · exact (hs.block g h6.lt hne).trans h6
  · rcases hk with hk | ⟨e, hk⟩
    · exact .inl hk
    · exact .inr ⟨e, row_kept hk hs.block (row_ne hk k6 (by decide))⟩
theorem row_below {w w' : World} {B e n s : Nat} {v : Value} {xs : List Value} (h : w.ownsRow B e s v n xs) (hb : Below w.heap.size w w') : w'.ownsRow B e s v n xs := by
  refine ⟨h.1, ?_⟩
  rcases h.2 with h2 | ⟨k, cap, cur, rfl, hB, hh, r⟩
  · exact .inl h2
  · exact .inr ⟨k, cap, cur, rfl, hB, by rw [hb.block k (Array.getElem?_eq_some_iff.1 hh).1]; exact hh, r⟩
theorem BufAt.below {w w' : World} {g : Nat} {T : List UInt8} (h : BufAt w g T) (hb : Below w.heap.size w w') : BufAt w' g T := by
  obtain ⟨v, l, d, p, h6, hv, hl, ht, hT, hk⟩ := h
  refine ⟨v, l, d, p, (hb.block g h6.lt).trans h6, row_below hv hb, hl, ht, hT, ?_⟩
  rcases hk with hk | ⟨e, hk⟩
  · exact .inl hk
  · exact .inr ⟨e, row_below hk hb⟩
theorem SetDone.buf {B g : Nat} {l : List ByteArray} {T : List UInt8} {w w' : World} (h : SetDone B g l (T.length : Nat) w w') (ht : textOf l = T) (hT : T.length ≤ 16384) : BufAt w' g T ∧ Save B g w w' := by
  obtain ⟨v', l', h6, hv, hl, ht', hs⟩ := h
  exact ⟨⟨v', l', 0, _, h6, own_base hv (Nat.zero_le _), hl, ht'.trans ht, hT, .inl ⟨rfl, rfl⟩⟩, hs⟩

set_option maxRecDepth 100000 in
set_option maxHeartbeats 1000000 in
theorem new_any (s : ByteArray) (w : World) (hs : s.size ≤ 16384) :
    Calls Try.prog 7 #[.string s] w fun e w' => e = .returned (.tuple #[.pointer (some ⟨w.heap.size, 0, none⟩), .int .i64 0]) ∧ BufAt w' w.heap.size s.data.toList ∧ Below w.heap.size w w' := by
  have hd : decide ((16384 : Int) < (s.size : Int)) = false := decide_eq_false (by omega)
  go_enter Try.func7, Try.ntmps7
  go_wp2_with fail
  refine (add_any (w.heap.size + 1) _ [] s _ (by simp) (Strs.nil _ _) (by simp)).mono ?_
  rintro e w1 ⟨v1, rfl, o1, b1⟩
  have O1 := Lib.hid o1
  have B1 := Lib.hid b1
  clear o1 b1
  go_wp2_with fail
  have h6 : Six w1 w.heap.size (.slice none 0 0) (.int .i64 0) (.int .u32 0) (.int .i32 0) (.int .u32 0) (.slice none 0 0) := by
    refine (B1.out.below.block w.heap.size (by omega)).trans ?_
    exact heap_alloc_new w _
  have hz1 := B1.out.below.size
  have hlen := size_data s
  refine (set_any (w.heap.size + 1) w.heap.size v1 (addL [] s) (s.size : Int) _ _ _ _ _ _ _ h6 (by omega) (by simpa using hz1) O1.out (by have := addL_length [] s; simp at this; omega) (by rw [textOf_addL]; simp [textOf, hlen]; omega)).mono ?_
  rintro e w2 ⟨rfl, h2⟩
  have H2 := Lib.hid h2
  clear h2 h6 hlen
  go_wp2_with fail
  go_ret2
  have ht : textOf (addL [] s) = s.data.toList := by rw [textOf_addL]; rfl
  have hlen := size_data s
  have H3 := H2.out
  rw [← hlen] at H3
  have R := H3.buf ht (by omega)
  exact ⟨rfl, R.1, (((Below.refl w.heap.size w).alloc (Nat.le_refl _) _).trans (B1.out.below.mono (by omega))).trans (R.2.below (by omega) (Nat.le_refl _))⟩

set_option maxRecDepth 100000 in
set_option maxHeartbeats 1000000 in
theorem new_long (s : ByteArray) (w : World) (hs : 16384 < s.size) :
    Calls Try.prog 7 #[.string s] w fun e w' => e = .returned (.tuple #[.pointer none, .int .i64 11]) ∧ w = w' := by
  have hd : decide ((16384 : Int) < (s.size : Int)) = true := decide_eq_true (by omega)
  go_enter Try.func7, Try.ntmps7
  go_wp2_with fail
  go_ret2
  exact ⟨rfl, rfl⟩

set_option maxRecDepth 100000 in
set_option maxHeartbeats 1000000 in
theorem text_any (g : Nat) (T : List UInt8) (w : World) (h : BufAt w g T) :
    Calls Try.prog 23 #[.pointer (some ⟨g, 0, none⟩)] w fun e w' => e = .returned (.string ⟨T.toArray⟩) ∧ Below w.heap.size w w' := by
  obtain ⟨v, l, d, p, h6, hv, hl, rfl, hT, _⟩ := h
  obtain ⟨oa, cap, rfl⟩ := hv.slice
  have c0 := h6.cells.1
  have HV := Lib.hid hv
  clear h6 hv
  go_enter Try.func23, Try.ntmps23
  go_wp2_with fail
  refine (concat_any 0 _ l _ HV.out (by omega) (by omega)).mono ?_
  rintro e w1 ⟨rfl, hb⟩
  have HB := Lib.hid hb
  clear hb
  go_wp2_with fail
  go_ret
  exact ⟨rfl, HB.out⟩

set_option maxRecDepth 100000 in
set_option maxHeartbeats 1000000 in
theorem len_any (g : Nat) (T : List UInt8) (w : World) (h : BufAt w g T) :
    Calls Try.prog 36 #[.pointer (some ⟨g, 0, none⟩)] w fun e w' => e = .returned (.int .i64 (T.length : Nat)) ∧ w = w' := by
  obtain ⟨v, l, d, p, h6, _⟩ := h
  have c1 := h6.cells.2.1
  clear h6
  go_enter Try.func36, Try.ntmps36
  go_wp2_with fail
  go_ret
  exact ⟨rfl, rfl⟩

/-- Are from, to a piece in a text of so many bytes? -/
def inB (n : Nat) (a b : Int) : Bool := decide (0 ≤ a ∧ a ≤ b ∧ b ≤ n)
set_option maxRecDepth 100000 in
set_option maxHeartbeats 1000000 in
theorem has_any (g : Nat) (T : List UInt8) (a b : Int) (w : World) (h : BufAt w g T) :
    Calls Try.prog 26 #[.pointer (some ⟨g, 0, none⟩), .int .i64 a, .int .i64 b] w fun e w' => e = .returned (.bool (inB T.length a b)) ∧ w = w' := by
  obtain ⟨v, l, d, p, h6, _⟩ := h
  have c1 := h6.cells.2.1
  clear h6
  by_cases h0 : 0 ≤ a
  · by_cases h1 : a ≤ b
    · by_cases h2 : b ≤ (T.length : Int)
      · have e : inB T.length a b = true := decide_eq_true ⟨h0, h1, h2⟩
        rw [e]
        clear e
        go_enter Try.func26, Try.ntmps26
        go_wp2_with fail
        go_ret
        exact ⟨rfl, rfl⟩
      · have e : inB T.length a b = false := decide_eq_false (fun k => h2 k.2.2)
        rw [e]
        clear e
        go_enter Try.func26, Try.ntmps26
        go_wp2_with fail
        go_ret
        exact ⟨rfl, rfl⟩
    · have e : inB T.length a b = false := decide_eq_false (fun k => h1 k.2.1)
      have q : decide (a ≤ b) = false := decide_eq_false h1
      rw [e]
      clear e
      go_enter Try.func26, Try.ntmps26
      go_wp2_with fail
      go_ret
      exact ⟨rfl, rfl⟩
  · have e : inB T.length a b = false := decide_eq_false (fun k => h0 k.1)
    have q : decide (0 ≤ a) = false := decide_eq_false h0
    rw [e]
    clear e
    go_enter Try.func26, Try.ntmps26
    go_wp2_with fail
    go_ret
    exact ⟨rfl, rfl⟩
end Go.Proofs.Yteocdcknfhlfgaa.buf
