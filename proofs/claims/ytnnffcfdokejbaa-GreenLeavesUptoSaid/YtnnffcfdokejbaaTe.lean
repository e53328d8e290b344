/-
  Layer 8: the program's Find.
-/
import Derived.Test.YtnnffcfdokejbaaNh
namespace Go.Proofs.Ytnnffcfdokejbaa.rd
open Go.RowKit

theorem box_int (w : World) (a : Int) : (w.alloc (.cells #[.int .i64 a] 3)).heap[w.heap.size]? = some (.cells #[.int .i64 a] 3 (0, 0)) := heap_alloc_last w _
theorem one_cell {w : World} {X : Nat} {x0 : Value} {e : TypeId} (h : w.heap[X]? = some (.cells #[x0] e (0, 0))) : w.cell? ⟨X, 0, none⟩ = some x0 := by rw [cell_of_row w X 0 _ _ _ h]; rfl
set_option maxHeartbeats 2000000 in
theorem gholds_any (k i j a b : Int) (o : Option Addr) (n c : Nat) (w : World) (A B : Nat) (hA : w.cell? ⟨A, 0, none⟩ = some (.int .i64 a)) (hB : w.cell? ⟨B, 0, none⟩ = some (.int .i64 b)) : Calls Try.prog 57 #[.agg #[.int .i64 k, .int .i64 i, .int .i64 j, .slice o n c], .pointer (some ⟨A, 0, none⟩), .pointer (some ⟨B, 0, none⟩)] w fun e w' => e = .returned (.bool (holdsI i j a b)) ∧ Below w.heap.size w w' := by
  have hb : Below w.heap.size w (w.alloc (.cells #[.int .i64 k, .int .i64 i, .int .i64 j, .slice o n c] 24)) := (Below.refl _ _).alloc (Nat.le_refl _) _
  have zA : A < w.heap.size := World.block_lt_of_cell? _ _ hA
  have zB : B < w.heap.size := World.block_lt_of_cell? _ _ hB
  have HB := Lib.hid hb
  clear hb
  by_cases h1 : i ≤ a
  · have d1 : decide (i ≤ a) = true := decide_eq_true h1
    by_cases h2 : a ≤ b
    · have d2 : decide (a ≤ b) = true := decide_eq_true h2
      have hl : holdsI i j a b = decide (b ≤ j) := by unfold holdsI; simp [h1, h2]
      rw [hl]
      clear hl
      go_enter Try.func57, Try.ntmps57
      go_wp2_with fail
      go_ret
      exact ⟨rfl, HB.out⟩
    · have d2 : decide (a ≤ b) = false := decide_eq_false h2
      have hl : holdsI i j a b = false := by unfold holdsI; simp [h2]
      rw [hl]
      clear hl
      go_enter Try.func57, Try.ntmps57
      go_wp2_with fail
      go_ret
      exact ⟨rfl, HB.out⟩
  · have d1 : decide (i ≤ a) = false := decide_eq_false h1
    have hl : holdsI i j a b = false := by unfold holdsI; simp [h1]
    rw [hl]
    clear hl
    go_enter Try.func57, Try.ntmps57
    go_wp2_with fail
    go_ret
    exact ⟨rfl, HB.out⟩
/-- The number of the first that holds the piece, or -1. -/
def idxT (a b : Int) : Nat → List Tree → Int
  | _, [] => -1
  | q, t :: l => if holdsI t.i t.j a b then (q : Int) else idxT a b (q + 1) l
theorem idxT_drop {a b : Int} {l : List Tree} {q : Nat} (h : q < l.length) : idxT a b q (l.drop q) = if holdsI l[q].i l[q].j a b then (q : Int) else idxT a b (q + 1) (l.drop (q + 1)) := by
  rw [List.drop_eq_getElem_cons h, idxT]
theorem findT_holds {a b : Int} {t : Tree} (h : holdsI t.i t.j a b = true) : findT a b t = some (findTs a b 0 t.l) := by
  obtain ⟨k, i, j, l⟩ := t
  rw [findT]
  exact if_pos h
theorem findT_not {a b : Int} {t : Tree} (h : holdsI t.i t.j a b = false) : findT a b t = none := by
  obtain ⟨k, i, j, l⟩ := t
  rw [findT]
  exact if_neg (by rw [show holdsI i j a b = false from h]; simp)
theorem idxT_way (a b : Int) : ∀ (l : List Tree) (s : Nat), (idxT a b s l = -1 ∧ findTs a b s l = []) ∨ ∃ (q : Nat) (h : q < l.length), idxT a b s l = ((s + q : Nat) : Int) ∧ findTs a b s l = ((s + q : Nat) : Int) :: findTs a b 0 l[q].l ∧ holdsI l[q].i l[q].j a b = true
  | [], s => .inl ⟨rfl, by rw [findTs]⟩
  | t :: l, s => by
    cases hh : holdsI t.i t.j a b with
    | true =>
      refine .inr ⟨0, by simp, ?_, ?_, hh⟩
      · rw [idxT, hh]; rfl
      · rw [findTs, findT_holds hh]; rfl
    | false =>
      have e1 : idxT a b s (t :: l) = idxT a b (s + 1) l := by rw [idxT, hh]; rfl
      have e2 : findTs a b s (t :: l) = findTs a b (s + 1) l := by rw [findTs, findT_not hh]
      rw [e1, e2]
      rcases idxT_way a b l (s + 1) with h | ⟨q, hq, h1, h2, h3⟩
      · exact .inl h
      · exact .inr ⟨q + 1, by simpa using hq, by rw [h1]; omega, by rw [h2, show s + (q + 1) = s + 1 + q by omega]; rfl, h3⟩
set_option maxRecDepth 100000 in
set_option maxHeartbeats 4000000 in
theorem index_kids (a b : Int) (t : Tree) (w0 w : World) (hw : Below w0.heap.size w0 w) (n : Rn) (A B : Nat) (hT : Hid (TieB w0 t n)) (hA : w.cell? ⟨A, 0, none⟩ = some (.int .i64 a)) (hB : w.cell? ⟨B, 0, none⟩ = some (.int .i64 b)) :
    Calls Try.prog 58 #[.slice n.o n.n n.c, .func (.func 57) #[] #[.pointer (some ⟨A, 0, none⟩), .pointer (some ⟨B, 0, none⟩)]] w fun e w' => e = .returned (.int .i64 (idxT a b 0 t.l)) ∧ Below w.heap.size w w' := by
  obtain ⟨k, i, j, l⟩ := t
  obtain ⟨o, c, g, off, R, rfl, hc, hl, hlR, ho, HC, HT⟩ := TieB.out hT
  obtain ⟨len, hlen⟩ : ∃ len, l.length = len := ⟨_, rfl⟩
  have HLN := Lib.hid (And.intro hlen hlR)
  have HO := Lib.hid ho
  have HW := Lib.hid hw
  show Calls Try.prog 58 #[.slice o l.length c, .func (.func 57) #[] #[.pointer (some ⟨A, 0, none⟩), .pointer (some ⟨B, 0, none⟩)]] w fun e w' => e = .returned (.int .i64 (idxT a b 0 l)) ∧ Below w.heap.size w w'
  rw [hlen] at hl ⊢
  have HAB := Lib.hid (And.intro hA hB)
  have HZA : Hid (A < w.heap.size ∧ B < w.heap.size) := Lib.hid ⟨World.block_lt_of_cell? _ _ hA, World.block_lt_of_cell? _ _ hB⟩
  clear hT hlen hlR ho hc hw hA hB
  go_enter Try.func58, Try.ntmps58
  go_wp2_with fail
  go_loopw [8] (fun p wr => ∃ q : Nat, q ≤ len ∧ p = .int .i64 (q : Int) ∧ Below w.heap.size w wr ∧ idxT a b q (l.drop q) = idxT a b 0 l) (fun p _ => len - (intOf p).toNat)
  case atStart => exact ⟨0, Nat.zero_le _, rfl, Below.refl _ _, rfl⟩
  case round =>
    obtain ⟨q, hil, rfl, hb, hid⟩ := hrel
    have HB := Lib.hid hb
    by_cases hlt : q < len
    · have hil1 : q < l.length := by rw [HLN.out.1]; exact hlt
      have hiR : q < R.length := by rw [HLN.out.2]; exact hil1
      obtain ⟨ho, hg⟩ := HO.out (by intro e; rw [e] at hil1; simp at hil1)
      subst ho
      obtain ⟨a0, a1, a2, a3⟩ := cells_nd HC.out q hiR
      have hb0 : Below w0.heap.size w0 wr := HW.out.trans (hb.mono HW.out.size)
      have hki : R[q].i = l[q].i := by
        obtain ⟨D, h, _⟩ := (HT.out wr hb0 q hil1 hiR).out
        exact h.i
      have hkj : R[q].j = l[q].j := by
        obtain ⟨D, h, _⟩ := (HT.out wr hb0 q hil1 hiR).out
        exact h.j
      have hfd := idxT_drop (a := a) (b := b) hil1
      rw [hid, ← hki, ← hkj] at hfd
      obtain ⟨⟨nk, ni, nj, no, nn, nc⟩, hn1⟩ : ∃ n, R[q] = n := ⟨_, rfl⟩
      rw [hn1] at a0 a1 a2 a3 hfd
      simp only [] at hfd
      have cA := (hb.cell (p := ⟨A, 0, none⟩) HZA.out.1).trans HAB.out.1
      have cB := (hb.cell (p := ⟨B, 0, none⟩) HZA.out.2).trans HAB.out.2
      have HCALL := Lib.hid (gholds_any nk ni nj a b no nn nc wr A B cA cB)
      have c0 := (hb0.cell (p := ⟨g, off + q * 4, none⟩) hg).trans a0
      have c1 := (hb0.cell (p := ⟨g, off + q * 4 + 1, none⟩) hg).trans a1
      have c2' := (hb0.cell (p := ⟨g, off + q * 4 + 2, none⟩) hg).trans a2
      have c3 := (hb0.cell (p := ⟨g, off + q * 4 + 3, none⟩) hg).trans a3
      have hgw := Nat.lt_of_lt_of_le hg hb0.size
      have hq0 : (0 : Int) ≤ (q : Int) := by omega
      have hww : (q : Int) + 1 ≤ 2932031007318 := by omega
      have hd : decide ((q : Int) < (len : Int)) = true := decide_eq_true (by omega)
      have hd' : decide (q < len) = true := decide_eq_true hlt
      simp only [] at c0 c1 c2' c3
      obtain ⟨bb, hbb⟩ : ∃ x, holdsI ni nj a b = x := ⟨_, rfl⟩
      rw [hbb] at HCALL hfd
      have HFD := Lib.hid hfd
      clear a0 a1 a2 a3 hn1 hki hkj hb hb0 hid hfd hbb cA cB
      cases bb with
      | true =>
        go_wp2_with (go_at_call 57; (with_reducible refine HCALL.out.mono ?_); rintro e w9 ⟨rfl, hb9⟩; have HBB := Lib.hid hb9; clear hb9)
        all_goals (first | go_ret | go_end0)
        all_goals exact ⟨by rw [HFD.out]; rfl, HB.out.trans (HBB.out.mono HB.out.size)⟩
      | false =>
        have hnx : idxT a b (q + 1) (l.drop (q + 1)) = idxT a b 0 l := by rw [HFD.out]; rfl
        have HNX := Lib.hid hnx
        clear hnx
        go_wp2_with (go_at_call 57; (with_reducible refine HCALL.out.mono ?_); rintro e w9 ⟨rfl, hb9⟩; have HBB := Lib.hid hb9; clear hb9)
        go_roundw
        case rel => exact ⟨q + 1, by omega, by go_num, HB.out.trans (HBB.out.mono HB.out.size), HNX.out⟩
        case measure => simp [intOf]; omega
    · have hd : decide ((q : Int) < (len : Int)) = false := decide_eq_false (by omega)
      have hd' : decide (q < len) = false := decide_eq_false hlt
      have hs : idxT a b 0 l = -1 := by
        rw [← hid, List.drop_of_length_le (by rw [HLN.out.1]; omega), idxT]
      have HSN := Lib.hid hs
      clear hb hs hid
      go_wp2_with fail
      go_ret
      exact ⟨by rw [HSN.out]; rfl, HB.out⟩
end Go.Proofs.Ytnnffcfdokejbaa.rd
