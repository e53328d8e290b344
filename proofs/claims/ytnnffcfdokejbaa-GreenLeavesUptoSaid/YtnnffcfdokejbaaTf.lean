/-
  Layer 8: the program's Find, whole.
-/
import Derived.Test.YtnnffcfdokejbaaTe
namespace Go.Proofs.Ytnnffcfdokejbaa.rd
open Go.RowKit

/-- Within Find: so far down. -/
structure Fd (w wr : World) (X : Nat) (a b : Int) (root t : Tree) (n : Rn) (pre : List Int) (v : Value) : Prop where
  base : w.heap.size = X
  below : Below w.heap.size w wr
  x0 : wr.heap[X]? = some (.cells #[.int .i64 n.k, .int .i64 n.i, .int .i64 n.j, .slice n.o n.n n.c] 24 (0, 0))
  xa : wr.heap[X + 1]? = some (.cells #[.int .i64 a] 3 (0, 0))
  xb : wr.heap[X + 2]? = some (.cells #[.int .i64 b] 3 (0, 0))
  tie : Hid (TieB w t n)
  row : Mine it wr (X + 3) v pre
  way : findTs a b 0 root.l = pre ++ findTs a b 0 t.l
theorem find_boxes (w : World) (k i j a b : Int) (o : Option Addr) (n c : Nat) : ∃ W3, ((w.alloc (.cells #[.int .i64 k, .int .i64 i, .int .i64 j, .slice o n c] 24)).alloc (.cells #[.int .i64 a] 3)).alloc (.cells #[.int .i64 b] 3) = W3 ∧ W3.heap[w.heap.size]? = some (.cells #[.int .i64 k, .int .i64 i, .int .i64 j, .slice o n c] 24 (0, 0)) ∧ W3.heap[w.heap.size + 1]? = some (.cells #[.int .i64 a] 3 (0, 0)) ∧ W3.heap[w.heap.size + 2]? = some (.cells #[.int .i64 b] 3 (0, 0)) ∧ Below w.heap.size w W3 := by
  have z1 : (w.alloc (.cells #[.int .i64 k, .int .i64 i, .int .i64 j, .slice o n c] 24)).heap.size = w.heap.size + 1 := World.size_alloc _ _
  have b1 : Below w.heap.size w (w.alloc (.cells #[.int .i64 k, .int .i64 i, .int .i64 j, .slice o n c] 24)) := (Below.refl _ _).alloc (Nat.le_refl _) _
  have a1 := heap_alloc_last w (.cells #[.int .i64 k, .int .i64 i, .int .i64 j, .slice o n c] 24)
  generalize w.alloc (.cells #[.int .i64 k, .int .i64 i, .int .i64 j, .slice o n c] 24) = W1 at *
  have a2 := heap_alloc_last W1 (.cells #[.int .i64 a] 3)
  have z2 : (W1.alloc (.cells #[.int .i64 a] 3)).heap.size = w.heap.size + 2 := by rw [World.size_alloc, z1]
  have a1' := (heap_alloc_old W1 (.cells #[.int .i64 a] 3) (by omega)).trans a1
  have b2 : Below w.heap.size w (W1.alloc (.cells #[.int .i64 a] 3)) := b1.alloc b1.size _
  rw [z1] at a2
  generalize W1.alloc (.cells #[.int .i64 a] 3) = W2 at *
  have a3 := heap_alloc_last W2 (.cells #[.int .i64 b] 3)
  rw [z2] at a3
  exact ⟨_, rfl, (heap_alloc_old W2 _ (by omega)).trans a1', (heap_alloc_old W2 _ (by omega)).trans a2, a3, b2.alloc b2.size _⟩
/-- One more step: the number is put behind the way. -/
theorem Fd.push {w wr : World} {X : Nat} {a b : Int} {root t : Tree} {n : Rn} {pre : List Int} {v : Value} (h : Fd w wr X a b root t n pre v) (hl : pre.length + 1 ≤ 1099511627776) (q : Int) {w9 : World} (hb : Below wr.heap.size wr w9) :
    ∃ g' cap' w', (∀ ty, (Builtin.append_ #[32, 32] ty #[v, .slice (some ⟨w9.heap.size, 0, none⟩) 1 1]).run Try.prog (w9.alloc (.cells #[.int .i64 q] 3)) = .ok (.slice (some ⟨g', 0, none⟩) (pre.length + 1) cap') w') ∧ Mine it w' (X + 3) (.slice (some ⟨g', 0, none⟩) (pre.length + 1) cap') (pre ++ [q]) ∧ Below w.heap.size w w' ∧ (∀ k, k < X + 3 → w'.heap[k]? = wr.heap[k]?) ∧ X + 3 ≤ w'.heap.size := by
  have hz := hb.size
  have hbase := h.base
  have hx2 := (Array.getElem?_eq_some_iff.1 h.xb).1
  have hu : Below wr.heap.size wr (w9.alloc (.cells #[.int .i64 q] 3)) := hb.alloc hz _
  have had := heap_alloc_last w9 (.cells #[.int .i64 q] 3)
  obtain ⟨g', cap', w', h3, h4, h5, h6⟩ := app_lies (F := it) (x := q) (h.row.below hu) had (by have := hu.size; omega) (by simp [maxLen]; omega) (by show (pre.length + 1) * 8 ≤ _; omega)
  have hown : ∀ g, v.ownBlock = some g → X + 3 ≤ g ∧ g < wr.heap.size := fun g hg => World.ownsRow.lt h.row g hg
  have hold : ∀ k, k < X + 3 → w'.heap[k]? = wr.heap[k]? := fun k hk => (h5.block k (by have := hu.size; omega) (fun e => by have := hown k e.symm; omega)).trans (hu.block k (by omega))
  have hbw := h.below
  have hus := hu.size
  have h5s := h5.size
  refine ⟨g', cap', w', h3, h4, ⟨h5.os.trans (hu.os.trans hbw.os), h5.tape.trans (hu.tape.trans hbw.tape), h5.output.trans (hu.output.trans hbw.output), by omega, fun k hk => (hold k (by omega)).trans (hbw.block k hk)⟩, hold, by omega⟩
/-- .. and the kid is the node. -/
theorem Fd.down {w wr w' : World} {X : Nat} {a b : Int} {root t t' : Tree} {n : Rn} {pre pre' : List Int} {v v' : Value} {mk mi mj : Int} {mo : Option Addr} {mn mc : Nat} (h : Fd w wr X a b root t n pre v) (hT : Hid (TieB w t' ⟨mk, mi, mj, mo, mn, mc⟩)) (hbw : Below w.heap.size w w') (hold : ∀ k, k < X + 3 → w'.heap[k]? = wr.heap[k]?) (hr : Mine it w' (X + 3) v' pre') (hway : findTs a b 0 root.l = pre' ++ findTs a b 0 t'.l) :
    Fd w ((((w'.setCell ⟨X, 0, none⟩ (.int .i64 mk)).setCell ⟨X, 1, none⟩ (.int .i64 mi)).setCell ⟨X, 2, none⟩ (.int .i64 mj)).setCell ⟨X, 3, none⟩ (.slice mo mn mc)) X a b root t' ⟨mk, mi, mj, mo, mn, mc⟩ pre' v' := by
  have hsm : ∀ k', k' ≠ X → ((((w'.setCell ⟨X, 0, none⟩ (.int .i64 mk)).setCell ⟨X, 1, none⟩ (.int .i64 mi)).setCell ⟨X, 2, none⟩ (.int .i64 mj)).setCell ⟨X, 3, none⟩ (.slice mo mn mc)).heap[k']? = w'.heap[k']? := fun k' hk => by
    rw [set_one _ _ _ _ _ hk, set_one _ _ _ _ _ hk, set_one _ _ _ _ _ hk, set_one _ _ _ _ _ hk]
  have hz : ((((w'.setCell ⟨X, 0, none⟩ (.int .i64 mk)).setCell ⟨X, 1, none⟩ (.int .i64 mi)).setCell ⟨X, 2, none⟩ (.int .i64 mj)).setCell ⟨X, 3, none⟩ (.slice mo mn mc)).heap.size = w'.heap.size := by rw [size_set, size_set, size_set, size_set]
  have hbase := h.base
  refine ⟨hbase, ⟨hbw.os, hbw.tape, hbw.output, by rw [hz]; exact hbw.size, fun k hk => (hsm k (by omega)).trans (hbw.block k hk)⟩, ?_, (hsm _ (by omega)).trans ((hold _ (by omega)).trans h.xa), (hsm _ (by omega)).trans ((hold _ (by omega)).trans h.xb), hT, hr.keep (fun k hk _ => hsm k (by have := World.ownsRow.lt hr k hk; omega)), hway⟩
  exact heap_setCell_same _ _ 3 _ _ _ (heap_setCell_same _ _ 2 _ _ _ (heap_setCell_same _ _ 1 _ _ _ (heap_setCell_same _ _ 0 _ _ _ ((hold X (by omega)).trans h.x0))))
def lenOf : Value → Nat
  | .slice _ n _ => n
  | _ => 0
set_option maxRecDepth 100000 in
set_option maxHeartbeats 4000000 in
theorem gfind_t (t : Tree) : FindC 35 t := by
  intro w n a b hT hfew
  obtain ⟨k, i, j, o, nn, c⟩ := n
  obtain ⟨W3, hW3, hx0, hxa, hxb, hb3⟩ := find_boxes w k i j a b o nn c
  have hti : i = t.i ∧ j = t.j := by
    obtain ⟨D, h, _⟩ := hT.out
    exact ⟨h.i, h.j⟩
  obtain ⟨X, hX⟩ : ∃ X, w.heap.size = X := ⟨_, rfl⟩
  have HX := Lib.hid hX
  have HW3 := Lib.hid hW3
  rw [hX] at hx0 hxa hxb
  have H3 := Lib.hid (And.intro hx0 (And.intro hxa (And.intro hxb hb3)))
  have HHOL : Hid (∀ o n c, Calls Try.prog 57 #[.agg #[.int .i64 k, .int .i64 i, .int .i64 j, .slice o n c], .pointer (some ⟨X + 1, 0, none⟩), .pointer (some ⟨X + 1 + 1, 0, none⟩)] W3 fun e w' => e = .returned (.bool (holdsI i j a b)) ∧ Below W3.heap.size W3 w') := Lib.hid (fun o n c => gholds_any k i j a b o n c W3 (X + 1) (X + 1 + 1) (one_cell hxa) (one_cell hxb))
  obtain ⟨⟨p0, p1, p2, p3⟩, _⟩ := four_cells0 hx0
  have pz := (Array.getElem?_eq_some_iff.1 hx0).1
  show Calls Try.prog 35 #[.agg #[.int .i64 k, .int .i64 i, .int .i64 j, .slice o nn c], .int .i64 a, .int .i64 b] w _
  have HTT := Lib.hid hT
  clear hT hx0 hxa hxb hb3 hX hW3
  cases hh : holdsI i j a b with
  | false =>
    have hf : findT a b t = none := findT_not (by rw [← hti.1, ← hti.2]; exact hh)
    rw [hh] at HHOL
    rw [hf]
    clear hf hfew hh hti
    go_enter Try.func35, Try.ntmps35
    have hW3 := HW3.out
    have hX := HX.out
    go_wp2_with (go_at_call 57; (with_reducible refine (HHOL.out _ _ _).mono ?_); rintro e w4 ⟨rfl, hb4⟩; have HB4 := Lib.hid (H3.out.2.2.2.trans (hb4.mono H3.out.2.2.2.size)); clear hb4)
    go_ret2
    exact ⟨_, rfl, HB4.out, Mine.nil _ _⟩
  | true =>
    have hf : findT a b t = some (findTs a b 0 t.l) := findT_holds (by rw [← hti.1, ← hti.2]; exact hh)
    rw [hh] at HHOL
    rw [hf] at hfew ⊢
    simp only [Option.getD_some, Option.isSome_some] at hfew ⊢
    have HFEW := Lib.hid hfew
    clear hf hfew hh hti
    go_enter Try.func35, Try.ntmps35
    have hW3 := HW3.out
    have hX := HX.out
    go_wp2_with (go_at_call 57; (with_reducible refine (HHOL.out _ _ _).mono ?_); rintro e w4 ⟨rfl, hb4⟩; have HB4 := Lib.hid hb4; clear hb4)
    clear hW3 hX
    have hst : Fd w w4 X a b t t ⟨k, i, j, o, nn, c⟩ [] (.slice none 0 0) := by
      obtain ⟨h0, h1, h2, hb⟩ := H3.out
      have hb4 := HB4.out
      have hlt : ∀ k o, W3.heap[k]? = some o → w4.heap[k]? = some o := fun k o hk => (hb4.block k (Array.getElem?_eq_some_iff.1 hk).1).trans hk
      exact ⟨HX.out, hb.trans (hb4.mono hb.size), hlt _ _ h0, hlt _ _ h1, hlt _ _ h2, HTT.out, Mine.nil _ _, rfl⟩
    have HST := Lib.hid hst
    clear hst p0 p1 p2 p3 pz
    go_loopw [9] (fun v wr => ∃ (t' : Tree) (n : Rn) (pre : List Int) (v2 : Value), v2 = v ∧ Fd w wr X a b t t' n pre v2) (fun v _ => (findTs a b 0 t.l).length - lenOf v)
    case atStart => exact ⟨_, _, _, _, rfl, HST.out⟩
    case round =>
      obtain ⟨t', n, pre, v, rfl, hs⟩ := hrel
      obtain ⟨k', i', j', l⟩ := t'
      obtain ⟨o', c', g, off, R, rfl, hc, hl, hlR, ho, HC, HT⟩ := TieB.out hs.tie
      have q0 := (Array.getElem?_eq_some_iff.1 hs.x0).1
      obtain ⟨⟨x0, x1, x2, x3⟩, _⟩ := four_cells0 hs.x0
      have HIX := Lib.hid (index_kids a b (.mk k' i' j' l) w wr hs.below ⟨k', i', j', o', l.length, c'⟩ (X + 1) (X + 1 + 1) hs.tie (one_cell hs.xa) (one_cell hs.xb))
      have hIX' : Calls Try.prog 58 #[.slice o' l.length c', .func (.func 57) #[] #[.pointer (some ⟨X + 1, 0, none⟩), .pointer (some ⟨X + 1 + 1, 0, none⟩)]] wr fun e w' => e = .returned (.int .i64 (idxT a b 0 l)) ∧ Below wr.heap.size wr w' := HIX.out
      have HIDX := Lib.hid hIX'
      obtain ⟨len, hlen⟩ : ∃ len, l.length = len := ⟨_, rfl⟩
      have hway := hs.way
      have HS := Lib.hid hs
      have hvl : lenOf v = pre.length := by
        obtain ⟨g2, o2, c2, rfl, _⟩ := Mine.shape hs.row
        rfl
      rw [hlen] at x3 HIDX hl
      simp only [] at x0 x1 x2 x3
      change findTs a b 0 t.l = pre ++ findTs a b 0 l at hway
      rcases idxT_way a b l 0 with ⟨e1, e2⟩ | ⟨q, hq, e1, e2, e3⟩
      · rw [e1] at HIDX
        rw [e2, List.append_nil] at hway
        have HWAY := Lib.hid hway
        clear HIX hIX' hway hs e1 e2 ho hc hlen hlR hvl
        go_wp2_with (go_at_call 58; (with_reducible refine HIDX.out.mono ?_); rintro e w9 ⟨rfl, hb9⟩; have HB9 := Lib.hid hb9; clear hb9)
        go_ret2
        have hbb := HS.out.below
        exact ⟨_, rfl, hbb.trans (HB9.out.mono hbb.size), by rw [HWAY.out]; exact Mine.mono ((HS.out.row).below HB9.out) (by have := HS.out.base; omega)⟩
      · rw [e1] at HIDX
        rw [Nat.zero_add] at HIDX e1 e2
        rw [e2] at hway
        have hiR : q < R.length := by rw [hlR]; exact hq
        obtain ⟨ho, hg⟩ := ho (by intro e; rw [e] at hq; simp at hq)
        subst ho
        obtain ⟨a0, a1, a2, a3⟩ := cells_nd HC.out q hiR
        have hTq := HT.out w (Below.refl _ _) q hq hiR
        obtain ⟨⟨nk, ni, nj, no, nn', nc⟩, hn1⟩ : ∃ n, R[q] = n := ⟨_, rfl⟩
        rw [hn1] at a0 a1 a2 a3 hTq
        have hpl : pre.length + 1 ≤ 1099511627776 := by
          have := HFEW.out
          rw [hway, List.length_append, List.length_cons] at this
          omega
        have HPUSH : Hid (∀ w9, Below wr.heap.size wr w9 → ∃ g' cap' w', (∀ ty, (Builtin.append_ #[32, 32] ty #[v, .slice (some ⟨w9.heap.size, 0, none⟩) 1 1]).run Try.prog (w9.alloc (.cells #[.int .i64 (q : Int)] 3)) = .ok (.slice (some ⟨g', 0, none⟩) (pre.length + 1) cap') w') ∧ ((w'.cell? ⟨X, 0, none⟩ = some (.int .i64 k') ∧ w'.cell? ⟨X, 1, none⟩ = some (.int .i64 i') ∧ w'.cell? ⟨X, 2, none⟩ = some (.int .i64 j') ∧ w'.cell? ⟨X, 3, none⟩ = some (.slice (some ⟨g, off, none⟩) len c')) ∧ ∀ j, w'.frozen? ⟨X, j, none⟩ = false) ∧ (w'.cell? ⟨g, off + q * 4, none⟩ = some (.int .i64 nk) ∧ w'.cell? ⟨g, off + q * 4 + 1, none⟩ = some (.int .i64 ni) ∧ w'.cell? ⟨g, off + q * 4 + 2, none⟩ = some (.int .i64 nj) ∧ w'.cell? ⟨g, off + q * 4 + 3, none⟩ = some (.slice no nn' nc)) ∧ (X < w'.heap.size ∧ g < w'.heap.size) ∧ Hid (Fd w ((((w'.setCell ⟨X, 0, none⟩ (.int .i64 nk)).setCell ⟨X, 1, none⟩ (.int .i64 ni)).setCell ⟨X, 2, none⟩ (.int .i64 nj)).setCell ⟨X, 3, none⟩ (.slice no nn' nc)) X a b t l[q] ⟨nk, ni, nj, no, nn', nc⟩ (pre ++ [(q : Int)]) (.slice (some ⟨g', 0, none⟩) (pre.length + 1) cap'))) := Lib.hid (fun w9 hb9 => by
          obtain ⟨g', cap', w', h1, h2, h3, h4, h5⟩ := hs.push hpl (q : Int) hb9
          have hx := (h4 X (by omega)).trans hs.x0
          obtain ⟨fc, ff⟩ := four_cells0 hx
          simp only [] at fc
          rw [hlen] at fc
          refine ⟨g', cap', w', h1, ⟨fc, ff⟩, ⟨(h3.cell (p := ⟨g, off + q * 4, none⟩) hg).trans a0, (h3.cell (p := ⟨g, off + q * 4 + 1, none⟩) hg).trans a1, (h3.cell (p := ⟨g, off + q * 4 + 2, none⟩) hg).trans a2, (h3.cell (p := ⟨g, off + q * 4 + 3, none⟩) hg).trans a3⟩, ⟨by omega, Nat.lt_of_lt_of_le hg h3.size⟩, Lib.hid (hs.down hTq h3 h4 h2 ?_)⟩
          rw [hway, List.append_assoc]
          rfl)
        have hq0 : (0 : Int) ≤ (q : Int) := by omega
        have hneg : decide ((q : Int) < 0) = false := decide_eq_false (by omega)
        have hlt : q < len := by omega
        have hd' : decide (q < len) = true := decide_eq_true hlt
        have hd : decide ((q : Int) < (len : Int)) = true := decide_eq_true (by omega)
        have HWAY := Lib.hid hway
        have HVL := Lib.hid hvl
        clear HIX hIX' hway hs e1 e2 e3 hn1 hTq a0 a1 a2 a3 hvl hiR hpl hc hlR hlen
        go_wp2_with (first
          | (go_at_call 58; (with_reducible refine HIDX.out.mono ?_); rintro e w9 ⟨rfl, hb9⟩; obtain ⟨g', cap', w', hrun, ⟨⟨r0, r1, r2, r3⟩, rf⟩, ⟨s0, s1, s2, s3⟩, ⟨z1, z2⟩, HFD⟩ := HPUSH.out w9 hb9; have HRUN := Lib.hid hrun; have rf0 := rf 0; have rf1 := rf 1; have rf2 := rf 2; have rf3 := rf 3; clear hb9 hrun rf)
          | (at_builtin; refine Lib.wpList_append_run _ rfl _ _ _ _ rfl _ _ rfl rfl _ _ (HRUN.out _) ?_))
        go_roundw
        case rel => exact ⟨_, _, _, _, rfl, HFD.out⟩
        case measure =>
          have h1 := HVL.out
          have h2 : (findTs a b 0 t.l).length = pre.length + (findTs a b 0 l[q].l).length + 1 := by rw [HWAY.out, List.length_append, List.length_cons]; omega
          simp only [lenOf] at h1 ⊢
          omega
end Go.Proofs.Ytnnffcfdokejbaa.rd
