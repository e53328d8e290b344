/-
  Layer 8: Tc, Td, Qd, Tw put together.
-/
import Derived.Test.YtnnffcfdokejbaaNc
import Derived.Test.YtnnffcfdokejbaaNj
import Derived.Test.YtnnffcfdokejbaaTb
import Derived.Test.YtnnffcfdokejbaaQe
import Derived.Test.YtnnffcfdokejbaaTv
import Derived.Test.YtnnffcfdokejbaaTa
import Derived.Test.YtnnffcfdokejbaaQa
import Derived.Test.YtnnffcfdokejbaaQb
namespace Go.Proofs.Ytnnffcfdokejbaa.rd
open Go.RowKit

set_option maxRecDepth 100000 in
set_option maxHeartbeats 4000000 in
theorem equal_kids (k i j : Int) (l : List Tree) (ih : ∀ t ∈ l, SameC 41 t) (u : Tree) (w : World) (n n2 : Rn) (hT : Hid (TieB w (.mk k i j l) n)) (hT2 : Hid (TieB w u n2)) :
    Calls Try.prog 60 #[.slice n.o n.n n.c, .slice n2.o n2.n n2.c, .func (.func 41) #[] #[]] w fun e w' => e = .returned (.bool (sameTs l u.l)) ∧ Below w.heap.size w w' := by
  obtain ⟨k2, i2, j2, l2⟩ := u
  obtain ⟨o, c, g, off, R, rfl, hc, hl, hlR, ho, HC, HT⟩ := TieB.out hT
  obtain ⟨o2, c2, g2, off2, R2, rfl, hc2, hl2, hlR2, ho2, HC2, HT2⟩ := TieB.out hT2
  have HIH := Lib.hid ih
  have HOO := Lib.hid (And.intro ho ho2)
  obtain ⟨len, hlen⟩ : ∃ len, l.length = len := ⟨_, rfl⟩
  obtain ⟨len2, hlen2⟩ : ∃ len, l2.length = len := ⟨_, rfl⟩
  have HLN := Lib.hid (And.intro (And.intro hlen hlen2) (And.intro hlR hlR2))
  rw [hlen] at hl
  rw [hlen2] at hl2
  show Calls Try.prog 60 #[.slice o l.length c, .slice o2 l2.length c2, .func (.func 41) #[] #[]] w fun e w' => e = .returned (.bool (sameTs l l2)) ∧ Below w.heap.size w w'
  rw [hlen, hlen2]
  clear hT hT2 hlen hlen2 ih ho ho2 hc hc2 hlR hlR2
  by_cases hle : len = len2
  case neg =>
    have hs : sameTs l l2 = false := sameTs_len l l2 (by rw [HLN.out.1.1, HLN.out.1.2]; exact hle)
    rw [hs]
    clear hs
    have hle' : (len : Int) ≠ (len2 : Int) := by omega
    go_enter Try.func60, Try.ntmps60
    go_wp2_with fail
    go_ret
    exact ⟨rfl, Below.refl _ _⟩
  case pos =>
  subst hle
  go_enter Try.func60, Try.ntmps60
  go_wp2_with fail
  go_loopw [17] (fun p wr => ∃ i : Nat, i ≤ len ∧ p = .int .i64 (i : Int) ∧ Below w.heap.size w wr ∧ sameTs (l.drop i) (l2.drop i) = sameTs l l2) (fun p _ => len - (intOf p).toNat)
  case atStart => exact ⟨0, Nat.zero_le _, rfl, Below.refl _ _, rfl⟩
  case round =>
    obtain ⟨q, hil, rfl, hb, hsd⟩ := hrel
    have HB := Lib.hid hb
    have HSD := Lib.hid hsd
    clear hsd
    by_cases hlt : q < len
    · have hil1 : q < l.length := by rw [HLN.out.1.1]; exact hlt
      have hil2 : q < l2.length := by rw [HLN.out.1.2]; exact hlt
      have hiR : q < R.length := by rw [HLN.out.2.1]; exact hil1
      have hiR2 : q < R2.length := by rw [HLN.out.2.2]; exact hil2
      obtain ⟨ho, hg0⟩ := HOO.out.1 (by intro e; rw [e] at hil1; simp at hil1)
      obtain ⟨ho2, hg2⟩ := HOO.out.2 (by intro e; rw [e] at hil2; simp at hil2)
      subst ho ho2
      obtain ⟨a0, a1, a2, a3⟩ := cells_nd HC.out q hiR
      obtain ⟨s0, s1, s2, s3⟩ := cells_nd HC2.out q hiR2
      have HS := Lib.hid (sameTs_drop hil1 hil2)
      have HCALL : Hid (∀ u, Below wr.heap.size wr u → Calls Try.prog 41 #[R[q].v, R2[q].v] u fun e w' => e = .returned (.bool (sameT l[q] l2[q])) ∧ Below u.heap.size u w') := Lib.hid (fun u hu => by
        have hbu := hb.trans (hu.mono hb.size)
        exact HIH.out l[q] (List.getElem_mem hil1) l2[q] u R[q] R2[q] (HT.out u hbu q hil1 hiR) (HT2.out u hbu q hil2 hiR2))
      obtain ⟨b, hbq⟩ : ∃ b, sameT l[q] l2[q] = b := ⟨_, rfl⟩
      rw [hbq] at HCALL HS
      obtain ⟨⟨nk, ni, nj, no, nn, nc⟩, hn1⟩ : ∃ n, R[q] = n := ⟨_, rfl⟩
      obtain ⟨⟨mk, mi, mj, mo, mn, mc⟩, hn2⟩ : ∃ n, R2[q] = n := ⟨_, rfl⟩
      rw [hn1] at a0 a1 a2 a3 HCALL
      rw [hn2] at s0 s1 s2 s3 HCALL
      rw [show (Rn.mk nk ni nj no nn nc).v = .agg #[.int .i64 nk, .int .i64 ni, .int .i64 nj, .slice no nn nc] from rfl, show (Rn.mk mk mi mj mo mn mc).v = .agg #[.int .i64 mk, .int .i64 mi, .int .i64 mj, .slice mo mn mc] from rfl] at HCALL
      have c0 := (hb.cell (p := ⟨g, off + q * 4, none⟩) hg0).trans a0
      have c1 := (hb.cell (p := ⟨g, off + q * 4 + 1, none⟩) hg0).trans a1
      have c2' := (hb.cell (p := ⟨g, off + q * 4 + 2, none⟩) hg0).trans a2
      have c3 := (hb.cell (p := ⟨g, off + q * 4 + 3, none⟩) hg0).trans a3
      have d0 := (hb.cell (p := ⟨g2, off2 + q * 4, none⟩) hg2).trans s0
      have d1 := (hb.cell (p := ⟨g2, off2 + q * 4 + 1, none⟩) hg2).trans s1
      have d2 := (hb.cell (p := ⟨g2, off2 + q * 4 + 2, none⟩) hg2).trans s2
      have d3 := (hb.cell (p := ⟨g2, off2 + q * 4 + 3, none⟩) hg2).trans s3
      have hgw := Nat.lt_of_lt_of_le hg0 hb.size
      have hgw2 := Nat.lt_of_lt_of_le hg2 hb.size
      have hq0 : (0 : Int) ≤ (q : Int) := by omega
      have hww : (q : Int) + 1 ≤ 2932031007318 := by omega
      have hd : decide ((q : Int) < (len : Int)) = true := decide_eq_true (by omega)
      have hd' : decide (q < len) = true := decide_eq_true hlt
      simp only [] at c0 c1 c2' c3 d0 d1 d2 d3
      obtain ⟨W2, hW2, hy1, hy2, hb2⟩ := two_node_boxes wr nk ni nj mk mi mj no mo nn nc mn mc
      have HW2 : Hid (Below wr.heap.size wr ((wr.alloc (.cells #[.int .i64 nk, .int .i64 ni, .int .i64 nj, .slice no nn nc] 24)).alloc (.cells #[.int .i64 mk, .int .i64 mi, .int .i64 mj, .slice mo mn mc] 24))) := Lib.hid (by rw [hW2]; exact hb2)
      clear a0 a1 a2 a3 s0 s1 s2 s3 hn1 hn2 hb hbq hW2 hy1 hy2 hb2
      cases b with
      | true =>
        have hsn : sameTs (l.drop (q + 1)) (l2.drop (q + 1)) = sameTs l l2 := by rw [← HSD.out, HS.out, Bool.true_and]
        have HSN := Lib.hid hsn
        clear hsn
        go_wp2_with (go_at_call 41; (with_reducible refine (HCALL.out _ HW2.out).mono ?_); rintro e w9 ⟨rfl, hb9⟩; have HBB := Lib.hid (HW2.out.trans (hb9.mono HW2.out.size)); clear hb9)
        go_roundw
        case rel => exact ⟨q + 1, by omega, by go_num, HB.out.trans (HBB.out.mono HB.out.size), HSN.out⟩
        case measure => simp [intOf]; omega
      | false =>
        have hsn : sameTs l l2 = false := by rw [← HSD.out, HS.out, Bool.false_and]
        have HSN := Lib.hid hsn
        clear hsn
        go_wp2_with (go_at_call 41; (with_reducible refine (HCALL.out _ HW2.out).mono ?_); rintro e w9 ⟨rfl, hb9⟩; have HBB := Lib.hid (HW2.out.trans (hb9.mono HW2.out.size)); clear hb9)
        all_goals (first | go_ret | go_end0)
        all_goals exact ⟨by rw [HSN.out]; rfl, HB.out.trans (HBB.out.mono HB.out.size)⟩
    · have hd : decide ((q : Int) < (len : Int)) = false := decide_eq_false (by omega)
      have hd' : decide (q < len) = false := decide_eq_false hlt
      have hs : sameTs l l2 = true := by
        rw [← HSD.out, List.drop_of_length_le (by rw [HLN.out.1.1]; omega), List.drop_of_length_le (by rw [HLN.out.1.2]; omega), sameTs]
      have HSN := Lib.hid hs
      clear hb hs
      go_wp2_with fail
      go_ret
      exact ⟨by rw [HSN.out]; rfl, HB.out⟩
set_option maxRecDepth 100000 in
set_option maxHeartbeats 4000000 in
theorem gsame_node (k i j : Int) (l : List Tree) (ih : ∀ t ∈ l, SameC 41 t) : SameC 41 (.mk k i j l) := by
  intro u w n n2 hT hT2
  have HE := Lib.hid (fun (W : World) (hW : Below w.heap.size w W) => equal_kids k i j l ih u W n n2 (TieB.below hT hW) (TieB.below hT2 hW))
  obtain ⟨k2, i2, j2, l2⟩ := u
  obtain ⟨o, c, g, off, R, rfl, hc, hl, hlR, ho, HC, HT⟩ := TieB.out hT
  obtain ⟨o2, c2, g2, off2, R2, rfl, hc2, hl2, hlR2, ho2, HC2, HT2⟩ := TieB.out hT2
  obtain ⟨W2, hW2, hx, hy, hb2⟩ := two_node_boxes w k i j k2 i2 j2 o o2 l.length c l2.length c2
  obtain ⟨⟨x0, x1, x2, x3⟩, _⟩ := four_cells0 hx
  obtain ⟨⟨y0, y1, y2, y3⟩, _⟩ := four_cells0 hy
  have xz := (Array.getElem?_eq_some_iff.1 hx).1
  have yz := (Array.getElem?_eq_some_iff.1 hy).1
  obtain ⟨X, hX⟩ : ∃ X, w.heap.size = X := ⟨_, rfl⟩
  obtain ⟨len, hlen⟩ : ∃ len, l.length = len := ⟨_, rfl⟩
  obtain ⟨len2, hlen2⟩ : ∃ len, l2.length = len := ⟨_, rfl⟩
  obtain ⟨be, hbe⟩ : ∃ b, sameTs l l2 = b := ⟨_, rfl⟩
  have hs : sameT (.mk k i j l) (.mk k2 i2 j2 l2) = (k == k2 && i == i2 && j == j2 && be) := by rw [sameT, hbe]
  show Calls Try.prog 41 #[.agg #[.int .i64 k, .int .i64 i, .int .i64 j, .slice o l.length c], .agg #[.int .i64 k2, .int .i64 i2, .int .i64 j2, .slice o2 l2.length c2]] w fun e w' => e = .returned (.bool (sameT (.mk k i j l) (.mk k2 i2 j2 l2))) ∧ Below w.heap.size w w'
  rw [hs]
  have HE' : Hid (∀ W, Below w.heap.size w W → Calls Try.prog 60 #[.slice o len c, .slice o2 len2 c2, .func (.func 41) #[] #[]] W fun e w' => e = .returned (.bool be) ∧ Below W.heap.size W w') := Lib.hid (fun W hW => by
    have := HE.out W hW
    rw [← hbe, ← hlen, ← hlen2]
    exact this)
  rw [hlen, hlen2]
  rw [hlen, hlen2] at hW2
  rw [hlen] at x3
  rw [hlen2] at y3
  have HBB := Lib.hid hb2
  rw [hX] at x0 x1 x2 x3 y0 y1 y2 y3 xz yz
  clear hT hT2 HE HC HT HC2 HT2 hc hl hlR ho hc2 hl2 hlR2 ho2 hx hy hlen hlen2 hbe hs hb2
  by_cases hk : k = k2
  case neg =>
    have hkd : (k == k2) = false := beq_eq_false_iff_ne.2 hk
    rw [hkd]
    clear hkd
    go_enter Try.func41, Try.ntmps41
    go_wp2_with fail
    go_ret
    exact ⟨rfl, HBB.out⟩
  case pos =>
  subst hk
  rw [beq_self_eq_true, Bool.true_and]
  by_cases hi : i = i2
  case neg =>
    have hkd : (i == i2) = false := beq_eq_false_iff_ne.2 hi
    rw [hkd]
    clear hkd
    go_enter Try.func41, Try.ntmps41
    go_wp2_with fail
    go_ret
    exact ⟨rfl, HBB.out⟩
  case pos =>
  subst hi
  rw [beq_self_eq_true, Bool.true_and]
  by_cases hj : j = j2
  case neg =>
    have hkd : (j == j2) = false := beq_eq_false_iff_ne.2 hj
    rw [hkd]
    clear hkd
    go_enter Try.func41, Try.ntmps41
    go_wp2_with fail
    go_ret
    exact ⟨rfl, HBB.out⟩
  case pos =>
  subst hj
  rw [beq_self_eq_true, Bool.true_and]
  go_enter Try.func41, Try.ntmps41
  go_wp2_with (go_at_call 60; (with_reducible refine (HE'.out _ HBB.out).mono ?_); rintro e w9 ⟨rfl, hb9⟩; have HB9 := Lib.hid (HBB.out.trans (hb9.mono HBB.out.size)); clear hb9)
  go_ret
  exact ⟨rfl, HB9.out⟩
mutual
theorem gsame_t : ∀ t : Tree, SameC 41 t
  | .mk k i j l => gsame_node k i j l (gsame_l l)
theorem gsame_l : ∀ (l : List Tree), ∀ t ∈ l, SameC 41 t
  | [], t, h => by cases h
  | u :: l, t, h => by
    rcases List.mem_cons.1 h with h | h
    · rw [h]; exact gsame_t u
    · exact gsame_l l t h
end
end Go.Proofs.Ytnnffcfdokejbaa.rd
namespace Go.Proofs.Ytnnffcfdokejbaa.rd
open Go.RowKit

set_option maxRecDepth 100000 in
set_option maxHeartbeats 4000000 in
/-- The program's Parts, of any tree. -/
theorem gparts_any (t : Tree) (w : World) (n : Rn) (h : Hid (TieB w t n)) : Calls Try.prog 38 #[n.v] w fun e w' => ∃ v R E, e = .returned v ∧ Below w.heap.size w w' ∧ Mine nd w' w.heap.size v R ∧ OTies w' E (partsL t.l) R ∧ ∀ h, E h → w.heap.size ≤ h ∧ h < w'.heap.size ∧ v.ownBlock ≠ some h := by
  obtain ⟨k, i, j, l⟩ := t
  obtain ⟨o, c, g, off, R, rfl, hc, hl, hlR, ho, HC, HT⟩ := TieB.out h
  obtain ⟨len, hlen⟩ : ∃ len, l.length = len := ⟨_, rfl⟩
  have HLN := Lib.hid (And.intro hlen hlR)
  have HO := Lib.hid ho
  show Calls Try.prog 38 #[.agg #[.int .i64 k, .int .i64 i, .int .i64 j, .slice o l.length c]] w _
  rw [hlen] at hl ⊢
  have HB1 : Hid (Below w.heap.size w (w.alloc (.cells #[.int .i64 k, .int .i64 i, .int .i64 j, .slice o len c] 24))) := Lib.hid ((Below.refl _ _).alloc (Nat.le_refl _) _)
  clear h hlen hlR ho hc
  go_enter Try.func38, Try.ntmps38
  go_wp2_with fail
  go_loopw [9, 3] (fun p a wr => ∃ (q : Nat) (v : Value) (R' : List Rn) (E : Nat → Prop), q ≤ len ∧ p = .int .i64 (q : Int) ∧ v = a ∧ Below w.heap.size w wr ∧ Mine nd wr w.heap.size v R' ∧ OTies wr E (partsL (l.take q)) R' ∧ ∀ h, E h → w.heap.size ≤ h ∧ h < wr.heap.size ∧ v.ownBlock ≠ some h) (fun p _ _ => len - (intOf p).toNat)
  case atStart => exact ⟨0, _, [], fun _ => False, Nat.zero_le _, rfl, rfl, HB1.out, Mine.nil _ _, OTies.nil, fun h hh => hh.elim⟩
  case round =>
    obtain ⟨q, vo, R', E, hql, rfl, rfl, hb, hm, hot, hd⟩ := hrel
    by_cases hlt : q < len
    · have hil : q < l.length := by rw [HLN.out.1]; exact hlt
      have hiR : q < R.length := by rw [HLN.out.2]; exact hil
      obtain ⟨ho, hg⟩ := HO.out (by intro e; rw [e] at hil; simp at hil)
      subst ho
      obtain ⟨a0, a1, a2, a3⟩ := cells_nd HC.out q hiR
      have hkk : R[q].k = l[q].k := by
        obtain ⟨D, h, _⟩ := (HT.out wr hb q hil hiR).out
        exact h.k
      have hsn := partsL_snoc hil
      have HFW := Lib.hid (partsL_few l q)
      have hlR' := hot.length
      have HCALL : Hid (∀ u, Below wr.heap.size wr u → Calls Try.prog 40 #[R[q].v, .int .i64 0] u fun e w' => ∃ n', e = .returned n'.v ∧ Below u.heap.size u w' ∧ Fresh wr.heap.size w' (shiftT 0 l[q]) n') := Lib.hid (fun u hu => (gshift_t l[q] u R[q] 0 (HT.out u (hb.trans (hu.mono hb.size)) q hil hiR)).mono fun e w' ⟨n', h1, h2, h3⟩ => ⟨n', h1, h2, h3.mono hu.size⟩)
      have HPUSH := Lib.hid (fun (w9 : World) (n : Rn) (h1 : Below wr.heap.size wr w9) (h2 : Fresh wr.heap.size w9 (shiftT 0 l[q]) n) => own_push (t := shiftT 0 l[q]) (w9 := w9) (n := n) hb (Nat.le_refl _) hm hot hd hb.size (by have := HFW.out; omega) h1 h2)
      obtain ⟨⟨nk, ni, nj, no, nn, nc⟩, hn1⟩ : ∃ n, R[q] = n := ⟨_, rfl⟩
      rw [hn1] at a0 a1 a2 a3 HCALL hkk
      simp only [] at hkk
      rw [show (Rn.mk nk ni nj no nn nc).v = .agg #[.int .i64 nk, .int .i64 ni, .int .i64 nj, .slice no nn nc] from rfl] at HCALL
      have c0 := (hb.cell (p := ⟨g, off + q * 4, none⟩) hg).trans a0
      have c1 := (hb.cell (p := ⟨g, off + q * 4 + 1, none⟩) hg).trans a1
      have c2 := (hb.cell (p := ⟨g, off + q * 4 + 2, none⟩) hg).trans a2
      have c3 := (hb.cell (p := ⟨g, off + q * 4 + 3, none⟩) hg).trans a3
      have hgw : g < wr.heap.size := Nat.lt_of_lt_of_le hg hb.size
      have hq0 : (0 : Int) ≤ (q : Int) := by omega
      have hww : (q : Int) + 1 ≤ 2932031007318 := by omega
      have hdd : decide ((q : Int) < (len : Int)) = true := decide_eq_true (by omega)
      have hdd' : decide (q < len) = true := decide_eq_true hlt
      have HZ : Hid (Below wr.heap.size wr (wr.alloc (.cells #[.int .i64 nk, .int .i64 ni, .int .i64 nj, .slice no nn nc] 24))) := Lib.hid ((Below.refl _ _).alloc (Nat.le_refl _) _)
      simp only [] at c0 c1 c2 c3
      by_cases hp : 200 ≤ nk
      · have dp : decide (200 ≤ nk) = true := decide_eq_true hp
        have hip : isPart l[q] = true := by unfold isPart; rw [← hkk]; exact dp
        rw [hip, if_pos rfl] at hsn
        have HSN := Lib.hid hsn
        clear a0 a1 a2 a3 hn1 hb hm hot hd hsn hip hkk hlR'
        go_wp2_with (first
          | (go_at_call 40; refine (HCALL.out _ HZ.out).mono ?_; rintro e w9 ⟨⟨mk, mi, mj, mo, mn, mc⟩, rfl, hb9, hf9⟩; obtain ⟨v', w', hrun, hB', _, hM', E', hO', hd'⟩ := HPUSH.out w9 ⟨mk, mi, mj, mo, mn, mc⟩ (HZ.out.trans (hb9.mono HZ.out.size)) hf9 _ ((Below.refl _ _).alloc (Nat.le_refl _) _) _ (heap_alloc_last w9 _); have HRUN := Lib.hid hrun; have HE := Lib.hid (And.intro hB' (And.intro hM' (And.intro hO' hd'))); clear hb9 hf9 hrun hB' hM' hO' hd'; dsimp only [Rn.v])
          | (at_builtin; refine Lib.wpList_append_run _ rfl _ _ _ _ rfl _ _ rfl rfl _ _ (HRUN.out _) ?_))
        go_roundw
        case rel => exact ⟨q + 1, _, _, _, by omega, by go_num, rfl, HE.out.1, HE.out.2.1, by rw [HSN.out]; exact HE.out.2.2.1, HE.out.2.2.2⟩
        case measure => simp [intOf]; omega
      · have dp : decide (200 ≤ nk) = false := decide_eq_false hp
        have hip : isPart l[q] = false := by unfold isPart; rw [← hkk]; exact dp
        rw [hip] at hsn
        simp only [Bool.false_eq_true, if_false, List.append_nil] at hsn
        have HE := Lib.hid (And.intro (hb.trans (HZ.out.mono hb.size)) (And.intro (hm.below HZ.out) (And.intro (OTies.keep (fun g hg => HZ.out.block g (hd g hg).2.1) (fun _ h => h) _ _ hot) (fun h hh => And.intro (hd h hh).1 (And.intro (Nat.lt_of_lt_of_le (hd h hh).2.1 HZ.out.size) (hd h hh).2.2)))))
        rw [← hsn] at HE
        clear a0 a1 a2 a3 hn1 hb hm hot hd hsn hip hkk hlR'
        go_wp2_with fail
        go_roundw
        case rel => exact ⟨q + 1, _, _, _, by omega, by go_num, rfl, HE.out.1, HE.out.2.1, HE.out.2.2.1, HE.out.2.2.2⟩
        case measure => simp [intOf]; omega
    · obtain rfl : q = len := by omega
      have hdd : decide ((q : Int) < (q : Int)) = false := decide_eq_false (by omega)
      rw [List.take_of_length_le (by rw [HLN.out.1]; exact Nat.le_refl _)] at hot
      have HE := Lib.hid (And.intro hb (And.intro hm (And.intro hot hd)))
      clear hb hm hot hd
      go_wp2_with fail
      go_ret
      exact ⟨_, _, _, rfl, HE.out.1, HE.out.2.1, HE.out.2.2.1, HE.out.2.2.2⟩
end Go.Proofs.Ytnnffcfdokejbaa.rd
namespace Go.Proofs.Ytnnffcfdokejbaa.rd
open Go.RowKit

set_option maxRecDepth 100000 in
set_option maxHeartbeats 4000000 in
theorem tells_law (HSH : ShownC) (HPA : PartsC 38) (HSI : ∀ t, ShiftC 40 t) (HSA : ∀ t, SameC 41 t) (t t2 : Tree) (w : World) (n n2 : Rn) (d : Int) (ht : Hid (TieB w t n)) (ht2 : Hid (TieB w t2 n2)) (hin : InR t) :
    Calls Try.prog 9 #[n.v, n2.v, .int .i64 d] w fun e w' => e = .returned (.bool true) ∧ Below w.heap.size w w' := by
  obtain ⟨nk, ni, nj, no, nn, nc⟩ := n
  obtain ⟨pk, pi, pj, po, pn, pc⟩ := n2
  have HSN := Lib.hid HSH
  have HASK := Lib.hid (fun (u : World) (X X2 Y : Nat) (m : Rn) (h : Tl w u X X2 Y ⟨nk, ni, nj, no, nn, nc⟩ ⟨pk, pi, pj, po, pn, pc⟩ m t t2) => h.asks HPA HSI HSA d)
  have hcp : ∀ u, Below w.heap.size w u → Calls Try.prog 11 #[.agg #[.int .i64 nk, .int .i64 ni, .int .i64 nj, .slice no nn nc]] u fun e w' => ∃ n', e = .returned n'.v ∧ Below u.heap.size u w' ∧ Fresh u.heap.size w' t n' := fun u hu => by
    have h := copy_any t u ⟨nk, ni, nj, no, nn, nc⟩ (TieB.below ht hu)
    rw [shiftT_zero t hin] at h
    exact h
  have HCP := Lib.hid hcp
  obtain ⟨W1, hW1, hx1, hy1, hbx⟩ := two_node_boxes w nk ni nj pk pi pj no po nn nc pn pc
  obtain ⟨X, hX⟩ : ∃ X, w.heap.size = X := ⟨_, rfl⟩
  obtain ⟨X2, hX2⟩ : ∃ X2, w.heap.size + 1 = X2 := ⟨_, rfl⟩
  rw [hX2] at hy1
  have HT := Lib.hid (And.intro ht ht2)
  have HB := Lib.hid (And.intro hW1 (And.intro hbx (And.intro (show Box W1 w.heap.size ⟨nk, ni, nj, no, nn, nc⟩ from hx1) (And.intro (show Box W1 X2 ⟨pk, pi, pj, po, pn, pc⟩ from hy1) (And.intro hX hX2)))))
  clear ht ht2 hin hcp hW1 hx1 hy1 hbx hX hX2 HSH HPA HSI HSA
  show Calls Try.prog 9 #[.agg #[.int .i64 nk, .int .i64 ni, .int .i64 nj, .slice no nn nc], .agg #[.int .i64 pk, .int .i64 pi, .int .i64 pj, .slice po pn pc], .int .i64 d] w _
  go_enter Try.func9, Try.ntmps9
  go_wp2_with (first
    | (go_at_call 10; rw [HB.out.1]; refine (HSN.out _).mono ?_; rintro e w1 ⟨rfl, hb1⟩; obtain ⟨⟨x0, x1, x2, x3⟩, xz⟩ := (HB.out.2.2.1.below hb1).cells; have HB1 := Lib.hid hb1; clear hb1)
    | (go_at_call 11; refine (HCP.out _ (HB.out.2.1.trans (HB1.out.mono HB.out.2.1.size))).mono ?_; rintro e w2 ⟨⟨mk, mi, mj, mo, mn, mc⟩, rfl, hb2, hf2⟩; have HF := Lib.hid (And.intro hb2 hf2); clear hb2 hf2; dsimp only [Rn.v]))
  have hw2 : Below w.heap.size w w2 := HB.out.2.1.trans ((HB1.out.trans (HF.out.1.mono HB1.out.size)).mono HB.out.2.1.size)
  have hb3 : Below w2.heap.size w2 (w2.alloc (.cells #[.int .i64 mk, .int .i64 mi, .int .i64 mj, .slice mo mn mc] 24)) := (Below.refl _ _).alloc (Nat.le_refl _) _
  have hy3 : Box (w2.alloc (.cells #[.int .i64 mk, .int .i64 mi, .int .i64 mj, .slice mo mn mc] 24)) w2.heap.size ⟨mk, mi, mj, mo, mn, mc⟩ := heap_alloc_last w2 _
  have hx3 := (HB.out.2.2.1.below (HB1.out.trans (HF.out.1.mono HB1.out.size))).below hb3
  have hz3 := (HB.out.2.2.2.1.below (HB1.out.trans (HF.out.1.mono HB1.out.size))).below hb3
  obtain ⟨W3, hW3⟩ : ∃ W3, w2.alloc (.cells #[.int .i64 mk, .int .i64 mi, .int .i64 mj, .slice mo mn mc] 24) = W3 := ⟨_, rfl⟩
  obtain ⟨Y, hY⟩ : ∃ Y, w2.heap.size = Y := ⟨_, rfl⟩
  have hfm := (HF.out.2.below hb3).tieB
  rw [hW3] at hb3 hy3 hx3 hz3 hfm
  have hw3 := hw2.trans (hb3.mono hw2.size)
  rw [hY] at hy3
  rw [HB.out.2.2.2.2.1] at hx3
  have HTL : Hid (Tl w W3 X X2 Y ⟨nk, ni, nj, no, nn, nc⟩ ⟨pk, pi, pj, po, pn, pc⟩ ⟨mk, mi, mj, mo, mn, mc⟩ t t2) := Lib.hid ⟨hw3, hx3, hz3, hy3, TieB.below HT.out.1 hw3, TieB.below HT.out.2 hw3, hfm⟩
  have HXX := Lib.hid HB.out.2.2.2.2
  rw [hW3, hY, HXX.out.2, HXX.out.1]
  clear hw2 hb3 hy3 hx3 hz3 hW3 hfm hw3 hY x0 x1 x2 x3 xz HF HB1 HB HT HCP HSN
  obtain ⟨Z3, hZ3⟩ : ∃ Z3, W3.heap.size = Z3 := ⟨_, rfl⟩
  have HZ3 := Lib.hid hZ3
  clear hZ3
  have HAT := Lib.hid (fun (u : World) (hu : Below W3.heap.size W3 u) => And.intro (HASK.out u X X2 Y ⟨mk, mi, mj, mo, mn, mc⟩ (HTL.out.below hu)) (And.intro (HTL.out.below hu).a.cells (And.intro (HTL.out.below hu).b.cells (HTL.out.below hu).o.cells)))
  go_cut [8, 9] (fun v u wx => (PR Z3 wx v (partsL t.l) ∧ PR Z3 wx u (partsL t.l)) ∧ Below W3.heap.size W3 wx)
  case first =>
    obtain ⟨_, ⟨⟨q0, q1, q2, q3⟩, qz⟩, _, ⟨⟨r0, r1, r2, r3⟩, rz⟩⟩ := HAT.out W3 (Below.refl _ _)
    obtain ⟨_, ⟨⟨s0, s1, s2, s3⟩, sz⟩, _, ⟨⟨t0, t1, t2, t3⟩, tz⟩⟩ := HAT.out W3.drew (Below.refl _ _).drew
    go_region_law (first
      | (go_simp; go_at_call 38; refine ((HAT.out _ ?_).1.pp).mono ?_; (first | exact (Below.refl _ _).drew | exact Below.refl _ _); rintro e w9 ⟨v9, rfl, hb9, hp9⟩; have HC : Hid (Below W3.heap.size W3 w9 ∧ PR Z3 w9 v9 (partsL t.l)) := Lib.hid (by rw [← HZ3.out]; first | exact ⟨(Below.refl _ _).drew.trans hb9, hp9⟩ | exact ⟨hb9, hp9⟩); obtain ⟨_, ⟨⟨_, _, _, _⟩, _⟩, _, ⟨⟨_, _, _, _⟩, _⟩⟩ := HAT.out _ HC.out.1; clear hb9 hp9; dsimp only)
      | (go_simp; go_at_call 39; refine ((HAT.out _ HC.out.1).1.pr).mono ?_; rintro e w8 ⟨v8, rfl, hb8, hp8⟩; have HD : Hid ((PR Z3 w8 v9 (partsL t.l) ∧ PR Z3 w8 v8 (partsL t.l)) ∧ Below W3.heap.size W3 w8) := Lib.hid ⟨⟨HC.out.2.below hb8, hp8.mono (by rw [← HZ3.out]; exact HC.out.1.size)⟩, HC.out.1.trans (hb8.mono HC.out.1.size)⟩; clear hb8 hp8; dsimp only))
    all_goals (go_simp; (try go_wp2_with fail); go_meet)
    all_goals exact HD.out
  case rest =>
  obtain ⟨wA, hwA⟩ : ∃ wA, wA = wc := ⟨_, rfl⟩
  subst hwA
  obtain ⟨⟨hp, hq⟩, hbc⟩ := hcut
  obtain ⟨po1, pc1, rfl⟩ := hp.shape
  obtain ⟨qo1, qc1, rfl⟩ := hq.shape
  obtain ⟨K, hK⟩ : ∃ K, (partsL t.l).length = K := ⟨_, rfl⟩
  rw [hK] at hp hq ⊢
  have HK := Lib.hid hK
  have HP := Lib.hid (And.intro (And.intro hp hq) hbc)
  obtain ⟨_, ⟨⟨q0, q1, q2, q3⟩, qz⟩, _, ⟨⟨r0, r1, r2, r3⟩, rz⟩⟩ := HAT.out wA hbc
  clear hp hq hbc hK
  go_wp2_with (go_at_call 40; refine ((HAT.out _ HP.out.2).1.sp).mono ?_; rintro e w4 ⟨⟨sk, si, sj, so, sn, sc⟩, rfl, hb4, hf4⟩; have HS := Lib.hid (And.intro hb4 hf4); clear hb4 hf4; dsimp only [Rn.v])
  have hwc4 : Below wA.heap.size wA w4 := HS.out.1
  have hZA := hwc4.size
  have hb5 : Below w4.heap.size w4 (w4.alloc (.cells #[.int .i64 sk, .int .i64 si, .int .i64 sj, .slice so sn sc] 24)) := (Below.refl _ _).alloc (Nat.le_refl _) _
  have hs5 : Box (w4.alloc (.cells #[.int .i64 sk, .int .i64 si, .int .i64 sj, .slice so sn sc] 24)) w4.heap.size ⟨sk, si, sj, so, sn, sc⟩ := heap_alloc_last w4 _
  have hf5 := HS.out.2.below hb5
  obtain ⟨W4, hW4⟩ : ∃ W4, w4.alloc (.cells #[.int .i64 sk, .int .i64 si, .int .i64 sj, .slice so sn sc] 24) = W4 := ⟨_, rfl⟩
  obtain ⟨Z, hZ⟩ : ∃ Z, w4.heap.size = Z := ⟨_, rfl⟩
  rw [hW4] at hb5 hs5 hf5
  have hwc5 := hwc4.trans (hb5.mono hwc4.size)
  have h35 := HP.out.2.trans (hwc5.mono HP.out.2.size)
  rw [hZ] at hs5 hZA
  rw [hW4, hZ]
  have hall : ∀ u, Below W4.heap.size W4 u → Below W4.heap.size W4 u ∧ u.cell? ⟨X, 0, none⟩ = some (.int .i64 nk) ∧ u.cell? ⟨X, 1, none⟩ = some (.int .i64 ni) ∧ u.cell? ⟨X, 2, none⟩ = some (.int .i64 nj) ∧ u.cell? ⟨X, 3, none⟩ = some (.slice no nn nc) ∧ u.cell? ⟨X2, 0, none⟩ = some (.int .i64 pk) ∧ u.cell? ⟨X2, 1, none⟩ = some (.int .i64 pi) ∧ u.cell? ⟨X2, 2, none⟩ = some (.int .i64 pj) ∧ u.cell? ⟨X2, 3, none⟩ = some (.slice po pn pc) ∧ u.cell? ⟨Y, 0, none⟩ = some (.int .i64 mk) ∧ u.cell? ⟨Y, 1, none⟩ = some (.int .i64 mi) ∧ u.cell? ⟨Y, 2, none⟩ = some (.int .i64 mj) ∧ u.cell? ⟨Y, 3, none⟩ = some (.slice mo mn mc) ∧ u.cell? ⟨Z, 0, none⟩ = some (.int .i64 sk) ∧ u.cell? ⟨Z, 1, none⟩ = some (.int .i64 si) ∧ u.cell? ⟨Z, 2, none⟩ = some (.int .i64 sj) ∧ u.cell? ⟨Z, 3, none⟩ = some (.slice so sn sc) := fun u hu => by
    have h := HTL.out.below (h35.trans (hu.mono h35.size))
    exact ⟨hu, h.a.cells.1.1, h.a.cells.1.2.1, h.a.cells.1.2.2.1, h.a.cells.1.2.2.2, h.b.cells.1.1, h.b.cells.1.2.1, h.b.cells.1.2.2.1, h.b.cells.1.2.2.2, h.o.cells.1.1, h.o.cells.1.2.1, h.o.cells.1.2.2.1, h.o.cells.1.2.2.2, (hs5.below hu).cells.1.1, (hs5.below hu).cells.1.2.1, (hs5.below hu).cells.1.2.2.1, (hs5.below hu).cells.1.2.2.2⟩
  have hask : ∀ u, Below W4.heap.size W4 u → Asks u ⟨nk, ni, nj, no, nn, nc⟩ ⟨pk, pi, pj, po, pn, pc⟩ ⟨mk, mi, mj, mo, mn, mc⟩ t t2 d := fun u hu => (HAT.out u (h35.trans (hu.mono h35.size))).1
  obtain ⟨bb, hbb⟩ : ∃ bb, sameT t t2 = bb := ⟨_, rfl⟩
  have HSR : Hid (∀ u, (Below W4.heap.size W4 u ∧ u.cell? ⟨X, 0, none⟩ = some (.int .i64 nk) ∧ u.cell? ⟨X, 1, none⟩ = some (.int .i64 ni) ∧ u.cell? ⟨X, 2, none⟩ = some (.int .i64 nj) ∧ u.cell? ⟨X, 3, none⟩ = some (.slice no nn nc) ∧ u.cell? ⟨X2, 0, none⟩ = some (.int .i64 pk) ∧ u.cell? ⟨X2, 1, none⟩ = some (.int .i64 pi) ∧ u.cell? ⟨X2, 2, none⟩ = some (.int .i64 pj) ∧ u.cell? ⟨X2, 3, none⟩ = some (.slice po pn pc) ∧ u.cell? ⟨Y, 0, none⟩ = some (.int .i64 mk) ∧ u.cell? ⟨Y, 1, none⟩ = some (.int .i64 mi) ∧ u.cell? ⟨Y, 2, none⟩ = some (.int .i64 mj) ∧ u.cell? ⟨Y, 3, none⟩ = some (.slice mo mn mc) ∧ u.cell? ⟨Z, 0, none⟩ = some (.int .i64 sk) ∧ u.cell? ⟨Z, 1, none⟩ = some (.int .i64 si) ∧ u.cell? ⟨Z, 2, none⟩ = some (.int .i64 sj) ∧ u.cell? ⟨Z, 3, none⟩ = some (.slice so sn sc)) → Calls Try.prog 31 #[.agg #[.int .i64 nk, .int .i64 ni, .int .i64 nj, .slice no nn nc], .int .i64 d] u fun e w' => ∃ n', e = .returned n'.v ∧ (Below W4.heap.size W4 w' ∧ w'.cell? ⟨X, 0, none⟩ = some (.int .i64 nk) ∧ w'.cell? ⟨X, 1, none⟩ = some (.int .i64 ni) ∧ w'.cell? ⟨X, 2, none⟩ = some (.int .i64 nj) ∧ w'.cell? ⟨X, 3, none⟩ = some (.slice no nn nc) ∧ w'.cell? ⟨X2, 0, none⟩ = some (.int .i64 pk) ∧ w'.cell? ⟨X2, 1, none⟩ = some (.int .i64 pi) ∧ w'.cell? ⟨X2, 2, none⟩ = some (.int .i64 pj) ∧ w'.cell? ⟨X2, 3, none⟩ = some (.slice po pn pc) ∧ w'.cell? ⟨Y, 0, none⟩ = some (.int .i64 mk) ∧ w'.cell? ⟨Y, 1, none⟩ = some (.int .i64 mi) ∧ w'.cell? ⟨Y, 2, none⟩ = some (.int .i64 mj) ∧ w'.cell? ⟨Y, 3, none⟩ = some (.slice mo mn mc) ∧ w'.cell? ⟨Z, 0, none⟩ = some (.int .i64 sk) ∧ w'.cell? ⟨Z, 1, none⟩ = some (.int .i64 si) ∧ w'.cell? ⟨Z, 2, none⟩ = some (.int .i64 sj) ∧ w'.cell? ⟨Z, 3, none⟩ = some (.slice so sn sc)) ∧ Hid (TieB w' (shiftT d t) n')) := Lib.hid (fun u hu => (hask u hu.1).sr.mono fun e w' ⟨n', h1, h2, h3⟩ => ⟨n', h1, hall w' (hu.1.trans (h2.mono hu.1.size)), h3.tieB⟩)
  have HSS : Hid (∀ u (zk zi zj : Int) (zo : Option Addr) (zn zc : Nat), (Below W4.heap.size W4 u ∧ u.cell? ⟨X, 0, none⟩ = some (.int .i64 nk) ∧ u.cell? ⟨X, 1, none⟩ = some (.int .i64 ni) ∧ u.cell? ⟨X, 2, none⟩ = some (.int .i64 nj) ∧ u.cell? ⟨X, 3, none⟩ = some (.slice no nn nc) ∧ u.cell? ⟨X2, 0, none⟩ = some (.int .i64 pk) ∧ u.cell? ⟨X2, 1, none⟩ = some (.int .i64 pi) ∧ u.cell? ⟨X2, 2, none⟩ = some (.int .i64 pj) ∧ u.cell? ⟨X2, 3, none⟩ = some (.slice po pn pc) ∧ u.cell? ⟨Y, 0, none⟩ = some (.int .i64 mk) ∧ u.cell? ⟨Y, 1, none⟩ = some (.int .i64 mi) ∧ u.cell? ⟨Y, 2, none⟩ = some (.int .i64 mj) ∧ u.cell? ⟨Y, 3, none⟩ = some (.slice mo mn mc) ∧ u.cell? ⟨Z, 0, none⟩ = some (.int .i64 sk) ∧ u.cell? ⟨Z, 1, none⟩ = some (.int .i64 si) ∧ u.cell? ⟨Z, 2, none⟩ = some (.int .i64 sj) ∧ u.cell? ⟨Z, 3, none⟩ = some (.slice so sn sc)) → Hid (TieB u (shiftT d t) ⟨zk, zi, zj, zo, zn, zc⟩) → Calls Try.prog 14 #[.agg #[.int .i64 sk, .int .i64 si, .int .i64 sj, .slice so sn sc], .agg #[.int .i64 zk, .int .i64 zi, .int .i64 zj, .slice zo zn zc]] u fun e w' => e = .returned (.bool true) ∧ (Below W4.heap.size W4 w' ∧ w'.cell? ⟨X, 0, none⟩ = some (.int .i64 nk) ∧ w'.cell? ⟨X, 1, none⟩ = some (.int .i64 ni) ∧ w'.cell? ⟨X, 2, none⟩ = some (.int .i64 nj) ∧ w'.cell? ⟨X, 3, none⟩ = some (.slice no nn nc) ∧ w'.cell? ⟨X2, 0, none⟩ = some (.int .i64 pk) ∧ w'.cell? ⟨X2, 1, none⟩ = some (.int .i64 pi) ∧ w'.cell? ⟨X2, 2, none⟩ = some (.int .i64 pj) ∧ w'.cell? ⟨X2, 3, none⟩ = some (.slice po pn pc) ∧ w'.cell? ⟨Y, 0, none⟩ = some (.int .i64 mk) ∧ w'.cell? ⟨Y, 1, none⟩ = some (.int .i64 mi) ∧ w'.cell? ⟨Y, 2, none⟩ = some (.int .i64 mj) ∧ w'.cell? ⟨Y, 3, none⟩ = some (.slice mo mn mc) ∧ w'.cell? ⟨Z, 0, none⟩ = some (.int .i64 sk) ∧ w'.cell? ⟨Z, 1, none⟩ = some (.int .i64 si) ∧ w'.cell? ⟨Z, 2, none⟩ = some (.int .i64 sj) ∧ w'.cell? ⟨Z, 3, none⟩ = some (.slice so sn sc))) := Lib.hid (fun u zk zi zj zo zn zc hu hz => by
    have h := same_t (shiftT d t) (shiftT d t) u ⟨sk, si, sj, so, sn, sc⟩ ⟨zk, zi, zj, zo, zn, zc⟩ (TieB.below hf5.tieB hu.1) hz
    rw [sameT_refl] at h
    exact h.mono fun e w' ⟨h1, h2⟩ => ⟨h1, hall w' (hu.1.trans (h2.mono hu.1.size))⟩)
  have HGB : Hid (∀ u, (Below W4.heap.size W4 u ∧ u.cell? ⟨X, 0, none⟩ = some (.int .i64 nk) ∧ u.cell? ⟨X, 1, none⟩ = some (.int .i64 ni) ∧ u.cell? ⟨X, 2, none⟩ = some (.int .i64 nj) ∧ u.cell? ⟨X, 3, none⟩ = some (.slice no nn nc) ∧ u.cell? ⟨X2, 0, none⟩ = some (.int .i64 pk) ∧ u.cell? ⟨X2, 1, none⟩ = some (.int .i64 pi) ∧ u.cell? ⟨X2, 2, none⟩ = some (.int .i64 pj) ∧ u.cell? ⟨X2, 3, none⟩ = some (.slice po pn pc) ∧ u.cell? ⟨Y, 0, none⟩ = some (.int .i64 mk) ∧ u.cell? ⟨Y, 1, none⟩ = some (.int .i64 mi) ∧ u.cell? ⟨Y, 2, none⟩ = some (.int .i64 mj) ∧ u.cell? ⟨Y, 3, none⟩ = some (.slice mo mn mc) ∧ u.cell? ⟨Z, 0, none⟩ = some (.int .i64 sk) ∧ u.cell? ⟨Z, 1, none⟩ = some (.int .i64 si) ∧ u.cell? ⟨Z, 2, none⟩ = some (.int .i64 sj) ∧ u.cell? ⟨Z, 3, none⟩ = some (.slice so sn sc)) → Calls Try.prog 41 #[.agg #[.int .i64 mk, .int .i64 mi, .int .i64 mj, .slice mo mn mc], .agg #[.int .i64 pk, .int .i64 pi, .int .i64 pj, .slice po pn pc]] u fun e w' => e = .returned (.bool bb) ∧ (Below W4.heap.size W4 w' ∧ w'.cell? ⟨X, 0, none⟩ = some (.int .i64 nk) ∧ w'.cell? ⟨X, 1, none⟩ = some (.int .i64 ni) ∧ w'.cell? ⟨X, 2, none⟩ = some (.int .i64 nj) ∧ w'.cell? ⟨X, 3, none⟩ = some (.slice no nn nc) ∧ w'.cell? ⟨X2, 0, none⟩ = some (.int .i64 pk) ∧ w'.cell? ⟨X2, 1, none⟩ = some (.int .i64 pi) ∧ w'.cell? ⟨X2, 2, none⟩ = some (.int .i64 pj) ∧ w'.cell? ⟨X2, 3, none⟩ = some (.slice po pn pc) ∧ w'.cell? ⟨Y, 0, none⟩ = some (.int .i64 mk) ∧ w'.cell? ⟨Y, 1, none⟩ = some (.int .i64 mi) ∧ w'.cell? ⟨Y, 2, none⟩ = some (.int .i64 mj) ∧ w'.cell? ⟨Y, 3, none⟩ = some (.slice mo mn mc) ∧ w'.cell? ⟨Z, 0, none⟩ = some (.int .i64 sk) ∧ w'.cell? ⟨Z, 1, none⟩ = some (.int .i64 si) ∧ w'.cell? ⟨Z, 2, none⟩ = some (.int .i64 sj) ∧ w'.cell? ⟨Z, 3, none⟩ = some (.slice so sn sc))) := Lib.hid (fun u hu => (hask u hu.1).gb.mono fun e w' ⟨h1, h2⟩ => ⟨by rw [← hbb]; exact h1, hall w' (hu.1.trans (h2.mono hu.1.size))⟩)
  have HRB : Hid (∀ u, (Below W4.heap.size W4 u ∧ u.cell? ⟨X, 0, none⟩ = some (.int .i64 nk) ∧ u.cell? ⟨X, 1, none⟩ = some (.int .i64 ni) ∧ u.cell? ⟨X, 2, none⟩ = some (.int .i64 nj) ∧ u.cell? ⟨X, 3, none⟩ = some (.slice no nn nc) ∧ u.cell? ⟨X2, 0, none⟩ = some (.int .i64 pk) ∧ u.cell? ⟨X2, 1, none⟩ = some (.int .i64 pi) ∧ u.cell? ⟨X2, 2, none⟩ = some (.int .i64 pj) ∧ u.cell? ⟨X2, 3, none⟩ = some (.slice po pn pc) ∧ u.cell? ⟨Y, 0, none⟩ = some (.int .i64 mk) ∧ u.cell? ⟨Y, 1, none⟩ = some (.int .i64 mi) ∧ u.cell? ⟨Y, 2, none⟩ = some (.int .i64 mj) ∧ u.cell? ⟨Y, 3, none⟩ = some (.slice mo mn mc) ∧ u.cell? ⟨Z, 0, none⟩ = some (.int .i64 sk) ∧ u.cell? ⟨Z, 1, none⟩ = some (.int .i64 si) ∧ u.cell? ⟨Z, 2, none⟩ = some (.int .i64 sj) ∧ u.cell? ⟨Z, 3, none⟩ = some (.slice so sn sc)) → Calls Try.prog 14 #[.agg #[.int .i64 nk, .int .i64 ni, .int .i64 nj, .slice no nn nc], .agg #[.int .i64 pk, .int .i64 pi, .int .i64 pj, .slice po pn pc]] u fun e w' => e = .returned (.bool bb) ∧ (Below W4.heap.size W4 w' ∧ w'.cell? ⟨X, 0, none⟩ = some (.int .i64 nk) ∧ w'.cell? ⟨X, 1, none⟩ = some (.int .i64 ni) ∧ w'.cell? ⟨X, 2, none⟩ = some (.int .i64 nj) ∧ w'.cell? ⟨X, 3, none⟩ = some (.slice no nn nc) ∧ w'.cell? ⟨X2, 0, none⟩ = some (.int .i64 pk) ∧ w'.cell? ⟨X2, 1, none⟩ = some (.int .i64 pi) ∧ w'.cell? ⟨X2, 2, none⟩ = some (.int .i64 pj) ∧ w'.cell? ⟨X2, 3, none⟩ = some (.slice po pn pc) ∧ w'.cell? ⟨Y, 0, none⟩ = some (.int .i64 mk) ∧ w'.cell? ⟨Y, 1, none⟩ = some (.int .i64 mi) ∧ w'.cell? ⟨Y, 2, none⟩ = some (.int .i64 mj) ∧ w'.cell? ⟨Y, 3, none⟩ = some (.slice mo mn mc) ∧ w'.cell? ⟨Z, 0, none⟩ = some (.int .i64 sk) ∧ w'.cell? ⟨Z, 1, none⟩ = some (.int .i64 si) ∧ w'.cell? ⟨Z, 2, none⟩ = some (.int .i64 sj) ∧ w'.cell? ⟨Z, 3, none⟩ = some (.slice so sn sc))) := Lib.hid (fun u hu => (hask u hu.1).rb.mono fun e w' ⟨h1, h2⟩ => ⟨by rw [← hbb]; exact h1, hall w' (hu.1.trans (h2.mono hu.1.size))⟩)
  have HGA : Hid (∀ u, (Below W4.heap.size W4 u ∧ u.cell? ⟨X, 0, none⟩ = some (.int .i64 nk) ∧ u.cell? ⟨X, 1, none⟩ = some (.int .i64 ni) ∧ u.cell? ⟨X, 2, none⟩ = some (.int .i64 nj) ∧ u.cell? ⟨X, 3, none⟩ = some (.slice no nn nc) ∧ u.cell? ⟨X2, 0, none⟩ = some (.int .i64 pk) ∧ u.cell? ⟨X2, 1, none⟩ = some (.int .i64 pi) ∧ u.cell? ⟨X2, 2, none⟩ = some (.int .i64 pj) ∧ u.cell? ⟨X2, 3, none⟩ = some (.slice po pn pc) ∧ u.cell? ⟨Y, 0, none⟩ = some (.int .i64 mk) ∧ u.cell? ⟨Y, 1, none⟩ = some (.int .i64 mi) ∧ u.cell? ⟨Y, 2, none⟩ = some (.int .i64 mj) ∧ u.cell? ⟨Y, 3, none⟩ = some (.slice mo mn mc) ∧ u.cell? ⟨Z, 0, none⟩ = some (.int .i64 sk) ∧ u.cell? ⟨Z, 1, none⟩ = some (.int .i64 si) ∧ u.cell? ⟨Z, 2, none⟩ = some (.int .i64 sj) ∧ u.cell? ⟨Z, 3, none⟩ = some (.slice so sn sc)) → Calls Try.prog 41 #[.agg #[.int .i64 mk, .int .i64 mi, .int .i64 mj, .slice mo mn mc], .agg #[.int .i64 nk, .int .i64 ni, .int .i64 nj, .slice no nn nc]] u fun e w' => e = .returned (.bool true) ∧ (Below W4.heap.size W4 w' ∧ w'.cell? ⟨X, 0, none⟩ = some (.int .i64 nk) ∧ w'.cell? ⟨X, 1, none⟩ = some (.int .i64 ni) ∧ w'.cell? ⟨X, 2, none⟩ = some (.int .i64 nj) ∧ w'.cell? ⟨X, 3, none⟩ = some (.slice no nn nc) ∧ w'.cell? ⟨X2, 0, none⟩ = some (.int .i64 pk) ∧ w'.cell? ⟨X2, 1, none⟩ = some (.int .i64 pi) ∧ w'.cell? ⟨X2, 2, none⟩ = some (.int .i64 pj) ∧ w'.cell? ⟨X2, 3, none⟩ = some (.slice po pn pc) ∧ w'.cell? ⟨Y, 0, none⟩ = some (.int .i64 mk) ∧ w'.cell? ⟨Y, 1, none⟩ = some (.int .i64 mi) ∧ w'.cell? ⟨Y, 2, none⟩ = some (.int .i64 mj) ∧ w'.cell? ⟨Y, 3, none⟩ = some (.slice mo mn mc) ∧ w'.cell? ⟨Z, 0, none⟩ = some (.int .i64 sk) ∧ w'.cell? ⟨Z, 1, none⟩ = some (.int .i64 si) ∧ w'.cell? ⟨Z, 2, none⟩ = some (.int .i64 sj) ∧ w'.cell? ⟨Z, 3, none⟩ = some (.slice so sn sc))) := Lib.hid (fun u hu => (hask u hu.1).ga.mono fun e w' ⟨h1, h2⟩ => ⟨h1, hall w' (hu.1.trans (h2.mono hu.1.size))⟩)
  have HRA : Hid (∀ u, (Below W4.heap.size W4 u ∧ u.cell? ⟨X, 0, none⟩ = some (.int .i64 nk) ∧ u.cell? ⟨X, 1, none⟩ = some (.int .i64 ni) ∧ u.cell? ⟨X, 2, none⟩ = some (.int .i64 nj) ∧ u.cell? ⟨X, 3, none⟩ = some (.slice no nn nc) ∧ u.cell? ⟨X2, 0, none⟩ = some (.int .i64 pk) ∧ u.cell? ⟨X2, 1, none⟩ = some (.int .i64 pi) ∧ u.cell? ⟨X2, 2, none⟩ = some (.int .i64 pj) ∧ u.cell? ⟨X2, 3, none⟩ = some (.slice po pn pc) ∧ u.cell? ⟨Y, 0, none⟩ = some (.int .i64 mk) ∧ u.cell? ⟨Y, 1, none⟩ = some (.int .i64 mi) ∧ u.cell? ⟨Y, 2, none⟩ = some (.int .i64 mj) ∧ u.cell? ⟨Y, 3, none⟩ = some (.slice mo mn mc) ∧ u.cell? ⟨Z, 0, none⟩ = some (.int .i64 sk) ∧ u.cell? ⟨Z, 1, none⟩ = some (.int .i64 si) ∧ u.cell? ⟨Z, 2, none⟩ = some (.int .i64 sj) ∧ u.cell? ⟨Z, 3, none⟩ = some (.slice so sn sc)) → Calls Try.prog 14 #[.agg #[.int .i64 mk, .int .i64 mi, .int .i64 mj, .slice mo mn mc], .agg #[.int .i64 nk, .int .i64 ni, .int .i64 nj, .slice no nn nc]] u fun e w' => e = .returned (.bool true) ∧ (Below W4.heap.size W4 w' ∧ w'.cell? ⟨X, 0, none⟩ = some (.int .i64 nk) ∧ w'.cell? ⟨X, 1, none⟩ = some (.int .i64 ni) ∧ w'.cell? ⟨X, 2, none⟩ = some (.int .i64 nj) ∧ w'.cell? ⟨X, 3, none⟩ = some (.slice no nn nc) ∧ w'.cell? ⟨X2, 0, none⟩ = some (.int .i64 pk) ∧ w'.cell? ⟨X2, 1, none⟩ = some (.int .i64 pi) ∧ w'.cell? ⟨X2, 2, none⟩ = some (.int .i64 pj) ∧ w'.cell? ⟨X2, 3, none⟩ = some (.slice po pn pc) ∧ w'.cell? ⟨Y, 0, none⟩ = some (.int .i64 mk) ∧ w'.cell? ⟨Y, 1, none⟩ = some (.int .i64 mi) ∧ w'.cell? ⟨Y, 2, none⟩ = some (.int .i64 mj) ∧ w'.cell? ⟨Y, 3, none⟩ = some (.slice mo mn mc) ∧ w'.cell? ⟨Z, 0, none⟩ = some (.int .i64 sk) ∧ w'.cell? ⟨Z, 1, none⟩ = some (.int .i64 si) ∧ w'.cell? ⟨Z, 2, none⟩ = some (.int .i64 sj) ∧ w'.cell? ⟨Z, 3, none⟩ = some (.slice so sn sc))) := Lib.hid (fun u hu => (hask u hu.1).ra.mono fun e w' ⟨h1, h2⟩ => ⟨h1, hall w' (hu.1.trans (h2.mono hu.1.size))⟩)
  have hs0 := hall W4.drew (Below.refl _ _).drew
  have H45 := Lib.hid (And.intro hwc5 (And.intro h35 (And.intro hs5 (And.intro hf5 hZA))))
  have HALL := Lib.hid hall
  clear hZA hwc4 hb5 hs5 hf5 hW4 hZ hwc5 h35 hall hask hbb q0 q1 q2 q3 qz r0 r1 r2 r3 rz
  go_cut [11] (fun u wx => u = .bool true ∧ Below W4.heap.size W4 wx)
  case first =>
    go_region_held3 (fun W' => Below W4.heap.size W4 W' ∧ W'.cell? ⟨X, 0, none⟩ = some (.int .i64 nk) ∧ W'.cell? ⟨X, 1, none⟩ = some (.int .i64 ni) ∧ W'.cell? ⟨X, 2, none⟩ = some (.int .i64 nj) ∧ W'.cell? ⟨X, 3, none⟩ = some (.slice no nn nc) ∧ W'.cell? ⟨X2, 0, none⟩ = some (.int .i64 pk) ∧ W'.cell? ⟨X2, 1, none⟩ = some (.int .i64 pi) ∧ W'.cell? ⟨X2, 2, none⟩ = some (.int .i64 pj) ∧ W'.cell? ⟨X2, 3, none⟩ = some (.slice po pn pc) ∧ W'.cell? ⟨Y, 0, none⟩ = some (.int .i64 mk) ∧ W'.cell? ⟨Y, 1, none⟩ = some (.int .i64 mi) ∧ W'.cell? ⟨Y, 2, none⟩ = some (.int .i64 mj) ∧ W'.cell? ⟨Y, 3, none⟩ = some (.slice mo mn mc) ∧ W'.cell? ⟨Z, 0, none⟩ = some (.int .i64 sk) ∧ W'.cell? ⟨Z, 1, none⟩ = some (.int .i64 si) ∧ W'.cell? ⟨Z, 2, none⟩ = some (.int .i64 sj) ∧ W'.cell? ⟨Z, 3, none⟩ = some (.slice so sn sc))
      (first | exact hs0 | exact hs | assumption)
      (first
      | (go_at_call 31; (with_reducible refine (HSR.out _ (by first | exact hs0 | assumption)).mono ?_); rintro e w5 ⟨⟨zk, zi, zj, zo, zn, zc⟩, rfl, hs, hz⟩; have HZ5 := Lib.hid hz; clear hz; dsimp only [Rn.v])
      | (go_at_call 14; (with_reducible refine (HSS.out _ zk zi zj zo zn zc (by first | exact hs | assumption) HZ5.out).mono ?_); rintro e w6 ⟨rfl, hs⟩)
      | (go_at_call 41; (with_reducible refine (HGB.out _ (by first | exact hs | assumption)).mono ?_); rintro e w6 ⟨rfl, hs⟩)
      | (go_at_call 14; (with_reducible refine (HRB.out _ (by first | exact hs | assumption)).mono ?_); rintro e w6 ⟨rfl, hs⟩)
      | (go_at_call 41; (with_reducible refine (HGA.out _ (by first | exact hs | assumption)).mono ?_); rintro e w6 ⟨rfl, hs⟩)
      | (go_at_call 14; (with_reducible refine (HRA.out _ (by first | exact hs | assumption)).mono ?_); rintro e w6 ⟨rfl, hs⟩))
    all_goals (try go_wp2_with fail)
    all_goals go_meet
    all_goals exact ⟨by simp, hs.1⟩
  case rest =>
  obtain ⟨rfl, hbB⟩ := hcut
  obtain ⟨wB, hwB⟩ : ∃ wB, wB = wc := ⟨_, rfl⟩
  subst hwB
  have HBB := Lib.hid hbB
  clear hbB hs0 HSR HSS HGB HRB HGA HRA HALL
  have hAB : Below wA.heap.size wA wB := H45.out.1.trans (HBB.out.mono H45.out.1.size)
  have h3B : Below W3.heap.size W3 wB := H45.out.2.1.trans (HBB.out.mono H45.out.2.1.size)
  have HPB := Lib.hid (And.intro (HP.out.1.1.below hAB) (HP.out.1.2.below hAB))
  have hKl : K ≤ 2932031007317 := by
    obtain ⟨tk, ti, tj, tl⟩ := t
    have h := HTL.out.ta.out
    obtain ⟨D, h, _⟩ := h
    rw [Tie] at h
    obtain ⟨_, _, _, _, _, _, _, ⟨_, h5⟩, _⟩ := h
    have h6 := partsL_few tl tl.length
    rw [List.take_length] at h6
    have h7 := HK.out
    simp only [Tree.l] at h7
    omega
  have HAB := Lib.hid (And.intro hAB h3B)
  clear hAB h3B
  go_wp2_with fail
  go_loopw [11, 12] (fun o p wr => ∃ q : Nat, q ≤ K ∧ o = .bool true ∧ p = .int .i64 (q : Int) ∧ Below wB.heap.size wB wr) (fun _ p _ => K - (intOf p).toNat)
  case atStart => exact ⟨0, Nat.zero_le _, rfl, rfl, Below.refl _ _⟩
  case round =>
    obtain ⟨q, hql, rfl, rfl, hb⟩ := hrel
    by_cases hlt : q < K
    · obtain ⟨g, gk, gi, gj, go', gn, gc, rfl, hg, c0, c1, c2, c3, htg⟩ := (HPB.out.1.below hb).at HK.out q hlt
      obtain ⟨h, hk, hi, hj, ho, hn, hc, rfl, hh, d0, d1, d2, d3, hth⟩ := (HPB.out.2.below hb).at HK.out q hlt
      have hall : ∀ u, Below wr.heap.size wr u → Below wr.heap.size wr u ∧ u.cell? ⟨g, q * 4, none⟩ = some (.int .i64 gk) ∧ u.cell? ⟨g, q * 4 + 1, none⟩ = some (.int .i64 gi) ∧ u.cell? ⟨g, q * 4 + 2, none⟩ = some (.int .i64 gj) ∧ u.cell? ⟨g, q * 4 + 3, none⟩ = some (.slice go' gn gc) ∧ u.cell? ⟨h, q * 4, none⟩ = some (.int .i64 hk) ∧ u.cell? ⟨h, q * 4 + 1, none⟩ = some (.int .i64 hi) ∧ u.cell? ⟨h, q * 4 + 2, none⟩ = some (.int .i64 hj) ∧ u.cell? ⟨h, q * 4 + 3, none⟩ = some (.slice ho hn hc) := fun u hu => ⟨hu, (hu.cell (p := ⟨g, q * 4, none⟩) hg).trans c0, (hu.cell (p := ⟨g, q * 4 + 1, none⟩) hg).trans c1, (hu.cell (p := ⟨g, q * 4 + 2, none⟩) hg).trans c2, (hu.cell (p := ⟨g, q * 4 + 3, none⟩) hg).trans c3, (hu.cell (p := ⟨h, q * 4, none⟩) hh).trans d0, (hu.cell (p := ⟨h, q * 4 + 1, none⟩) hh).trans d1, (hu.cell (p := ⟨h, q * 4 + 2, none⟩) hh).trans d2, (hu.cell (p := ⟨h, q * 4 + 3, none⟩) hh).trans d3⟩
      have HSM : Hid (∀ u, (Below wr.heap.size wr u ∧ u.cell? ⟨g, q * 4, none⟩ = some (.int .i64 gk) ∧ u.cell? ⟨g, q * 4 + 1, none⟩ = some (.int .i64 gi) ∧ u.cell? ⟨g, q * 4 + 2, none⟩ = some (.int .i64 gj) ∧ u.cell? ⟨g, q * 4 + 3, none⟩ = some (.slice go' gn gc) ∧ u.cell? ⟨h, q * 4, none⟩ = some (.int .i64 hk) ∧ u.cell? ⟨h, q * 4 + 1, none⟩ = some (.int .i64 hi) ∧ u.cell? ⟨h, q * 4 + 2, none⟩ = some (.int .i64 hj) ∧ u.cell? ⟨h, q * 4 + 3, none⟩ = some (.slice ho hn hc)) → Calls Try.prog 14 #[.agg #[.int .i64 gk, .int .i64 gi, .int .i64 gj, .slice go' gn gc], .agg #[.int .i64 hk, .int .i64 hi, .int .i64 hj, .slice ho hn hc]] u fun e w' => e = .returned (.bool true) ∧ (Below wr.heap.size wr w' ∧ w'.cell? ⟨g, q * 4, none⟩ = some (.int .i64 gk) ∧ w'.cell? ⟨g, q * 4 + 1, none⟩ = some (.int .i64 gi) ∧ w'.cell? ⟨g, q * 4 + 2, none⟩ = some (.int .i64 gj) ∧ w'.cell? ⟨g, q * 4 + 3, none⟩ = some (.slice go' gn gc) ∧ w'.cell? ⟨h, q * 4, none⟩ = some (.int .i64 hk) ∧ w'.cell? ⟨h, q * 4 + 1, none⟩ = some (.int .i64 hi) ∧ w'.cell? ⟨h, q * 4 + 2, none⟩ = some (.int .i64 hj) ∧ w'.cell? ⟨h, q * 4 + 3, none⟩ = some (.slice ho hn hc))) := Lib.hid (fun u hu => by
        have h := same_t _ _ u ⟨gk, gi, gj, go', gn, gc⟩ ⟨hk, hi, hj, ho, hn, hc⟩ (TieB.below htg hu.1) (TieB.below hth hu.1)
        rw [sameT_refl] at h
        exact h.mono fun e w' ⟨h1, h2⟩ => ⟨h1, hall w' (hu.1.trans (h2.mono hu.1.size))⟩)
      have HB := Lib.hid hb
      have hs0 := hall wr.drew (Below.refl _ _).drew
      have hq0 : (0 : Int) ≤ (q : Int) := by omega
      have hww : (q : Int) + 1 ≤ 2932031007318 := by omega
      have hdd : decide ((q : Int) < (K : Int)) = true := decide_eq_true (by omega)
      have hdd' : decide (q < K) = true := decide_eq_true hlt
      clear hb htg hth hall
      go_wp2_with fail
      go_region_held3 (fun W' => Below wr.heap.size wr W' ∧ W'.cell? ⟨g, q * 4, none⟩ = some (.int .i64 gk) ∧ W'.cell? ⟨g, q * 4 + 1, none⟩ = some (.int .i64 gi) ∧ W'.cell? ⟨g, q * 4 + 2, none⟩ = some (.int .i64 gj) ∧ W'.cell? ⟨g, q * 4 + 3, none⟩ = some (.slice go' gn gc) ∧ W'.cell? ⟨h, q * 4, none⟩ = some (.int .i64 hk) ∧ W'.cell? ⟨h, q * 4 + 1, none⟩ = some (.int .i64 hi) ∧ W'.cell? ⟨h, q * 4 + 2, none⟩ = some (.int .i64 hj) ∧ W'.cell? ⟨h, q * 4 + 3, none⟩ = some (.slice ho hn hc))
        (first | exact hs0 | exact hs | assumption)
        (first
        | (go_at_call 14; (with_reducible refine (HSM.out _ (by first | exact hs0 | assumption)).mono ?_); rintro e w6 ⟨rfl, hs⟩))
      all_goals (try go_wp2_with fail)
      all_goals (
        go_roundw
        case rel => exact ⟨q + 1, by omega, rfl, by go_num, HB.out.trans (hs.1.mono HB.out.size)⟩
        case measure => simp [intOf]; omega)
    · obtain rfl : q = K := by omega
      have hdd : decide ((q : Int) < (q : Int)) = false := decide_eq_false (by omega)
      have HB := Lib.hid hb
      clear hb
      go_wp2_with fail
      obtain ⟨wC, hwC⟩ : ∃ wC, wC = wr := ⟨_, rfl⟩
      subst hwC
      obtain ⟨R, E, hm, hot, hE⟩ := HP.out.1.1
      have hRq : R.length = q := by rw [hot.length]; exact HK.out
      have hAC := HAB.out.1.trans (HB.out.mono HAB.out.1.size)
      have hAz := hAC.size
      have h3A := HP.out.2.size
      have hst : Mk2 Z3 wC wC E (.slice po1 q pc1) (partsL t.l) R 0 := ⟨Marked.of_below (Below.refl _ _), hm.below hAC, E, OTies.keep (fun g hg => hAC.block g (hE g hg).2.1) (fun _ h => h) _ _ hot, fun _ h => h⟩
      have HST := Lib.hid hst
      have HE : Hid ((∀ g, E g → g < wC.heap.size ∧ (Value.slice po1 q pc1).ownBlock ≠ some g) ∧ (∀ g, E g → Z3 ≤ g ∧ g < wA.heap.size) ∧ R.length = q) := Lib.hid ⟨fun g hg => ⟨Nat.lt_of_lt_of_le (hE g hg).2.1 hAz, (hE g hg).2.2⟩, fun g hg => ⟨(hE g hg).1, (hE g hg).2.1⟩, hRq⟩
      have HOW : Hid (∀ g, (Value.slice po1 q pc1).ownBlock = some g → g < wA.heap.size) := Lib.hid (fun g hg => hm.lt g hg)
      clear hst hm hot hE hRq hAC hAz h3A
      go_loopw [77] (fun p wr => ∃ j : Nat, j ≤ q ∧ p = .int .i64 (j : Int) ∧ Mk2 Z3 wC wr E (.slice po1 q pc1) (partsL t.l) R j) (fun p _ => q - (intOf p).toNat)
      case atStart => exact ⟨0, Nat.zero_le _, rfl, HST.out⟩
      case round =>
        obtain ⟨j, hjl, rfl, hs⟩ := hrel
        by_cases hlt : j < q
        · obtain ⟨g, gk, gi, gj, go', gn, gc, rfl, hg, c0, c1, c2, c3, hcall⟩ := hs.go HK.out HE.out.2.2 HE.out.1 hlt
          have HC := Lib.hid hcall
          have HZ : Hid (Below wr.heap.size wr (wr.alloc (.cells #[.int .i64 gk, .int .i64 gi, .int .i64 gj, .slice go' gn gc] 24))) := Lib.hid ((Below.refl _ _).alloc (Nat.le_refl _) _)
          have hq0 : (0 : Int) ≤ (j : Int) := by omega
          have hww : (j : Int) + 1 ≤ 2932031007318 := by omega
          have hd : decide ((j : Int) < (q : Int)) = true := decide_eq_true (by omega)
          have hd' : decide (j < q) = true := decide_eq_true hlt
          clear hs hcall
          go_wp2_with (go_at_call 23; (with_reducible refine (HC.out _ HZ.out).mono ?_); rintro e w9 ⟨⟨v, rfl⟩, hm9⟩; have HMK := Lib.hid hm9; clear hm9)
          go_roundw
          case rel => exact ⟨j + 1, by omega, by go_num, HMK.out⟩
          case measure => simp [intOf]; omega
        · obtain rfl : j = q := by omega
          have hd : decide ((j : Int) < (j : Int)) = false := decide_eq_false (by omega)
          -- what stands behind the marks
          have hzA := H45.out.2.2.2.2
          have hAC := HAB.out.1.trans (HB.out.mono HAB.out.1.size)
          have h3C := HAB.out.2.trans (HB.out.mono HAB.out.2.size)
          have h4C : Below W4.heap.size W4 wC := HBB.out.trans (HB.out.mono HBB.out.size)
          have h3A := HP.out.2.size
          have hZz := HZ3.out
          have hAz := hAC.size
          have h3r : Below W3.heap.size W3 wr := h3C.trans ((hs.m.low (B := W3.heap.size) (fun g hg => by have := (HE.out.2.1 g hg).1; omega) (by omega)))
          have hbx : Box wr Z ⟨sk, si, sj, so, sn, sc⟩ := by
            have h := H45.out.2.2.1.below h4C
            exact (hs.m.keep Z (Array.getElem?_eq_some_iff.1 h).1 (fun e => by have := (HE.out.2.1 Z e).2; omega)).trans h
          obtain ⟨Ds, hds, hdb⟩ := H45.out.2.2.2.1
          have hdr : OTie wr Ds (shiftT d t) ⟨sk, si, sj, so, sn, sc⟩ := OTie.keep (fun g hg => (hs.m.keep g (Nat.lt_of_lt_of_le (hdb g hg).2 h4C.size) (fun e => by have := (HE.out.2.1 g e).2; have := (hdb g hg).1; omega)).trans (h4C.block g (hdb g hg).2)) (fun _ h => h) _ _ hds
          have hrz : W4.heap.size ≤ wr.heap.size := Nat.le_trans h4C.size hs.m.size
          have hms : Calls Try.prog 23 #[.agg #[.int .i64 sk, .int .i64 si, .int .i64 sj, .slice so sn sc]] wr fun e w' => (∃ v, e = .returned v) ∧ Below W3.heap.size W3 w' ∧ Mine nd w' Z3 (.slice po1 j pc1) R :=
            (mark_t (shiftT d t) wr Ds ⟨sk, si, sj, so, sn, sc⟩ hdr (fun g hg => Nat.lt_of_lt_of_le (hdb g hg).2 hrz)).mono fun e w' ⟨h1, h2⟩ => ⟨h1, h3r.trans (h2.low (fun g hg => by have := (hdb g hg).1; omega) (by have := h3r.size; omega)), hs.row.keep (fun k hk hlt => h2.keep k hlt (fun e => by have := HOW.out k hk; have := (hdb k e).1; omega))⟩
          obtain ⟨⟨z0, z1, z2, z3⟩, zz⟩ := hbx.cells
          have HMS := Lib.hid hms
          have HPE := Lib.hid (fun (w6 : World) (h1 : Below W3.heap.size W3 w6) (h2 : Mine nd w6 Z3 (.slice po1 j pc1) R) => push_end HZ3.out h1 h2 HE.out.2.2 hKl ⟨-3, 0, 0, none, 0, 0⟩)
          clear hs hzA hAC h3C h4C h3A hZz hAz h3r hbx hds hdb hdr hrz hms
          go_wp2_with (first
            | (go_at_call 23; (with_reducible refine HMS.out.mono ?_); rintro e w6 ⟨⟨v, rfl⟩, h6, hm6⟩; have H6 := Lib.hid (And.intro h6 hm6); clear h6 hm6)
            | (at_builtin; obtain ⟨g', cap', w7, hrun, hb7⟩ := HPE.out w6 H6.out.1 H6.out.2 _ ((Below.refl _ _).alloc (Nat.le_refl _) _) _ (heap_alloc_last w6 _); have HB7 := Lib.hid hb7; obtain ⟨hask7, ⟨⟨b0, b1, b2, b3⟩, bz⟩, _, ⟨⟨e0, e1, e2, e3⟩, ez⟩⟩ := HAT.out w7 hb7; have HRA7 : Hid (Calls Try.prog 14 #[.agg #[.int .i64 mk, .int .i64 mi, .int .i64 mj, .slice mo mn mc], .agg #[.int .i64 nk, .int .i64 ni, .int .i64 nj, .slice no nn nc]] w7 fun e w' => e = .returned (.bool true) ∧ Below w7.heap.size w7 w') := Lib.hid hask7.ra; clear hb7 hask7; refine Lib.wpList_append_run _ rfl _ _ _ _ rfl _ _ rfl rfl _ _ (hrun _) ?_; clear hrun)
            | (go_at_call 14; (with_reducible refine HRA7.out.mono ?_); rintro e w8 ⟨rfl, hb8⟩; have HB8 := Lib.hid (HTL.out.bl.trans ((HB7.out.trans (hb8.mono HB7.out.size)).mono HTL.out.bl.size)); clear hb8))
          all_goals (try (first | go_ret | go_end0))
          all_goals (first | exact ⟨rfl, HB8.out⟩ | exact ⟨by simp; omega, HB8.out⟩)
end Go.Proofs.Ytnnffcfdokejbaa.rd
namespace Go.Proofs.Ytnnffcfdokejbaa.rd
open Go.RowKit

theorem string_light {H : Type} {s : ByteArray} (h : Light (H := H) 9 (.lit (.string s.data.toList))) : s.size ≤ 140737488351232 := by
  unfold Light at h
  have h2 : s.data.toList.length ≤ reachBytes := by simpa [DataW.weights] using h
  have e : s.data.toList.length = s.size := rfl
  rw [e] at h2
  exact h2
theorem gparts_c : PartsC 38 := fun t w n h => (gparts_any t w n h).mono fun _ _ ⟨v, R, E, h1, h2, h3, h4, h5⟩ => ⟨v, h1, h2, R, E, h3, h4, h5⟩
theorem tie_lt {w : World} {t : Tree} {n : Rn} (h : Tie w (· < w.heap.size) t n) : Hid (TieB w t n) := Lib.hid ⟨_, h, fun _ hk => hk⟩
end Go.Proofs.Ytnnffcfdokejbaa.rd
