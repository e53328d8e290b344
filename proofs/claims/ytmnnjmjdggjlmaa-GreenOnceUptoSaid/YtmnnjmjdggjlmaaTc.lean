/-
  Layer 8: the program's Same.
-/
import Derived.Test.YtmnnjmjdggjlmaaNc
namespace Go.Proofs.Ytmnnjmjdggjlmaa.rd
open Go.RowKit

set_option maxRecDepth 100000 in
set_option maxHeartbeats 4000000 in
theorem equal_kids (k i j : Int) (l : List Tree) (ih : ∀ t ∈ l, SameC 41 t) (u : Tree) (w : World) (n n2 : Rn) (hT : Hid (TieB w (.mk k i j l) n)) (hT2 : Hid (TieB w u n2)) :
    Calls Try.prog 60 #[.slice n.o n.n n.c, .slice n2.o n2.n n2.c, .func (.func 41) #[] #[]] w fun e w' => e = .returned (.bool (sameTs l u.l)) ∧ Below w.heap.size w w' := by
  obtain ⟨k2, i2, j2, l2⟩ := u
  obtain ⟨o, c, g, off, R, rfl, hc, hl, hlR, ho, HC, HT⟩ := TieB.out hT
  obtain ⟨o2, c2, g2, off2, R2, rfl, hc2, hl2, hlR2, ho2, HC2, HT2⟩ := TieB.out hT2
  have HIH := Lib.hid ih
  have HOO := Lib.hid (And.intro ho ho2)
  obtain ⟨len, hlen⟩ : ∃ len, l.length = len := ⟨_, rfl⟩
  obtain ⟨len2, hlen2⟩ : ∃ len, l2.length = len := ⟨_, rfl⟩
  have HLN := Lib.hid (And.intro (And.intro hlen hlen2) (And.intro hlR hlR2))
  rw [hlen] at hl
  rw [hlen2] at hl2
  show Calls Try.prog 60 #[.slice o l.length c, .slice o2 l2.length c2, .func (.func 41) #[] #[]] w fun e w' => e = .returned (.bool (sameTs l l2)) ∧ Below w.heap.size w w'
  rw [hlen, hlen2]
  clear hT hT2 hlen hlen2 ih ho ho2 hc hc2 hlR hlR2
  by_cases hle : len = len2
  case neg =>
    have hs : sameTs l l2 = false := sameTs_len l l2 (by rw [HLN.out.1.1, HLN.out.1.2]; exact hle)
    rw [hs]
    clear hs
    have hle' : (len : Int) ≠ (len2 : Int) := by omega
    go_enter Try.func60, Try.ntmps60
    go_wp2_with fail
    go_ret
    exact ⟨rfl, Below.refl _ _⟩
  case pos =>
  subst hle
  go_enter Try.func60, Try.ntmps60
  go_wp2_with fail
  go_loopw [17] (fun p wr => ∃ i : Nat, i ≤ len ∧ p = .int .i64 (i : Int) ∧ Below w.heap.size w wr ∧ sameTs (l.drop i) (l2.drop i) = sameTs l l2) (fun p _ => len - (intOf p).toNat)
  case atStart => exact ⟨0, Nat.zero_le _, rfl, Below.refl _ _, rfl⟩
  case round =>
    obtain ⟨q, hil, rfl, hb, hsd⟩ := hrel
    have HB := Lib.hid hb
    have HSD := Lib.hid hsd
    clear hsd
    by_cases hlt : q < len
    · have hil1 : q < l.length := by rw [HLN.out.1.1]; exact hlt
      have hil2 : q < l2.length := by rw [HLN.out.1.2]; exact hlt
      have hiR : q < R.length := by rw [HLN.out.2.1]; exact hil1
      have hiR2 : q < R2.length := by rw [HLN.out.2.2]; exact hil2
      obtain ⟨ho, hg0⟩ := HOO.out.1 (by intro e; rw [e] at hil1; simp at hil1)
      obtain ⟨ho2, hg2⟩ := HOO.out.2 (by intro e; rw [e] at hil2; simp at hil2)
      subst ho ho2
      obtain ⟨a0, a1, a2, a3⟩ := cells_nd HC.out q hiR
      obtain ⟨s0, s1, s2, s3⟩ := cells_nd HC2.out q hiR2
      have HS := Lib.hid (sameTs_drop hil1 hil2)
      have HCALL : Hid (∀ u, Below wr.heap.size wr u → Calls Try.prog 41 #[R[q].v, R2[q].v] u fun e w' => e = .returned (.bool (sameT l[q] l2[q])) ∧ Below u.heap.size u w') := Lib.hid (fun u hu => by
        have hbu := hb.trans (hu.mono hb.size)
        exact HIH.out l[q] (List.getElem_mem hil1) l2[q] u R[q] R2[q] (HT.out u hbu q hil1 hiR) (HT2.out u hbu q hil2 hiR2))
      obtain ⟨b, hbq⟩ : ∃ b, sameT l[q] l2[q] = b := ⟨_, rfl⟩
      rw [hbq] at HCALL HS
      obtain ⟨⟨nk, ni, nj, no, nn, nc⟩, hn1⟩ : ∃ n, R[q] = n := ⟨_, rfl⟩
      obtain ⟨⟨mk, mi, mj, mo, mn, mc⟩, hn2⟩ : ∃ n, R2[q] = n := ⟨_, rfl⟩
      rw [hn1] at a0 a1 a2 a3 HCALL
      rw [hn2] at s0 s1 s2 s3 HCALL
      rw [show (Rn.mk nk ni nj no nn nc).v = .agg #[.int .i64 nk, .int .i64 ni, .int .i64 nj, .slice no nn nc] from rfl, show (Rn.mk mk mi mj mo mn mc).v = .agg #[.int .i64 mk, .int .i64 mi, .int .i64 mj, .slice mo mn mc] from rfl] at HCALL
      have c0 := (hb.cell (p := ⟨g, off + q * 4, none⟩) hg0).trans a0
      have c1 := (hb.cell (p := ⟨g, off + q * 4 + 1, none⟩) hg0).trans a1
      have c2' := (hb.cell (p := ⟨g, off + q * 4 + 2, none⟩) hg0).trans a2
      have c3 := (hb.cell (p := ⟨g, off + q * 4 + 3, none⟩) hg0).trans a3
      have d0 := (hb.cell (p := ⟨g2, off2 + q * 4, none⟩) hg2).trans s0
      have d1 := (hb.cell (p := ⟨g2, off2 + q * 4 + 1, none⟩) hg2).trans s1
      have d2 := (hb.cell (p := ⟨g2, off2 + q * 4 + 2, none⟩) hg2).trans s2
      have d3 := (hb.cell (p := ⟨g2, off2 + q * 4 + 3, none⟩) hg2).trans s3
      have hgw := Nat.lt_of_lt_of_le hg0 hb.size
      have hgw2 := Nat.lt_of_lt_of_le hg2 hb.size
      have hq0 : (0 : Int) ≤ (q : Int) := by omega
      have hww : (q : Int) + 1 ≤ 2932031007318 := by omega
      have hd : decide ((q : Int) < (len : Int)) = true := decide_eq_true (by omega)
      have hd' : decide (q < len) = true := decide_eq_true hlt
      simp only [] at c0 c1 c2' c3 d0 d1 d2 d3
      obtain ⟨W2, hW2, hy1, hy2, hb2⟩ := two_node_boxes wr nk ni nj mk mi mj no mo nn nc mn mc
      have HW2 : Hid (Below wr.heap.size wr ((wr.alloc (.cells #[.int .i64 nk, .int .i64 ni, .int .i64 nj, .slice no nn nc] 24)).alloc (.cells #[.int .i64 mk, .int .i64 mi, .int .i64 mj, .slice mo mn mc] 24))) := Lib.hid (by rw [hW2]; exact hb2)
      clear a0 a1 a2 a3 s0 s1 s2 s3 hn1 hn2 hb hbq hW2 hy1 hy2 hb2
      cases b with
      | true =>
        have hsn : sameTs (l.drop (q + 1)) (l2.drop (q + 1)) = sameTs l l2 := by rw [← HSD.out, HS.out, Bool.true_and]
        have HSN := Lib.hid hsn
        clear hsn
        go_wp2_with (go_at_call 41; (with_reducible refine (HCALL.out _ HW2.out).mono ?_); rintro e w9 ⟨rfl, hb9⟩; have HBB := Lib.hid (HW2.out.trans (hb9.mono HW2.out.size)); clear hb9)
        go_roundw
        case rel => exact ⟨q + 1, by omega, by go_num, HB.out.trans (HBB.out.mono HB.out.size), HSN.out⟩
        case measure => simp [intOf]; omega
      | false =>
        have hsn : sameTs l l2 = false := by rw [← HSD.out, HS.out, Bool.false_and]
        have HSN := Lib.hid hsn
        clear hsn
        go_wp2_with (go_at_call 41; (with_reducible refine (HCALL.out _ HW2.out).mono ?_); rintro e w9 ⟨rfl, hb9⟩; have HBB := Lib.hid (HW2.out.trans (hb9.mono HW2.out.size)); clear hb9)
        all_goals (first | go_ret | go_end0)
        all_goals exact ⟨by rw [HSN.out]; rfl, HB.out.trans (HBB.out.mono HB.out.size)⟩
    · have hd : decide ((q : Int) < (len : Int)) = false := decide_eq_false (by omega)
      have hd' : decide (q < len) = false := decide_eq_false hlt
      have hs : sameTs l l2 = true := by
        rw [← HSD.out, List.drop_of_length_le (by rw [HLN.out.1.1]; omega), List.drop_of_length_le (by rw [HLN.out.1.2]; omega), sameTs]
      have HSN := Lib.hid hs
      clear hb hs
      go_wp2_with fail
      go_ret
      exact ⟨by rw [HSN.out]; rfl, HB.out⟩
set_option maxRecDepth 100000 in
set_option maxHeartbeats 4000000 in
theorem gsame_node (k i j : Int) (l : List Tree) (ih : ∀ t ∈ l, SameC 41 t) : SameC 41 (.mk k i j l) := by
  intro u w n n2 hT hT2
  have HE := Lib.hid (fun (W : World) (hW : Below w.heap.size w W) => equal_kids k i j l ih u W n n2 (TieB.below hT hW) (TieB.below hT2 hW))
  obtain ⟨k2, i2, j2, l2⟩ := u
  obtain ⟨o, c, g, off, R, rfl, hc, hl, hlR, ho, HC, HT⟩ := TieB.out hT
  obtain ⟨o2, c2, g2, off2, R2, rfl, hc2, hl2, hlR2, ho2, HC2, HT2⟩ := TieB.out hT2
  obtain ⟨W2, hW2, hx, hy, hb2⟩ := two_node_boxes w k i j k2 i2 j2 o o2 l.length c l2.length c2
  obtain ⟨⟨x0, x1, x2, x3⟩, _⟩ := four_cells0 hx
  obtain ⟨⟨y0, y1, y2, y3⟩, _⟩ := four_cells0 hy
  have xz := (Array.getElem?_eq_some_iff.1 hx).1
  have yz := (Array.getElem?_eq_some_iff.1 hy).1
  obtain ⟨X, hX⟩ : ∃ X, w.heap.size = X := ⟨_, rfl⟩
  obtain ⟨len, hlen⟩ : ∃ len, l.length = len := ⟨_, rfl⟩
  obtain ⟨len2, hlen2⟩ : ∃ len, l2.length = len := ⟨_, rfl⟩
  obtain ⟨be, hbe⟩ : ∃ b, sameTs l l2 = b := ⟨_, rfl⟩
  have hs : sameT (.mk k i j l) (.mk k2 i2 j2 l2) = (k == k2 && i == i2 && j == j2 && be) := by rw [sameT, hbe]
  show Calls Try.prog 41 #[.agg #[.int .i64 k, .int .i64 i, .int .i64 j, .slice o l.length c], .agg #[.int .i64 k2, .int .i64 i2, .int .i64 j2, .slice o2 l2.length c2]] w fun e w' => e = .returned (.bool (sameT (.mk k i j l) (.mk k2 i2 j2 l2))) ∧ Below w.heap.size w w'
  rw [hs]
  have HE' : Hid (∀ W, Below w.heap.size w W → Calls Try.prog 60 #[.slice o len c, .slice o2 len2 c2, .func (.func 41) #[] #[]] W fun e w' => e = .returned (.bool be) ∧ Below W.heap.size W w') := Lib.hid (fun W hW => by
    have := HE.out W hW
    rw [← hbe, ← hlen, ← hlen2]
    exact this)
  rw [hlen, hlen2]
  rw [hlen, hlen2] at hW2
  rw [hlen] at x3
  rw [hlen2] at y3
  have HBB := Lib.hid hb2
  rw [hX] at x0 x1 x2 x3 y0 y1 y2 y3 xz yz
  clear hT hT2 HE HC HT HC2 HT2 hc hl hlR ho hc2 hl2 hlR2 ho2 hx hy hlen hlen2 hbe hs hb2
  by_cases hk : k = k2
  case neg =>
    have hkd : (k == k2) = false := beq_eq_false_iff_ne.2 hk
    rw [hkd]
    clear hkd
    go_enter Try.func41, Try.ntmps41
    go_wp2_with fail
    go_ret
    exact ⟨rfl, HBB.out⟩
  case pos =>
  subst hk
  rw [beq_self_eq_true, Bool.true_and]
  by_cases hi : i = i2
  case neg =>
    have hkd : (i == i2) = false := beq_eq_false_iff_ne.2 hi
    rw [hkd]
    clear hkd
    go_enter Try.func41, Try.ntmps41
    go_wp2_with fail
    go_ret
    exact ⟨rfl, HBB.out⟩
  case pos =>
  subst hi
  rw [beq_self_eq_true, Bool.true_and]
  by_cases hj : j = j2
  case neg =>
    have hkd : (j == j2) = false := beq_eq_false_iff_ne.2 hj
    rw [hkd]
    clear hkd
    go_enter Try.func41, Try.ntmps41
    go_wp2_with fail
    go_ret
    exact ⟨rfl, HBB.out⟩
  case pos =>
  subst hj
  rw [beq_self_eq_true, Bool.true_and]
  go_enter Try.func41, Try.ntmps41
  go_wp2_with (go_at_call 60; (with_reducible refine (HE'.out _ HBB.out).mono ?_); rintro e w9 ⟨rfl, hb9⟩; have HB9 := Lib.hid (HBB.out.trans (hb9.mono HBB.out.size)); clear hb9)
  go_ret
  exact ⟨rfl, HB9.out⟩
mutual
theorem gsame_t : ∀ t : Tree, SameC 41 t
  | .mk k i j l => gsame_node k i j l (gsame_l l)
theorem gsame_l : ∀ (l : List Tree), ∀ t ∈ l, SameC 41 t
  | [], t, h => by cases h
  | u :: l, t, h => by
    rcases List.mem_cons.1 h with h | h
    · rw [h]; exact gsame_t u
    · exact gsame_l l t h
end
end Go.Proofs.Ytmnnjmjdggjlmaa.rd
