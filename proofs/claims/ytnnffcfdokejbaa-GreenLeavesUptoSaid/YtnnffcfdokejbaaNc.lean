/-
  Layer 8: the reference's Same.
-/
import Derived.Test.YtnnffcfdokejbaaNb
import Derived.Deep.DeepCutAuto
namespace Go.Proofs.Ytnnffcfdokejbaa.rd
open Go.RowKit

mutual
/-- Are two trees the same in all? -/
def sameT : Tree → Tree → Bool
  | .mk k i j l, .mk k2 i2 j2 l2 => k == k2 && i == i2 && j == j2 && sameTs l l2
def sameTs : List Tree → List Tree → Bool
  | [], [] => true
  | t :: l, u :: m => sameT t u && sameTs l m
  | _, _ => false
end
theorem sameTs_len : ∀ (l m : List Tree), l.length ≠ m.length → sameTs l m = false
  | [], [], h => absurd rfl h
  | [], _ :: _, _ => by simp [sameTs]
  | _ :: _, [], _ => by simp [sameTs]
  | _ :: l, _ :: m, h => by rw [sameTs, sameTs_len l m (by simpa using h), Bool.and_false]
theorem sameTs_drop {l m : List Tree} {i : Nat} (h1 : i < l.length) (h2 : i < m.length) : sameTs (l.drop i) (m.drop i) = (sameT l[i] m[i] && sameTs (l.drop (i + 1)) (m.drop (i + 1))) := by
  rw [List.drop_eq_getElem_cons h1, List.drop_eq_getElem_cons h2, sameTs]
theorem tieB_get {w : World} {l : List Tree} {R : List Rn} {D : Nat → Prop} (h : Ties w D l R) (hD : ∀ k, D k → k < w.heap.size) {w' : World} (hb : Below w.heap.size w w') {i : Nat} (hi : i < l.length) (hi2 : i < R.length) : Hid (TieB w' l[i] R[i]) :=
  TieB.below (Lib.hid ⟨D, ties_get' h hi hi2, hD⟩) hb
/-- What Same is held to. -/
def SameC (f : Nat) (t : Tree) : Prop := ∀ (u : Tree) (w : World) (n n2 : Rn), Hid (TieB w t n) → Hid (TieB w u n2) → Calls Try.prog f #[n.v, n2.v] w fun e w' => e = .returned (.bool (sameT t u)) ∧ Below w.heap.size w w'
/-- A node, opened. -/
theorem TieB.out {w : World} {k i j : Int} {l : List Tree} {n : Rn} (h : Hid (TieB w (.mk k i j l) n)) : ∃ (o : Option Addr) (c g off : Nat) (R : List Rn), n = ⟨k, i, j, o, l.length, c⟩ ∧ l.length ≤ c ∧ l.length ≤ 2932031007317 ∧ R.length = l.length ∧ (l ≠ [] → o = some ⟨g, off, none⟩ ∧ g < w.heap.size) ∧ Hid (Cells nd w g off R) ∧ Hid (∀ (w' : World), Below w.heap.size w w' → ∀ (i : Nat) (hi : i < l.length) (hi2 : i < R.length), Hid (TieB w' l[i] R[i])) := by
  obtain ⟨D, h1, h2⟩ := h.out
  obtain ⟨k', i', j', o, nn, c⟩ := n
  rw [Tie] at h1
  obtain ⟨rfl, rfl, rfl, hnn, g, off, R, ⟨hc, hl⟩, ho, hcell, hties⟩ := h1
  simp only [] at hnn hc ho
  subst hnn
  exact ⟨o, c, g, off, R, rfl, hc, hl, hties.length, fun e => ⟨(ho e).1, h2 g (ho e).2⟩, Lib.hid hcell, Lib.hid fun w' hb i hi hi2 => tieB_get hties h2 hb hi hi2⟩
theorem two_node_boxes (w : World) (k i j k2 i2 j2 : Int) (o o2 : Option Addr) (n c n2 c2 : Nat) : ∃ W2, (w.alloc (.cells #[.int .i64 k, .int .i64 i, .int .i64 j, .slice o n c] 24)).alloc (.cells #[.int .i64 k2, .int .i64 i2, .int .i64 j2, .slice o2 n2 c2] 24) = W2 ∧ W2.heap[w.heap.size]? = some (.cells #[.int .i64 k, .int .i64 i, .int .i64 j, .slice o n c] 24 (0, 0)) ∧ W2.heap[w.heap.size + 1]? = some (.cells #[.int .i64 k2, .int .i64 i2, .int .i64 j2, .slice o2 n2 c2] 24 (0, 0)) ∧ Below w.heap.size w W2 := by
  have z1 : (w.alloc (.cells #[.int .i64 k, .int .i64 i, .int .i64 j, .slice o n c] 24)).heap.size = w.heap.size + 1 := World.size_alloc _ _
  have b1 : Below w.heap.size w (w.alloc (.cells #[.int .i64 k, .int .i64 i, .int .i64 j, .slice o n c] 24)) := (Below.refl _ _).alloc (Nat.le_refl _) _
  have a1 := heap_alloc_last w (.cells #[.int .i64 k, .int .i64 i, .int .i64 j, .slice o n c] 24)
  generalize w.alloc (.cells #[.int .i64 k, .int .i64 i, .int .i64 j, .slice o n c] 24) = W1 at *
  have a2 := heap_alloc_last W1 (.cells #[.int .i64 k2, .int .i64 i2, .int .i64 j2, .slice o2 n2 c2] 24)
  rw [z1] at a2
  exact ⟨_, rfl, (heap_alloc_old W1 _ (by omega)).trans a1, a2, b1.alloc b1.size _⟩
set_option maxRecDepth 100000 in
set_option maxHeartbeats 4000000 in
theorem same_node (k i j : Int) (l : List Tree) (ih : ∀ t ∈ l, SameC 14 t) : SameC 14 (.mk k i j l) := by
  intro u w n n2 hT hT2
  obtain ⟨k2, i2, j2, l2⟩ := u
  obtain ⟨o, c, g, off, R, rfl, hc, hl, hlR, ho, HC, HT⟩ := TieB.out hT
  obtain ⟨o2, c2, g2, off2, R2, rfl, hc2, hl2, hlR2, ho2, HC2, HT2⟩ := TieB.out hT2
  obtain ⟨W2, hW2, hx, hy, hb2⟩ := two_node_boxes w k i j k2 i2 j2 o o2 l.length c l2.length c2
  obtain ⟨X, hX⟩ : ∃ X, w.heap.size = X := ⟨_, rfl⟩
  have HXB := Lib.hid (And.intro hX hb2)
  have HIH := Lib.hid ih
  have HOO := Lib.hid (And.intro ho ho2)
  obtain ⟨len, hlen⟩ : ∃ len, l.length = len := ⟨_, rfl⟩
  obtain ⟨len2, hlen2⟩ : ∃ len, l2.length = len := ⟨_, rfl⟩
  have HLN := Lib.hid (And.intro (And.intro hlen hlen2) (And.intro hlR hlR2))
  rw [hX] at hx hy
  rw [hlen] at hl
  rw [hlen2] at hl2
  rw [hlen] at hx
  rw [hlen2] at hy
  rw [hlen, hlen2] at hW2
  show Calls Try.prog 14 #[.agg #[.int .i64 k, .int .i64 i, .int .i64 j, .slice o l.length c], .agg #[.int .i64 k2, .int .i64 i2, .int .i64 j2, .slice o2 l2.length c2]] w _
  rw [hlen, hlen2]
  obtain ⟨⟨x0, x1, x2, x3⟩, _⟩ := four_cells0 hx
  obtain ⟨⟨y0, y1, y2, y3⟩, _⟩ := four_cells0 hy
  have xz : X < W2.heap.size := (Array.getElem?_eq_some_iff.1 hx).1
  have yz : X + 1 < W2.heap.size := (Array.getElem?_eq_some_iff.1 hy).1
  have HA := Lib.hid (And.intro hx hy)
  have HW2 := Lib.hid hW2
  have HBB := Lib.hid hb2
  clear hT hT2 hlen hlen2 hX ih ho ho2 hc hc2 hlR hlR2 hb2 hx hy hW2
  clear x0 x1 x2 x3 y0 y1 y2 y3 xz yz
  by_cases hk : k = k2
  case neg =>
    have hs : sameT (.mk k i j l) (.mk k2 i2 j2 l2) = false := by rw [sameT, beq_eq_false_iff_ne.2 hk]; simp
    rw [hs]
    clear hs
    go_enter Try.func14, Try.ntmps14
    go_wp2_with fail
    go_ret
    exact ⟨rfl, by rw [HW2.out]; exact HBB.out⟩
  case pos =>
  subst hk
  by_cases hi : i = i2
  case neg =>
    have hs : sameT (.mk k i j l) (.mk k i2 j2 l2) = false := by rw [sameT, beq_eq_false_iff_ne.2 hi]; simp
    rw [hs]
    clear hs
    go_enter Try.func14, Try.ntmps14
    go_wp2_with fail
    go_ret
    exact ⟨rfl, by rw [HW2.out]; exact HBB.out⟩
  case pos =>
  subst hi
  by_cases hj : j = j2
  case neg =>
    have hs : sameT (.mk k i j l) (.mk k i j2 l2) = false := by rw [sameT, beq_eq_false_iff_ne.2 hj]; simp
    rw [hs]
    clear hs
    go_enter Try.func14, Try.ntmps14
    go_wp2_with fail
    go_ret
    exact ⟨rfl, by rw [HW2.out]; exact HBB.out⟩
  case pos =>
  subst hj
  have hs : sameT (.mk k i j l) (.mk k i j l2) = sameTs l l2 := by rw [sameT]; simp
  rw [hs]
  clear hs
  by_cases hle : len = len2
  case neg =>
    have hs : sameTs l l2 = false := sameTs_len l l2 (by rw [HLN.out.1.1, HLN.out.1.2]; exact hle)
    rw [hs]
    clear hs
    have hle' : (len : Int) ≠ (len2 : Int) := by omega
    go_enter Try.func14, Try.ntmps14
    go_wp2_with fail
    go_ret
    exact ⟨rfl, by rw [HW2.out]; exact HBB.out⟩
  case pos =>
  subst hle
  go_enter Try.func14, Try.ntmps14
  go_wp2_with fail
  rw [HW2.out, HXB.out.1]
  go_loopw [37] (fun p wr => ∃ i : Nat, i ≤ len ∧ p = .int .i64 (i : Int) ∧ Below W2.heap.size W2 wr ∧ sameTs (l.drop i) (l2.drop i) = sameTs l l2) (fun p _ => len - (intOf p).toNat)
  case atStart => exact ⟨0, Nat.zero_le _, rfl, Below.refl _ _, rfl⟩
  case round =>
    obtain ⟨q, hil, rfl, hb, hsd⟩ := hrel
    obtain ⟨x1, x2⟩ := HA.out
    have y1 := (hb.block X (Array.getElem?_eq_some_iff.1 x1).1).trans x1
    have y2 := (hb.block (X + 1) (Array.getElem?_eq_some_iff.1 x2).1).trans x2
    have q1 : X < wr.heap.size := (Array.getElem?_eq_some_iff.1 y1).1
    have q2 : X + 1 < wr.heap.size := (Array.getElem?_eq_some_iff.1 y2).1
    obtain ⟨⟨_, _, _, e1⟩, _⟩ := four_cells0 y1
    obtain ⟨⟨_, _, _, e2⟩, _⟩ := four_cells0 y2
    have hbw : Below w.heap.size w wr := HXB.out.2.trans (hb.mono HXB.out.2.size)
    have HB := Lib.hid hb
    have HSD := Lib.hid hsd
    clear hsd
    by_cases hlt : q < len
    · have hil1 : q < l.length := by rw [HLN.out.1.1]; exact hlt
      have hil2 : q < l2.length := by rw [HLN.out.1.2]; exact hlt
      have hiR : q < R.length := by rw [HLN.out.2.1]; exact hil1
      have hiR2 : q < R2.length := by rw [HLN.out.2.2]; exact hil2
      obtain ⟨ho, hg0⟩ := HOO.out.1 (by intro e; rw [e] at hil1; simp at hil1)
      obtain ⟨ho2, hg2⟩ := HOO.out.2 (by intro e; rw [e] at hil2; simp at hil2)
      subst ho ho2
      obtain ⟨a0, a1, a2, a3⟩ := cells_nd HC.out q hiR
      obtain ⟨s0, s1, s2, s3⟩ := cells_nd HC2.out q hiR2
      have HS := Lib.hid (sameTs_drop hil1 hil2)
      have HCALL : Hid (∀ u, Below wr.heap.size wr u → Calls Try.prog 14 #[R[q].v, R2[q].v] u fun e w' => e = .returned (.bool (sameT l[q] l2[q])) ∧ Below u.heap.size u w') := Lib.hid (fun u hu => by
        have hbu := hbw.trans (hu.mono hbw.size)
        exact HIH.out l[q] (List.getElem_mem hil1) l2[q] u R[q] R2[q] (HT.out u hbu q hil1 hiR) (HT2.out u hbu q hil2 hiR2))
      obtain ⟨b, hbq⟩ : ∃ b, sameT l[q] l2[q] = b := ⟨_, rfl⟩
      rw [hbq] at HCALL HS
      obtain ⟨⟨nk, ni, nj, no, nn, nc⟩, hn1⟩ : ∃ n, R[q] = n := ⟨_, rfl⟩
      obtain ⟨⟨mk, mi, mj, mo, mn, mc⟩, hn2⟩ : ∃ n, R2[q] = n := ⟨_, rfl⟩
      rw [hn1] at a0 a1 a2 a3 HCALL
      rw [hn2] at s0 s1 s2 s3 HCALL
      rw [show (Rn.mk nk ni nj no nn nc).v = .agg #[.int .i64 nk, .int .i64 ni, .int .i64 nj, .slice no nn nc] from rfl, show (Rn.mk mk mi mj mo mn mc).v = .agg #[.int .i64 mk, .int .i64 mi, .int .i64 mj, .slice mo mn mc] from rfl] at HCALL
      have c0 := (hbw.cell (p := ⟨g, off + q * 4, none⟩) hg0).trans a0
      have c1 := (hbw.cell (p := ⟨g, off + q * 4 + 1, none⟩) hg0).trans a1
      have c2' := (hbw.cell (p := ⟨g, off + q * 4 + 2, none⟩) hg0).trans a2
      have c3 := (hbw.cell (p := ⟨g, off + q * 4 + 3, none⟩) hg0).trans a3
      have d0 := (hbw.cell (p := ⟨g2, off2 + q * 4, none⟩) hg2).trans s0
      have d1 := (hbw.cell (p := ⟨g2, off2 + q * 4 + 1, none⟩) hg2).trans s1
      have d2 := (hbw.cell (p := ⟨g2, off2 + q * 4 + 2, none⟩) hg2).trans s2
      have d3 := (hbw.cell (p := ⟨g2, off2 + q * 4 + 3, none⟩) hg2).trans s3
      have hq0 : (0 : Int) ≤ (q : Int) := by omega
      have hww : (q : Int) + 1 ≤ 2932031007318 := by omega
      have hd : decide ((q : Int) < (len : Int)) = true := decide_eq_true (by omega)
      have hd' : decide (q < len) = true := decide_eq_true hlt
      simp only [] at c0 c1 c2' c3 d0 d1 d2 d3
      clear a0 a1 a2 a3 s0 s1 s2 s3 hn1 hn2 hbw x1 x2 y1 y2 hb hbq
      go_wp2_with fail
      obtain ⟨nb, hnb⟩ : ∃ nb, (!b) = nb := ⟨_, rfl⟩
      have HNB := Lib.hid hnb
      clear hnb
      go_cut [51] (fun v wx => v = .bool nb ∧ Below wr.heap.size wr wx)
      case first =>
        go_region_law (first | (go_simp; go_at_call 14; refine (HCALL.out _ ?_).mono ?_; (first | exact (Below.refl _ _).drew | exact Below.refl _ _); rintro e w9 ⟨rfl, hb9⟩; have hbb : Below wr.heap.size wr w9 := (by first | exact (Below.refl _ _).drew.trans hb9 | exact hb9); have HBB := Lib.hid hbb; clear hb9 hbb; dsimp only))
        all_goals (go_simp; (try go_wp2_with fail); go_meet)
        all_goals exact ⟨by rw [← HNB.out], HBB.out⟩
      case rest =>
        obtain ⟨rfl, hbc⟩ := hcut
        have HBB := Lib.hid hbc
        clear hbc
        cases b with
        | true =>
          obtain rfl : nb = false := HNB.out.symm
          have hsn : sameTs (l.drop (q + 1)) (l2.drop (q + 1)) = sameTs l l2 := by rw [← HSD.out, HS.out, Bool.true_and]
          have HSN := Lib.hid hsn
          clear hsn
          go_wp2_with fail
          all_goals first
            | (go_roundw; (case rel => exact ⟨q + 1, by omega, by go_num, HB.out.trans (HBB.out.mono HB.out.size), HSN.out⟩); (case measure => simp [intOf]; omega))
            | exact ⟨⟨q + 1, by omega, by go_num, HB.out.trans (HBB.out.mono HB.out.size), HSN.out⟩, by simp [intOf]; omega⟩
        | false =>
          obtain rfl : nb = true := HNB.out.symm
          have hsn : sameTs l l2 = false := by rw [← HSD.out, HS.out, Bool.false_and]
          have HSN := Lib.hid hsn
          clear hsn
          go_wp2_with fail
          all_goals (first | go_ret | go_end0)
          all_goals exact ⟨by rw [HSN.out]; rfl, (HXB.out.2.trans (HB.out.mono HXB.out.2.size)).trans (HBB.out.mono (HXB.out.2.trans (HB.out.mono HXB.out.2.size)).size)⟩
    · have hd : decide ((q : Int) < (len : Int)) = false := decide_eq_false (by omega)
      have hd' : decide (q < len) = false := decide_eq_false hlt
      have HBW := Lib.hid hbw
      have hs : sameTs l l2 = true := by
        rw [← HSD.out, List.drop_of_length_le (by rw [HLN.out.1.1]; omega), List.drop_of_length_le (by rw [HLN.out.1.2]; omega), sameTs]
      have HSN := Lib.hid hs
      clear x1 x2 y1 y2 hb hbw hs
      go_wp2_with fail
      go_ret
      exact ⟨by rw [HSN.out]; rfl, HBW.out⟩
mutual
theorem same_t : ∀ t : Tree, SameC 14 t
  | .mk k i j l => same_node k i j l (same_l l)
theorem same_l : ∀ (l : List Tree), ∀ t ∈ l, SameC 14 t
  | [], t, h => by cases h
  | u :: l, t, h => by
    rcases List.mem_cons.1 h with h | h
    · rw [h]; exact same_t u
    · exact same_l l t h
end
end Go.Proofs.Ytnnffcfdokejbaa.rd
