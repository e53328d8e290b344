/-
  Layer 4: the law ChunkCovers, as a call.
-/
import Derived.Test.YtlemecnmjhhbiaaCm
import Derived.Test.YtlemecnmjhhbiaaCo
namespace Go.Proofs.Ytlemecnmjhhbiaa.ck
open Go.RowKit

set_option maxRecDepth 100000 in
set_option maxHeartbeats 16000000 in
theorem covers_law (v : Value) (T : List Tk) (x y : Int) (w : World) (hr : Row tk w v T) (hn : T.length * 24 ≤ 140737488351232) :
    Calls Try.prog 6 #[v, .int .i64 x, .int .i64 y] w (True1 w) := by
  have HR := Lib.hid hr
  have HS := Lib.hid (shown_any w)
  have hR := regs_le T
  obtain ⟨st, hst⟩ := chain_regs T
  have HC := Lib.hid hst
  obtain ⟨gl, ol, o, cap, hcl, rfl, ho, hcell⟩ := hr
  have HCELL := Lib.hid hcell
  have HO := Lib.hid ho
  obtain ⟨len, hlen⟩ : ∃ len, T.length = len := ⟨_, rfl⟩
  rw [hlen] at HR hn hR hcl
  have HN := Lib.hid hlen
  rw [HN.out]
  clear hlen hcell ho hst
  go_enter Try.func6, Try.ntmps6
  go_wp2_with (first
    | (go_at_call 9; refine HS.out.mono ?_; rintro e w1 ⟨rfl, hb1⟩; have HB1 := Lib.hid hb1; have HX := Lib.hid (cut_any _ T w1 (HR.out.below hb1) (by rw [HN.out]; omega)); clear hb1 HS)
    | (go_at_call 10; refine HX.out.mono ?_; rintro e w2 ⟨vr, rfl, hm2, hb2⟩; have HR2 := Lib.hid hm2.row; have HB2 := Lib.hid (HB1.out.trans (hb2.mono HB1.out.size)); clear hm2 hb2 HX; obtain ⟨gr, or', ro, rc, hrc, hvr, hro, hrcell⟩ := HR2.out; subst hvr; have HRC := Lib.hid hrcell; have HRO := Lib.hid hro; clear hrcell hro))
  obtain ⟨m, hm⟩ : ∃ m, (regs T).length = m := ⟨_, rfl⟩
  rw [hm] at hR hrc HR2 ⊢
  have HM := Lib.hid hm
  have hz2 := HB2.out.size
  clear hm HB1
  go_loopw [8, 21] (fun pa p wr => ∃ n : Nat, n ≤ m ∧ pa = .int .i64 (st n : Int) ∧ p = .int .i64 n ∧ Below w2.heap.size w2 wr) (fun _ p _ => m - (intOf p).toNat)
  case atStart => exact ⟨0, Nat.zero_le _, by rw [HC.out.zero]; rfl, rfl, Below.refl _ _⟩
  case round =>
    obtain ⟨n, hnm, rfl, rfl, hb⟩ := hrel
    have HB := Lib.hid hb
    have hsz := hb.size
    have HBw := Lib.hid (HB2.out.trans (hb.mono hz2))
    clear hb
    by_cases hlt : n < m
    · have hltR : n < (regs T).length := by rw [HM.out]; exact hlt
      have hd : decide ((n : Int) < (m : Int)) = true := decide_eq_true (by omega)
      have hne : regs T ≠ [] := by intro e; rw [e] at hltR; simp at hltR
      have hro := HRO.out hne
      subst hro
      obtain ⟨h1, h2, h3, h4, h5⟩ := HC.out.at' n hltR
      obtain ⟨c0, c1⟩ := cells_sn (HRC.out.below HB.out) n hltR
      rw [h1] at c0 c1
      simp only [] at c0 c1
      obtain ⟨c, hc⟩ : ∃ c, st (n + 1) = c + 1 := ⟨st (n + 1) - 1, by omega⟩
      rw [hc] at c1 h2 h3 h4 h5
      rw [HN.out] at h3
      have HSN := Lib.hid hc
      rw [show ((c + 1 : Nat) : Int) = (c : Int) + 1 by omega] at c1
      generalize st n = a at *
      have hneT : T ≠ [] := by intro e; have := HN.out; rw [e] at this; simp at this; omega
      have ho := HO.out hneT
      subst ho
      have hltT : c < T.length := by rw [HN.out]; omega
      obtain ⟨l0, l1, l2⟩ := cells_tk (HCELL.out.below HBw.out) c hltT
      obtain ⟨w3, hw3⟩ : ∃ w3, wr.alloc (.cells #[.int .i64 (a : Int), .int .i64 ((c : Int) + 1)] 30) = w3 := ⟨_, rfl⟩
      have hb3 : Below wr.heap.size wr w3 := by rw [← hw3]; exact (Below.refl _ _).alloc (Nat.le_refl _) _
      have hh3 := heap_alloc_last wr (.cells #[.int .i64 (a : Int), .int .i64 ((c : Int) + 1)] 30)
      rw [hw3] at hh3
      obtain ⟨B, hB⟩ : ∃ B, wr.heap.size = B := ⟨_, rfl⟩
      have HZB := Lib.hid hB
      rw [hB] at hh3
      have HA5 : Hid (∀ u, w3.grownBy u none → ((u.cell? ⟨B, 0, none⟩ = some (.int .i64 (a : Int)) ∧ u.cell? ⟨B, 1, none⟩ = some (.int .i64 ((c : Int) + 1))) ∧ u.cell? ⟨gl, ol + c * 3, none⟩ = some (.int .i64 T[c].k) ∧ Below w2.heap.size w2 u)) := Lib.hid (fun u hu => by
        have hbu : Below wr.heap.size wr u := hb3.grown hu hb3.size (fun r e => by cases e)
        have h7 := (two_at u B _ _ _ ((hu.block B (Array.getElem?_eq_some_iff.1 hh3).1 (fun e => by cases e)).trans hh3)).1
        exact ⟨h7, (hbu.cell (p := ⟨gl, ol + c * 3, none⟩) (World.block_lt_of_cell? _ _ l0)).trans l0, HB.out.trans (hbu.mono hsz)⟩)
      clear hB hh3
      obtain ⟨v4, hs4, hr4⟩ := (HR.out.below (HBw.out.trans (hb3.mono HBw.out.size))).mid a (c + 1) (by omega) (by rw [HN.out]; omega)
      have HWG := Lib.hid (weighs_any v4 _ w3 hr4 (by rw [List.length_take, List.length_drop, HN.out]; omega))
      have hs4 : ∀ u, (Instr.slice 22 (.slice (some ⟨gl, ol, none⟩) len cap) (some (.int .i64 (a : Int))) (some (.int .i64 ((c : Int) + 1))) none).run Try.prog u = .ok v4 u := hs4
      rw [h4] at HWG
      have h5' : (n + 1 < m → T[c].k = 15 ∨ T[c].k = 16) := fun hh => by
        obtain ⟨t, ht1, ht2⟩ := h5 (by rw [HM.out]; exact hh)
        rw [Nat.add_sub_cancel] at ht1
        obtain ⟨_, rfl⟩ := List.getElem?_eq_some_iff.1 ht1
        exact semi_yes ht2
      generalize T[c] = t at *
      obtain ⟨z, i1, i2⟩ := t
      simp only [] at l0 l1 l2 h5'
      have e1 : decide ((c : Int) + 1 ≤ (a : Int)) = false := decide_eq_false (by omega)
      have e2 : decide ((len : Int) < (c : Int) + 1) = false := decide_eq_false (by omega)
      have HW3 := Lib.hid hw3
      clear h1 h4 h5 hr4 hw3 hne hneT hltR
      have hlast : decide (n + 1 < m) = false ∨ (decide (n + 1 < m) = true ∧ (z = 15 ∨ z = 16)) := by
        by_cases hh : n + 1 < m
        · exact .inr ⟨decide_eq_true hh, h5' hh⟩
        · exact .inl (decide_eq_false hh)
      clear h5'
      rcases hlast with hl | ⟨hl, hz⟩
      · have hl' : decide ((n : Int) + 1 < (m : Int)) = false := decide_eq_false (by have := of_decide_eq_false hl; omega)
        go_wp2_with fail
        rw [HW3.out, HZB.out]
        refine HWG.out.mono ?_
        rintro e w5 ⟨rfl, hg5⟩
        obtain ⟨⟨b0, b1⟩, l5, hb5⟩ := HA5.out w5 hg5
        have HB5 := Lib.hid hb5
        clear l0 l1 l2 hb5 hg5
        go_wp2_with fail
        go_roundw
        case rel => exact ⟨n + 1, by omega, by rw [HSN.out]; go_num, by go_num, HB5.out⟩
        case measure => simp [intOf]; omega
      · have hl' : decide ((n : Int) + 1 < (m : Int)) = true := decide_eq_true (by have := of_decide_eq_true hl; omega)
        rcases hz with hz | hz
        all_goals
          subst hz
          go_wp2_with fail
          rw [HW3.out, HZB.out]
          refine HWG.out.mono ?_
          rintro e w5 ⟨rfl, hg5⟩
          obtain ⟨⟨b0, b1⟩, l5, hb5⟩ := HA5.out w5 hg5
          have HB5 := Lib.hid hb5
          clear l0 l1 l2 hb5 hg5
          go_wp2_with fail
          go_roundw
          case rel => exact ⟨n + 1, by omega, by rw [HSN.out]; go_num, by go_num, HB5.out⟩
          case measure => simp [intOf]; omega
    · have hd : decide ((n : Int) < (m : Int)) = false := decide_eq_false (by omega)
      obtain rfl : n = m := by omega
      have h1 := HC.out.last
      rw [HM.out] at h1
      have h2 : st n ≤ len := by
        by_cases h0 : n = 0
        · subst h0; rw [HC.out.zero]; omega
        · have := (HC.out.at' (n - 1) (by rw [HM.out]; omega)).2.2.1
          rw [show n - 1 + 1 = n by omega, HN.out] at this
          exact this
      obtain ⟨v4, hs4, hr4⟩ := (HR.out.below HBw.out).from (st n) (by rw [HN.out]; exact h2)
      have HWG := Lib.hid (weighs_any v4 _ wr hr4 (by rw [List.length_drop, HN.out]; omega))
      rw [h1] at HWG
      have hs4 : ∀ u, (Instr.slice 22 (.slice o len cap) (some (.int .i64 (st n : Int))) none none).run Try.prog u = .ok v4 u := hs4
      clear h1 hr4
      generalize st n = a at *
      go_wp2_with fail
      refine HWG.out.mono ?_
      rintro e w5 ⟨rfl, hg5⟩
      have hbu : Below w2.heap.size w2 w5 := HB.out.grown hg5 (by omega) (fun r e => by cases e)
      have HB5 := Lib.hid hbu
      have HBw5 := Lib.hid (HB2.out.trans (hbu.mono hz2))
      have HTO := Lib.hid (touched_any _ (regs T) x y w5 (HR2.out.below hbu) (by rw [HM.out]; omega))
      have hz5 := hbu.size
      clear hg5 hbu HWG HBw HB
      by_cases hx : x < 0
      · have d1 : decide (x < 0) = true := decide_eq_true hx
        go_wp2_with fail
        go_ret
        exact ⟨rfl, HBw5.out⟩
      have d1 : decide (x < 0) = false := decide_eq_false hx
      by_cases hxy : y ≤ x
      · have d2 : decide (y ≤ x) = true := decide_eq_true hxy
        go_wp2_with fail
        go_ret
        exact ⟨rfl, HBw5.out⟩
      have d2 : decide (y ≤ x) = false := decide_eq_false hxy
      go_wp2_with (go_at_call 15; refine HTO.out.mono ?_; rintro e w6 ⟨rfl, hb6⟩; have HB6 := Lib.hid (HB5.out.trans (hb6.mono hz5)); have hz6 := hb6.size; clear hb6 HTO)
      obtain ⟨w7, hw7⟩ : ∃ w7, w6.alloc (.cells #[.int .i64 (touA x (regs T) : Int), .int .i64 (touB x y (regs T) : Int)] 30) = w7 := ⟨_, rfl⟩
      have hh7 := heap_alloc_last w6 (.cells #[.int .i64 (touA x (regs T) : Int), .int .i64 (touB x y (regs T) : Int)] 30)
      have hz7 : w7.heap.size = w6.heap.size + 1 := by rw [← hw7]; simp
      have hb7 : Below w2.heap.size w2 w7 := by rw [← hw7]; exact HB6.out.alloc (by omega) _
      have HB7 := Lib.hid hb7
      have hz27 := hb7.size
      obtain ⟨B, hB⟩ : ∃ B, w6.heap.size = B := ⟨_, rfl⟩
      rw [hw7] at hh7 ⊢
      rw [hB] at hh7 hz7 ⊢
      have HH7 := Lib.hid hh7
      have HCH := Lib.hid (fun i hi => HC.out.touches x y i hi)
      clear hw7 hB hh7 HB6 HB5 hb7
      generalize (touA x (regs T)) = tA at *
      generalize (touB x y (regs T)) = tB at *
      go_loopw [94] (fun p wr2 => ∃ i : Nat, i ≤ n ∧ p = .int .i64 i ∧ Below w7.heap.size w7 wr2) (fun p _ => n - (intOf p).toNat)
      case atStart => exact ⟨0, Nat.zero_le _, rfl, Below.refl _ _⟩
      case round =>
        obtain ⟨i, hin, rfl, hb8⟩ := hrel
        have HB8 := Lib.hid hb8
        have hz8 := hb8.size
        by_cases hlt : i < n
        · have hltR : i < (regs T).length := by rw [HM.out]; exact hlt
          have hd' : decide ((i : Int) < (n : Int)) = true := decide_eq_true (by omega)
          have hne : regs T ≠ [] := by intro e; rw [e] at hltR; simp at hltR
          have hro := HRO.out hne
          subst hro
          obtain ⟨h1, _⟩ := HC.out.at' i hltR
          obtain ⟨c0, c1⟩ := cells_sn (HRC.out.below (HB7.out.trans (hb8.mono (by omega)))) i hltR
          obtain ⟨q1, q2⟩ := HCH.out i hltR
          rw [h1] at c0 c1
          simp only [] at c0 c1
          have HR8 := Lib.hid (hb8.alloc (by omega) (.cells #[.int .i64 (st i : Int), .int .i64 (st (i + 1) : Int)] 30))
          obtain ⟨⟨k0, k1⟩, _⟩ := two_at _ B _ _ _ ((HR8.out.block B (by omega)).trans HH7.out)
          clear h1 hne hltR hb8
          generalize st i = a' at *
          generalize st (i + 1) = c' at *
          by_cases r1 : x < (c' : Int)
          · have r1' := q1.1 r1
            have s1 : decide (x < (c' : Int)) = true := decide_eq_true r1
            have s2 : decide (tA ≤ i) = true := decide_eq_true r1'
            have s2' : decide ((tA : Int) ≤ (i : Int)) = true := decide_eq_true (by omega)
            by_cases r2 : (a' : Int) < y
            · have r2' := (q2 r1).1 r2
              have s3 : decide ((a' : Int) < y) = true := decide_eq_true r2
              have s4 : decide (i < tB) = true := decide_eq_true r2'
              have s4' : decide ((i : Int) < (tB : Int)) = true := decide_eq_true (by omega)
              clear q1 q2 r1 r1' r2 r2'
              go_wp2_with fail
              go_roundw
              case rel => exact ⟨i + 1, by omega, by go_num, HR8.out⟩
              case measure => simp [intOf]; omega
            · have r2' : ¬ i < tB := fun h => r2 ((q2 r1).2 h)
              have s3 : decide ((a' : Int) < y) = false := decide_eq_false r2
              have s4 : decide (i < tB) = false := decide_eq_false r2'
              have s4' : decide ((i : Int) < (tB : Int)) = false := decide_eq_false (by omega)
              clear q1 q2 r1 r1' r2 r2'
              go_wp2_with fail
              go_roundw
              case rel => exact ⟨i + 1, by omega, by go_num, HR8.out⟩
              case measure => simp [intOf]; omega
          · have r1' : ¬ tA ≤ i := fun h => r1 (q1.2 h)
            have s1 : decide (x < (c' : Int)) = false := decide_eq_false r1
            have s2 : decide (tA ≤ i) = false := decide_eq_false r1'
            have s2' : decide ((tA : Int) ≤ (i : Int)) = false := decide_eq_false (by omega)
            clear q1 q2 r1 r1'
            go_wp2_with fail
            go_roundw
            case rel => exact ⟨i + 1, by omega, by go_num, HR8.out⟩
            case measure => simp [intOf]; omega
        · have hd' : decide ((i : Int) < (n : Int)) = false := decide_eq_false (by omega)
          go_wp2_with fail
          go_ret
          exact ⟨rfl, HB2.out.trans ((HB7.out.trans (HB8.out.mono (by omega))).mono hz2)⟩
end Go.Proofs.Ytlemecnmjhhbiaa.ck
