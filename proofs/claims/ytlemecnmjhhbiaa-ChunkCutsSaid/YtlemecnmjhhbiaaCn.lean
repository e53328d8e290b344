/-
  Layer 4: the law ChunkCuts, as a call.
-/
import Derived.Test.YtlemecnmjhhbiaaCm
namespace Go.Proofs.Ytlemecnmjhhbiaa.ck
open Go.RowKit

def sp : Tk := ⟨59, -7, 0⟩
set_option maxRecDepth 100000 in
set_option maxHeartbeats 16000000 in
theorem cuts_law (v : Value) (T : List Tk) (w : World) (hr : Row tk w v T) (hn : T.length * 24 ≤ 140737488351232) :
    Calls Try.prog 3 #[v] w (True1 w) := by
  have HR := Lib.hid hr
  have HS := Lib.hid (shown_any w)
  have hR := regs_le T
  obtain ⟨gl, ol, o, cap, hcl, rfl, ho, hcell⟩ := hr
  have HCELL := Lib.hid hcell
  have HO := Lib.hid ho
  obtain ⟨len, hlen⟩ : ∃ len, T.length = len := ⟨_, rfl⟩
  rw [hlen] at HR hn hR hcl
  have HN := Lib.hid hlen
  rw [HN.out]
  clear hlen hcell ho
  go_enter Try.func3, Try.ntmps3
  go_wp2_with (go_at_call 9; refine HS.out.mono ?_; rintro e w1 ⟨rfl, hb1⟩; have HB1 := Lib.hid hb1; clear hb1 HS)
  have hz1 := HB1.out.size
  obtain ⟨w2, hw2⟩ : ∃ w2, w1.alloc (.cells #[.int .i64 59, .int .i64 (-7), .int .i64 0] 25) = w2 := ⟨_, rfl⟩
  have hb2 : Below w1.heap.size w1 w2 := by rw [← hw2]; exact (Below.refl _ _).alloc (Nat.le_refl _) _
  have hh := heap_alloc_last w1 (.cells #[.int .i64 59, .int .i64 (-7), .int .i64 0] 25)
  have hz2 : w2.heap.size = w1.heap.size + 1 := by rw [← hw2]; simp
  rw [hw2] at hh ⊢
  clear hw2
  obtain ⟨B1, hB1⟩ : ∃ B1, w1.heap.size = B1 := ⟨_, rfl⟩
  rw [hB1] at hh hz2 ⊢
  have hc0 : w2.cell? ⟨B1, 0, none⟩ = some (.int .i64 59) := by rw [cell_of_row w2 _ 0 _ _ _ hh]; rfl
  have hc1 : w2.cell? ⟨B1, 1, none⟩ = some (.int .i64 (-7)) := by rw [cell_of_row w2 _ 1 _ _ _ hh]; rfl
  have hc2 : w2.cell? ⟨B1, 2, none⟩ = some (.int .i64 0) := by rw [cell_of_row w2 _ 2 _ _ _ hh]; rfl
  have HB2 := Lib.hid (HB1.out.trans (hb2.mono HB1.out.size))
  have HL2 := Lib.hid (HR.out.below HB2.out)
  -- the two appends
  have HA1 : Hid (∀ u, Below w2.heap.size w2 u → ∃ v' w', (∀ ty, (Builtin.append_ #[22, 22] ty #[.slice none 0 0, .slice o len cap]).run Try.prog u = .ok v' w') ∧ (Mine tk w' w2.heap.size v' T ∧ Below w2.heap.size w2 w' ∧ Below u.heap.size u w')) := Lib.hid (fun u hu => by
    obtain ⟨v', w', h1, h2, h3⟩ := copy_tk (HL2.out.below hu) (by rw [HN.out]; omega)
    exact ⟨v', w', h1, h2.mono hu.size, hu.trans (h3.mono hu.size), h3⟩)
  have HA2 : Hid (∀ u v1 ad, Mine tk u w2.heap.size v1 T → u.heap[ad]? = some (.cells #[.int .i64 59, .int .i64 (-7), .int .i64 0] 25 (0, 0)) → Below w2.heap.size w2 u → ∃ v' w', (∀ ty, (Builtin.append_ #[22, 22] ty #[v1, .slice (some ⟨ad, 0, none⟩) 1 1]).run Try.prog u = .ok v' w') ∧ (Mine tk w' w2.heap.size v' (T ++ [sp]) ∧ Below w2.heap.size w2 w')) := Lib.hid (fun u v1 ad hm hh hu => by
    have hrow : Row tk u (.slice (some ⟨ad, 0, none⟩) 1 1) [sp] := ⟨ad, 0, _, 1, Nat.le_refl _, rfl, fun _ => rfl, fun j x hx => by
      rw [cell_of_row u ad (0 + j) _ _ (0, 0) hh, Nat.zero_add]
      have : flat tk [sp] = [.int .i64 59, .int .i64 (-7), .int .i64 0] := rfl
      rw [this] at hx
      simpa using hx⟩
    obtain ⟨v', w', h1, h2, h3⟩ := run_append_row hm hrow hu.size (by simp [maxLen, HN.out]; omega) (by show (T.length + 1) * 24 ≤ _; rw [HN.out]; omega)
    exact ⟨v', w', h1, h2, hm.more hu (Nat.le_refl _) hu.size h3⟩)
  have hs0 : w2.drew.cell? ⟨B1, 0, none⟩ = some (.int .i64 59) ∧ w2.drew.cell? ⟨B1, 1, none⟩ = some (.int .i64 (-7)) ∧ w2.drew.cell? ⟨B1, 2, none⟩ = some (.int .i64 0) := ⟨hc0, hc1, hc2⟩
  have HC : Hid (∀ u, Below w2.heap.size w2 u → u.cell? ⟨B1, 0, none⟩ = some (.int .i64 59) ∧ u.cell? ⟨B1, 1, none⟩ = some (.int .i64 (-7)) ∧ u.cell? ⟨B1, 2, none⟩ = some (.int .i64 0)) := Lib.hid (fun u hu => ⟨(hu.cell (p := ⟨B1, 0, none⟩) (by show B1 < _; omega)).trans hc0, (hu.cell (p := ⟨B1, 1, none⟩) (by show B1 < _; omega)).trans hc1, (hu.cell (p := ⟨B1, 2, none⟩) (by show B1 < _; omega)).trans hc2⟩)
  have HNEW : Hid (∀ u, Below (w2.alloc (.cells #[.int .i64 59, .int .i64 (-7), .int .i64 0] 25)).drew.heap.size (w2.alloc (.cells #[.int .i64 59, .int .i64 (-7), .int .i64 0] 25)).drew u → u.heap[B1 + 1]? = some (.cells #[.int .i64 59, .int .i64 (-7), .int .i64 0] 25 (0, 0))) := Lib.hid (fun u hu => by
    have h1 := heap_alloc_last w2 (.cells #[.int .i64 59, .int .i64 (-7), .int .i64 0] 25)
    have h2 : (w2.alloc (.cells #[.int .i64 59, .int .i64 (-7), .int .i64 0] 25)).drew.heap.size = w2.heap.size + 1 := World.size_alloc _ _
    rw [hz2] at h1
    exact (hu.block (B1 + 1) (by omega)).trans h1)
  clear hh hb2
  go_cut [4] (fun u wx => Mine tk wx w2.heap.size u (T ++ [sp]) ∧ Below w2.heap.size w2 wx)
  case first =>
    go_region_held3 (fun W' => W'.cell? ⟨B1, 0, none⟩ = some (.int .i64 59) ∧ W'.cell? ⟨B1, 1, none⟩ = some (.int .i64 (-7)) ∧ W'.cell? ⟨B1, 2, none⟩ = some (.int .i64 0))
      (first | exact hs0 | exact HC.out _ hb4 | exact HC.out _ hb3 | exact HC.out _ (hb3.alloc hb3.size _) | exact HC.out _ ((Below.refl _ _).drew.alloc (Nat.le_refl _) _))
      (first
      | (refine step_append_ex rfl _ _ _ _ rfl _ _ rfl rfl (HA1.out _ ?_) ?_; (first | exact (Below.refl _ _).drew | exact (Below.refl _ _).drew.alloc (Nat.le_refl _) _); rintro v3 w3 ⟨hm3, hb3, hc3⟩)
      | (refine step_append_ex rfl _ _ _ _ rfl _ _ rfl rfl (HA2.out _ _ _ ?_ ?_ ?_) ?_; (first | exact hm3 | exact hm3.below ((Below.refl _ _).alloc (Nat.le_refl _) _)); (first | exact heap_alloc_last _ _ | exact HNEW.out _ hc3); (first | exact hb3 | exact hb3.alloc hb3.size _); rintro v4 w4 ⟨hm4, hb4⟩))
    all_goals (try go_wp2_with fail)
    all_goals go_meet
    all_goals exact ⟨hm4, hb4⟩
  case rest =>
    obtain ⟨hm, hb⟩ := hcut
    have HM := Lib.hid hm
    obtain ⟨g, cp, rfl, hg1, hg2⟩ := hm.full (by simp)
    have hlx : (T ++ [sp]).length = len + 1 := by rw [List.length_append, HN.out]; rfl
    obtain ⟨m1, hm1⟩ : ∃ m1, m1 = len + 1 := ⟨_, rfl⟩
    rw [← hm1] at hlx
    rw [hlx] at HM ⊢
    have HM1 := Lib.hid hm1
    have hlm : len < m1 := by omega
    clear hm1
    have HBc := Lib.hid (HB2.out.trans (hb.mono HB2.out.size))
    have HLc := Lib.hid (HL2.out.below hb)
    have HCc := Lib.hid (HC.out wc hb)
    have hzc := hb.size
    have hwz := HB2.out.size
    obtain ⟨v3, hs3, hr3⟩ := HM.out.row.upto len (by rw [hlx]; omega)
    have hs3 : ∀ u, (Instr.slice 22 (.slice (some ⟨g, 0, none⟩) m1 cp) none (some (.int .i64 (len : Int))) none).run Try.prog u = .ok v3 u := hs3
    rw [show (T ++ [sp]).take len = T by rw [← HN.out]; simp] at hr3
    have HX := Lib.hid (cut_any v3 T wc hr3 (by rw [HN.out]; omega))
    clear hm hb hr3 HA1 HA2 HNEW hs0 hc0 hc1 hc2 HL2 HC
    go_wp2_with (first
      | (go_at_call 10; refine HX.out.mono ?_; rintro e w3 ⟨va, rfl, hma, hb3⟩; have HMA := Lib.hid hma; have HB3 := Lib.hid hb3; have HSHP := Lib.hid hma.shape; have HQ := Lib.hid (fun q (hq : va.ownBlock = some q) => (World.ownsRow.lt hma q hq).2); have HY := Lib.hid (refCut_any _ T w3 (HLc.out.below hb3) (by rw [HN.out]; omega)); clear hma hb3 HX)
      | (go_at_call 11; refine HY.out.mono ?_; rintro e w4 ⟨vw, rfl, hmw, hb4⟩; have HMW := Lib.hid hmw; have HB4 := Lib.hid hb4; clear hmw hb4 HY))
    have HBc4 := Lib.hid (HB3.out.trans (HB4.out.mono HB3.out.size))
    have hz3 := HB3.out.size
    have hz4 := HB4.out.size
    have HMA4 := Lib.hid (HMA.out.below HB4.out)
    have HM4 := Lib.hid (HM.out.below HBc4.out)
    have HL4 := Lib.hid (HLc.out.below HBc4.out)
    have HBw4 := Lib.hid (HBc.out.trans (HBc4.out.mono HBc.out.size))
    have HCL : Hid (∀ u, Below w4.heap.size w4 u → ((u.cell? ⟨g, len * 3, none⟩ = some (.int .i64 59) ∧ u.cell? ⟨g, len * 3 + 1, none⟩ = some (.int .i64 (-7)) ∧ u.cell? ⟨g, len * 3 + 2, none⟩ = some (.int .i64 0)) ∧ u.cell? ⟨B1, 0, none⟩ = some (.int .i64 59) ∧ u.cell? ⟨B1, 1, none⟩ = some (.int .i64 (-7)) ∧ u.cell? ⟨B1, 2, none⟩ = some (.int .i64 0))) := Lib.hid (fun u hu => by
      obtain ⟨x0, x1, x2⟩ := cells_tk (HM4.out.below hu).cells len (by omega)
      rw [show (T ++ [sp])[len]'(by omega) = sp by rw [List.getElem_append_right (by rw [HN.out]; omega)]; simp] at x0 x1 x2
      rw [Nat.zero_add] at x0 x1 x2
      obtain ⟨y0, y1, y2⟩ := HCc.out
      have hb' := HBc4.out.trans (hu.mono HBc4.out.size)
      exact ⟨⟨x0, x1, x2⟩, (hb'.cell (p := ⟨B1, 0, none⟩) (by show B1 < _; omega)).trans y0, (hb'.cell (p := ⟨B1, 1, none⟩) (by show B1 < _; omega)).trans y1, (hb'.cell (p := ⟨B1, 2, none⟩) (by show B1 < _; omega)).trans y2⟩)
    have HSP : Hid (∀ u, Below w4.heap.size w4 u → Calls Try.prog 12 #[va, vw] u fun e w' => e = .returned (.bool true) ∧ Below w4.heap.size w4 w') := Lib.hid (fun u hu => (spans_any (HMA4.out.row.below hu) (HMW.out.row.below hu) (by omega)).mono fun e w' ⟨h1, h2⟩ => ⟨h1, hu.trans (h2.mono hu.size)⟩)
    obtain ⟨⟨x0, x1, x2⟩, y0, y1, y2⟩ := HCL.out w4 (Below.refl _ _)
    have hi0 : (0 : Int) ≤ (len : Int) := by omega
    have hi1 : (len : Int) < (m1 : Int) := by omega
    clear HM HMA HLc HCc HBc HB3 HB4 hs3
    go_cut [37] (fun u wx => u = .bool false ∧ Below w4.heap.size w4 wx)
    case first =>
      go_region_held3 (fun W' => (W'.cell? ⟨g, len * 3, none⟩ = some (.int .i64 59) ∧ W'.cell? ⟨g, len * 3 + 1, none⟩ = some (.int .i64 (-7)) ∧ W'.cell? ⟨g, len * 3 + 2, none⟩ = some (.int .i64 0)) ∧ W'.cell? ⟨B1, 0, none⟩ = some (.int .i64 59) ∧ W'.cell? ⟨B1, 1, none⟩ = some (.int .i64 (-7)) ∧ W'.cell? ⟨B1, 2, none⟩ = some (.int .i64 0))
        (first | exact HCL.out _ hb5 | exact HCL.out _ (Below.refl _ _).drew)
        (first
        | (go_at_call 12; refine (HSP.out _ ?_).mono ?_; (exact (Below.refl _ _).drew); rintro e w5 ⟨rfl, hb5⟩))
      all_goals (try go_wp2_with fail)
      all_goals go_meet
      all_goals exact ⟨rfl, hb5⟩
    case rest =>
      obtain ⟨rfl, hb5⟩ := hcut
      have HM5 := Lib.hid (HM4.out.below hb5)
      have HMA5 := Lib.hid (HMA4.out.below hb5)
      have HMW5 := Lib.hid (HMW.out.below hb5)
      have HBw5 := Lib.hid (HBw4.out.trans (hb5.mono HBw4.out.size))
      have hz5 := hb5.size
      have hsh : ∃ g2 oa ca, va = .slice oa (regs T).length ca ∧ (regs T ≠ [] → oa = some ⟨g2, 0, none⟩) ∧ w2.heap.size ≤ g2 ∧ g2 < w3.heap.size := by
        obtain ⟨ga, oa, ca, h1, h2, h3, h4⟩ := HSHP.out
        by_cases he : regs T = []
        · exact ⟨g, oa, ca, h1, fun h => absurd he h, hg1, by omega⟩
        · rcases h4 with h4 | ⟨h4, _⟩
          · exact ⟨ga, oa, ca, h1, h2, by omega, h4⟩
          · exact absurd h4 he
      obtain ⟨g2, oa, ca, rfl, hoa, hga1, hga2⟩ := hsh
      have HOA := Lib.hid hoa
      obtain ⟨gw, ow, cw, rfl, _, _, _⟩ := HMW.out.shape
      obtain ⟨m, hm⟩ : ∃ m, (regs T).length = m := ⟨_, rfl⟩
      rw [hm] at HMA5 HMW5 hR HQ ⊢
      have HMM := Lib.hid hm
      clear hb5 HM4 HMA4 HMW HBw4 HBc4 HL4 HCL HSP HSHP hm hoa x0 x1 x2 y0 y1 y2
      go_wp2_with fail
      go_loopw [40] (fun p wr => ∃ n : Nat, n ≤ len ∧ p = .int .i64 n ∧ Mine tk wr w2.heap.size (.slice (some ⟨g, 0, none⟩) m1 cp) (List.replicate n ⟨15, 0, 0⟩ ++ (T ++ [sp]).drop n) ∧ Save wc.heap.size g wc wr) (fun p _ => len - (intOf p).toNat)
      case atStart => exact ⟨0, Nat.zero_le _, rfl, HM5.out, Save.refl _ _ _⟩
      case round =>
        clear HM5
        obtain ⟨n, hnl, rfl, hmr, hsv⟩ := hrel
        have HMR := Lib.hid hmr
        have HSV := Lib.hid hsv
        have HBr := Lib.hid (HBw5.out.trans (hsv.below (B' := w.heap.size) (by omega) (by omega)))
        clear hmr hsv
        by_cases hlt : n < len
        · have hltT : n < T.length := by rw [HN.out]; exact hlt
          have hd : decide ((n : Int) < (len : Int)) = true := decide_eq_true (by omega)
          have hne : T ≠ [] := by rintro rfl; simp at hltT
          have ho := HO.out hne
          subst ho
          obtain ⟨c0, c1, c2⟩ := cells_tk (HCELL.out.below HBr.out) n hltT
          have hlo : n < (List.replicate n (⟨15, 0, 0⟩ : Tk) ++ (T ++ [sp]).drop n).length := by rw [over_len _ _ _ (by omega)]; omega
          obtain ⟨d0, d1, d2⟩ := cells_tk HMR.out.cells n hlo
          rw [over_at _ _ _ (by omega) hlo, List.getElem_append_left hltT, Nat.zero_add] at d0 d1 d2
          have f0 := HMR.out.free (n * 3)
          have f1 := HMR.out.free (n * 3 + 1)
          have f2 := HMR.out.free (n * 3 + 2)
          generalize T[n] = t at *
          obtain ⟨z, i1, i2⟩ := t
          simp only [] at c0 c1 c2 d0 d1 d2
          clear hne hlo
          go_wp2_with fail
          go_quiet (fail)
          go_wp2_with fail
          go_roundw
          case rel => exact ⟨n + 1, by omega, by go_num, Mine.over_tk HMR.out hlx (by omega) _, (((HSV.out.drewN _).setCell _ _).setCell _ _).setCell _ _⟩
          case measure => simp [intOf]; omega
        · have hd : decide ((n : Int) < (len : Int)) = false := decide_eq_false (by omega)
          have HMA6 := Lib.hid (HMA5.out.save HSV.out (Nat.le_refl _) hg2)
          have HMW6 := Lib.hid (HMW5.out.save HSV.out (Nat.le_refl _) (by omega))
          have hz6 := HSV.out.size
          obtain ⟨v6, w6, hrun6, hm6, hb6⟩ := copy_tk (HR.out.below HBr.out) (by rw [HN.out]; omega)
          have HRUN6 := Lib.hid hrun6
          have HMA7 := Lib.hid (HMA6.out.below hb6)
          have HMW7 := Lib.hid (HMW6.out.below hb6)
          have HB7 := Lib.hid (HBr.out.trans (hb6.mono HBr.out.size))
          have HX7 := Lib.hid (cut_any v6 T w6 hm6.row (by rw [HN.out]; omega))
          have hz7 := hb6.size
          clear hrun6 hm6 hb6 HMA6 HMW6 HMA5 HMW5 HSV HMR HBr
          go_wp2_with (first
            | (at_builtin; refine Lib.wpList_append_run _ rfl _ _ _ _ rfl _ _ rfl rfl _ _ (HRUN6.out _) ?_)
            | (go_at_call 10; refine HX7.out.mono ?_; rintro e w8 ⟨vb, rfl, hm8, hb8⟩; have HMA8 := Lib.hid (HMA7.out.below hb8); have HMW8 := Lib.hid (HMW7.out.below hb8); have HMB8 := Lib.hid hm8; have HB8 := Lib.hid (HB7.out.trans (hb8.mono HB7.out.size)); have hz8 := hb8.size; clear hm8 hb8 HX7))
          clear HMA7 HMW7 HB7 HRUN6
          go_loopw [62] (fun p wr => ∃ n : Nat, n ≤ m ∧ p = .int .i64 n ∧ (∃ K, w2.heap.size ≤ K ∧ Mine sn wr K (.slice oa m ca) (List.replicate n ⟨-1, 0⟩ ++ (regs T).drop n)) ∧ Save w8.heap.size g2 w8 wr) (fun p _ => m - (intOf p).toNat)
          case atStart => exact ⟨0, Nat.zero_le _, rfl, ⟨_, hzc, HMA8.out⟩, Save.refl _ _ _⟩
          case round =>
            obtain ⟨n2, hnl2, rfl, ⟨K, hK, hmr⟩, hsv⟩ := hrel
            have HMR := Lib.hid hmr
            have HSV := Lib.hid hsv
            have hz9 := hsv.size
            clear hmr hsv
            by_cases hlt2 : n2 < m
            · have hltR : n2 < (regs T).length := by rw [HMM.out]; exact hlt2
              have hd2 : decide ((n2 : Int) < (m : Int)) = true := decide_eq_true (by omega)
              have ho2 := HOA.out (by intro e; rw [e] at hltR; simp at hltR)
              subst ho2
              have hlo : n2 < (List.replicate n2 (⟨-1, 0⟩ : Sn) ++ (regs T).drop n2).length := by rw [over_len _ _ _ (by omega)]; exact hltR
              obtain ⟨d0, d1⟩ := cells_sn HMR.out.cells n2 hlo
              rw [Nat.zero_add] at d0 d1
              have f0 := HMR.out.free (n2 * 2)
              have f1 := HMR.out.free (n2 * 2 + 1)
              generalize (List.replicate n2 (⟨-1, 0⟩ : Sn) ++ (regs T).drop n2)[n2] = t at *
              obtain ⟨za, zb⟩ := t
              simp only [] at d0 d1
              clear hlo
              go_wp2_with fail
              go_roundw
              case rel => exact ⟨n2 + 1, by omega, by go_num, ⟨K, hK, Mine.over_sn HMR.out HMM.out hltR⟩, (HSV.out.setCell _ _).setCell _ _⟩
              case measure => simp [intOf]; omega
            · have hd2 : decide ((n2 : Int) < (m : Int)) = false := decide_eq_false (by omega)
              have HMB9 := Lib.hid (HMB8.out.save HSV.out (Nat.le_refl _) (by omega))
              have HMW9 := Lib.hid (HMW8.out.save HSV.out (Nat.le_refl _) (by omega))
              have hbz : Below w2.heap.size w8 wr := HSV.out.below (by omega) hga1
              have HB9 := Lib.hid (HB8.out.trans (hbz.mono (by omega)))
              clear hbz HMB8 HMW8 HB8 HSV
              have hln : (List.replicate n2 (⟨-1, 0⟩ : Sn) ++ (regs T).drop n2).length = m := by rw [over_len _ _ _ (by rw [HMM.out]; omega), HMM.out]
              generalize (List.replicate n2 (⟨-1, 0⟩ : Sn) ++ (regs T).drop n2) = X at *
              have HMK : Hid (∃ K', w2.heap.size ≤ K' ∧ K' ≤ wr.heap.size ∧ Mine sn wr K' (.slice oa m ca) X) := Lib.hid ⟨w2.heap.size, Nat.le_refl _, by omega, HMR.out.mono hK⟩
              obtain ⟨K', hK1, hK2, hmk⟩ := HMK.out
              obtain ⟨v9, w9, hrun9, hm9, hg9, hb9⟩ := push2_sn hmk ⟨-1, 0⟩ ⟨-1, 0⟩ hK2 (by rw [hln]; omega)
              have HB10 := Lib.hid (hb9 w.heap.size w (by omega) HB9.out)
              have hbx : Below wr.heap.size wr (wr.alloc (.cells #[.int .i64 (-1), .int .i64 0, .int .i64 (-1), .int .i64 0] 30)) := (Below.refl _ _).alloc (Nat.le_refl _) _
              have HMB10 := Lib.hid ((HMB9.out.below hbx).grown hg9 (fun q hq => by have h := HQ.out q hq; omega))
              have HMW10 := Lib.hid ((HMW9.out.below hbx).grown hg9 (fun q hq => by have h := HQ.out q hq; omega))
              obtain ⟨g9, c9, hv9, _, _⟩ := hm9.full (by simp)
              rw [List.length_append, hln] at hv9
              subst hv9
              have HRUN9 := Lib.hid hrun9
              have HSPN := Lib.hid (spans_any HMB10.out.row HMW10.out.row (by rw [HMM.out]; omega))
              clear hrun9 hm9 hg9 hb9 hbx HMK hmk HMR HB9 HMB9 HMW9
              go_wp2_with (first
                | (at_builtin; refine Lib.wpList_append_run _ rfl _ _ _ _ rfl _ _ rfl rfl _ _ (HRUN9.out _) ?_)
                | (go_at_call 12; refine HSPN.out.mono ?_; rintro e w11 ⟨rfl, hb11⟩; have HB11 := Lib.hid (HB10.out.trans (hb11.mono HB10.out.size)); clear hb11))
              go_ret
              exact ⟨rfl, HB11.out⟩
end Go.Proofs.Ytlemecnmjhhbiaa.ck
