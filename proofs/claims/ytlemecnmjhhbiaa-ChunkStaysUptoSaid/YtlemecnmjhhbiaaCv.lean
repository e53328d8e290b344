/-
  Layer 4: the law ChunkStays, within a list.
-/
import Derived.Test.YtlemecnmjhhbiaaCu
namespace Go.Proofs.Ytlemecnmjhhbiaa.ck
open Go.RowKit
set_option linter.unusedVariables false

set_option maxRecDepth 100000 in
set_option maxHeartbeats 16000000 in
theorem stays_in (v vp : Value) (T : List Tk) (K : List Int) (a : Nat) (w : World) (h1 : Row tk w v T) (h2 : Row it w vp K) (hT : T.length ≤ 1048576) (hK : K.length ≤ 1048576) (ha : a < T.length) (hb : bear (T[a]).k = false) :
    Calls Try.prog 8 #[v, .int .i64 (a : Int), vp] w (True1 w) := by
  have HS := Lib.hid (shown_any w)
  have HR := Lib.hid h1
  have HRP := Lib.hid h2
  have hRT := regs_le T
  obtain ⟨gl, ol, o, cap, hcl, rfl, ho, hcell⟩ := h1
  have ho := ho (by intro e; rw [e] at ha; simp at ha)
  subst ho
  have HA : Hid (∀ u, Below w.heap.size w u → u.cell? ⟨gl, ol + a * 3, none⟩ = some (.int .i64 (T[a]).k)) := Lib.hid (fun u hu => (cells_tk (hcell.below hu) a ha).1)
  obtain ⟨gp, op, ob, cb, hcp, rfl, hop, hpcell⟩ := h2
  have HPC := Lib.hid hpcell
  have HPO := Lib.hid hop
  have HTA := Lib.hid hb
  have HE := Lib.hid (fun u => bears_any (T[a]).k u)
  rw [hb] at HE
  obtain ⟨la, hla⟩ : ∃ la, T.length = la := ⟨_, rfl⟩
  obtain ⟨lk, hlk⟩ : ∃ lk, K.length = lk := ⟨_, rfl⟩
  rw [hla] at HR hT hRT hcl
  rw [hlk] at HRP hK hcp
  have hal : a < la := by omega
  have HNA := Lib.hid hla
  have HNK := Lib.hid hlk
  rw [HNA.out, HNK.out]
  have d2 : decide ((la : Int) ≤ (a : Int)) = false := decide_eq_false (by omega)
  have d2' : decide (la ≤ a) = false := decide_eq_false (by omega)
  clear hcell hpcell hop hb hla hlk
  go_enter Try.func8, Try.ntmps8
  go_wp2_with (first
    | (go_at_call 9; refine HS.out.mono ?_; rintro e w1 ⟨rfl, hb1⟩; have HB1 := Lib.hid hb1; have c0 := HA.out _ hb1; clear hb1 HS)
    | (go_at_call 18; refine (HE.out _).mono ?_; rintro e w2 ⟨rfl, rfl⟩))
  have hz1 := HB1.out.size
  clear d2 d2' c0 HE
  go_loopw [7, 36] (fun vv p wr => ∃ n : Nat, n ≤ lk ∧ p = .int .i64 n ∧ Mine tk wr w.heap.size vv (plainT (K.take n)) ∧ (∀ k ∈ K.take n, bear k = false) ∧ Below w.heap.size w wr) (fun _ p _ => lk - (intOf p).toNat)
  case atStart => exact ⟨0, Nat.zero_le _, rfl, Mine.nil _ _, fun k hk => by simp at hk, HB1.out⟩
  case round =>
    obtain ⟨n, hnl, rfl, hown, hpl, hb⟩ := hrel
    have HB := Lib.hid hb
    have HO := Lib.hid hown
    have HPL := Lib.hid hpl
    have hsz := hb.size
    clear hb hown hpl
    by_cases hlt : n < lk
    · have hltK : n < K.length := by rw [HNK.out]; exact hlt
      have hd : decide ((n : Int) < (lk : Int)) = true := decide_eq_true (by omega)
      have hne : K ≠ [] := by rintro rfl; simp at hltK
      have ho := HPO.out hne
      subst ho
      have c0 := cells_it (HPC.out.below HB.out) n hltK
      have hsucc := plainT_succ K n hltK
      have HPS : Hid (bear K[n] = false → ∀ k ∈ K.take (n + 1), bear k = false) := Lib.hid (fun h k hk => by
        rw [← List.take_append_getElem hltK] at hk
        rcases List.mem_append.1 hk with h' | h'
        · exact HPL.out k h'
        · simp at h'; rw [h']; exact h)
      have hlen : (plainT (K.take n)).length = n := by rw [plainT_length, List.length_take, HNK.out]; omega
      generalize K[n] = z at *
      have HSU := Lib.hid hsucc
      have HEZ := Lib.hid (fun u => bears_any z u)
      clear hne hltK hsucc
      cases hz : bear z with
      | true =>
        rw [hz] at HEZ
        clear hz
        go_wp2_with (go_at_call 18; refine (HEZ.out _).mono ?_; rintro e w2 ⟨rfl, rfl⟩)
        go_ret
        exact ⟨rfl, HB.out⟩
      | false =>
        rw [hz] at HEZ
        have HPN := Lib.hid (HPS.out hz)
        obtain ⟨v', w', hrun, hm', hbel⟩ := push_tk HO.out z 0 0 hsz (by rw [hlen]; omega)
        have HRUN := Lib.hid hrun
        rw [← HSU.out] at hm'
        have HM' := Lib.hid hm'
        have HB' := Lib.hid (hbel w.heap.size w (Nat.le_refl _) HB.out)
        clear hrun hm' hbel hz hlen
        go_wp2_with (first | (go_at_call 18; refine (HEZ.out _).mono ?_; rintro e w2 ⟨rfl, rfl⟩) | (at_builtin; refine Lib.wpList_append_run _ rfl _ _ _ _ rfl _ _ rfl rfl _ _ (HRUN.out _) ?_))
        go_roundw
        case rel => exact ⟨n + 1, by omega, by go_num, HM'.out, HPN.out, HB'.out⟩
        case measure => simp [intOf]; omega
    · have hd : decide ((n : Int) < (lk : Int)) = false := decide_eq_false (by omega)
      have htk : K.take n = K := List.take_of_length_le (by rw [HNK.out]; omega)
      rw [htk] at HO HPL
      have hP : ∀ x ∈ plainT K, bear x.k = false := fun x hx => by
        unfold plainT at hx
        rw [List.mem_map] at hx
        obtain ⟨k, hk, rfl⟩ := hx
        exact HPL.out k hk
      have hPl : (plainT K).length = lk := by rw [plainT_length, HNK.out]
      obtain ⟨gs, os, cs, hvs, _, _, _⟩ := HO.out.shape
      rw [hPl] at hvs
      subst hvs
      have HX := Lib.hid (cut_any _ T wr (HR.out.below HB.out) (by rw [HNA.out]; omega))
      clear htk HPL HPC HPO HRP HB1
      go_wp2_with (go_at_call 10; refine HX.out.mono ?_; rintro e w2 ⟨vr, rfl, hm2, hb2⟩; have HO2 := Lib.hid (HO.out.below hb2); have HB2 := Lib.hid (HB.out.trans (hb2.mono hsz)); have HR2 := Lib.hid hm2.row; obtain ⟨gr, or', ro, rc, hrc, hvr, hro, hrcell⟩ := HR2.out; subst hvr; have HRC := Lib.hid hrcell; have HRO := Lib.hid hro; clear hm2 hb2 hrcell hro HX HO HB)
      obtain ⟨m, hm⟩ : ∃ m, (regs T).length = m := ⟨_, rfl⟩
      rw [hm] at hRT hrc HR2 ⊢
      have HM := Lib.hid hm
      have hz2 := HB2.out.size
      clear hm
      -- TAIL
      have hXl : (T.take a).length = a := by rw [List.length_take, HNA.out]; omega
      have hYl : (T.drop (a + 1)).length = la - (a + 1) := by rw [List.length_drop, HNA.out]
      obtain ⟨O, fr, mm, Z, g1, g2, g3, g4, g5, g6⟩ := stays_plain (T.take a) (T.drop (a + 1)) (plainT K) T[a] HTA.out hP
      rw [← split_at T a ha, hXl] at g4
      rw [hXl] at g1 g3 g5 g6
      rw [hYl] at g2
      rw [hPl] at g5 g6
      obtain ⟨vX, hsX, hrX⟩ := (HR.out.below HB2.out).upto a (by rw [HNA.out]; omega)
      obtain ⟨vY, hsY, hrY⟩ := (HR.out.below HB2.out).from (a + 1) (by rw [HNA.out]; omega)
      have hsX : ∀ u, (Instr.slice 22 (.slice (some ⟨gl, ol, none⟩) la cap) none (some (.int .i64 (a : Int))) none).run Try.prog u = .ok vX u := hsX
      have hsY : ∀ u, (Instr.slice 22 (.slice (some ⟨gl, ol, none⟩) la cap) (some (.int .i64 ((a : Int) + 1))) none none).run Try.prog u = .ok vY u := hsY
      have ea : IntKind.i64.wrap ((a : Int) + 1) = (a : Int) + 1 := IntWalk.i64_in _ (by omega)
      have HA1 : Hid (∀ u, Below w2.heap.size w2 u → ∃ v' w', (∀ ty, (Builtin.append_ #[22, 22] ty #[.slice none 0 0, vX]).run Try.prog u = .ok v' w') ∧ (Mine tk w' w2.heap.size v' (T.take a) ∧ Below w2.heap.size w2 w')) := Lib.hid (fun u hu => by
        obtain ⟨v', w', q1, q2, q3⟩ := copy_tk (hrX.below hu) (by rw [hXl]; omega)
        exact ⟨v', w', q1, q2.mono hu.size, hu.trans (q3.mono hu.size)⟩)
      have HA2 : Hid (∀ u v1, Mine tk u w2.heap.size v1 (T.take a) → Below w2.heap.size w2 u → ∃ v' w', (∀ ty, (Builtin.append_ #[22, 22] ty #[v1, .slice os lk cs]).run Try.prog u = .ok v' w') ∧ (Mine tk w' w2.heap.size v' (T.take a ++ plainT K) ∧ Below w2.heap.size w2 w')) := Lib.hid (fun u v1 hm hu => by
        obtain ⟨v', w', q1, q2, q3⟩ := run_append_row hm (HO2.out.row.below hu) hu.size (by rw [hXl, hPl]; simp [maxLen]; omega) (by rw [hXl, hPl]; show (a + lk) * 24 ≤ _; omega)
        exact ⟨v', w', q1, q2, hm.more hu (Nat.le_refl _) hu.size q3⟩)
      have HA3 : Hid (∀ u v1, Mine tk u w2.heap.size v1 (T.take a ++ plainT K) → Below w2.heap.size w2 u → ∃ v' w', (∀ ty, (Builtin.append_ #[22, 22] ty #[v1, vY]).run Try.prog u = .ok v' w') ∧ (Mine tk w' w2.heap.size v' (T.take a ++ (plainT K ++ T.drop (a + 1))) ∧ Below w2.heap.size w2 w')) := Lib.hid (fun u v1 hm hu => by
        obtain ⟨v', w', q1, q2, q3⟩ := run_append_row hm (hrY.below hu) hu.size (by rw [List.length_append, hXl, hPl, hYl]; simp [maxLen]; omega) (by rw [List.length_append, hXl, hPl, hYl]; show (a + lk + (la - (a + 1))) * 24 ≤ _; omega)
        exact ⟨v', w', q1, by rw [← List.append_assoc]; exact q2, hm.more hu (Nat.le_refl _) hu.size q3⟩)
      have hT2 : (T.take a ++ (plainT K ++ T.drop (a + 1))).length = a + (lk + (la - (a + 1))) := by rw [List.length_append, List.length_append, hXl, hPl, hYl]
      generalize (T.take a ++ (plainT K ++ T.drop (a + 1))) = T2 at *
      have HG := Lib.hid (And.intro g4 (And.intro g5 g6))
      have HG3 := Lib.hid g3
      clear g3 g4 g5 g6 hrX hrY hXl hYl hP hPl
      go_loopw [11] (fun p wr2 => ∃ n2 : Nat, n2 ≤ m ∧ p = .int .i64 n2 ∧ n2 + toN (a : Int) ((regs T).drop n2) = toN (a : Int) (regs T) ∧ wr2 = w2) (fun p _ => m - (intOf p).toNat)
      case atStart => exact ⟨0, Nat.zero_le _, rfl, by simp, rfl⟩
      case round =>
        obtain ⟨n2, hn2, rfl, hle, hw2⟩ := hrel
        have hw3 := hw2.symm
        subst hw3
        clear hw2
        have HL := Lib.hid hle
        clear hle
        by_cases hlt2 : n2 < m
        · have hltR : n2 < (regs T).length := by rw [HM.out]; exact hlt2
          have hd2 : decide ((n2 : Int) < (m : Int)) = true := decide_eq_true (by omega)
          have hne : regs T ≠ [] := by intro e; rw [e] at hltR; simp at hltR
          have hro := HRO.out hne
          subst hro
          obtain ⟨c0, c1⟩ := cells_sn HRC.out n2 hltR
          rw [List.drop_eq_getElem_cons hltR, toN] at HL
          by_cases hba : ((regs T)[n2]).b ≤ (a : Int)
          · rw [if_pos hba] at HL
            generalize (regs T)[n2] = t at *
            obtain ⟨ra, rb⟩ := t
            simp only [] at c0 c1 hba
            have hdx : decide (rb ≤ (a : Int)) = true := decide_eq_true hba
            clear hba hne
            go_wp2_with fail
            go_roundw
            case rel => exact ⟨n2 + 1, by omega, by go_num, by rw [← HL.out]; omega, by trivial⟩
            case measure => simp [intOf]; omega
          · rw [if_neg hba, Nat.add_zero] at HL
            have hRR : regs T = O ++ ⟨fr, (a + 1 + mm : Nat)⟩ :: Z.map (shift (a + 1 + mm)) := by
              rcases HG.out.1 with h | h
              · have := toN_all (a : Int) O [] HG3.out
                rw [List.append_nil, ← h] at this
                simp only [toN, Nat.add_zero] at this
                have h' : (regs T).length = O.length := by rw [h]
                have := HM.out
                have := HL.out
                omega
              · exact h
            have hn : n2 = O.length := by
              have := toN_all (a : Int) O (⟨fr, (a + 1 + mm : Nat)⟩ :: Z.map (shift (a + 1 + mm))) HG3.out
              rw [← hRR, toN, if_neg (by simp only []; omega), Nat.add_zero] at this
              rw [HL.out, this]
            have hmm : m = n2 + 1 + Z.length := by
              have := HM.out
              rw [hRR, List.length_append, List.length_cons, List.length_map] at this
              omega
            have hRn : (regs T)[n2] = ⟨fr, (a + 1 + mm : Nat)⟩ := by
              simp only [hRR]
              rw [List.getElem_append_right (by omega)]
              simp [hn]
            rw [hRn] at c0 c1 hba
            simp only [] at c0 c1 hba
            obtain ⟨zt, hzt⟩ : ∃ zt, zt = a + 1 + mm := ⟨_, rfl⟩
            rw [← hzt] at c1 hba hRR
            have hdx : decide ((zt : Int) ≤ (a : Int)) = false := decide_eq_false hba
            have hdx' : decide (zt ≤ a) = false := decide_eq_false (by omega)
            have hnm : ((n2 : Int) == (m : Int)) = false := beq_eq_false_iff_ne.2 (by omega)
            have HRR := Lib.hid hRR
            have HNN := Lib.hid hn
            have HMZ := Lib.hid hmm
            have HZT := Lib.hid hzt
            have hzta : a < zt ∧ zt ≤ la := by omega
            clear hba hne hRR hn hmm hRn HL hzt
            go_wp2_with fail
            have hix0 : (0 : Int) ≤ (a : Int) := by omega
            have hix1 : (a : Int) ≤ (la : Int) := by omega
            have hix2 : (a : Int) + 1 ≤ (la : Int) := by omega
            go_cut [12] (fun u wx => Mine tk wx w2.heap.size u T2 ∧ Below w2.heap.size w2 wx)
            case first =>
              go_region_held3 (fun _ => True) (first | trivial)
                (first
                | (refine step_append_ex rfl _ _ _ _ rfl _ _ rfl rfl (HA1.out _ ?_) ?_; (exact (Below.refl _ _).drew); rintro v3 w3 ⟨hm3, hb3⟩)
                | (refine step_append_ex rfl _ _ _ _ rfl _ _ rfl rfl (HA2.out _ _ hm3 hb3) ?_; rintro v4 w4 ⟨hm4, hb4⟩)
                | (refine step_append_ex rfl _ _ _ _ rfl _ _ rfl rfl (HA3.out _ _ hm4 hb4) ?_; rintro v5 w5 ⟨hm5, hb5⟩))
              all_goals (try go_wp2_with fail)
              all_goals go_meet
              all_goals exact ⟨hm5, hb5⟩
            case rest =>
              obtain ⟨hmc, hbc⟩ := hcut
              have HMC := Lib.hid hmc
              have HBC := Lib.hid hbc
              obtain ⟨_, o2, k2, hv2, _, _, _⟩ := hmc.shape
              rw [hT2] at hv2
              subst hv2
              have hzc := hbc.size
              have HX2 := Lib.hid (cut_any _ T2 wc hmc.row (by rw [hT2]; omega))
              clear hmc hbc HA1 HA2 HA3 hsX hsY ea c0 c1
              obtain ⟨l2, hl2⟩ : ∃ l2, l2 = a + (lk + (la - (a + 1))) := ⟨_, rfl⟩
              rw [← hl2] at HMC hT2 HX2 ⊢
              have HL2 := Lib.hid hl2
              clear hl2
              go_wp2_with (go_at_call 10; refine HX2.out.mono ?_; rintro e w6 ⟨vz, rfl, hm6, hb6⟩; have HMZ6 := Lib.hid hm6.row; have HB6 := Lib.hid (HBC.out.trans (hb6.mono hzc)); have HM6 := Lib.hid (HMC.out.below hb6); clear hm6 hb6 HX2)
              obtain ⟨hi, hhi⟩ : ∃ hi, hi = a + lk + mm := ⟨_, rfl⟩
              obtain ⟨z2, hz2'⟩ : ∃ z2, z2 = zt + lk := ⟨_, rfl⟩
              have hzt2 := HZT.out
              have hrow6 := HM6.out.row
              have hl22 := HL2.out
              have hzc6 := HB6.out.size
              obtain ⟨vM, hsM, hrM⟩ := hrow6.mid fr hi (by omega) (by rw [hT2]; omega)
              have hsM : ∀ u, (Instr.slice 22 (.slice o2 l2 k2) (some (.int .i64 (fr : Int))) (some (.int .i64 (hi : Int))) none).run Try.prog u = .ok vM u := hsM
              have HCW : Hid (∀ c, weigh ((T2.drop fr).take (hi - fr)) = c → ∀ u, Below w6.heap.size w6 u → Calls Try.prog 17 #[vM] u fun e w' => e = .returned (.bool c) ∧ Below w6.heap.size w6 w') := Lib.hid (fun c hc u hu => (weighs_any vM _ u (hrM.below hu) (by rw [List.length_take, List.length_drop, hT2]; omega)).mono fun e w' ⟨q1, q2⟩ => ⟨by rw [q1, hc], hu.grown q2 hu.size (fun r e => by cases e)⟩)
              have HCC : Hid (∀ u, Below w6.heap.size w6 u → u.cell? ⟨gr, or' + n2 * 2, none⟩ = some (.int .i64 (fr : Int)) ∧ u.cell? ⟨gr, or' + n2 * 2 + 1, none⟩ = some (.int .i64 (zt : Int))) := Lib.hid (fun u hu => by
                obtain ⟨q0, q1⟩ := cells_sn (HRC.out.below (HB6.out.trans (hu.mono hzc6))) n2 hltR
                have hRn : (regs T)[n2] = ⟨fr, (zt : Int)⟩ := by
                  simp only [HRR.out]
                  rw [List.getElem_append_right (by rw [HNN.out]; exact Nat.le_refl _)]
                  simp [HNN.out]
                rw [hRn] at q0 q1
                exact ⟨q0, q1⟩)
              have ex1 : IntKind.i64.wrap ((zt : Int) + (lk : Int)) = (z2 : Int) := by rw [IntWalk.i64_in _ (by omega)]; omega
              have ex2 : IntKind.i64.wrap ((z2 : Int) - 1) = (hi : Int) := by rw [IntWalk.i64_in _ (by omega)]; omega
              have hsum : (zt : Int) + (lk : Int) - 1 = (hi : Int) := by omega
              have hsM2 : ∀ u, (Instr.slice 22 (.slice o2 l2 k2) (some (.int .i64 (fr : Int))) (some (.int .i64 ((zt : Int) + (lk : Int) - 1))) none).run Try.prog u = .ok vM u := by rw [hsum]; exact hsM
              have hsM3 : ∀ u, (Instr.slice 22 (.slice o2 l2 k2) (some (.int .i64 (fr : Int))) (some (.int .i64 (IntKind.i64.wrap (IntKind.i64.wrap ((zt : Int) + (lk : Int)) - 1)))) none).run Try.prog u = .ok vM u := by rw [ex1, ex2]; exact hsM
              clear hsum
              have hn20 : (0 : Int) ≤ (n2 : Int) := by omega
              have hn21 : (n2 : Int) < (m : Int) := by omega
              obtain ⟨q0, q1⟩ := HCC.out w6 (Below.refl _ _)
              have hs6 : w6.drew.cell? ⟨gr, or' + n2 * 2, none⟩ = some (.int .i64 (fr : Int)) ∧ w6.drew.cell? ⟨gr, or' + n2 * 2 + 1, none⟩ = some (.int .i64 (zt : Int)) := ⟨q0, q1⟩
              have HHI := Lib.hid hhi
              have hbnd : (0 : Int) ≤ (zt : Int) ∧ (zt : Int) ≤ 1048576 ∧ (lk : Int) ≤ 1048576 := by omega
              clear hrM hrow6 hhi hz2' hzt2 hl22
              obtain ⟨oz, cz, hvz⟩ := HMZ6.out.len
              obtain ⟨sz, hsz'⟩ : ∃ sz, (regs T2).length = sz := ⟨_, rfl⟩
              rw [hsz'] at hvz
              subst hvz
              have HSZ := Lib.hid hsz'
              clear hsz'
              cases hcw : weigh ((T2.drop fr).take (hi - fr)) with
              | false =>
                have HWG := Lib.hid (HCW.out _ hcw)
                have HCWF := Lib.hid hcw
                clear hcw HCW
                go_cut [99] (fun u wx => u = .bool true ∧ Below w6.heap.size w6 wx)
                case first =>
                  go_region_held3 (fun W' => W'.cell? ⟨gr, or' + n2 * 2, none⟩ = some (.int .i64 (fr : Int)) ∧ W'.cell? ⟨gr, or' + n2 * 2 + 1, none⟩ = some (.int .i64 (zt : Int)))
                    (first | exact hs6 | exact HCC.out _ hb7)
                    (first
                    | (go_at_call 17; refine (HWG.out _ ?_).mono ?_; (exact (Below.refl _ _).drew); rintro e w7 ⟨rfl, hb7⟩))
                  all_goals (try go_wp2_with fail)
                  all_goals go_meet
                  all_goals exact ⟨rfl, hb7⟩
                case rest =>
                  obtain ⟨rfl, hb8⟩ := hcut
                  have HB8 := Lib.hid (HB2.out.trans ((HB6.out.trans (hb8.mono hzc6)).mono hz2))
                  have hg5 := HG.out.2.1
                  have hg6 := HG.out.2.2
                  rw [← HHI.out, HCWF.out, if_neg (by simp), List.append_nil] at hg5
                  rw [← HHI.out] at hg6
                  have hZ := hg6 HCWF.out
                  obtain rfl : sz = n2 := by rw [← HSZ.out, hg5, HNN.out]
                  obtain rfl : m = sz + 1 := by have := HMZ.out; rw [hZ] at this; simpa using this
                  clear hg5 hg6 hZ hb8
                  go_wp2_with fail
                  go_ret
                  exact ⟨rfl, HB8.out⟩
              | true =>
                have HWG := Lib.hid (HCW.out _ hcw)
                have HCWF := Lib.hid hcw
                clear hcw HCW
                go_cut [99] (fun u wx => u = .bool false ∧ Below w6.heap.size w6 wx)
                case first =>
                  go_region_held3 (fun W' => W'.cell? ⟨gr, or' + n2 * 2, none⟩ = some (.int .i64 (fr : Int)) ∧ W'.cell? ⟨gr, or' + n2 * 2 + 1, none⟩ = some (.int .i64 (zt : Int)))
                    (first | exact hs6 | exact HCC.out _ hb7)
                    (first
                    | (go_at_call 17; refine (HWG.out _ ?_).mono ?_; (exact (Below.refl _ _).drew); rintro e w7 ⟨rfl, hb7⟩))
                  all_goals (try go_wp2_with fail)
                  all_goals go_meet
                  all_goals exact ⟨rfl, hb7⟩
                case rest =>
                  obtain ⟨rfl, hb8⟩ := hcut
                  have HB8 := Lib.hid hb8
                  have hg5 := HG.out.2.1
                  rw [← HHI.out, HCWF.out, if_pos rfl] at hg5
                  have hszm : sz = m := by rw [← HSZ.out, hg5, List.length_append, List.length_cons, List.length_map]; have h1 := HNN.out; have h2 := HMZ.out; omega
                  have hhl : (hi : Int) = (zt : Int) + ((lk : Int) - 1) := by have h1 := HHI.out; have h2 := HZT.out; omega
                  obtain ⟨st, hst⟩ := chain_regs T
                  have HROW : Hid (∀ i (hi1 : i < m), ∃ ra rb : Int, (0 ≤ ra ∧ ra ≤ 1048576) ∧ (0 ≤ rb ∧ rb ≤ 1048576) ∧ (∀ u, Below w6.heap.size w6 u → (u.cell? ⟨gr, or' + i * 2, none⟩ = some (.int .i64 ra) ∧ u.cell? ⟨gr, or' + i * 2 + 1, none⟩ = some (.int .i64 rb))) ∧
                      ∃ gz oz', oz = some ⟨gz, oz', none⟩ ∧ ∀ u, Below w6.heap.size w6 u → (u.cell? ⟨gz, oz' + i * 2, none⟩ = some (.int .i64 (ra + (if n2 < i then (lk : Int) - 1 else 0))) ∧ u.cell? ⟨gz, oz' + i * 2 + 1, none⟩ = some (.int .i64 (rb + (if n2 ≤ i then (lk : Int) - 1 else 0))))) := Lib.hid (fun i hi1 => by
                    have hiR : i < (regs T).length := by rw [HM.out]; exact hi1
                    have hiS : i < (regs T2).length := by rw [HSZ.out, hszm]; exact hi1
                    obtain ⟨k1, k2', k3, _, _⟩ := hst.at' i hiR
                    rw [HNA.out] at k3
                    refine ⟨st i, st (i + 1), by omega, by omega, fun u hu => ?_, ?_⟩
                    · have := cells_sn (HRC.out.below (HB6.out.trans (hu.mono hzc6))) i hiR
                      rw [k1] at this
                      exact this
                    · obtain ⟨gz, oz', o'', c'', _, hv'', ho'', hcell''⟩ := HMZ6.out
                      obtain ⟨rfl, -, -⟩ := Value.slice.inj hv''
                      refine ⟨gz, oz', ho'' (by intro e; rw [e] at hiS; simp at hiS), fun u hu => ?_⟩
                      have := cells_sn (hcell''.below hu) i hiS
                      have hat := stays_at O Z fr zt hi lk i hhl (by rw [← HRR.out]; exact hiR) (by rw [← hg5]; exact hiS)
                      simp only [← HRR.out, ← hg5, ← HNN.out, k1] at hat
                      rw [hat.1, hat.2] at this
                      exact this)
                  subst hszm
                  clear hg5 hhl hst hb8 q0 q1 hs6 HCC
                  have hz8 := HB8.out.size
                  go_wp2_with fail
                  go_loopw [113] (fun p wr3 => ∃ i : Nat, i ≤ sz ∧ p = .int .i64 i ∧ Below w6.heap.size w6 wr3) (fun p _ => sz - (intOf p).toNat)
                  case atStart => exact ⟨0, Nat.zero_le _, rfl, HB8.out⟩
                  case round =>
                    obtain ⟨i, hisz, rfl, hb9⟩ := hrel
                    have hz9 := hb9.size
                    by_cases hlt3 : i < sz
                    · have hd3 : decide ((i : Int) < (sz : Int)) = true := decide_eq_true (by omega)
                      obtain ⟨ra, rb, hra, hrb, hrc', gz, oz', rfl, hsc⟩ := HROW.out i hlt3
                      obtain ⟨c0, c1⟩ := hrc' wr hb9
                      have HSC := Lib.hid hsc
                      have HB9 := Lib.hid hb9
                      clear hsc hrc' hb9
                      rcases Nat.lt_trichotomy i n2 with hc | hc | hc
                      · have t1 : decide (n2 < i) = false := decide_eq_false (by omega)
                        have t1' : decide ((n2 : Int) < (i : Int)) = false := decide_eq_false (by omega)
                        have t2 : decide (n2 ≤ i) = false := decide_eq_false (by omega)
                        have t2' : decide ((n2 : Int) ≤ (i : Int)) = false := decide_eq_false (by omega)
                        go_wp2_with fail
                        obtain ⟨wx, hwx⟩ : ∃ wx, wr.alloc (.cells #[.int .i64 (ra), .int .i64 (rb)] 30) = wx := ⟨_, rfl⟩
                        have hhx := heap_alloc_last wr (.cells #[.int .i64 (ra), .int .i64 (rb)] 30)
                        have hbx : Below w6.heap.size w6 wx := by rw [← hwx]; exact HB9.out.alloc (by omega) _
                        rw [hwx] at hhx ⊢
                        obtain ⟨⟨k0, k1⟩, _⟩ := two_at wx _ _ _ _ hhx
                        obtain ⟨s0, s1⟩ := HSC.out wx hbx
                        rw [if_neg (by omega), Int.add_zero] at s0 s1
                        obtain ⟨bx, hbxe⟩ : ∃ bx, wr.heap.size = bx := ⟨_, rfl⟩
                        rw [hbxe] at k0 k1 ⊢
                        have HBX := Lib.hid hbx
                        clear hwx hhx hbx hbxe c0 c1 HB9 HSC
                        go_quiet (fail)
                        go_wp2_with fail
                        go_roundw
                        case rel => exact ⟨i + 1, by omega, by go_num, below_drewN HBX.out _⟩
                        case measure => simp [intOf]; omega
                      · have t1 : decide (n2 < i) = false := decide_eq_false (by omega)
                        have t1' : decide ((n2 : Int) < (i : Int)) = false := decide_eq_false (by omega)
                        have t2 : decide (n2 ≤ i) = true := decide_eq_true (by omega)
                        have t2' : decide ((n2 : Int) ≤ (i : Int)) = true := decide_eq_true (by omega)
                        have HCI := Lib.hid hc
                        clear hc
                        go_wp2_with fail
                        obtain ⟨wx, hwx⟩ : ∃ wx, wr.alloc (.cells #[.int .i64 (ra), .int .i64 (rb + ((lk : Int) - 1))] 30) = wx := ⟨_, rfl⟩
                        have hhx := heap_alloc_last wr (.cells #[.int .i64 (ra), .int .i64 (rb + ((lk : Int) - 1))] 30)
                        have hbx : Below w6.heap.size w6 wx := by rw [← hwx]; exact HB9.out.alloc (by omega) _
                        rw [hwx] at hhx ⊢
                        obtain ⟨⟨k0, k1⟩, _⟩ := two_at wx _ _ _ _ hhx
                        obtain ⟨s0, s1⟩ := HSC.out wx hbx
                        rw [if_neg (by have h := HCI.out; omega), Int.add_zero] at s0
                        rw [if_pos (by have h := HCI.out; omega)] at s1
                        obtain ⟨bx, hbxe⟩ : ∃ bx, wr.heap.size = bx := ⟨_, rfl⟩
                        rw [hbxe] at k0 k1 ⊢
                        have HBX := Lib.hid hbx
                        clear hwx hhx hbx hbxe c0 c1 HB9 HSC
                        go_quiet (fail)
                        go_wp2_with fail
                        go_roundw
                        case rel => exact ⟨i + 1, by omega, by go_num, below_drewN HBX.out _⟩
                        case measure => simp [intOf]; omega
                      · have t1 : decide (n2 < i) = true := decide_eq_true (by omega)
                        have t1' : decide ((n2 : Int) < (i : Int)) = true := decide_eq_true (by omega)
                        have t2 : decide (n2 ≤ i) = true := decide_eq_true (by omega)
                        have t2' : decide ((n2 : Int) ≤ (i : Int)) = true := decide_eq_true (by omega)
                        go_wp2_with fail
                        obtain ⟨wx, hwx⟩ : ∃ wx, wr.alloc (.cells #[.int .i64 (ra + ((lk : Int) - 1)), .int .i64 (rb + ((lk : Int) - 1))] 30) = wx := ⟨_, rfl⟩
                        have hhx := heap_alloc_last wr (.cells #[.int .i64 (ra + ((lk : Int) - 1)), .int .i64 (rb + ((lk : Int) - 1))] 30)
                        have hbx : Below w6.heap.size w6 wx := by rw [← hwx]; exact HB9.out.alloc (by omega) _
                        rw [hwx] at hhx ⊢
                        obtain ⟨⟨k0, k1⟩, _⟩ := two_at wx _ _ _ _ hhx
                        obtain ⟨s0, s1⟩ := HSC.out wx hbx
                        rw [if_pos (by omega)] at s0 s1
                        obtain ⟨bx, hbxe⟩ : ∃ bx, wr.heap.size = bx := ⟨_, rfl⟩
                        rw [hbxe] at k0 k1 ⊢
                        have HBX := Lib.hid hbx
                        clear hwx hhx hbx hbxe c0 c1 HB9 HSC
                        go_quiet (fail)
                        go_wp2_with fail
                        go_roundw
                        case rel => exact ⟨i + 1, by omega, by go_num, below_drewN HBX.out _⟩
                        case measure => simp [intOf]; omega
                    · have hd3 : decide ((i : Int) < (sz : Int)) = false := decide_eq_false (by omega)
                      go_wp2_with fail
                      go_ret
                      exact ⟨rfl, HB2.out.trans ((HB6.out.trans (hb9.mono hzc6)).mono hz2)⟩
        · have hd2 : decide ((n2 : Int) < (m : Int)) = false := decide_eq_false (by omega)
          obtain rfl : n2 = m := by omega
          go_wp2_with fail
          go_ret
          exact ⟨rfl, HB2.out⟩
theorem stays_law (v vp : Value) (T : List Tk) (x : Int) (K : List Int) (w : World) (h1 : Row tk w v T) (h2 : Row it w vp K) (hT : T.length ≤ 1048576) (hK : K.length ≤ 1048576) :
    Calls Try.prog 8 #[v, .int .i64 x, vp] w (True1 w) := by
  by_cases hx : x < 0
  · exact stays_low v vp T K x w h1 h2 hx
  by_cases hl : (T.length : Int) ≤ x
  · exact stays_high v vp T K x w h1 h2 hx hl
  obtain ⟨a, rfl⟩ : ∃ a : Nat, x = (a : Int) := ⟨x.toNat, by omega⟩
  have ha : a < T.length := by omega
  cases hb : bear (T[a]).k with
  | true => exact stays_bear v vp T K a w h1 h2 ha hb
  | false => exact stays_in v vp T K a w h1 h2 hT hK ha hb
end Go.Proofs.Ytlemecnmjhhbiaa.ck
