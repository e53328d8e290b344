/-
  The law TokenQuotes: a list with bytes.
-/
import Derived.Test.YtbmmbaagcglomaaDoorQuoteBase
namespace Go.Proofs.YtbmmbaagcglomaaDoor.tok
open Go.RowKit

set_option maxRecDepth 100000 in
set_option maxHeartbeats 8000000 in
theorem quotes_some (g off cap : Nat) (ow : Option Addr) (nw cw : Nat) (bs : List UInt8) (fl : Nat → Bool) (w : World) (HE : Hid (Env w)) (hl : bs.length ≤ 134217728)
    (HC : Hid (∀ j (h : j < bs.length), w.cell? ⟨g, off + j, none⟩ = some (.int .u8 (bs[j].toNat : Int)))) (hg : g < w.heap.size)
    (HCV : Hid (∀ W : World, Below w.heap.size w W → (convert 38 9 (.slice (some ⟨g, off, none⟩) bs.length cap)).run Tryd.prog W = .ok (.string (B bs)) W))
    (HW : Hid (∀ j, j < nw → ∃ gw offw z, ow = some ⟨gw, offw, none⟩ ∧ gw < w.heap.size ∧ w.cell? ⟨gw, offw + j, none⟩ = some (.int .i64 z) ∧ (-9223372036854775808 ≤ z ∧ z ≤ 9223372036854775807) ∧ fl j = (z.tmod 2 != 0)))
    (HW0 : Hid (∀ j, nw ≤ j → fl j = false)) :
    Calls Tryd.prog 9 #[.slice (some ⟨g, off, none⟩) bs.length cap, .slice ow nw cw] w (Gives (.bool true) w) := by
  have hd : decide ((134217728 : Int) < (bs.length : Int)) = false := decide_eq_false (by omega)
  go_enter Tryd.func9, Tryd.ntmps9
  go_wp2_with (go_at_call 10; refine (shown_any _ HE.out).mono ?_; rintro e w1 ⟨rfl, hb1⟩; have B0 := Lib.hid hb1; clear hb1)
  go_loopw [5, 6, 7, 35] (fun s r p i wr => ∃ k : Nat, k ≤ bs.length ∧ i = .int .i64 k ∧ s = .string (B (escs (pairs bs fl k))) ∧ r = .string (B (noBQ (bs.take k))) ∧ p = .string (B (noCR (noBQ (bs.take k)))) ∧ Below w.heap.size w wr) (fun _ _ _ i _ => bs.length - (intOf i).toNat)
  case atStart => exact ⟨0, Nat.zero_le _, rfl, rfl, rfl, rfl, B0.out⟩
  case round =>
    obtain ⟨k, hk, rfl, rfl, rfl, rfl, hbel⟩ := hrel
    have hsz := hbel.size
    have HB := Lib.hid hbel
    by_cases hlt : k < bs.length
    · have hcell := (hbel.cell (p := ⟨g, off + k, none⟩) hg).trans (HC.out k hlt)
      have HPN := Lib.hid (pairs_succ bs fl k hlt)
      have HRK := Lib.hid (noBQ_snoc bs k hlt)
      obtain ⟨c, hc⟩ : ∃ c, bs[k] = c := ⟨_, rfl⟩
      rw [hc] at hcell HPN HRK
      have hc0 : (0 : Int) ≤ (c.toNat : Int) := by omega
      have hc1 : (c.toNat : Int) ≤ 255 := by have := UInt8.toNat_lt c; omega
      have HSL : Hid ((escs (pairs bs fl k)).length ≤ 536870912) := Lib.hid (by rw [escs_length, pairs_length]; omega)
      have HRL : Hid ((noBQ (bs.take k)).length ≤ 134217728) := Lib.hid (Nat.le_trans (noBQ_few _) (by rw [List.length_take]; omega))
      have HPL : Hid ((noCR (noBQ (bs.take k))).length ≤ 134217728) := Lib.hid (Nat.le_trans (noCR_few _) HRL.out)
      clear hc
      obtain ⟨S, hS⟩ : ∃ S, escs (pairs bs fl k) = S := ⟨_, rfl⟩
      have HSS := Lib.hid hS
      obtain ⟨R, hR⟩ : ∃ R, noBQ (bs.take k) = R := ⟨_, rfl⟩
      obtain ⟨P, hP⟩ : ∃ P, noCR R = P := ⟨_, rfl⟩
      rw [hR] at HRK HRL HPL ⊢
      rw [hP] at HPL ⊢
      have HPP := Lib.hid hP
      rw [hS] at HSL ⊢
      clear hR hP hS
      by_cases hkw : k < nw
      · obtain ⟨gw, offw, z, how, hgw, hwc, ⟨hz0, hz1⟩, hfl⟩ := HW.out k hkw
        subst how
        have hwcell := (hbel.cell (p := ⟨gw, offw + k, none⟩) hgw).trans hwc
        clear hwc hbel
        cases hodd : (z.tmod 2 != 0) with
        | true =>
          rw [hodd] at hfl
          have HFL : Hid (fl k = true) := Lib.hid hfl
          clear hfl
          have HSN : Hid (escs (pairs bs fl (k + 1)) = S ++ escL true c) := Lib.hid (by rw [HPN.out, escs_snoc, HFL.out, HSS.out])
          have RC := rune_calls true c
          have hpiece := oct_piece c
          obtain ⟨E, hE⟩ : ∃ E, escL true c = E := ⟨_, rfl⟩
          have hEl : E.length = 4 := by rw [← hE]; exact escL_length _ _
          rw [hE] at HSN RC hpiece
          have k1 : Op.stringOp .add (B S) (B E) = pure (.string (B (S ++ E))) := cat_eq (by have := HSL.out; omega)
          have k2 : Op.stringOp .add { data := #[39] } (B E) = pure (.string (B ([39] ++ E))) := cat_eq (x := [39]) (y := E) (by simp; omega)
          have k3 : Op.stringOp .add (B ([39] ++ E)) { data := #[39] } = pure (.string (B ([39] ++ E ++ [39]))) := cat_eq (x := [39] ++ E) (y := [39]) (by simp; omega)
          obtain ⟨q1, e1⟩ : ∃ x, [39] ++ E = x := ⟨_, rfl⟩
          rw [e1] at RC k2 k3
          obtain ⟨q2, e2⟩ : ∃ x, q1 ++ [39] = x := ⟨_, rfl⟩
          rw [e2] at RC k3
          clear e1 e2 hE hEl
          go_wp2_with fail
          go_quiet (fail)
          go_wp2_with fail
          go_quiet (fail)
          go_wp2_with fail
          clear hpiece
          refine (RC.out _ (env_drewN (HE.out.below HB.out))).mono ?_
          rintro e v1 ⟨rfl, b1⟩
          have B1 := Lib.hid ((below_drewN HB.out).trans (b1.mono hsz))
          have z1 := B1.out.size
          clear b1
          by_cases h96 : c = 96
          · have t1 : ((c.toNat : Int) != 96) = false := byte_eq' (d := 96) h96
            have HRN : Hid (noBQ (bs.take (k + 1)) = R) := Lib.hid (by rw [HRK.out, if_pos h96, List.append_nil])
            have HPN2 : Hid (noCR (noBQ (bs.take (k + 1))) = P) := Lib.hid (by rw [HRN.out, HPP.out])
            clear h96
            go_wp2_with fail
            go_roundw
            case rel => exact ⟨k + 1, by omega, by go_num, by rw [HSN.out], by rw [HRN.out], by rw [HPN2.out], B1.out⟩
            case measure => simp [intOf]; omega
          · have t1 : ((c.toNat : Int) != 96) = true := byte_ne' (d := 96) h96
            have HRN : Hid (noBQ (bs.take (k + 1)) = R ++ [c]) := Lib.hid (by rw [HRK.out, if_neg h96])
            have cv := conv_one c
            have k4 : Op.stringOp .add (B R) (B [c]) = pure (.string (B (R ++ [c]))) := cat_eq (by have := HRL.out; simp; omega)
            clear h96
            by_cases h13 : c = 13
            · have t2 : ((c.toNat : Int) != 13) = false := byte_eq' (d := 13) h13
              have HPN2 : Hid (noCR (noBQ (bs.take (k + 1))) = P) := Lib.hid (by rw [HRN.out, noCR_snoc, if_pos h13, HPP.out, List.append_nil])
              clear h13
              go_wp2_with fail
              go_roundw
              case rel => exact ⟨k + 1, by omega, by go_num, by rw [HSN.out], by rw [HRN.out], by rw [HPN2.out], B1.out.alloc z1 _⟩
              case measure => simp [intOf]; omega
            · have t2 : ((c.toNat : Int) != 13) = true := byte_ne' (d := 13) h13
              have HPN2 : Hid (noCR (noBQ (bs.take (k + 1))) = P ++ [c]) := Lib.hid (by rw [HRN.out, noCR_snoc, if_neg h13, HPP.out])
              have cv2 := conv_one c (v1.alloc (.cells #[.int .u8 (c.toNat : Int)] 5))
              rw [World.size_alloc] at cv2
              have k5 : Op.stringOp .add (B P) (B [c]) = pure (.string (B (P ++ [c]))) := cat_eq (by have := HPL.out; simp; omega)
              clear h13
              go_wp2_with fail
              go_roundw
              case rel => exact ⟨k + 1, by omega, by go_num, by rw [HSN.out], by rw [HRN.out], by rw [HPN2.out], (B1.out.alloc z1 _).alloc (by simp; omega) _⟩
              case measure => simp [intOf]; omega
        | false =>
          rw [hodd] at hfl
          have HFL : Hid (fl k = false) := Lib.hid hfl
          clear hfl
          have HSN : Hid (escs (pairs bs fl (k + 1)) = S ++ escL false c) := Lib.hid (by rw [HPN.out, escs_snoc, HFL.out, HSS.out])
          have RC := rune_calls false c
          have hpiece := hex_piece c
          obtain ⟨E, hE⟩ : ∃ E, escL false c = E := ⟨_, rfl⟩
          have hEl : E.length = 4 := by rw [← hE]; exact escL_length _ _
          rw [hE] at HSN RC hpiece
          have k1 : Op.stringOp .add (B S) (B E) = pure (.string (B (S ++ E))) := cat_eq (by have := HSL.out; omega)
          have k2 : Op.stringOp .add { data := #[39] } (B E) = pure (.string (B ([39] ++ E))) := cat_eq (x := [39]) (y := E) (by simp; omega)
          have k3 : Op.stringOp .add (B ([39] ++ E)) { data := #[39] } = pure (.string (B ([39] ++ E ++ [39]))) := cat_eq (x := [39] ++ E) (y := [39]) (by simp; omega)
          obtain ⟨q1, e1⟩ : ∃ x, [39] ++ E = x := ⟨_, rfl⟩
          rw [e1] at RC k2 k3
          obtain ⟨q2, e2⟩ : ∃ x, q1 ++ [39] = x := ⟨_, rfl⟩
          rw [e2] at RC k3
          clear e1 e2 hE hEl
          go_wp2_with fail
          go_quiet (fail)
          go_wp2_with fail
          skip
          skip
          clear hpiece
          refine (RC.out _ (env_drewN (HE.out.below HB.out))).mono ?_
          rintro e v1 ⟨rfl, b1⟩
          have B1 := Lib.hid ((below_drewN HB.out).trans (b1.mono hsz))
          have z1 := B1.out.size
          clear b1
          by_cases h96 : c = 96
          · have t1 : ((c.toNat : Int) != 96) = false := byte_eq' (d := 96) h96
            have HRN : Hid (noBQ (bs.take (k + 1)) = R) := Lib.hid (by rw [HRK.out, if_pos h96, List.append_nil])
            have HPN2 : Hid (noCR (noBQ (bs.take (k + 1))) = P) := Lib.hid (by rw [HRN.out, HPP.out])
            clear h96
            go_wp2_with fail
            go_roundw
            case rel => exact ⟨k + 1, by omega, by go_num, by rw [HSN.out], by rw [HRN.out], by rw [HPN2.out], B1.out⟩
            case measure => simp [intOf]; omega
          · have t1 : ((c.toNat : Int) != 96) = true := byte_ne' (d := 96) h96
            have HRN : Hid (noBQ (bs.take (k + 1)) = R ++ [c]) := Lib.hid (by rw [HRK.out, if_neg h96])
            have cv := conv_one c
            have k4 : Op.stringOp .add (B R) (B [c]) = pure (.string (B (R ++ [c]))) := cat_eq (by have := HRL.out; simp; omega)
            clear h96
            by_cases h13 : c = 13
            · have t2 : ((c.toNat : Int) != 13) = false := byte_eq' (d := 13) h13
              have HPN2 : Hid (noCR (noBQ (bs.take (k + 1))) = P) := Lib.hid (by rw [HRN.out, noCR_snoc, if_pos h13, HPP.out, List.append_nil])
              clear h13
              go_wp2_with fail
              go_roundw
              case rel => exact ⟨k + 1, by omega, by go_num, by rw [HSN.out], by rw [HRN.out], by rw [HPN2.out], B1.out.alloc z1 _⟩
              case measure => simp [intOf]; omega
            · have t2 : ((c.toNat : Int) != 13) = true := byte_ne' (d := 13) h13
              have HPN2 : Hid (noCR (noBQ (bs.take (k + 1))) = P ++ [c]) := Lib.hid (by rw [HRN.out, noCR_snoc, if_neg h13, HPP.out])
              have cv2 := conv_one c (v1.alloc (.cells #[.int .u8 (c.toNat : Int)] 5))
              rw [World.size_alloc] at cv2
              have k5 : Op.stringOp .add (B P) (B [c]) = pure (.string (B (P ++ [c]))) := cat_eq (by have := HPL.out; simp; omega)
              clear h13
              go_wp2_with fail
              go_roundw
              case rel => exact ⟨k + 1, by omega, by go_num, by rw [HSN.out], by rw [HRN.out], by rw [HPN2.out], (B1.out.alloc z1 _).alloc (by simp; omega) _⟩
              case measure => simp [intOf]; omega
      · have hfl := HW0.out k (by omega)
        clear hbel
        have HFL : Hid (fl k = false) := Lib.hid hfl
        clear hfl
        have HSN : Hid (escs (pairs bs fl (k + 1)) = S ++ escL false c) := Lib.hid (by rw [HPN.out, escs_snoc, HFL.out, HSS.out])
        have RC := rune_calls false c
        have hpiece := hex_piece c
        obtain ⟨E, hE⟩ : ∃ E, escL false c = E := ⟨_, rfl⟩
        have hEl : E.length = 4 := by rw [← hE]; exact escL_length _ _
        rw [hE] at HSN RC hpiece
        have k1 : Op.stringOp .add (B S) (B E) = pure (.string (B (S ++ E))) := cat_eq (by have := HSL.out; omega)
        have k2 : Op.stringOp .add { data := #[39] } (B E) = pure (.string (B ([39] ++ E))) := cat_eq (x := [39]) (y := E) (by simp; omega)
        have k3 : Op.stringOp .add (B ([39] ++ E)) { data := #[39] } = pure (.string (B ([39] ++ E ++ [39]))) := cat_eq (x := [39] ++ E) (y := [39]) (by simp; omega)
        obtain ⟨q1, e1⟩ : ∃ x, [39] ++ E = x := ⟨_, rfl⟩
        rw [e1] at RC k2 k3
        obtain ⟨q2, e2⟩ : ∃ x, q1 ++ [39] = x := ⟨_, rfl⟩
        rw [e2] at RC k3
        clear e1 e2 hE hEl
        go_wp2_with fail
        go_quiet (fail)
        go_wp2_with fail
        skip
        skip
        clear hpiece
        refine (RC.out _ (env_drewN (HE.out.below HB.out))).mono ?_
        rintro e v1 ⟨rfl, b1⟩
        have B1 := Lib.hid ((below_drewN HB.out).trans (b1.mono hsz))
        have z1 := B1.out.size
        clear b1
        by_cases h96 : c = 96
        · have t1 : ((c.toNat : Int) != 96) = false := byte_eq' (d := 96) h96
          have HRN : Hid (noBQ (bs.take (k + 1)) = R) := Lib.hid (by rw [HRK.out, if_pos h96, List.append_nil])
          have HPN2 : Hid (noCR (noBQ (bs.take (k + 1))) = P) := Lib.hid (by rw [HRN.out, HPP.out])
          clear h96
          go_wp2_with fail
          go_roundw
          case rel => exact ⟨k + 1, by omega, by go_num, by rw [HSN.out], by rw [HRN.out], by rw [HPN2.out], B1.out⟩
          case measure => simp [intOf]; omega
        · have t1 : ((c.toNat : Int) != 96) = true := byte_ne' (d := 96) h96
          have HRN : Hid (noBQ (bs.take (k + 1)) = R ++ [c]) := Lib.hid (by rw [HRK.out, if_neg h96])
          have cv := conv_one c
          have k4 : Op.stringOp .add (B R) (B [c]) = pure (.string (B (R ++ [c]))) := cat_eq (by have := HRL.out; simp; omega)
          clear h96
          by_cases h13 : c = 13
          · have t2 : ((c.toNat : Int) != 13) = false := byte_eq' (d := 13) h13
            have HPN2 : Hid (noCR (noBQ (bs.take (k + 1))) = P) := Lib.hid (by rw [HRN.out, noCR_snoc, if_pos h13, HPP.out, List.append_nil])
            clear h13
            go_wp2_with fail
            go_roundw
            case rel => exact ⟨k + 1, by omega, by go_num, by rw [HSN.out], by rw [HRN.out], by rw [HPN2.out], B1.out.alloc z1 _⟩
            case measure => simp [intOf]; omega
          · have t2 : ((c.toNat : Int) != 13) = true := byte_ne' (d := 13) h13
            have HPN2 : Hid (noCR (noBQ (bs.take (k + 1))) = P ++ [c]) := Lib.hid (by rw [HRN.out, noCR_snoc, if_neg h13, HPP.out])
            have cv2 := conv_one c (v1.alloc (.cells #[.int .u8 (c.toNat : Int)] 5))
            rw [World.size_alloc] at cv2
            have k5 : Op.stringOp .add (B P) (B [c]) = pure (.string (B (P ++ [c]))) := cat_eq (by have := HPL.out; simp; omega)
            clear h13
            go_wp2_with fail
            go_roundw
            case rel => exact ⟨k + 1, by omega, by go_num, by rw [HSN.out], by rw [HRN.out], by rw [HPN2.out], (B1.out.alloc z1 _).alloc (by simp; omega) _⟩
            case measure => simp [intOf]; omega
    · obtain rfl : k = bs.length := by omega
      clear hbel
      obtain ⟨S, hS⟩ : ∃ S, escs (pairs bs fl bs.length) = S := ⟨_, rfl⟩
      have hSl : S.length ≤ 536870912 := by rw [← hS, escs_length, pairs_length]; omega
      obtain ⟨R, hR⟩ : ∃ R, noBQ (bs.take bs.length) = R := ⟨_, rfl⟩
      have hRl : R.length ≤ 134217728 := by rw [← hR]; exact Nat.le_trans (noBQ_few _) (by rw [List.length_take]; omega)
      have hRm : ∀ c ∈ R, c ≠ 96 := by rw [← hR]; exact noBQ_mem
      have U1 : UnqCalls ([34] ++ S ++ [34]) bs 0 := unq_calls (by simp; omega) (by
        rw [← hS, List.append_assoc, unq_said, pairs_first])
      have U2 : UnqCalls ([96] ++ R ++ [96]) (noCR R) 0 := unq_calls (by simp; omega) (by rw [List.append_assoc, raw_said R hRm])
      have U3 : UnqCalls ([34] ++ S) [] 106 := unq_calls (by simp; omega) (by rw [← hS, unq_open])
      have U4 : UnqCalls ([96] ++ R) [] 106 := unq_calls (by simp; omega) (by rw [raw_open R hRm])
      have k1 : Op.stringOp .add { data := #[34] } (B S) = pure (.string (B ([34] ++ S))) := cat_eq (x := [34]) (y := S) (by simp; omega)
      have k2 : Op.stringOp .add (B ([34] ++ S)) { data := #[34] } = pure (.string (B ([34] ++ S ++ [34]))) := cat_eq (x := [34] ++ S) (y := [34]) (by simp; omega)
      have k3 : Op.stringOp .add { data := #[96] } (B R) = pure (.string (B ([96] ++ R))) := cat_eq (x := [96]) (y := R) (by simp; omega)
      have k4 : Op.stringOp .add (B ([96] ++ R)) { data := #[96] } = pure (.string (B ([96] ++ R ++ [96]))) := cat_eq (x := [96] ++ R) (y := [96]) (by simp; omega)
      obtain ⟨s1, e1⟩ : ∃ x, [34] ++ S = x := ⟨_, rfl⟩
      obtain ⟨r1, e2⟩ : ∃ x, [96] ++ R = x := ⟨_, rfl⟩
      rw [e1] at U1 U3 k1 k2
      rw [e2] at U2 U4 k3 k4
      obtain ⟨s2, e3⟩ : ∃ x, s1 ++ [34] = x := ⟨_, rfl⟩
      obtain ⟨r2, e4⟩ : ∃ x, r1 ++ [96] = x := ⟨_, rfl⟩
      rw [e3] at U1 k2
      rw [e4] at U2 k4
      rw [hS, hR]
      clear e1 e2 e3 e4 hS hR hRm hSl hRl
      go_wp2_with fail
      refine (U1.out _ (HE.out.below HB.out)).mono ?_
      rintro e v1 ⟨rfl, b1⟩
      have B1 := Lib.hid (HB.out.trans (b1.mono hsz))
      have z1 := B1.out.size
      clear b1
      go_wp2_with fail
      refine (U2.out _ (HE.out.below B1.out)).mono ?_
      rintro e v2 ⟨rfl, b2⟩
      have B2 := Lib.hid (B1.out.trans (b2.mono z1))
      have z2 := B2.out.size
      clear b2 B1 z1
      go_wp2_with fail
      refine (U3.out _ (HE.out.below B2.out)).mono ?_
      rintro e v3 ⟨rfl, b3⟩
      have B3 := Lib.hid (B2.out.trans (b3.mono z2))
      have z3 := B3.out.size
      clear b3 B2 z2
      go_wp2_with fail
      refine (U4.out _ (HE.out.below B3.out)).mono ?_
      rintro e v4 ⟨rfl, b4⟩
      have B4 := Lib.hid (B3.out.trans (b4.mono z3))
      clear b4 B3 z3
      have hcv := HCV.out _ B4.out
      go_wp2_with fail
      go_ret
      exact ⟨rfl, B4.out⟩
end Go.Proofs.YtbmmbaagcglomaaDoor.tok
