/-
  Texts put together: Rbp, Rbq, Rbr, RefName, Rbs, Rbt, Rbu, CardBase, Rcb, Rcc.
-/
import Derived.Test.YtjbamlmdeopcaaaGreatDoorPa9
import Derived.Test.YtjbamlmdeopcaaaGreatDoorPa10
import Derived.Test.YtjbamlmdeopcaaaGreatDoorPa6
import Derived.Deep.RegionHeld3
import Derived.Deep.AppendLies
import Derived.Deep.RegionLaw
import Derived.Test.YtjbamlmdeopcaaaGreatDoorCards
import Derived.Test.YtjbamlmdeopcaaaGreatDoorTie
import Derived.Test.YtjbamlmdeopcaaaGreatDoorPa4
import Derived.ProofKit
import Derived.OpenShut
import Derived.Deep.DeepHandedRow
import Derived.Lib.LaidU8
import Derived.Test.YtjbamlmdeopcaaaGreatDoorPa5
section
/-
  The reference's Next, case by case (class 7).
-/
namespace Go.Proofs.YtjbamlmdeopcaaaGreatDoor.lx
open Go.RowKit Go.Proofs.YtjbamlmdeopcaaaGreatDoor.tok

set_option maxRecDepth 100000 in
set_option maxHeartbeats 4000000 in
theorem refNext_7 {s : ByteArray} {i : Nat} {c : UInt8} {w : World} (hlt : i < s.size) (hc : s[i] = c) (hs : s.size ≤ 4194304) (m : Nx) (hm : m = if (numOf ((s.data.toList.drop i).take (runL isWd (s.data.toList.drop i)))).2.2 = true then right 11 (runL isWd (s.data.toList.drop i)) else wrong 11 (runL isWd (s.data.toList.drop i)) 109) (h1 : i ≠ 0 ∨ Lib.hasPrefix s.data.toList mark = false) (h2 : isBl c = false) (h3 : c ≠ 10) (h4 : c ≠ 47) (h6 : isLt c = false) (h7 : isDg c = true) :
    Calls Tryz.prog 24 #[.string s, .int .i64 (i : Int)] w (Told m i w) := by
  have HW := Lib.hid hm
  have HSD := Lib.hid (sdata s)
  have hix : ∀ u : World, (Instr.index 9 (.string s) (.int .i64 (i : Int))).run Tryz.prog u = .ok (.int .u8 (c.toNat : Int)) u := fun u => by rw [← hc]; exact index_at s _ i rfl hlt u
  have HC : Hid (∀ h : i < s.data.toList.length, isWd s.data.toList[i] = true) := Lib.hid (fun _ => by rw [show s.data.toList[i] = s[i] from rfl, hc]; unfold isWd; rw [h7, Bool.or_true])
  have H2 := Lib.hid (fun u => refBlank_then c u)
  rw [h2] at H2
  have b10 : ((c.toNat : Int) == 10) = false := byte_ne (d := 10) h3
  have b47 : ((c.toNat : Int) == 47) = false := byte_ne (d := 47) h4
  have H6 := Lib.hid (fun u => refLetter_any c u)
  rw [h6] at H6
  have H7 := Lib.hid (fun u => refDigit_any c u)
  rw [h7] at H7
  clear h2 h3 h4 h6 h7 hm hc
  rcases nm_cases h1 with h1 | ⟨h1, h3⟩ | ⟨h1, h3, h4⟩
  · have b1 : ((i : Int) == 0) = false := beq_eq_false_iff_ne.2 (by omega)
    clear h1
    go_enter Tryz.func24, Tryz.ntmps24
    go_wp2_with (first | (go_at_call 47; refine (H2.out _).mono ?_; rintro e W ⟨rfl, hbW⟩; have HF := Lib.hid ((four_new w (.int .i64 0) (.int .i64 (i : Int)) (.int .i64 ((i : Int) + 1)) (.int .i64 0) (.int .i64 (i : Int)) (.int .i64 0)).then hbW); obtain ⟨⟨⟨u0, u1, u2, u3, u4, u5, k0, k1, k2, k3, k4, k5⟩, f0, f1, f2, f3, f4, f5⟩, x0, x1, x2, y0, y1, y2, ⟨⟨g0, g1, g2⟩, g3, g4, g5⟩, _⟩ := HF.out; clear hbW) | (go_at_call 48; refine (H6.out _).mono ?_; rintro e w' ⟨rfl, rfl⟩) | (go_at_call 49; refine (H7.out _).mono ?_; rintro e w' ⟨rfl, rfl⟩))
    have HF1 := Lib.hid (HF.out.set0 (.int .i64 11))
    have e1 : ((i : Int) + 1) = ((i + 1 : Nat) : Int) := by omega
    have HF2 := HF1
    rw [e1] at HF2
    clear k0 k1 k2 k3 k4 k5 f0 f1 f2 f3 f4 f5 x0 x1 x2 y0 y1 y2 g0 g1 g2 g3 g4 g5
    go_loopw [] (fun wr => ∃ n : Nat, i < n ∧ n ≤ s.size ∧ Four w wr (.int .i64 11) (.int .i64 (i : Int)) (.int .i64 (n : Int)) (.int .i64 0) (.int .i64 (i : Int)) (.int .i64 0) ∧ ∀ j, i ≤ j → j < n → ∀ h : j < s.data.toList.length, isWd s.data.toList[j] = true) (fun wr => s.size - (intOf ((wr.cell? ⟨w.heap.size + 1 + 1, 2, none⟩).getD undef)).toNat)
    case atStart => exact ⟨i + 1, by omega, by omega, HF2.out, fun j g1 g2 h => by
                      obtain rfl : j = i := by omega
                      exact HC.out h⟩
    case round =>
      obtain ⟨n, hn1, hn2, hfo, hall⟩ := hrel
      have HR := Lib.hid hfo
      have HA := Lib.hid hall
      clear hfo hall HF HF1 HF2 e1
      obtain ⟨⟨⟨u0, u1, u2, u3, u4, u5, k0, k1, k2, k3, k4, k5⟩, f0, f1, f2, f3, f4, f5⟩, x0, x1, x2, y0, y1, y2, ⟨⟨g0, g1, g2⟩, g3, g4, g5⟩, _⟩ := HR.out
      by_cases hlt2 : n < s.size
      · obtain ⟨d, hd⟩ : ∃ d, s[n]'hlt2 = d := ⟨_, rfl⟩
        have hixn : ∀ u : World, (Instr.index 9 (.string s) (.int .i64 (n : Int))).run Tryz.prog u = .ok (.int .u8 (d.toNat : Int)) u := fun u => by rw [← hd]; exact index_at s _ n rfl hlt2 u
        have HD : Hid (∀ h : n < s.data.toList.length, s.data.toList[n] = d) := Lib.hid (fun _ => by rw [← hd]; rfl)
        have dlt : decide ((n : Int) < (s.size : Int)) = true := decide_eq_true (by omega)
        clear hd
        cases hL : isLt d with
        | true =>
          have H3 := Lib.hid (fun u => refLetter_any d u)
          rw [hL] at H3
          have HP : Hid (isWd d = true) := Lib.hid (by unfold isWd; rw [hL]; rfl)
          clear hL
          go_wp2_with (go_at_call 48; refine (H3.out _).mono ?_; rintro e w' ⟨rfl, rfl⟩)
          go_roundw
          case rel => exact ⟨n + 1, by omega, by omega, by have := HR.out.set2 (.int .i64 ((n + 1 : Nat) : Int)); exact this, fun j g1 g2 h => by
                        by_cases e : j = n
                        · subst e; rw [HD.out h]; exact HP.out
                        · exact HA.out j g1 (by omega) h⟩
          case measure => have e2 := (HR.out.set2 (.int .i64 ((n : Int) + 1))).x2; simp only [x2, e2, Option.getD_some, intOf]; omega
        | false =>
          have H3 := Lib.hid (fun u => refLetter_any d u)
          rw [hL] at H3
          have H5 := Lib.hid (fun u => refDigit_any d u)
          cases hG : isDg d with
          | true =>
            rw [hG] at H5
            have HP : Hid (isWd d = true) := Lib.hid (by unfold isWd; rw [hL, hG]; rfl)
            clear hL hG
            go_wp2_with (first | (go_at_call 48; refine (H3.out _).mono ?_; rintro e w' ⟨rfl, rfl⟩) | (go_at_call 49; refine (H5.out _).mono ?_; rintro e w' ⟨rfl, rfl⟩))
            go_roundw
            case rel => exact ⟨n + 1, by omega, by omega, by have := HR.out.set2 (.int .i64 ((n + 1 : Nat) : Int)); exact this, fun j g1 g2 h => by
                          by_cases e : j = n
                          · subst e; rw [HD.out h]; exact HP.out
                          · exact HA.out j g1 (by omega) h⟩
            case measure => have e2 := (HR.out.set2 (.int .i64 ((n : Int) + 1))).x2; simp only [x2, e2, Option.getD_some, intOf]; omega
          | false =>
            rw [hG] at H5
            have HP : Hid (isWd d = false) := Lib.hid (by unfold isWd; rw [hL, hG]; rfl)
            clear hL hG
            have HE : Hid (i + runL isWd (s.data.toList.drop i) = n) := Lib.hid (run_to (by omega) (by rw [HSD.out]; exact hlt2) HA.out (by rw [HD.out (by rw [HSD.out]; exact hlt2)]; exact HP.out))
            have hsl := piece_mid s i n (i : Int) (n : Int) rfl rfl (by omega) (by omega)
            have HK := Lib.hid (fun u => refDigits_any (B ((s.data.toList.drop i).take (n - i))) u (by rw [bsize, List.length_take, List.length_drop, HSD.out]; omega))
            rw [bdata] at HK
            have hw : runL isWd (s.data.toList.drop i) = n - i := by have := HE.out; omega
            have HW3 := HW
            rw [hw] at HW3
            obtain ⟨z1, z2, z3, hz⟩ : ∃ z1 z2 z3, numOf ((s.data.toList.drop i).take (n - i)) = (z1, z2, z3) := ⟨_, _, _, rfl⟩
            obtain ⟨x, hx⟩ : ∃ x, B ((s.data.toList.drop i).take (n - i)) = x := ⟨_, rfl⟩
            rw [hz] at HK HW3
            rw [hx] at HK hsl
            have HE2 : Hid ((i : Int) + ((n - i : Nat) : Int) = (n : Int)) := Lib.hid (by omega)
            clear hz hx hw HW HE HA
            cases z3 with
            | true =>
              rw [if_pos rfl] at HW3
              go_wp2_with (first | (go_at_call 48; refine (H3.out _).mono ?_; rintro e w' ⟨rfl, rfl⟩) | (go_at_call 49; refine (H5.out _).mono ?_; rintro e w' ⟨rfl, rfl⟩) | (go_at_call 51; refine (HK.out _).mono ?_; rintro e W5 ⟨rfl, hb5⟩; have HG := Lib.hid (HR.out.then hb5); clear k0 k1 k2 k3 k4 k5 f0 f1 f2 f3 f4 f5 x0 x1 x2 y0 y1 y2 g0 g1 g2 g3 g4 g5; clear hb5; obtain ⟨⟨⟨u0, u1, u2, u3, u4, u5, k0, k1, k2, k3, k4, k5⟩, f0, f1, f2, f3, f4, f5⟩, x0, x1, x2, y0, y1, y2, ⟨⟨g0, g1, g2⟩, g3, g4, g5⟩, _⟩ := HG.out))
              go_region
              go_wp2_with fail
              exact bodyPost_ret (results_drew Tryz.results24 _ (by repeat (first | exact HG.out.six | refine six_past ?_ (by omega) _)) (.int .i64 11) (.int .i64 (i : Int)) (.int .i64 (n : Int)) (.int .i64 0) (.int .i64 (i : Int)) (.int .i64 (n : Int)) rfl rfl) rfl (Told.mk' (x := (i : Int)) (y := (n : Int)) (by rw [HW3.out]; simp only [right]; rw [HE2.out]) (by rw [HW3.out]; exact fun h => absurd rfl h) (below_put6 (by repeat (first | exact HG.out.below | refine below_at ?_ (by omega) _)) (Nat.le_refl _) _ _ _ _ _ _).drew)
            | false =>
              rw [if_neg (by simp)] at HW3
              go_wp2_with (first | (go_at_call 48; refine (H3.out _).mono ?_; rintro e w' ⟨rfl, rfl⟩) | (go_at_call 49; refine (H5.out _).mono ?_; rintro e w' ⟨rfl, rfl⟩) | (go_at_call 51; refine (HK.out _).mono ?_; rintro e W5 ⟨rfl, hb5⟩; have HG := Lib.hid (HR.out.then hb5); clear k0 k1 k2 k3 k4 k5 f0 f1 f2 f3 f4 f5 x0 x1 x2 y0 y1 y2 g0 g1 g2 g3 g4 g5; clear hb5; obtain ⟨⟨⟨u0, u1, u2, u3, u4, u5, k0, k1, k2, k3, k4, k5⟩, f0, f1, f2, f3, f4, f5⟩, x0, x1, x2, y0, y1, y2, ⟨⟨g0, g1, g2⟩, g3, g4, g5⟩, _⟩ := HG.out))
              go_region
              go_wp2_with fail
              exact bodyPost_ret (results_drew Tryz.results24 _ (by repeat (first | exact HG.out.six | refine six_past ?_ (by omega) _)) (.int .i64 11) (.int .i64 (i : Int)) (.int .i64 (n : Int)) (.int .i64 109) (.int .i64 (i : Int)) (.int .i64 (n : Int)) rfl rfl) rfl (Told.mk' (x := (i : Int)) (y := (n : Int)) (by rw [HW3.out]; simp only [wrong]; rw [HE2.out]) (by rw [HW3.out]; exact fun _ => ⟨by simp [wrong], by simp only [wrong]; rw [← HE2.out]; simp⟩) (below_put6 (by repeat (first | exact HG.out.below | refine below_at ?_ (by omega) _)) (Nat.le_refl _) _ _ _ _ _ _).drew)
      · have dlt : decide ((n : Int) < (s.size : Int)) = false := decide_eq_false (by omega)
        obtain rfl : n = s.size := by omega
        have HE : Hid (i + runL isWd (s.data.toList.drop i) = s.size) := Lib.hid (by rw [run_end (by rw [HSD.out]; omega) (fun j g1 h => HA.out j g1 (by rw [HSD.out] at h; omega) h), HSD.out])
        have hsl := piece_mid s i s.size (i : Int) (s.size : Int) rfl rfl (by omega) (by omega)
        have HK := Lib.hid (fun u => refDigits_any (B ((s.data.toList.drop i).take (s.size - i))) u (by rw [bsize, List.length_take, List.length_drop, HSD.out]; omega))
        rw [bdata] at HK
        have hw : runL isWd (s.data.toList.drop i) = s.size - i := by have := HE.out; omega
        have HW3 := HW
        rw [hw] at HW3
        obtain ⟨z1, z2, z3, hz⟩ : ∃ z1 z2 z3, numOf ((s.data.toList.drop i).take (s.size - i)) = (z1, z2, z3) := ⟨_, _, _, rfl⟩
        obtain ⟨x, hx⟩ : ∃ x, B ((s.data.toList.drop i).take (s.size - i)) = x := ⟨_, rfl⟩
        rw [hz] at HK HW3
        rw [hx] at HK hsl
        have HE2 : Hid ((i : Int) + ((s.size - i : Nat) : Int) = (s.size : Int)) := Lib.hid (by omega)
        clear hz hx hw HW HE HA
        cases z3 with
        | true =>
          rw [if_pos rfl] at HW3
          go_wp2_with (first | (go_at_call 51; refine (HK.out _).mono ?_; rintro e W5 ⟨rfl, hb5⟩; have HG := Lib.hid (HR.out.then hb5); clear k0 k1 k2 k3 k4 k5 f0 f1 f2 f3 f4 f5 x0 x1 x2 y0 y1 y2 g0 g1 g2 g3 g4 g5; clear hb5; obtain ⟨⟨⟨u0, u1, u2, u3, u4, u5, k0, k1, k2, k3, k4, k5⟩, f0, f1, f2, f3, f4, f5⟩, x0, x1, x2, y0, y1, y2, ⟨⟨g0, g1, g2⟩, g3, g4, g5⟩, _⟩ := HG.out))
          go_region
          go_wp2_with fail
          exact bodyPost_ret (results_drew Tryz.results24 _ (by repeat (first | exact HG.out.six | refine six_past ?_ (by omega) _)) (.int .i64 11) (.int .i64 (i : Int)) (.int .i64 (s.size : Int)) (.int .i64 0) (.int .i64 (i : Int)) (.int .i64 (s.size : Int)) rfl rfl) rfl (Told.mk' (x := (i : Int)) (y := (s.size : Int)) (by rw [HW3.out]; simp only [right]; rw [HE2.out]) (by rw [HW3.out]; exact fun h => absurd rfl h) (below_put6 (by repeat (first | exact HG.out.below | refine below_at ?_ (by omega) _)) (Nat.le_refl _) _ _ _ _ _ _).drew)
        | false =>
          rw [if_neg (by simp)] at HW3
          go_wp2_with (first | (go_at_call 51; refine (HK.out _).mono ?_; rintro e W5 ⟨rfl, hb5⟩; have HG := Lib.hid (HR.out.then hb5); clear k0 k1 k2 k3 k4 k5 f0 f1 f2 f3 f4 f5 x0 x1 x2 y0 y1 y2 g0 g1 g2 g3 g4 g5; clear hb5; obtain ⟨⟨⟨u0, u1, u2, u3, u4, u5, k0, k1, k2, k3, k4, k5⟩, f0, f1, f2, f3, f4, f5⟩, x0, x1, x2, y0, y1, y2, ⟨⟨g0, g1, g2⟩, g3, g4, g5⟩, _⟩ := HG.out))
          go_region
          go_wp2_with fail
          exact bodyPost_ret (results_drew Tryz.results24 _ (by repeat (first | exact HG.out.six | refine six_past ?_ (by omega) _)) (.int .i64 11) (.int .i64 (i : Int)) (.int .i64 (s.size : Int)) (.int .i64 109) (.int .i64 (i : Int)) (.int .i64 (s.size : Int)) rfl rfl) rfl (Told.mk' (x := (i : Int)) (y := (s.size : Int)) (by rw [HW3.out]; simp only [wrong]; rw [HE2.out]) (by rw [HW3.out]; exact fun _ => ⟨by simp [wrong], by simp only [wrong]; rw [← HE2.out]; simp⟩) (below_put6 (by repeat (first | exact HG.out.below | refine below_at ?_ (by omega) _)) (Nat.le_refl _) _ _ _ _ _ _).drew)
  · have b1 : ((i : Int) == 0) = true := beq_iff_eq.2 (by omega)
    have d3 : decide (3 ≤ (s.size : Int)) = false := decide_eq_false (by omega)
    clear h1 h3
    go_enter Tryz.func24, Tryz.ntmps24
    go_wp2_with (first | (go_at_call 47; refine (H2.out _).mono ?_; rintro e W ⟨rfl, hbW⟩; have HF := Lib.hid ((four_new w (.int .i64 0) (.int .i64 (i : Int)) (.int .i64 ((i : Int) + 1)) (.int .i64 0) (.int .i64 (i : Int)) (.int .i64 0)).then hbW); obtain ⟨⟨⟨u0, u1, u2, u3, u4, u5, k0, k1, k2, k3, k4, k5⟩, f0, f1, f2, f3, f4, f5⟩, x0, x1, x2, y0, y1, y2, ⟨⟨g0, g1, g2⟩, g3, g4, g5⟩, _⟩ := HF.out; clear hbW) | (go_at_call 48; refine (H6.out _).mono ?_; rintro e w' ⟨rfl, rfl⟩) | (go_at_call 49; refine (H7.out _).mono ?_; rintro e w' ⟨rfl, rfl⟩))
    have HF1 := Lib.hid (HF.out.set0 (.int .i64 11))
    have e1 : ((i : Int) + 1) = ((i + 1 : Nat) : Int) := by omega
    have HF2 := HF1
    rw [e1] at HF2
    clear k0 k1 k2 k3 k4 k5 f0 f1 f2 f3 f4 f5 x0 x1 x2 y0 y1 y2 g0 g1 g2 g3 g4 g5
    go_loopw [] (fun wr => ∃ n : Nat, i < n ∧ n ≤ s.size ∧ Four w wr (.int .i64 11) (.int .i64 (i : Int)) (.int .i64 (n : Int)) (.int .i64 0) (.int .i64 (i : Int)) (.int .i64 0) ∧ ∀ j, i ≤ j → j < n → ∀ h : j < s.data.toList.length, isWd s.data.toList[j] = true) (fun wr => s.size - (intOf ((wr.cell? ⟨w.heap.size + 1 + 1, 2, none⟩).getD undef)).toNat)
    case atStart => exact ⟨i + 1, by omega, by omega, HF2.out, fun j g1 g2 h => by
                      obtain rfl : j = i := by omega
                      exact HC.out h⟩
    case round =>
      obtain ⟨n, hn1, hn2, hfo, hall⟩ := hrel
      have HR := Lib.hid hfo
      have HA := Lib.hid hall
      clear hfo hall HF HF1 HF2 e1
      obtain ⟨⟨⟨u0, u1, u2, u3, u4, u5, k0, k1, k2, k3, k4, k5⟩, f0, f1, f2, f3, f4, f5⟩, x0, x1, x2, y0, y1, y2, ⟨⟨g0, g1, g2⟩, g3, g4, g5⟩, _⟩ := HR.out
      by_cases hlt2 : n < s.size
      · obtain ⟨d, hd⟩ : ∃ d, s[n]'hlt2 = d := ⟨_, rfl⟩
        have hixn : ∀ u : World, (Instr.index 9 (.string s) (.int .i64 (n : Int))).run Tryz.prog u = .ok (.int .u8 (d.toNat : Int)) u := fun u => by rw [← hd]; exact index_at s _ n rfl hlt2 u
        have HD : Hid (∀ h : n < s.data.toList.length, s.data.toList[n] = d) := Lib.hid (fun _ => by rw [← hd]; rfl)
        have dlt : decide ((n : Int) < (s.size : Int)) = true := decide_eq_true (by omega)
        clear hd
        cases hL : isLt d with
        | true =>
          have H3 := Lib.hid (fun u => refLetter_any d u)
          rw [hL] at H3
          have HP : Hid (isWd d = true) := Lib.hid (by unfold isWd; rw [hL]; rfl)
          clear hL
          go_wp2_with (go_at_call 48; refine (H3.out _).mono ?_; rintro e w' ⟨rfl, rfl⟩)
          go_roundw
          case rel => exact ⟨n + 1, by omega, by omega, by have := HR.out.set2 (.int .i64 ((n + 1 : Nat) : Int)); exact this, fun j g1 g2 h => by
                        by_cases e : j = n
                        · subst e; rw [HD.out h]; exact HP.out
                        · exact HA.out j g1 (by omega) h⟩
          case measure => have e2 := (HR.out.set2 (.int .i64 ((n : Int) + 1))).x2; simp only [x2, e2, Option.getD_some, intOf]; omega
        | false =>
          have H3 := Lib.hid (fun u => refLetter_any d u)
          rw [hL] at H3
          have H5 := Lib.hid (fun u => refDigit_any d u)
          cases hG : isDg d with
          | true =>
            rw [hG] at H5
            have HP : Hid (isWd d = true) := Lib.hid (by unfold isWd; rw [hL, hG]; rfl)
            clear hL hG
            go_wp2_with (first | (go_at_call 48; refine (H3.out _).mono ?_; rintro e w' ⟨rfl, rfl⟩) | (go_at_call 49; refine (H5.out _).mono ?_; rintro e w' ⟨rfl, rfl⟩))
            go_roundw
            case rel => exact ⟨n + 1, by omega, by omega, by have := HR.out.set2 (.int .i64 ((n + 1 : Nat) : Int)); exact this, fun j g1 g2 h => by
                          by_cases e : j = n
                          · subst e; rw [HD.out h]; exact HP.out
                          · exact HA.out j g1 (by omega) h⟩
            case measure => have e2 := (HR.out.set2 (.int .i64 ((n : Int) + 1))).x2; simp only [x2, e2, Option.getD_some, intOf]; omega
          | false =>
            rw [hG] at H5
            have HP : Hid (isWd d = false) := Lib.hid (by unfold isWd; rw [hL, hG]; rfl)
            clear hL hG
            have HE : Hid (i + runL isWd (s.data.toList.drop i) = n) := Lib.hid (run_to (by omega) (by rw [HSD.out]; exact hlt2) HA.out (by rw [HD.out (by rw [HSD.out]; exact hlt2)]; exact HP.out))
            have hsl := piece_mid s i n (i : Int) (n : Int) rfl rfl (by omega) (by omega)
            have HK := Lib.hid (fun u => refDigits_any (B ((s.data.toList.drop i).take (n - i))) u (by rw [bsize, List.length_take, List.length_drop, HSD.out]; omega))
            rw [bdata] at HK
            have hw : runL isWd (s.data.toList.drop i) = n - i := by have := HE.out; omega
            have HW3 := HW
            rw [hw] at HW3
            obtain ⟨z1, z2, z3, hz⟩ : ∃ z1 z2 z3, numOf ((s.data.toList.drop i).take (n - i)) = (z1, z2, z3) := ⟨_, _, _, rfl⟩
            obtain ⟨x, hx⟩ : ∃ x, B ((s.data.toList.drop i).take (n - i)) = x := ⟨_, rfl⟩
            rw [hz] at HK HW3
            rw [hx] at HK hsl
            have HE2 : Hid ((i : Int) + ((n - i : Nat) : Int) = (n : Int)) := Lib.hid (by omega)
            clear hz hx hw HW HE HA
            cases z3 with
            | true =>
              rw [if_pos rfl] at HW3
              go_wp2_with (first | (go_at_call 48; refine (H3.out _).mono ?_; rintro e w' ⟨rfl, rfl⟩) | (go_at_call 49; refine (H5.out _).mono ?_; rintro e w' ⟨rfl, rfl⟩) | (go_at_call 51; refine (HK.out _).mono ?_; rintro e W5 ⟨rfl, hb5⟩; have HG := Lib.hid (HR.out.then hb5); clear k0 k1 k2 k3 k4 k5 f0 f1 f2 f3 f4 f5 x0 x1 x2 y0 y1 y2 g0 g1 g2 g3 g4 g5; clear hb5; obtain ⟨⟨⟨u0, u1, u2, u3, u4, u5, k0, k1, k2, k3, k4, k5⟩, f0, f1, f2, f3, f4, f5⟩, x0, x1, x2, y0, y1, y2, ⟨⟨g0, g1, g2⟩, g3, g4, g5⟩, _⟩ := HG.out))
              go_region
              go_wp2_with fail
              exact bodyPost_ret (results_drew Tryz.results24 _ (by repeat (first | exact HG.out.six | refine six_past ?_ (by omega) _)) (.int .i64 11) (.int .i64 (i : Int)) (.int .i64 (n : Int)) (.int .i64 0) (.int .i64 (i : Int)) (.int .i64 (n : Int)) rfl rfl) rfl (Told.mk' (x := (i : Int)) (y := (n : Int)) (by rw [HW3.out]; simp only [right]; rw [HE2.out]) (by rw [HW3.out]; exact fun h => absurd rfl h) (below_put6 (by repeat (first | exact HG.out.below | refine below_at ?_ (by omega) _)) (Nat.le_refl _) _ _ _ _ _ _).drew)
            | false =>
              rw [if_neg (by simp)] at HW3
              go_wp2_with (first | (go_at_call 48; refine (H3.out _).mono ?_; rintro e w' ⟨rfl, rfl⟩) | (go_at_call 49; refine (H5.out _).mono ?_; rintro e w' ⟨rfl, rfl⟩) | (go_at_call 51; refine (HK.out _).mono ?_; rintro e W5 ⟨rfl, hb5⟩; have HG := Lib.hid (HR.out.then hb5); clear k0 k1 k2 k3 k4 k5 f0 f1 f2 f3 f4 f5 x0 x1 x2 y0 y1 y2 g0 g1 g2 g3 g4 g5; clear hb5; obtain ⟨⟨⟨u0, u1, u2, u3, u4, u5, k0, k1, k2, k3, k4, k5⟩, f0, f1, f2, f3, f4, f5⟩, x0, x1, x2, y0, y1, y2, ⟨⟨g0, g1, g2⟩, g3, g4, g5⟩, _⟩ := HG.out))
              go_region
              go_wp2_with fail
              exact bodyPost_ret (results_drew Tryz.results24 _ (by repeat (first | exact HG.out.six | refine six_past ?_ (by omega) _)) (.int .i64 11) (.int .i64 (i : Int)) (.int .i64 (n : Int)) (.int .i64 109) (.int .i64 (i : Int)) (.int .i64 (n : Int)) rfl rfl) rfl (Told.mk' (x := (i : Int)) (y := (n : Int)) (by rw [HW3.out]; simp only [wrong]; rw [HE2.out]) (by rw [HW3.out]; exact fun _ => ⟨by simp [wrong], by simp only [wrong]; rw [← HE2.out]; simp⟩) (below_put6 (by repeat (first | exact HG.out.below | refine below_at ?_ (by omega) _)) (Nat.le_refl _) _ _ _ _ _ _).drew)
      · have dlt : decide ((n : Int) < (s.size : Int)) = false := decide_eq_false (by omega)
        obtain rfl : n = s.size := by omega
        have HE : Hid (i + runL isWd (s.data.toList.drop i) = s.size) := Lib.hid (by rw [run_end (by rw [HSD.out]; omega) (fun j g1 h => HA.out j g1 (by rw [HSD.out] at h; omega) h), HSD.out])
        have hsl := piece_mid s i s.size (i : Int) (s.size : Int) rfl rfl (by omega) (by omega)
        have HK := Lib.hid (fun u => refDigits_any (B ((s.data.toList.drop i).take (s.size - i))) u (by rw [bsize, List.length_take, List.length_drop, HSD.out]; omega))
        rw [bdata] at HK
        have hw : runL isWd (s.data.toList.drop i) = s.size - i := by have := HE.out; omega
        have HW3 := HW
        rw [hw] at HW3
        obtain ⟨z1, z2, z3, hz⟩ : ∃ z1 z2 z3, numOf ((s.data.toList.drop i).take (s.size - i)) = (z1, z2, z3) := ⟨_, _, _, rfl⟩
        obtain ⟨x, hx⟩ : ∃ x, B ((s.data.toList.drop i).take (s.size - i)) = x := ⟨_, rfl⟩
        rw [hz] at HK HW3
        rw [hx] at HK hsl
        have HE2 : Hid ((i : Int) + ((s.size - i : Nat) : Int) = (s.size : Int)) := Lib.hid (by omega)
        clear hz hx hw HW HE HA
        cases z3 with
        | true =>
          rw [if_pos rfl] at HW3
          go_wp2_with (first | (go_at_call 51; refine (HK.out _).mono ?_; rintro e W5 ⟨rfl, hb5⟩; have HG := Lib.hid (HR.out.then hb5); clear k0 k1 k2 k3 k4 k5 f0 f1 f2 f3 f4 f5 x0 x1 x2 y0 y1 y2 g0 g1 g2 g3 g4 g5; clear hb5; obtain ⟨⟨⟨u0, u1, u2, u3, u4, u5, k0, k1, k2, k3, k4, k5⟩, f0, f1, f2, f3, f4, f5⟩, x0, x1, x2, y0, y1, y2, ⟨⟨g0, g1, g2⟩, g3, g4, g5⟩, _⟩ := HG.out))
          go_region
          go_wp2_with fail
          exact bodyPost_ret (results_drew Tryz.results24 _ (by repeat (first | exact HG.out.six | refine six_past ?_ (by omega) _)) (.int .i64 11) (.int .i64 (i : Int)) (.int .i64 (s.size : Int)) (.int .i64 0) (.int .i64 (i : Int)) (.int .i64 (s.size : Int)) rfl rfl) rfl (Told.mk' (x := (i : Int)) (y := (s.size : Int)) (by rw [HW3.out]; simp only [right]; rw [HE2.out]) (by rw [HW3.out]; exact fun h => absurd rfl h) (below_put6 (by repeat (first | exact HG.out.below | refine below_at ?_ (by omega) _)) (Nat.le_refl _) _ _ _ _ _ _).drew)
        | false =>
          rw [if_neg (by simp)] at HW3
          go_wp2_with (first | (go_at_call 51; refine (HK.out _).mono ?_; rintro e W5 ⟨rfl, hb5⟩; have HG := Lib.hid (HR.out.then hb5); clear k0 k1 k2 k3 k4 k5 f0 f1 f2 f3 f4 f5 x0 x1 x2 y0 y1 y2 g0 g1 g2 g3 g4 g5; clear hb5; obtain ⟨⟨⟨u0, u1, u2, u3, u4, u5, k0, k1, k2, k3, k4, k5⟩, f0, f1, f2, f3, f4, f5⟩, x0, x1, x2, y0, y1, y2, ⟨⟨g0, g1, g2⟩, g3, g4, g5⟩, _⟩ := HG.out))
          go_region
          go_wp2_with fail
          exact bodyPost_ret (results_drew Tryz.results24 _ (by repeat (first | exact HG.out.six | refine six_past ?_ (by omega) _)) (.int .i64 11) (.int .i64 (i : Int)) (.int .i64 (s.size : Int)) (.int .i64 109) (.int .i64 (i : Int)) (.int .i64 (s.size : Int)) rfl rfl) rfl (Told.mk' (x := (i : Int)) (y := (s.size : Int)) (by rw [HW3.out]; simp only [wrong]; rw [HE2.out]) (by rw [HW3.out]; exact fun _ => ⟨by simp [wrong], by simp only [wrong]; rw [← HE2.out]; simp⟩) (below_put6 (by repeat (first | exact HG.out.below | refine below_at ?_ (by omega) _)) (Nat.le_refl _) _ _ _ _ _ _).drew)
  · have b1 : ((i : Int) == 0) = true := beq_iff_eq.2 (by omega)
    have d3 : decide (3 ≤ (s.size : Int)) = true := decide_eq_true (by omega)
    have hsl3 := slice_to s 3 3 rfl h3
    obtain ⟨x3, hx3⟩ : ∃ x, B (s.data.toList.take 3) = x := ⟨_, rfl⟩
    rw [hx3] at h4 hsl3
    clear h1 h3 hx3
    go_enter Tryz.func24, Tryz.ntmps24
    go_wp2_with (first | (go_at_call 47; refine (H2.out _).mono ?_; rintro e W ⟨rfl, hbW⟩; have HF := Lib.hid ((four_new w (.int .i64 0) (.int .i64 (i : Int)) (.int .i64 ((i : Int) + 1)) (.int .i64 0) (.int .i64 (i : Int)) (.int .i64 0)).then hbW); obtain ⟨⟨⟨u0, u1, u2, u3, u4, u5, k0, k1, k2, k3, k4, k5⟩, f0, f1, f2, f3, f4, f5⟩, x0, x1, x2, y0, y1, y2, ⟨⟨g0, g1, g2⟩, g3, g4, g5⟩, _⟩ := HF.out; clear hbW) | (go_at_call 48; refine (H6.out _).mono ?_; rintro e w' ⟨rfl, rfl⟩) | (go_at_call 49; refine (H7.out _).mono ?_; rintro e w' ⟨rfl, rfl⟩))
    have HF1 := Lib.hid (HF.out.set0 (.int .i64 11))
    have e1 : ((i : Int) + 1) = ((i + 1 : Nat) : Int) := by omega
    have HF2 := HF1
    rw [e1] at HF2
    clear k0 k1 k2 k3 k4 k5 f0 f1 f2 f3 f4 f5 x0 x1 x2 y0 y1 y2 g0 g1 g2 g3 g4 g5
    go_loopw [] (fun wr => ∃ n : Nat, i < n ∧ n ≤ s.size ∧ Four w wr (.int .i64 11) (.int .i64 (i : Int)) (.int .i64 (n : Int)) (.int .i64 0) (.int .i64 (i : Int)) (.int .i64 0) ∧ ∀ j, i ≤ j → j < n → ∀ h : j < s.data.toList.length, isWd s.data.toList[j] = true) (fun wr => s.size - (intOf ((wr.cell? ⟨w.heap.size + 1 + 1, 2, none⟩).getD undef)).toNat)
    case atStart => exact ⟨i + 1, by omega, by omega, HF2.out, fun j g1 g2 h => by
                      obtain rfl : j = i := by omega
                      exact HC.out h⟩
    case round =>
      obtain ⟨n, hn1, hn2, hfo, hall⟩ := hrel
      have HR := Lib.hid hfo
      have HA := Lib.hid hall
      clear hfo hall HF HF1 HF2 e1
      obtain ⟨⟨⟨u0, u1, u2, u3, u4, u5, k0, k1, k2, k3, k4, k5⟩, f0, f1, f2, f3, f4, f5⟩, x0, x1, x2, y0, y1, y2, ⟨⟨g0, g1, g2⟩, g3, g4, g5⟩, _⟩ := HR.out
      by_cases hlt2 : n < s.size
      · obtain ⟨d, hd⟩ : ∃ d, s[n]'hlt2 = d := ⟨_, rfl⟩
        have hixn : ∀ u : World, (Instr.index 9 (.string s) (.int .i64 (n : Int))).run Tryz.prog u = .ok (.int .u8 (d.toNat : Int)) u := fun u => by rw [← hd]; exact index_at s _ n rfl hlt2 u
        have HD : Hid (∀ h : n < s.data.toList.length, s.data.toList[n] = d) := Lib.hid (fun _ => by rw [← hd]; rfl)
        have dlt : decide ((n : Int) < (s.size : Int)) = true := decide_eq_true (by omega)
        clear hd
        cases hL : isLt d with
        | true =>
          have H3 := Lib.hid (fun u => refLetter_any d u)
          rw [hL] at H3
          have HP : Hid (isWd d = true) := Lib.hid (by unfold isWd; rw [hL]; rfl)
          clear hL
          go_wp2_with (go_at_call 48; refine (H3.out _).mono ?_; rintro e w' ⟨rfl, rfl⟩)
          go_roundw
          case rel => exact ⟨n + 1, by omega, by omega, by have := HR.out.set2 (.int .i64 ((n + 1 : Nat) : Int)); exact this, fun j g1 g2 h => by
                        by_cases e : j = n
                        · subst e; rw [HD.out h]; exact HP.out
                        · exact HA.out j g1 (by omega) h⟩
          case measure => have e2 := (HR.out.set2 (.int .i64 ((n : Int) + 1))).x2; simp only [x2, e2, Option.getD_some, intOf]; omega
        | false =>
          have H3 := Lib.hid (fun u => refLetter_any d u)
          rw [hL] at H3
          have H5 := Lib.hid (fun u => refDigit_any d u)
          cases hG : isDg d with
          | true =>
            rw [hG] at H5
            have HP : Hid (isWd d = true) := Lib.hid (by unfold isWd; rw [hL, hG]; rfl)
            clear hL hG
            go_wp2_with (first | (go_at_call 48; refine (H3.out _).mono ?_; rintro e w' ⟨rfl, rfl⟩) | (go_at_call 49; refine (H5.out _).mono ?_; rintro e w' ⟨rfl, rfl⟩))
            go_roundw
            case rel => exact ⟨n + 1, by omega, by omega, by have := HR.out.set2 (.int .i64 ((n + 1 : Nat) : Int)); exact this, fun j g1 g2 h => by
                          by_cases e : j = n
                          · subst e; rw [HD.out h]; exact HP.out
                          · exact HA.out j g1 (by omega) h⟩
            case measure => have e2 := (HR.out.set2 (.int .i64 ((n : Int) + 1))).x2; simp only [x2, e2, Option.getD_some, intOf]; omega
          | false =>
            rw [hG] at H5
            have HP : Hid (isWd d = false) := Lib.hid (by unfold isWd; rw [hL, hG]; rfl)
            clear hL hG
            have HE : Hid (i + runL isWd (s.data.toList.drop i) = n) := Lib.hid (run_to (by omega) (by rw [HSD.out]; exact hlt2) HA.out (by rw [HD.out (by rw [HSD.out]; exact hlt2)]; exact HP.out))
            have hsl := piece_mid s i n (i : Int) (n : Int) rfl rfl (by omega) (by omega)
            have HK := Lib.hid (fun u => refDigits_any (B ((s.data.toList.drop i).take (n - i))) u (by rw [bsize, List.length_take, List.length_drop, HSD.out]; omega))
            rw [bdata] at HK
            have hw : runL isWd (s.data.toList.drop i) = n - i := by have := HE.out; omega
            have HW3 := HW
            rw [hw] at HW3
            obtain ⟨z1, z2, z3, hz⟩ : ∃ z1 z2 z3, numOf ((s.data.toList.drop i).take (n - i)) = (z1, z2, z3) := ⟨_, _, _, rfl⟩
            obtain ⟨x, hx⟩ : ∃ x, B ((s.data.toList.drop i).take (n - i)) = x := ⟨_, rfl⟩
            rw [hz] at HK HW3
            rw [hx] at HK hsl
            have HE2 : Hid ((i : Int) + ((n - i : Nat) : Int) = (n : Int)) := Lib.hid (by omega)
            clear hz hx hw HW HE HA
            cases z3 with
            | true =>
              rw [if_pos rfl] at HW3
              go_wp2_with (first | (go_at_call 48; refine (H3.out _).mono ?_; rintro e w' ⟨rfl, rfl⟩) | (go_at_call 49; refine (H5.out _).mono ?_; rintro e w' ⟨rfl, rfl⟩) | (go_at_call 51; refine (HK.out _).mono ?_; rintro e W5 ⟨rfl, hb5⟩; have HG := Lib.hid (HR.out.then hb5); clear k0 k1 k2 k3 k4 k5 f0 f1 f2 f3 f4 f5 x0 x1 x2 y0 y1 y2 g0 g1 g2 g3 g4 g5; clear hb5; obtain ⟨⟨⟨u0, u1, u2, u3, u4, u5, k0, k1, k2, k3, k4, k5⟩, f0, f1, f2, f3, f4, f5⟩, x0, x1, x2, y0, y1, y2, ⟨⟨g0, g1, g2⟩, g3, g4, g5⟩, _⟩ := HG.out))
              go_region
              go_wp2_with fail
              exact bodyPost_ret (results_drew Tryz.results24 _ (by repeat (first | exact HG.out.six | refine six_past ?_ (by omega) _)) (.int .i64 11) (.int .i64 (i : Int)) (.int .i64 (n : Int)) (.int .i64 0) (.int .i64 (i : Int)) (.int .i64 (n : Int)) rfl rfl) rfl (Told.mk' (x := (i : Int)) (y := (n : Int)) (by rw [HW3.out]; simp only [right]; rw [HE2.out]) (by rw [HW3.out]; exact fun h => absurd rfl h) (below_put6 (by repeat (first | exact HG.out.below | refine below_at ?_ (by omega) _)) (Nat.le_refl _) _ _ _ _ _ _).drew)
            | false =>
              rw [if_neg (by simp)] at HW3
              go_wp2_with (first | (go_at_call 48; refine (H3.out _).mono ?_; rintro e w' ⟨rfl, rfl⟩) | (go_at_call 49; refine (H5.out _).mono ?_; rintro e w' ⟨rfl, rfl⟩) | (go_at_call 51; refine (HK.out _).mono ?_; rintro e W5 ⟨rfl, hb5⟩; have HG := Lib.hid (HR.out.then hb5); clear k0 k1 k2 k3 k4 k5 f0 f1 f2 f3 f4 f5 x0 x1 x2 y0 y1 y2 g0 g1 g2 g3 g4 g5; clear hb5; obtain ⟨⟨⟨u0, u1, u2, u3, u4, u5, k0, k1, k2, k3, k4, k5⟩, f0, f1, f2, f3, f4, f5⟩, x0, x1, x2, y0, y1, y2, ⟨⟨g0, g1, g2⟩, g3, g4, g5⟩, _⟩ := HG.out))
              go_region
              go_wp2_with fail
              exact bodyPost_ret (results_drew Tryz.results24 _ (by repeat (first | exact HG.out.six | refine six_past ?_ (by omega) _)) (.int .i64 11) (.int .i64 (i : Int)) (.int .i64 (n : Int)) (.int .i64 109) (.int .i64 (i : Int)) (.int .i64 (n : Int)) rfl rfl) rfl (Told.mk' (x := (i : Int)) (y := (n : Int)) (by rw [HW3.out]; simp only [wrong]; rw [HE2.out]) (by rw [HW3.out]; exact fun _ => ⟨by simp [wrong], by simp only [wrong]; rw [← HE2.out]; simp⟩) (below_put6 (by repeat (first | exact HG.out.below | refine below_at ?_ (by omega) _)) (Nat.le_refl _) _ _ _ _ _ _).drew)
      · have dlt : decide ((n : Int) < (s.size : Int)) = false := decide_eq_false (by omega)
        obtain rfl : n = s.size := by omega
        have HE : Hid (i + runL isWd (s.data.toList.drop i) = s.size) := Lib.hid (by rw [run_end (by rw [HSD.out]; omega) (fun j g1 h => HA.out j g1 (by rw [HSD.out] at h; omega) h), HSD.out])
        have hsl := piece_mid s i s.size (i : Int) (s.size : Int) rfl rfl (by omega) (by omega)
        have HK := Lib.hid (fun u => refDigits_any (B ((s.data.toList.drop i).take (s.size - i))) u (by rw [bsize, List.length_take, List.length_drop, HSD.out]; omega))
        rw [bdata] at HK
        have hw : runL isWd (s.data.toList.drop i) = s.size - i := by have := HE.out; omega
        have HW3 := HW
        rw [hw] at HW3
        obtain ⟨z1, z2, z3, hz⟩ : ∃ z1 z2 z3, numOf ((s.data.toList.drop i).take (s.size - i)) = (z1, z2, z3) := ⟨_, _, _, rfl⟩
        obtain ⟨x, hx⟩ : ∃ x, B ((s.data.toList.drop i).take (s.size - i)) = x := ⟨_, rfl⟩
        rw [hz] at HK HW3
        rw [hx] at HK hsl
        have HE2 : Hid ((i : Int) + ((s.size - i : Nat) : Int) = (s.size : Int)) := Lib.hid (by omega)
        clear hz hx hw HW HE HA
        cases z3 with
        | true =>
          rw [if_pos rfl] at HW3
          go_wp2_with (first | (go_at_call 51; refine (HK.out _).mono ?_; rintro e W5 ⟨rfl, hb5⟩; have HG := Lib.hid (HR.out.then hb5); clear k0 k1 k2 k3 k4 k5 f0 f1 f2 f3 f4 f5 x0 x1 x2 y0 y1 y2 g0 g1 g2 g3 g4 g5; clear hb5; obtain ⟨⟨⟨u0, u1, u2, u3, u4, u5, k0, k1, k2, k3, k4, k5⟩, f0, f1, f2, f3, f4, f5⟩, x0, x1, x2, y0, y1, y2, ⟨⟨g0, g1, g2⟩, g3, g4, g5⟩, _⟩ := HG.out))
          go_region
          go_wp2_with fail
          exact bodyPost_ret (results_drew Tryz.results24 _ (by repeat (first | exact HG.out.six | refine six_past ?_ (by omega) _)) (.int .i64 11) (.int .i64 (i : Int)) (.int .i64 (s.size : Int)) (.int .i64 0) (.int .i64 (i : Int)) (.int .i64 (s.size : Int)) rfl rfl) rfl (Told.mk' (x := (i : Int)) (y := (s.size : Int)) (by rw [HW3.out]; simp only [right]; rw [HE2.out]) (by rw [HW3.out]; exact fun h => absurd rfl h) (below_put6 (by repeat (first | exact HG.out.below | refine below_at ?_ (by omega) _)) (Nat.le_refl _) _ _ _ _ _ _).drew)
        | false =>
          rw [if_neg (by simp)] at HW3
          go_wp2_with (first | (go_at_call 51; refine (HK.out _).mono ?_; rintro e W5 ⟨rfl, hb5⟩; have HG := Lib.hid (HR.out.then hb5); clear k0 k1 k2 k3 k4 k5 f0 f1 f2 f3 f4 f5 x0 x1 x2 y0 y1 y2 g0 g1 g2 g3 g4 g5; clear hb5; obtain ⟨⟨⟨u0, u1, u2, u3, u4, u5, k0, k1, k2, k3, k4, k5⟩, f0, f1, f2, f3, f4, f5⟩, x0, x1, x2, y0, y1, y2, ⟨⟨g0, g1, g2⟩, g3, g4, g5⟩, _⟩ := HG.out))
          go_region
          go_wp2_with fail
          exact bodyPost_ret (results_drew Tryz.results24 _ (by repeat (first | exact HG.out.six | refine six_past ?_ (by omega) _)) (.int .i64 11) (.int .i64 (i : Int)) (.int .i64 (s.size : Int)) (.int .i64 109) (.int .i64 (i : Int)) (.int .i64 (s.size : Int)) rfl rfl) rfl (Told.mk' (x := (i : Int)) (y := (s.size : Int)) (by rw [HW3.out]; simp only [wrong]; rw [HE2.out]) (by rw [HW3.out]; exact fun _ => ⟨by simp [wrong], by simp only [wrong]; rw [← HE2.out]; simp⟩) (below_put6 (by repeat (first | exact HG.out.below | refine below_at ?_ (by omega) _)) (Nat.le_refl _) _ _ _ _ _ _).drew)
end Go.Proofs.YtjbamlmdeopcaaaGreatDoor.lx
end

section
/-
  The reference's Next, case by case (class 1).
-/
namespace Go.Proofs.YtjbamlmdeopcaaaGreatDoor.lx
open Go.RowKit Go.Proofs.YtjbamlmdeopcaaaGreatDoor.tok

set_option maxRecDepth 100000 in
set_option maxHeartbeats 4000000 in
theorem refNext_1 {s : ByteArray} {i : Nat} {c : UInt8} {w : World} (hlt : i < s.size) (hc : s[i] = c) (hs : s.size ≤ 4194304) (m : Nx) (hm : m = right 1 3) (h1 : i = 0) (h3 : 3 ≤ s.size) (h4 : ((B (s.data.toList.take 3)).toList == [239, 187, 191]) = true) :
    Calls Tryz.prog 24 #[.string s, .int .i64 (i : Int)] w (Told m i w) := by
  have HW := Lib.hid hm
  have hix : ∀ u : World, (Instr.index 9 (.string s) (.int .i64 (i : Int))).run Tryz.prog u = .ok (.int .u8 (c.toNat : Int)) u := fun u => by rw [← hc]; exact index_at s _ i rfl hlt u
  have b1 : ((i : Int) == 0) = true := beq_iff_eq.2 (by omega)
  have d3 : decide (3 ≤ (s.size : Int)) = true := decide_eq_true (by omega)
  have hsl3 := slice_to s 3 3 rfl h3
  obtain ⟨x3, hx3⟩ : ∃ x, B (s.data.toList.take 3) = x := ⟨_, rfl⟩
  rw [hx3] at h4 hsl3
  have HE : Hid ((i : Int) = 0) := Lib.hid (by omega)
  clear h1 h3 hx3 hc hm
  go_enter Tryz.func24, Tryz.ntmps24
  go_wp2
  have HF := Lib.hid (four_new w (.int .i64 1) (.int .i64 (i : Int)) (.int .i64 3) (.int .i64 0) (.int .i64 (i : Int)) (.int .i64 3))
  unfold boxes4 at HF
  generalize (((w.alloc (.cells #[.int .i64 0, .int .i64 0, .int .i64 0] 29)).alloc (.cells #[.int .i64 0, .int .i64 0, .int .i64 0] 27)).alloc (.cells #[.int .i64 1, .int .i64 (i : Int), .int .i64 3] 29)).alloc (.cells #[.int .i64 0, .int .i64 (i : Int), .int .i64 3] 27) = W at *
  obtain ⟨⟨⟨u0, u1, u2, u3, u4, u5, k0, k1, k2, k3, k4, k5⟩, f0, f1, f2, f3, f4, f5⟩, x0, x1, x2, y0, y1, y2, ⟨⟨g0, g1, g2⟩, g3, g4, g5⟩, _⟩ := HF.out
  trace_state
  go_region
  go_wp2_with fail
  exact bodyPost_ret (results_drew Tryz.results24 _ (by repeat (first | exact HF.out.six | refine six_past ?_ (by omega) _)) (.int .i64 1) (.int .i64 (i : Int)) (.int .i64 (3 : Int)) (.int .i64 0) (.int .i64 (i : Int)) (.int .i64 (3 : Int)) rfl rfl) rfl (Told.mk' (x := (i : Int)) (y := (3 : Int)) (by rw [HW.out]; simp only [right]; rw [HE.out]; rfl) (by rw [HW.out]; exact fun h => absurd rfl h) (below_put6 (by repeat (first | exact HF.out.below | refine below_at ?_ (by omega) _)) (Nat.le_refl _) _ _ _ _ _ _).drew)
end Go.Proofs.YtjbamlmdeopcaaaGreatDoor.lx
end

section
/-
  The reference's Next.
-/
namespace Go.Proofs.YtjbamlmdeopcaaaGreatDoor.lx
open Go.RowKit Go.Proofs.YtjbamlmdeopcaaaGreatDoor.tok

theorem pre_two {c a b : UInt8} {r : List UInt8} : Lib.hasPrefix (c :: r) [a, b] = true ↔ c = a ∧ r.head? = some b := by
  cases r with
  | nil => simp [Lib.hasPrefix, List.isPrefixOf]
  | cons d r =>
    simp only [Lib.hasPrefix, List.isPrefixOf, Bool.and_true, Bool.and_eq_true, beq_iff_eq, List.head?_cons, Option.some.injEq]
    exact ⟨fun ⟨x, y⟩ => ⟨x.symm, y.symm⟩, fun ⟨x, y⟩ => ⟨x.symm, y.symm⟩⟩
theorem head_drop {s : ByteArray} {i : Nat} {b : UInt8} : (s.data.toList.drop (i + 1)).head? = some b ↔ ∃ h : i + 1 < s.size, s[i + 1] = b := by
  by_cases h : i + 1 < s.size
  · have : s.data.toList.drop (i + 1) = s[i + 1] :: s.data.toList.drop (i + 2) := List.drop_eq_getElem_cons (by rw [sdata]; exact h)
    rw [this]
    simp [h]
  · rw [List.drop_of_length_le (by rw [sdata]; omega)]
    simp [h]
theorem refNext_any (s : ByteArray) (i : Nat) (w : World) (hs : s.size ≤ 4194304) (hlt : i < s.size) :
    Calls Tryz.prog 24 #[.string s, .int .i64 (i : Int)] w (Told (nxAt lang s.data.toList i) i w) := by
  have hd : s.data.toList.drop i = s[i] :: s.data.toList.drop (i + 1) := List.drop_eq_getElem_cons (by rw [sdata]; exact hlt)
  have hn : nxAt lang s.data.toList i = nxOf lang (cls (i == 0) (s.data.toList.drop i)) (s.data.toList.drop i) := rfl
  have hh2 : ∀ b, (s.data.toList.drop (i + 1)).head? = some b ↔ ∃ h : i + 1 < s.size, s[i + 1] = b := fun b => head_drop
  obtain ⟨c, hc⟩ : ∃ c, s[i] = c := ⟨_, rfl⟩
  rw [hc] at hd
  have hcls : cls (i == 0) (s.data.toList.drop i) = cls (i == 0) (c :: s.data.toList.drop (i + 1)) := by rw [hd]
  rw [cls, ← hd] at hcls
  rw [hn]
  by_cases h1 : ((i == 0) && Lib.hasPrefix (s.data.toList.drop i) mark) = true
  · rw [if_pos h1] at hcls
    rw [Bool.and_eq_true, beq_iff_eq] at h1
    obtain ⟨h0, hp⟩ := h1
    rw [h0, List.drop_zero] at hp
    have hl := (List.isPrefixOf_iff_prefix.1 hp).length_le
    rw [sdata] at hl
    have e := piece_is s.data.toList mark 0
    rw [List.drop_zero] at e
    exact refNext_1 hlt hc hs _ (by rw [hcls]; rfl) h0 hl (by rw [blist]; exact e.trans hp)
  rw [if_neg h1] at hcls
  have g1 : i ≠ 0 ∨ Lib.hasPrefix s.data.toList mark = false := by
    by_cases ha : i = 0
    · refine .inr ?_
      rw [ha, List.drop_zero] at h1
      simpa using h1
    · exact .inl ha
  by_cases h2 : isBl c = true
  · rw [if_pos h2] at hcls
    exact refNext_2 hlt hc hs _ (by rw [hcls]; rfl) g1 h2
  rw [if_neg h2] at hcls
  have h2 : isBl c = false := by simpa using h2
  by_cases h3 : c = 10
  · rw [if_pos h3] at hcls
    exact refNext_3 hlt hc hs _ (by rw [hcls]; rfl) g1 h2 h3
  rw [if_neg h3] at hcls
  have hpa : ∀ a b, Lib.hasPrefix (s.data.toList.drop i) [a, b] = true ↔ c = a ∧ ∃ h : i + 1 < s.size, s[i + 1] = b := fun a b => by rw [hd, pre_two, hh2]
  by_cases h4 : Lib.hasPrefix (s.data.toList.drop i) [47, 47] = true
  · rw [if_pos h4] at hcls
    obtain ⟨e, h, e2⟩ := (hpa 47 47).1 h4
    exact refNext_4 hlt hc hs _ (by rw [hcls]; rfl) g1 h2 h3 e h e2
  rw [if_neg h4] at hcls
  by_cases h5 : Lib.hasPrefix (s.data.toList.drop i) [47, 42] = true
  · rw [if_pos h5] at hcls
    obtain ⟨e, h, e2⟩ := (hpa 47 42).1 h5
    exact refNext_5 hlt hc hs _ (by rw [hcls]; rfl) g1 h2 h3 e h e2
  rw [if_neg h5] at hcls
  by_cases h6 : isLt c = true
  · rw [if_pos h6] at hcls
    exact refNext_6 hlt hc hs _ (by rw [hcls]; rfl) g1 h2 h3 (by rintro rfl; exact absurd h6 (by decide)) h6
  rw [if_neg h6] at hcls
  have h6 : isLt c = false := by simpa using h6
  by_cases h7 : isDg c = true
  · rw [if_pos h7] at hcls
    exact refNext_7 hlt hc hs _ (by rw [hcls]; rfl) g1 h2 h3 (by rintro rfl; exact absurd h7 (by decide)) h6 h7
  rw [if_neg h7] at hcls
  have h7 : isDg c = false := by simpa using h7
  by_cases h8 : c = 34
  · rw [if_pos h8] at hcls
    exact refNext_8 hlt hc hs _ (by rw [hcls]; rfl) g1 h2 h3 (by rw [h8]; decide) h6 h7 h8
  rw [if_neg h8] at hcls
  by_cases h9 : c = 39
  · rw [if_pos h9] at hcls
    exact refNext_9 hlt hc hs _ (by rw [hcls]; rfl) g1 h2 h3 (by rw [h9]; decide) h6 h7 h8 h9
  rw [if_neg h9] at hcls
  by_cases h10 : c = 96
  · rw [if_pos h10] at hcls
    exact refNext_10 hlt hc hs _ (by rw [hcls]; rfl) g1 h2 h3 (by rw [h10]; decide) h6 h7 h8 h9 h10
  rw [if_neg h10] at hcls
  by_cases h47 : c = 47
  · by_cases hl : i + 1 < s.size
    · exact refNext_11c hlt hc hs _ (by rw [hcls]; rfl) g1 h2 h3 h47 hl _ rfl (fun e => h4 ((hpa 47 47).2 ⟨h47, hl, e⟩)) (fun e => h5 ((hpa 47 42).2 ⟨h47, hl, e⟩)) h6 h7 h8 h9 h10
    · exact refNext_11b hlt hc hs _ (by rw [hcls]; rfl) g1 h2 h3 h47 (by omega) h6 h7 h8 h9 h10
  · exact refNext_11a hlt hc hs _ (by rw [hcls]; rfl) g1 h2 h3 h47 h6 h7 h8 h9 h10
end Go.Proofs.YtjbamlmdeopcaaaGreatDoor.lx
end

section
/-
  The reference's Name.
-/
namespace Go.Proofs.YtjbamlmdeopcaaaGreatDoor.tok
open Go.RowKit

def triv5 : List (List UInt8) := [[115, 112, 97, 99, 101], [102, 101, 101, 100], [99, 111, 109, 109, 101, 110, 116], [98, 108, 111, 99, 107], [98, 97, 100]]
def kind7 : List (List UInt8) := [[110, 97, 109, 101], [105, 110, 116], [114, 117, 110, 101], [115, 116, 114, 105, 110, 103], [114, 97, 119], [59], [97, 117, 116, 111]]
theorem name_1 (k : Nat) (hk : k < 5) : nameOf ((k : Int) + 1) = triv5.getD k [] := by
  have : ∀ j : Fin 5, nameOf ((j.val : Int) + 1) = triv5.getD j.val [] := by decide
  exact this ⟨k, hk⟩
theorem name_10 (k : Nat) (hk : k < 7) : nameOf ((k : Int) + 10) = kind7.getD k [] := by
  have : ∀ j : Fin 7, nameOf ((j.val : Int) + 10) = kind7.getD j.val [] := by decide
  exact this ⟨k, hk⟩
theorem name_20 (k : Nat) (hk : k < 46) : nameOf ((k : Int) + 20) = signs.getD k [] := by
  rw [nameOf, if_neg (by omega), if_pos ⟨by omega, by omega⟩]
  congr 1; omega
theorem name_70 (k : Nat) (hk : k < 21) : nameOf ((k : Int) + 70) = words.getD k [] := by
  rw [nameOf, if_neg (by omega), if_neg (by omega), if_pos ⟨by omega, by omega⟩]
  congr 1; omega
theorem name_none (z : Int) (h1 : ¬ (1 ≤ z ∧ z ≤ 5)) (h2 : ¬ (10 ≤ z ∧ z ≤ 16)) (h3 : ¬ (20 ≤ z ∧ z ≤ 65)) (h4 : ¬ (70 ≤ z ∧ z ≤ 90)) : nameOf z = [] := by
  rw [nameOf, if_neg (by omega), if_neg h3, if_neg h4, otherOf]
  repeat rw [if_neg (by omega)]
def Named (z : Int) (w : World) (e : Ending) (w' : World) : Prop := e = .returned (.string (B (nameOf z))) ∧ Below w.heap.size w w'
theorem side (z a b : Int) (h : ¬ (a ≤ z ∧ z ≤ b)) : decide (a ≤ z) = false ∨ (decide (a ≤ z) = true ∧ decide (z ≤ b) = false) := (two_bounds z a b).resolve_left h

end Go.Proofs.YtjbamlmdeopcaaaGreatDoor.tok
end

section
/-
  The reference's ends.
-/
namespace Go.Proofs.YtjbamlmdeopcaaaGreatDoor.lx
open Go.RowKit Go.Proofs.YtjbamlmdeopcaaaGreatDoor.tok

/-- Which kinds the tokens of a text have. -/
theorem nx_kinds (z : Bool) (c : UInt8) (b : List UInt8) : triv (nx lang z (c :: b)).kind = true ∨ 10 ≤ (nx lang z (c :: b)).kind := by
  have hw : ∀ (f : List UInt8 → Int × Nat) (k code : Int) (q : UInt8) (r : List UInt8), (quotedL f k code q r).kind = k := fun f k code q r => (quoted_width f k code q r).2
  have hcl : ∀ (k code : Int) (n : Nat) (clo r : List UInt8), (closedL k code n clo r).kind = k := by
    intro k code n clo r
    unfold closedL
    split <;> rfl
  unfold nx
  have hk := cls_le z c b
  generalize cls z (c :: b) = k at *
  match k, hk with
  | 0, h => omega
  | 1, _ => left; rfl
  | 2, _ => left; rfl
  | 3, _ => left; rfl
  | 4, _ => left; rfl
  | 5, _ => left; show triv (closedL 4 105 2 [42, 47] (c :: b)).kind = true; rw [hcl]; rfl
  | 6, _ =>
    right
    show 10 ≤ (if lang.kw _ = 0 then (10 : Int) else lang.kw _)
    split
    · omega
    · rename_i h
      have := (lang.kw_kind _).resolve_left h
      omega
  | 7, _ =>
    right
    show 10 ≤ (numL lang (c :: b)).kind
    unfold numL
    split
    · show (10 : Int) ≤ 11; decide
    · show (10 : Int) ≤ 11; decide
  | 8, _ => right; show 10 ≤ (quotedL lang.str 13 106 34 (c :: b)).kind; rw [hw]; decide
  | 9, _ => right; show 10 ≤ (quotedL lang.rune 12 107 39 (c :: b)).kind; rw [hw]; decide
  | 10, _ => right; show 10 ≤ (closedL 14 106 1 [96] (c :: b)).kind; rw [hcl]; decide
  | 11, _ =>
    show triv (signL lang (c :: b)).kind = true ∨ 10 ≤ (signL lang (c :: b)).kind
    unfold signL
    split
    · rename_i h
      right
      have := (lang.op_kind _ h).1
      show 10 ≤ ((lang.op _).1 : Int)
      omega
    · split
      · left; rfl
      · left; rfl
  | n + 12, h => omega
def Kinds (T : List Tr) : Prop := ∀ t ∈ T, triv t.k = true ∨ 10 ≤ t.k
theorem bare_kinded (l : List UInt8) : ∀ p, Kinds (bare lang l p) := by
  refine along (L := lang) (fun p h => by rw [bare_end h]; intro t ht; simp at ht) (fun p h ih => ?_)
  rw [bare_step h]
  intro t ht
  rcases List.mem_cons.1 ht with rfl | ht
  · show triv (nxAt lang l p).kind = true ∨ 10 ≤ (nxAt lang l p).kind
    unfold nxAt
    rw [List.drop_eq_getElem_cons h]
    exact nx_kinds _ _ _
  · exact ih t ht
theorem feed_find (l : List UInt8) (t : Tr) (h1 : t.i ≤ t.j) (h2 : t.j ≤ l.length) : (findL (l.take t.j) t.i [10] < t.j) ↔ hasFeed l t = true := by
  unfold hasFeed piece findL Lib.contains
  rw [List.drop_take, List.length_take, Nat.min_eq_left h2]
  have hr := Lib.index_room ((l.drop t.i).take (t.j - t.i)) [10]
  rw [List.length_take, List.length_drop] at hr
  by_cases h : Lib.index ((l.drop t.i).take (t.j - t.i)) [10] < 0
  · rw [if_pos h]
    simp
    omega
  · rw [if_neg h]
    have := hr (by omega)
    simp at this ⊢
    omega
set_option maxRecDepth 100000 in
set_option maxHeartbeats 4000000 in
theorem refEnds_any (s : ByteArray) (v : Value) (T : List Tr) (i : Nat) (w : World) (hs : s.size ≤ 4194304) (hr : Row w v T) (hw : Within s.size T) (hk : Kinds T) (hn : T.length ≤ 16777216) (hi : i < T.length) :
    Calls Tryz.prog 16 #[.string s, v, .int .i64 (i : Int)] w (fun e w' => e = .returned (.bool (lineEnd s.data.toList false (T.drop (i + 1)))) ∧ Below w.heap.size w w') := by
  obtain ⟨g, off, o, cap, hc, rfl, ho, hcell⟩ := hr
  have HC := Lib.hid hcell
  have HW := Lib.hid hw
  have HK := Lib.hid hk
  have HSD := Lib.hid (sdata s)
  have ho := ho (by rintro rfl; simp at hi)
  subst ho
  clear hcell hw hk
  obtain ⟨len, hlen⟩ : ∃ len, T.length = len := ⟨_, rfl⟩
  rw [hlen] at hc hn hi
  have HN := Lib.hid hlen
  clear hlen
  rw [HN.out]
  go_enter Tryz.func16, Tryz.ntmps16
  go_wp2
  go_loopw [7] (fun p wr => ∃ n : Nat, n ≤ len ∧ p = .int .i64 n ∧ lineEnd s.data.toList false (T.drop n) = lineEnd s.data.toList false (T.drop (i + 1)) ∧ Below w.heap.size w wr) (fun p _ => len - (intOf p).toNat)
  case atStart => exact ⟨i + 1, by omega, by go_num, rfl, Below.refl _ _⟩
  case round =>
    obtain ⟨n, hnl, rfl, hle, hb⟩ := hrel
    have HB := Lib.hid hb
    have HL := Lib.hid hle
    have hsz := hb.size
    clear hb hle
    by_cases hlt : n < len
    · have hltT : n < T.length := by rw [HN.out]; exact hlt
      have hd : decide ((n : Int) < (len : Int)) = true := decide_eq_true (by omega)
      have hD := List.drop_eq_getElem_cons hltT
      obtain ⟨c0, c1, c2⟩ := HC.out.below HB.out n hltT
      obtain ⟨w1, w2⟩ := HW.out T[n] (List.getElem_mem hltT)
      have hkd := HK.out T[n] (List.getElem_mem hltT)
      have hff := feed_find s.data.toList T[n] w1 (by rw [HSD.out]; exact w2)
      generalize T[n] = t at *
      obtain ⟨k, a, b⟩ := t
      simp only [] at c0 c1 c2 w1 w2 hkd hff
      rw [hD, lineEnd] at HL
      simp only [] at HL
      have HKD := Lib.hid hkd
      have HFF := Lib.hid hff
      clear hltT hD hkd hff
      by_cases h2 : k = 2
      · subst h2
        rw [if_neg (by decide), if_pos rfl] at HL
        go_wp2_with fail
        have x0 : (wr.alloc (.cells #[.int .i64 2, .int .i64 (a : Int), .int .i64 (b : Int)] 29)).cell? ⟨wr.heap.size, 0, none⟩ = some (.int .i64 2) := by simp
        have x1 : (wr.alloc (.cells #[.int .i64 2, .int .i64 (a : Int), .int .i64 (b : Int)] 29)).cell? ⟨wr.heap.size, 1, none⟩ = some (.int .i64 (a : Int)) := by simp
        have x2 : (wr.alloc (.cells #[.int .i64 2, .int .i64 (a : Int), .int .i64 (b : Int)] 29)).cell? ⟨wr.heap.size, 2, none⟩ = some (.int .i64 (b : Int)) := by simp
        have HB2 := Lib.hid (HB.out.alloc hsz (.cells #[.int .i64 2, .int .i64 (a : Int), .int .i64 (b : Int)] 29))
        generalize wr.alloc (.cells #[.int .i64 2, .int .i64 (a : Int), .int .i64 (b : Int)] 29) = W at *
        go_region
        all_goals go_wp2_with fail
        go_ret
        exact ⟨(by rw [← HL.out]; first | done | rfl), by first | exact HB2.out.drew | exact HB2.out⟩
      · have b2 : (k == 2) = false := beq_eq_false_iff_ne.2 h2
        by_cases h4 : k = 4
        · subst h4
          have hsl := slice_to s b (b : Int) rfl w2
          have HFI := Lib.hid (fun u => refFind_is (B (s.data.toList.take b)) ⟨#[10]⟩ a (findL (s.data.toList.take b) a [10]) (a : Int) u (by rw [bsize, List.length_take, HSD.out]; omega) (by decide) (by rw [bsize, List.length_take, HSD.out]; omega) rfl (by rw [bdata]))
          obtain ⟨x, hx⟩ : ∃ x, B (s.data.toList.take b) = x := ⟨_, rfl⟩
          obtain ⟨f, hf⟩ : ∃ f, findL (s.data.toList.take b) a [10] = f := ⟨_, rfl⟩
          have HFF2 := HFF
          simp only [hf] at HFF2
          rw [hx] at hsl HFI
          rw [hf] at HFI
          clear hx hf HFF
          go_wp2_with fail
          have x0 : (wr.alloc (.cells #[.int .i64 4, .int .i64 (a : Int), .int .i64 (b : Int)] 29)).cell? ⟨wr.heap.size, 0, none⟩ = some (.int .i64 4) := by simp
          have x1 : (wr.alloc (.cells #[.int .i64 4, .int .i64 (a : Int), .int .i64 (b : Int)] 29)).cell? ⟨wr.heap.size, 1, none⟩ = some (.int .i64 (a : Int)) := by simp
          have x2 : (wr.alloc (.cells #[.int .i64 4, .int .i64 (a : Int), .int .i64 (b : Int)] 29)).cell? ⟨wr.heap.size, 2, none⟩ = some (.int .i64 (b : Int)) := by simp
          have HB2 := Lib.hid (HB.out.alloc hsz (.cells #[.int .i64 4, .int .i64 (a : Int), .int .i64 (b : Int)] 29))
          generalize wr.alloc (.cells #[.int .i64 4, .int .i64 (a : Int), .int .i64 (b : Int)] 29) = W at *
          by_cases hfb : f < b
          · have hdf : decide ((f : Int) < (b : Int)) = true := decide_eq_true (by omega)
            have hfd : hasFeed s.data.toList ⟨4, a, b⟩ = true := HFF2.out.1 hfb
            rw [if_neg (by decide), if_neg (by decide), if_pos (by rw [hfd]; rfl)] at HL
            clear hfd
            go_region_held3 (fun W' => W'.cell? ⟨wr.heap.size, 0, none⟩ = some (.int .i64 4) ∧ W'.cell? ⟨wr.heap.size, 1, none⟩ = some (.int .i64 (a : Int)) ∧ W'.cell? ⟨wr.heap.size, 2, none⟩ = some (.int .i64 (b : Int)))
              (first | exact ⟨x0, x1, x2⟩ | go_keep) (first | (go_at_call 25; refine (HFI.out _).mono ?_; rintro e w7 ⟨rfl, rfl⟩))
            all_goals go_wp2_with fail
            go_ret
            exact ⟨(by rw [← HL.out]; first | done | rfl), by first | exact HB2.out.drew | exact HB2.out⟩
          · have hdf : decide ((f : Int) < (b : Int)) = false := decide_eq_false (by omega)
            have hfd : hasFeed s.data.toList ⟨4, a, b⟩ = false := by
              cases hq : hasFeed s.data.toList ⟨4, a, b⟩ with
              | false => rfl
              | true => exact absurd (HFF2.out.2 hq) hfb
            rw [if_neg (by decide), if_neg (by decide), if_neg (by rw [hfd]; decide)] at HL
            clear hfd
            go_region_held3 (fun W' => W'.cell? ⟨wr.heap.size, 0, none⟩ = some (.int .i64 4) ∧ W'.cell? ⟨wr.heap.size, 1, none⟩ = some (.int .i64 (a : Int)) ∧ W'.cell? ⟨wr.heap.size, 2, none⟩ = some (.int .i64 (b : Int)))
              (first | exact ⟨x0, x1, x2⟩ | go_keep) (first | (go_at_call 25; refine (HFI.out _).mono ?_; rintro e w7 ⟨rfl, rfl⟩))
            all_goals go_wp2_with fail
            go_roundw
            case rel => exact ⟨n + 1, by omega, by go_num, HL.out, by first | exact HB2.out.drew | exact HB2.out⟩
            case measure => simp [intOf]; omega
        · have b4 : (k == 4) = false := beq_eq_false_iff_ne.2 h4
          go_wp2_with fail
          have x0 : (wr.alloc (.cells #[.int .i64 k, .int .i64 (a : Int), .int .i64 (b : Int)] 29)).cell? ⟨wr.heap.size, 0, none⟩ = some (.int .i64 k) := by simp
          have x1 : (wr.alloc (.cells #[.int .i64 k, .int .i64 (a : Int), .int .i64 (b : Int)] 29)).cell? ⟨wr.heap.size, 1, none⟩ = some (.int .i64 (a : Int)) := by simp
          have x2 : (wr.alloc (.cells #[.int .i64 k, .int .i64 (a : Int), .int .i64 (b : Int)] 29)).cell? ⟨wr.heap.size, 2, none⟩ = some (.int .i64 (b : Int)) := by simp
          have HB2 := Lib.hid (HB.out.alloc hsz (.cells #[.int .i64 k, .int .i64 (a : Int), .int .i64 (b : Int)] 29))
          generalize wr.alloc (.cells #[.int .i64 k, .int .i64 (a : Int), .int .i64 (b : Int)] 29) = W at *
          rcases HKD.out with h1 | h1
          · have hge : decide (10 ≤ k) = false := decide_eq_false (by unfold triv at h1; have := of_decide_eq_true h1; omega)
            rw [if_neg (by rw [h1]; decide), if_neg h2, if_neg (by simp [h4])] at HL
            go_region
            all_goals go_wp2_with fail
            go_roundw
            case rel => exact ⟨n + 1, by omega, by go_num, HL.out, by first | exact HB2.out.drew | exact HB2.out⟩
            case measure => simp [intOf]; omega
          · have hge : decide (10 ≤ k) = true := decide_eq_true h1
            rw [if_pos (by unfold triv; exact decide_eq_false (by omega))] at HL
            go_region
            all_goals go_wp2_with fail
            go_ret
            exact ⟨(by rw [← HL.out]; first | done | rfl), by first | exact HB2.out.drew | exact HB2.out⟩
    · have hd : decide ((n : Int) < (len : Int)) = false := decide_eq_false (by omega)
      have hD : T.drop n = [] := List.drop_of_length_le (by rw [HN.out]; omega)
      rw [hD] at HL
      go_wp2_with fail
      go_ret
      exact ⟨by rw [← HL.out]; rfl, HB.out⟩
end Go.Proofs.YtjbamlmdeopcaaaGreatDoor.lx
end

section
/-
  The reference's Bare.
-/
namespace Go.Proofs.YtjbamlmdeopcaaaGreatDoor.lx
open Go.RowKit Go.Proofs.YtjbamlmdeopcaaaGreatDoor.tok

theorem made_two (w : World) (t e : TypeId) : ((w.alloc (.cells #[] t)).alloc (.cells #[] e)).ownsRow w.heap.size e 3 (.slice (some ⟨w.heap.size + 1, 0, none⟩) 0 0) 0 [] := by
  have h : ((w.alloc (.cells #[] t)).alloc (.cells #[] e)).ownsRow w.heap.size e 3 (.slice (some ⟨(w.alloc (.cells #[] t)).heap.size, 0, none⟩) 0 0) 0 [] := World.ownsRow_made (w.alloc (.cells #[] t)) #[] 0 (by simp) (by decide) rfl
  rw [World.size_alloc] at h
  exact h
set_option maxRecDepth 100000 in
set_option maxHeartbeats 8000000 in
theorem refBare_any (s : ByteArray) (w : World) (hs : s.size ≤ 4194304) :
    Calls Tryz.prog 14 #[.string s] w (ScanPost (bare lang s.data.toList 0) (dgs lang s.data.toList 0) w) := by
  obtain ⟨i0, hi, hz0, hz1, hz2⟩ := info_parts infoT
  obtain ⟨j0, hj, hy0, hy1, hy2⟩ := info_parts infoG
  have hsd := sdata s
  have HD := Lib.hid hsd
  clear hsd
  go_enter Tryz.func14, Tryz.ntmps14
  go_wp2
  go_loopw [4, 5, 6] (fun v1 v2 a wr => ∃ (p : Nat) (T D : List Tr), a = .int .i64 p ∧ Far lang s.data.toList p T D ∧ OwnT wr w.heap.size v1 T ∧ OwnG wr w.heap.size v2 D ∧ Below w.heap.size w wr) (fun _ _ a _ => s.size - (intOf a).toNat)
  case atStart => exact ⟨0, [], [], rfl, Far.zero _, (World.ownsRow_made w #[] 0 (Nat.le_refl _) (by decide) rfl).alloc _, made_two w _ _, below2 w _ _⟩
  case round =>
    obtain ⟨p, T, D, rfl, hF, hT, hG, hb⟩ := hrel
    have hfew := hF.few
    have hfew' := hF.few'
    have hple : p ≤ s.size := by have := hF.le; rwa [HD.out] at this
    have HF := Lib.hid hF
    have HT := Lib.hid hT
    have HG := Lib.hid hG
    have HB := Lib.hid hb
    have hsz := hb.size
    clear hF hT hG hb
    by_cases hlt : p < s.size
    · have hd : decide ((p : Int) < (s.size : Int)) = true := decide_eq_true (by omega)
      have HX := Lib.hid (refNext_any s p wr hs hlt)
      have hltL : p < s.data.toList.length := by rw [HD.out]; exact hlt
      have HS := Lib.hid (HF.out.step hltL)
      have hwp := at_pos (L := lang) hltL
      have hwl := at_le (L := lang) hltL
      rw [HD.out] at hwl
      have HK : Hid (tkAt lang s.data.toList p = ⟨(nxAt lang s.data.toList p).kind, p, p + (nxAt lang s.data.toList p).width⟩) := Lib.hid rfl
      have HQ : Hid (dgAt lang s.data.toList p = if (nxAt lang s.data.toList p).code = 0 then [] else [⟨(nxAt lang s.data.toList p).code, p + (nxAt lang s.data.toList p).off, p + (nxAt lang s.data.toList p).off + (nxAt lang s.data.toList p).dw⟩]) := Lib.hid rfl
      generalize nxAt lang s.data.toList p = N at *
      rw [HK.out, HQ.out] at HS
      clear HQ HK hltL
      obtain ⟨nk, nw, nc, no, nd⟩ := N
      simp only [] at HS hwp hwl
      by_cases hc0 : nc = 0
      · rw [if_pos hc0, List.append_nil] at HS
        have hcz : (nc != 0) = false := by rw [hc0]; rfl
        clear hc0
        go_wp2_with (first | (go_at_call 24; refine HX.out.mono ?_; rintro e w1 ⟨x, y, rfl, hxy, hb1⟩; have HB1 := Lib.hid hb1; have hs1 := hb1.size; have HT1 := Lib.hid (dec.own_below HT.out hb1); clear hb1 hxy) | (at_builtin; refine wpList_append_own _ rfl _ _ 22 rfl w.heap.size 29 i0 (.agg #[.int .i64 0, .int .i64 0, .int .i64 0]) 3 24 Tryz.underlying22 hi hz0 hz1 hz2 rfl (by decide) _ _ _ rfl (((World.ownsRow.alloc HT1.out _).alloc _).alloc _) ⟨w1.heap.size + 1 + 1, 0, none⟩ 1 1 [.int .i64 nk, .int .i64 (p : Int), .int .i64 ((p : Int) + (nw : Int))] rfl rfl ?c1 ?c2 ?c3 ?c4 ?c5 ?_))
        case c1 => first | exact three_at2 w1 _ _ _ _ _ _ | (refine ⟨?_, ?_, ?_⟩ <;> simp)
        case c2 => first | exact ⟨rfl, rfl, rfl⟩ | (intro u hu; simp only [List.mem_cons, List.not_mem_nil, or_false] at hu; rcases hu with rfl | rfl | rfl <;> rfl)
        case c3 => unfold maxLen; omega
        case c4 => omega
        case c5 => first | omega | (simp; omega)
        intro v2 w2 hown2 hg _
        have H2 := Lib.hid (step_two (t := ⟨nk, p, p + nw⟩) HB.out HB1.out hsz HT.out hown2 hg)
        have HG2 := Lib.hid (kept3 (dec.own_below HG.out HB1.out) HT1.out (by decide) hg)
        have HGL := Lib.hid (World.ownsRow.lt HG.out)
        obtain ⟨_, a0, a1, a2, b0, b1, b2, hs2⟩ := H2.out
        clear hown2 hg HT1 HG
        clear a0 a1 b1 b2 HGL
        go_wp2_with fail
        go_roundw
        case rel => exact ⟨p + nw, _, _, by go_num, HS.out, H2.out.1.1, HG2.out, H2.out.1.2⟩
        case measure => simp [intOf]; omega
      · rw [if_neg hc0] at HS
        have hcz : (nc != 0) = true := bne_iff_ne.2 hc0
        have HNE := Lib.hid hc0
        clear hc0
        go_wp2_with (first | (go_at_call 24; refine HX.out.mono ?_; rintro e w1 ⟨x, y, rfl, hxy, hb1⟩; obtain ⟨rfl, rfl⟩ := hxy HNE.out; have HB1 := Lib.hid hb1; have hs1 := hb1.size; have HT1 := Lib.hid (dec.own_below HT.out hb1); clear hb1 hxy) | (at_builtin; refine wpList_append_own _ rfl _ _ 22 rfl w.heap.size 29 i0 (.agg #[.int .i64 0, .int .i64 0, .int .i64 0]) 3 24 Tryz.underlying22 hi hz0 hz1 hz2 rfl (by decide) _ _ _ rfl (((World.ownsRow.alloc HT1.out _).alloc _).alloc _) ⟨w1.heap.size + 1 + 1, 0, none⟩ 1 1 [.int .i64 nk, .int .i64 (p : Int), .int .i64 ((p : Int) + (nw : Int))] rfl rfl ?d1 ?d2 ?d3 ?d4 ?d5 ?_))
        case d1 => first | exact three_at2 w1 _ _ _ _ _ _ | (refine ⟨?_, ?_, ?_⟩ <;> simp)
        case d2 => first | exact ⟨rfl, rfl, rfl⟩ | (intro u hu; simp only [List.mem_cons, List.not_mem_nil, or_false] at hu; rcases hu with rfl | rfl | rfl <;> rfl)
        case d3 => unfold maxLen; omega
        case d4 => omega
        case d5 => first | omega | (simp; omega)
        intro v2 w2 hown2 hg _
        have H2 := Lib.hid (step_two (t := ⟨nk, p, p + nw⟩) HB.out HB1.out hsz HT.out hown2 hg)
        have HG2 := Lib.hid (kept3 (dec.own_below HG.out HB1.out) HT1.out (by decide) hg)
        have HGL := Lib.hid (World.ownsRow.lt HG.out)
        obtain ⟨_, a0, a1, a2, b0, b1, b2, hs2⟩ := H2.out
        clear hown2 hg HT1 HG
        clear a0 a1
        go_wp2_with (at_builtin; refine wpList_append_own _ rfl _ _ 23 rfl w.heap.size 27 j0 (.agg #[.int .i64 0, .int .i64 0, .int .i64 0]) 3 24 Tryz.underlying23 hj hy0 hy1 hy2 rfl (by decide) _ _ _ rfl (World.ownsRow.alloc HG2.out _) ⟨w2.heap.size, 0, none⟩ 1 1 [.int .i64 nc, .int .i64 ((p : Int) + (no : Int)), .int .i64 ((p : Int) + (no : Int) + (nd : Int))] rfl rfl ?e1 ?e2 ?e3 ?e4 ?e5 ?_)
        try (case e1 => exact three_at w2 _ _ _ 27)
        case e2 => first | exact ⟨rfl, rfl, rfl⟩ | (intro u hu; simp only [List.mem_cons, List.not_mem_nil, or_false] at hu; rcases hu with rfl | rfl | rfl <;> rfl)
        case e3 => unfold maxLen; omega
        case e4 => omega
        case e5 => first | omega | (simp; omega)
        intro v3 w3 hown3 hg3 _
        have H3 := Lib.hid (step_own1 (t := ⟨nc, p + no, p + no + nd⟩) H2.out.1.2 (by omega) HG2.out hown3 hg3)
        have HT3 := Lib.hid (kept1 H2.out.1.1 HG2.out (by decide) hg3)
        have a3 : w3.cell? ⟨w1.heap.size, 2, none⟩ = some (.int .i64 ((p : Int) + (nw : Int))) := hg3.cell ((World.cell?_alloc_lt _ _ _ (show w1.heap.size < w2.heap.size by omega)).trans a2) (fun h => by have : w1.heap.size < wr.heap.size := (HGL.out _ h.symm).2; omega)
        clear hown3 hg3 a2
        go_wp2_with fail
        go_roundw
        case rel => exact ⟨p + nw, _, _, by go_num, HS.out, HT3.out, H3.out.1, H3.out.2⟩
        case measure => simp [intOf]; omega
    · have hd : decide ((p : Int) < (s.size : Int)) = false := decide_eq_false (by omega)
      obtain ⟨e1, e2⟩ := HF.out.done (by rw [HD.out]; omega)
      go_wp2_with fail
      go_ret2
      exact ⟨_, _, rfl, by rw [← e1]; exact HT.out, by rw [← e2]; exact HG.out, HB.out⟩
end Go.Proofs.YtjbamlmdeopcaaaGreatDoor.lx
end

section
/-
  The reference's Scan.
-/
namespace Go.Proofs.YtjbamlmdeopcaaaGreatDoor.lx
open Go.RowKit Go.Proofs.YtjbamlmdeopcaaaGreatDoor.tok

theorem refEndsOf_any (k : Int) (w : World) : Calls Tryz.prog 15 #[.int .i64 k] w (Says (ends k) w) := tok.refEnds_any k w
set_option maxRecDepth 100000 in
set_option maxHeartbeats 4000000 in
theorem refScan_any (s : ByteArray) (w : World) (hs : s.size ≤ 4194304) :
    Calls Tryz.prog 7 #[.string s] w (ScanPost (scan lang s.data.toList) (dgs lang s.data.toList 0) w) := by
  obtain ⟨i0, hi, hz0, hz1, hz2⟩ := info_parts infoT
  have HD := Lib.hid (sdata s)
  have HBA := Lib.hid (fun u => refBare_any s u hs)
  have hln := bare_few (L := lang) s.data.toList 0
  have HWI := Lib.hid (bare_in s.data.toList)
  have HKI := Lib.hid (bare_kinded s.data.toList 0)
  have HSC : Hid (scan lang s.data.toList = autos s.data.toList false (bare lang s.data.toList 0)) := Lib.hid rfl
  rw [HD.out] at hln HWI
  rw [HSC.out]
  generalize bare lang s.data.toList 0 = T at *
  generalize dgs lang s.data.toList 0 = D at *
  clear HSC HD
  go_enter Tryz.func7, Tryz.ntmps7
  go_wp2_with (go_at_call 14; refine (HBA.out _).mono ?_; rintro e w1 ⟨v1, v2, rfl, hT, hG, hb1⟩; have HT := Lib.hid hT; have HG := Lib.hid hG; have HB1 := Lib.hid hb1; clear hT hG hb1)
  have hz1' := HB1.out.size
  have hrow := row_of_own HT.out
  have HR := Lib.hid hrow
  obtain ⟨g, off, o, cap, hc, hv1, ho, hcell⟩ := hrow.rowB
  subst hv1
  have HC : Hid (∀ w2, Below w1.heap.size w1 w2 → ∀ j (h : j < T.length), w2.cell? ⟨g, off + j * 3, none⟩ = some (.int .i64 T[j].k) ∧ w2.cell? ⟨g, off + j * 3 + 1, none⟩ = some (.int .i64 (T[j].i : Int)) ∧ w2.cell? ⟨g, off + j * 3 + 2, none⟩ = some (.int .i64 (T[j].j : Int))) := Lib.hid (fun w2 h1 j hj => by
    have hne : T ≠ [] := by rintro rfl; simp at hj
    have hg := (ho hne).2
    obtain ⟨a, b, c⟩ := hcell j hj
    exact ⟨(h1.cell (p := ⟨g, off + j * 3, none⟩) hg).trans a, (h1.cell (p := ⟨g, off + j * 3 + 1, none⟩) hg).trans b, (h1.cell (p := ⟨g, off + j * 3 + 2, none⟩) hg).trans c⟩)
  have HO := Lib.hid ho
  obtain ⟨len, hlen⟩ : ∃ len, T.length = len := ⟨_, rfl⟩
  rw [hlen] at hc hln
  have HN := Lib.hid hlen
  clear hcell ho hrow hlen
  rw [HN.out] at HR ⊢
  go_loopw [6, 7] (fun vv p wr => ∃ (n : Nat) (M : List Tr), n ≤ len ∧ p = .int .i64 n ∧ M ++ autos s.data.toList false (T.drop n) = autos s.data.toList false T ∧ M.length ≤ 2 * n ∧ OwnT wr w1.heap.size vv M ∧ Below w1.heap.size w1 wr) (fun _ p _ => len - (intOf p).toNat)
  case atStart => exact ⟨0, [], Nat.zero_le _, rfl, rfl, by simp, World.ownsRow_made w1 #[] 0 (Nat.le_refl _) (by decide) rfl, (Below.refl _ _).alloc (Nat.le_refl _) _⟩
  case round =>
    obtain ⟨n, M, hnl, rfl, hle, hfew, hown, hb⟩ := hrel
    have HB := Lib.hid hb
    have HL := Lib.hid hle
    have HM := Lib.hid hown
    have hsz := hb.size
    have hlt := World.ownsRow.lt hown
    have HLT := Lib.hid hlt
    clear hb hle hown hlt
    by_cases hlt : n < len
    · have hltT : n < T.length := by rw [HN.out]; exact hlt
      have hd : decide ((n : Int) < (len : Int)) = true := decide_eq_true (by omega)
      have hne : T ≠ [] := by rintro rfl; simp at hltT
      obtain ⟨ho, hgB⟩ := HO.out hne
      subst ho
      have hD := List.drop_eq_getElem_cons hltT
      obtain ⟨c0, c1, c2⟩ := HC.out _ HB.out n hltT
      have HCC : Hid (∀ w2, Below w1.heap.size w1 w2 → w2.cell? ⟨g, off + n * 3, none⟩ = some (.int .i64 T[n].k) ∧ w2.cell? ⟨g, off + n * 3 + 1, none⟩ = some (.int .i64 (T[n].i : Int)) ∧ w2.cell? ⟨g, off + n * 3 + 2, none⟩ = some (.int .i64 (T[n].j : Int))) := Lib.hid (fun w2 h => HC.out w2 h n hltT)
      have HX := Lib.hid (fun (u : World) (hu : Below w1.heap.size w1 u) => refEnds_any s (.slice (some ⟨g, off, none⟩) len cap) T n u hs (HR.out.below hu) HWI.out HKI.out (by rw [HN.out]; omega) hltT)
      generalize T[n] = t at *
      obtain ⟨k, i, j⟩ := t
      simp only [] at c0 c1 c2 HCC
      rw [hD, autos] at HL
      clear hne hltT hD
      go_wp2_with (at_builtin; refine wpList_append_own _ rfl _ _ 22 rfl w1.heap.size 29 i0 (.agg #[.int .i64 0, .int .i64 0, .int .i64 0]) 3 24 Tryz.underlying22 hi hz0 hz1 hz2 rfl (by decide) _ _ _ rfl (World.ownsRow.alloc HM.out _) ⟨wr.heap.size, 0, none⟩ 1 1 [.int .i64 k, .int .i64 (i : Int), .int .i64 (j : Int)] rfl rfl ?c1 ?c2 ?c3 ?c4 ?c5 ?_)
      try (case c1 => exact three_at wr _ _ _ 29)
      case c2 => first | exact ⟨rfl, rfl, rfl⟩ | (intro u hu; simp only [List.mem_cons, List.not_mem_nil, or_false] at hu; rcases hu with rfl | rfl | rfl <;> rfl)
      case c3 => unfold maxLen; omega
      case c4 => omega
      case c5 => first | omega | (simp; omega)
      intro v2' w2 hown2 hg _
      have HS := Lib.hid (step_own1 (t := ⟨k, i, j⟩) HB.out (by omega) HM.out hown2 hg)
      obtain ⟨e0, e1, e2⟩ := HCC.out _ HS.out.2
      have hML : (M ++ [(⟨k, i, j⟩ : Tr)]).length = M.length + 1 := by simp
      have hs2 : w1.heap.size ≤ w2.heap.size := HS.out.2.size
      have HX2 := Lib.hid (HX.out w2 HS.out.2)
      have HE := Lib.hid (fun u => refEndsOf_any k u)
      clear hown2 hg c0 c1 c2 HX
      cases h1 : ends k with
      | false =>
        have HA : Hid (autoOf s.data.toList false ⟨k, i, j⟩ (T.drop (n + 1)) = []) := Lib.hid (by unfold autoOf; rw [h1]; rfl)
        rw [HA.out, List.nil_append] at HL
        rw [h1] at HE
        clear h1 HX2
        go_wp2_with (go_at_call 15; refine (HE.out _).mono ?_; rintro e w' ⟨rfl, rfl⟩)
        go_roundw
        case rel => exact ⟨n + 1, _, by omega, by go_num, by rw [← HL.out]; simp, by rw [hML]; omega, HS.out.1, HS.out.2⟩
        case measure => simp [intOf]; omega
      | true =>
        rw [h1] at HE
        cases h2 : lineEnd s.data.toList false (T.drop (n + 1)) with
        | false =>
          have HA : Hid (autoOf s.data.toList false ⟨k, i, j⟩ (T.drop (n + 1)) = []) := Lib.hid (by unfold autoOf; rw [h2, Bool.and_false, if_neg (by simp)])
          rw [HA.out, List.nil_append] at HL
          rw [h2] at HX2
          clear h1 h2
          go_wp2_with (first | (go_at_call 15; refine (HE.out _).mono ?_; rintro e w' ⟨rfl, rfl⟩) | (go_at_call 16; refine HX2.out.mono ?_; rintro e w3 ⟨rfl, hb3⟩; have HB3 := Lib.hid hb3; clear hb3))
          go_roundw
          case rel => exact ⟨n + 1, _, by omega, by go_num, by rw [← HL.out]; simp, by rw [hML]; omega, dec.own_below HS.out.1 HB3.out, HS.out.2.trans (HB3.out.mono (by omega))⟩
          case measure => simp [intOf]; omega
        | true =>
          have HA : Hid (autoOf s.data.toList false ⟨k, i, j⟩ (T.drop (n + 1)) = [⟨16, j, j⟩]) := Lib.hid (by unfold autoOf; rw [h1, h2]; rfl)
          rw [HA.out] at HL
          rw [h2] at HX2
          clear h1 h2
          go_wp2_with (first | (go_at_call 15; refine (HE.out _).mono ?_; rintro e w' ⟨rfl, rfl⟩) | (go_at_call 16; refine HX2.out.mono ?_; rintro e w3 ⟨rfl, hb3⟩; have HB3 := Lib.hid (HS.out.2.trans (hb3.mono (by omega))); have HM3 := Lib.hid (dec.own_below HS.out.1 hb3); clear e0 e1 e2; obtain ⟨e0, e1, e2⟩ := HCC.out _ HB3.out; have hs3 : w2.heap.size ≤ w3.heap.size := hb3.size; clear hb3))
          have hs3' : w1.heap.size ≤ w3.heap.size := by omega
          go_region_law (first | (refine step_append_lies _ rfl (.tmp 39) (.tmp 51) 22 rfl w1.heap.size 29 i0 (.agg #[.int .i64 0, .int .i64 0, .int .i64 0]) 3 24 Tryz.underlying22 hi hz0 hz1 hz2 rfl (by decide) v2' (M.length + 1) (cellsT (M ++ [⟨k, i, j⟩])) (by simp [Act.eval]) (by have := (World.ownsRow.drew HM3.out).alloc (.cells #[.int .i64 16, .int .i64 (j : Int), .int .i64 (j : Int)] 29); rw [hML] at this; exact this) ⟨w3.heap.size, 0, none⟩ 1 1 [.int .i64 16, .int .i64 (j : Int), .int .i64 (j : Int)] (by simp [Act.eval]) rfl (three_at w3.drew _ _ _ 29) (by intro u hu; simp only [List.mem_cons, List.not_mem_nil, or_false] at hu; rcases hu with rfl | rfl | rfl <;> rfl) (by decide) (by unfold maxLen; omega) (by omega) (by simp; omega) _ rfl ?_; intro g5 cap5 w5 hown5 hg5 hat5 hlt5))
          all_goals
            have HS4 := Lib.hid (own_more (T := M ++ [⟨k, i, j⟩]) (t := ⟨16, j, j⟩) HB3.out (((Below.refl w1.heap.size w3).alloc hs3' (.cells #[.int .i64 16, .int .i64 (j : Int), .int .i64 (j : Int)] 29)).drew) (by simp; omega) (fun q hq => (World.ownsRow.lt HM3.out q hq).1) (by rw [hML]; exact hown5) hg5)
            clear hown5 hg5 hat5 hlt5
            go_wp2_with fail
            go_roundw
            case rel => exact ⟨n + 1, (M ++ [(⟨k, i, j⟩ : Tr)]) ++ [(⟨16, j, j⟩ : Tr)], by omega, by go_num, by rw [← HL.out]; simp, by rw [List.length_append, hML]; simp; omega, HS4.out.1, HS4.out.2⟩
            case measure => simp [intOf]; omega
    · have hd : decide ((n : Int) < (len : Int)) = false := decide_eq_false (by omega)
      have hD : T.drop n = [] := List.drop_of_length_le (by rw [HN.out]; omega)
      rw [hD, autos, List.append_nil] at HL
      clear hD
      go_wp2_with fail
      go_ret2
      exact ⟨_, _, rfl, by rw [← HL.out]; exact own_mono HM.out hz1', dec.own_below HG.out HB.out, HB1.out.trans (HB.out.mono hz1')⟩
end Go.Proofs.YtjbamlmdeopcaaaGreatDoor.lx
end

section
/-
  What the tied rows give: the two tables of unicode/utf8, the library's MaxLen; a world for the witness.
-/
namespace Go.Proofs.YtjbamlmdeopcaaaGreatDoor.tok
open Go.ChangeShapes Go.WideShapes Go.ChangeAt Go.RowKit

theorem own : ownKnob Tryz.prog.godebug = none := by kernel_rfl
theorem extra : U8Extra Tryz.prog Tryz.lays260_ren := {
  n3 := by kernel_rfl
  n4 := by kernel_rfl
  y3 := by kernel_rfl
  y4 := by kernel_rfl
  c5 := by kernel_rfl
  c119 := by kernel_rfl
  c138 := by kernel_rfl }
theorem first_is : Rows.laid_unicode_utf8_first = Lib.firstData := by kernel_rfl
theorem accept_is : (Rows.laid_unicode_utf8_acceptRanges : DataW Unit) = Lib.acceptData := by kernel_rfl

/-- WHAT THE ROW's LIST GIVES, AND THE WORLD's SHAPE. -/
theorem env_of {W : World} (h : laidMetH Tryz.prog [("unicode/utf8.acceptRanges", Rows.laid_unicode_utf8_acceptRanges), ("unicode/utf8.first", Rows.laid_unicode_utf8_first)] W) (hsh : W.ShapedOpen Tryz.prog) : Env W := by
  rw [MakeChecks.laidMetH_plain _ _ _ (by kernel_rfl)] at h
  have h4 := Lib.laidMet.reads h (n := _) (d := _) (List.Mem.head _)
  have h3 := Lib.laidMet.reads h (n := _) (d := _) (List.Mem.tail _ (List.Mem.head _))
  rw [accept_is] at h4
  rw [first_is] at h3
  exact ⟨utf8Tabs_of_reads Tryz.lays260 extra h3 h4, Tryz.laysM155.s1_3 W hsh⟩

/-- A WORLD FOR THE WITNESS: the settled one, the two tables holding what their initialisers lay. -/
noncomputable def laidWorld (os : Os) : World :=
  let w0 := World.holding Tryz.prog os ⟨#[], #[], []⟩
  let lay (h : Array Obj) (g : Nat) (cs : Array Value) : Array Obj := h.modify g fun
    | .cells _ t frozen => .cells cs t frozen
    | o => o
  { w0 with heap := lay (lay w0.heap 1 (Lib.firstTab.map fun z => Value.int .u8 z).toArray) 2 ((List.range 16).flatMap fun i => [Value.int .u8 (Lib.accLo i), Value.int .u8 (Lib.accHi i)]).toArray }
end Go.Proofs.YtjbamlmdeopcaaaGreatDoor.tok
end

section
/-
  The law LexerLines.
-/
namespace Go.Proofs.YtjbamlmdeopcaaaGreatDoor.lx
open Go.RowKit Go.Proofs.YtjbamlmdeopcaaaGreatDoor.tok

theorem row_of_any {w : World} {B0 e : Nat} {v : Value} {T : List Tr} (h : w.ownsRow B0 e 3 v T.length (cellsT T)) : Row w v T := by
  rcases h.2 with ⟨rfl, b⟩ | ⟨g, cap, cur, rfl, _, _, hcap, _⟩
  · have : T = [] := List.eq_nil_of_length_eq_zero b
    subst this
    exact Row.nil w none 0
  · refine ⟨g, 0, _, cap, ?_, rfl, fun _ => rfl, fun j hj => ?_⟩
    · exact hcap
    · have hc := h.cells (g := g) rfl
      obtain ⟨a, b, c⟩ := cellsT_at T j hj
      have e : ∀ k, ((⟨g, 0, none⟩ : Addr).add k) = ⟨g, 0 + k, none⟩ := fun k => by rw [Addr.add_lit]
      have e1 := hc _ _ a
      have e2 := hc _ _ b
      have e3 := hc _ _ c
      rw [e] at e1 e2 e3
      exact ⟨e1, e2, e3⟩
theorem run_slice_to (u : World) (o : Option Addr) (n cap : Nat) (z : Int) (i : Nat) (hz : z = (i : Int)) (h : i ≤ cap) :
    (Instr.slice 22 (.slice o n cap) none (some (.int .i64 z)) none).run Tryz.prog u = .ok (.slice (if cap = 0 then o else o.map (·.add (0 * 3))) (i - 0) (cap - 0)) u := by
  subst hz
  rw [run_slice_h (P := Tryz.prog) (w := u) (t := 22) (a := o) (len := n) (cap := cap) (ht := by kernel_rfl) .i64 (i : Int) (by omega) (by omega)]
  have hs : (sizeOf (Tryz.prog.elem 22)).run Tryz.prog u = .ok 3 u := by kernel_rfl
  rw [hs]
  rfl
theorem Cells.take {w : World} {g off : Nat} {T : List Tr} (h : Cells w g off T) (n : Nat) : Cells w g off (T.take n) := by
  intro j hj
  rw [List.length_take] at hj
  have := h j (by omega)
  rw [List.getElem_take]
  exact this
theorem Row.take {w : World} {v : Value} {T : List Tr} (h : Row w v T) (n : Nat) (hn : n ≤ T.length) : ∃ v', (∀ u, (Instr.slice 22 v none (some (.int .i64 (n : Int))) none).run Tryz.prog u = .ok v' u) ∧ Row w v' (T.take n) := by
  obtain ⟨g, off, o, cap, hc, rfl, ho, hcell⟩ := h
  have hl : (T.take n).length = n := by rw [List.length_take]; omega
  refine ⟨_, fun u => run_slice_to u o T.length cap _ n rfl (by omega), g, off, _, cap - 0, by rw [hl]; omega, by rw [hl]; rfl, fun hne => ?_, hcell.take n⟩
  have h1 : T ≠ [] := by rintro rfl; simp at hne
  rw [ho h1]
  split
  · rfl
  · simp [Addr.add]
/-- What is said of a token has at least a byte. -/
theorem nx_dw (z : Bool) (c : UInt8) (b : List UInt8) (h : (nx lang z (c :: b)).code ≠ 0) : 1 ≤ (nx lang z (c :: b)).dw := by
  have hp := (nx_sized (L := lang) z c b).pos
  have hq : ∀ (f : List UInt8 → Int × Nat) (k code : Int) (q : UInt8) (r : List UInt8), (quotedL f k code q r).code ≠ 0 → 1 ≤ (quotedL f k code q r).dw := by
    intro f k code q r
    unfold quotedL
    split
    · intro _; show 1 ≤ 1 + _; omega
    · dsimp only
      split
      · intro h; exact absurd rfl h
      · intro _; exact Nat.le_refl _
  have hcl : ∀ (k code : Int) (n : Nat) (clo r : List UInt8), r ≠ [] → (closedL k code n clo r).code ≠ 0 → 1 ≤ (closedL k code n clo r).dw := by
    intro k code n clo r hr
    unfold closedL
    split
    · intro _; show 1 ≤ r.length; cases r with | nil => exact absurd rfl hr | cons => simp
    · intro h; exact absurd rfl h
  unfold nx at h hp ⊢
  have hk := cls_le z c b
  generalize cls z (c :: b) = k at *
  match k, hk, h, hp with
  | 0, h, _, _ => omega
  | 1, _, h, _ => exact absurd rfl h
  | 2, _, h, _ => exact absurd rfl h
  | 3, _, h, _ => exact absurd rfl h
  | 4, _, h, _ => exact absurd rfl h
  | 5, _, h, _ => exact hcl _ _ _ _ _ (by simp) h
  | 6, _, h, _ => exact absurd rfl h
  | 7, _, h, hp =>
    have e : nxOf lang 7 (c :: b) = numL lang (c :: b) := rfl
    rw [e] at h hp ⊢
    unfold numL at h hp ⊢
    split at h
    · exact absurd rfl h
    · rename_i g
      rw [if_neg g] at hp ⊢
      exact hp
  | 8, _, h, _ => exact hq _ _ _ _ _ h
  | 9, _, h, _ => exact hq _ _ _ _ _ h
  | 10, _, h, _ => exact hcl _ _ _ _ _ (by simp) h
  | 11, _, h, hp =>
    have e : nxOf lang 11 (c :: b) = signL lang (c :: b) := rfl
    rw [e] at h hp ⊢
    unfold signL at h hp ⊢
    split at h
    · exact absurd rfl h
    · rename_i g
      rw [if_neg g] at hp ⊢
      split at h
      · exact absurd rfl h
      · rename_i g2
        rw [if_neg g2] at hp ⊢
        exact hp
  | n + 12, h, _, _ => omega
theorem dgs_lt (l : List UInt8) : ∀ p, ∀ d ∈ dgs lang l p, d.i < l.length := by
  refine along (L := lang) (fun p h => by rw [dgs_end h]; simp) (fun p h ih => ?_)
  rw [dgs_step h]
  intro d hd
  rcases List.mem_append.1 hd with hd | hd
  · have hw := dgs_within (L := lang) l p d (by rw [dgs_step h]; exact List.mem_append_left _ hd)
    unfold dgAt at hd
    split at hd
    · simp at hd
    · rename_i hc
      have h1 : 1 ≤ (nxAt lang l p).dw := by
        unfold nxAt at hc ⊢
        rw [List.drop_eq_getElem_cons h] at hc ⊢
        exact nx_dw _ _ _ hc
      rw [List.mem_singleton] at hd
      subst hd
      have := hw.2
      simp only at this ⊢
      omega
  · exact ih d hd
def HoldsL (w : World) (e : Ending) (w' : World) : Prop := e = .returned (.bool true) ∧ Below w.heap.size w w'
def FineD (l : List UInt8) (d : Tr) : Prop := d.k ≠ 105 ∧ (d.k = 106 → l[d.i]? ≠ some 96)

set_option maxRecDepth 100000 in
set_option maxHeartbeats 4000000 in
theorem lines_law (s t : ByteArray) (w : World) (hE : Env w) (hm : s.size ≤ 140737488351232) (hm2 : t.size ≤ 140737488351232) : Calls Tryz.prog 3 #[.string s, .string t] w (HoldsL w) := by
  by_cases hs : s.size ≤ 1048576
  · have hd0 : decide ((1048576 : Int) < (s.size : Int)) = false := decide_eq_false (by omega)
    by_cases ht : t.size ≤ 1048576
    · have hd1 : decide ((1048576 : Int) < (t.size : Int)) = false := decide_eq_false (by omega)
      have HSD := Lib.hid (sdata s)
      have HTD := Lib.hid (sdata t)
      have HEn := Lib.hid hE
      have HR := Lib.hid (fun u => refScan_any s u (by omega))
      have HS1 := Lib.hid (fun (u : World) (hu : Below w.heap.size w u) => scan_any s u (hE.below hu) (by omega))
      have hcat1 := cat_eq (x := s.data.toList) (y := [10]) (by rw [HSD.out]; simp; omega)
      have hcat2 := cat_eq (x := s.data.toList ++ [10]) (y := t.data.toList) (by rw [List.length_append, HSD.out, HTD.out]; simp; omega)
      have HS2 := Lib.hid (fun (u : World) (hu : Below w.heap.size w u) => scan_any (B (s.data.toList ++ [10] ++ t.data.toList)) u (hE.below hu) (by rw [bsize, List.length_append, List.length_append, HSD.out, HTD.out]; simp; omega))
      rw [bof] at hcat1
      change Op.stringOp .add s { data := #[10] } = _ at hcat1
      rw [bof] at hcat2
      rw [bdata] at HS2
      have HF : Hid (Ends s.data.toList (dgs lang s.data.toList 0) → ∃ M, scan lang (s.data.toList ++ [10] ++ t.data.toList) = scan lang s.data.toList ++ ⟨2, s.size, s.size + 1⟩ :: M) := Lib.hid (fun h => by
        obtain ⟨M, hM⟩ := scan_feed (L := lang) t.data.toList h
        rw [HSD.out] at hM
        exact ⟨M, by rw [← hM]; simp⟩)
      have HDL := Lib.hid (dgs_lt s.data.toList 0)
      have hln := scan_few (L := lang) s.data.toList
      have hld := dgs_few (L := lang) s.data.toList 0
      have hl2 := scan_few (L := lang) (s.data.toList ++ [10] ++ t.data.toList)
      rw [List.length_append, List.length_append, HSD.out, HTD.out] at hl2
      rw [HSD.out] at hln hld HDL
      simp only [List.length_cons, List.length_nil] at hl2
      generalize scan lang (s.data.toList ++ [10] ++ t.data.toList) = T2 at *
      generalize B (s.data.toList ++ [10] ++ t.data.toList) = x2 at *
      generalize B (s.data.toList ++ [10]) = x1 at *
      generalize scan lang s.data.toList = T at *
      generalize dgs lang s.data.toList 0 = D at *
      clear hE
      go_enter Tryz.func3, Tryz.ntmps3
      go_wp2_with (go_at_call 7; refine (HR.out _).mono ?_; rintro e w1 ⟨v1, v2, rfl, hT, hG, hb1⟩; have HG := Lib.hid hG; have HB1 := Lib.hid hb1; clear hT hG hb1)
      have hz1 := HB1.out.size
      obtain ⟨g, off, o, cap, hc, hv, ho, hcell⟩ := row_of_any HG.out
      subst hv
      have HC := Lib.hid hcell
      have HO := Lib.hid ho
      obtain ⟨n2, hn2⟩ : ∃ n, D.length = n := ⟨_, rfl⟩
      rw [hn2] at hc hld ⊢
      have HN2 := Lib.hid hn2
      clear hcell ho hn2 HG
      go_loopw [7] (fun p wr => ∃ n : Nat, n ≤ n2 ∧ p = .int .i64 n ∧ (∀ d ∈ D.take n, FineD s.data.toList d) ∧ Below w1.heap.size w1 wr) (fun p _ => n2 - (intOf p).toNat)
      case atStart => exact ⟨0, Nat.zero_le _, rfl, by simp, Below.refl _ _⟩
      case round =>
        obtain ⟨n, hnl, rfl, hfi, hb⟩ := hrel
        have HFI := Lib.hid hfi
        have HB := Lib.hid hb
        have hsz := hb.size
        clear hfi hb
        by_cases hlt : n < n2
        · have hltD : n < D.length := by rw [HN2.out]; exact hlt
          have hd : decide ((n : Int) < (n2 : Int)) = true := decide_eq_true (by omega)
          have ha := HO.out (by rintro rfl; simp at hltD)
          subst ha
          obtain ⟨c0, c1, c2⟩ := HC.out.below HB.out n hltD
          have hil := HDL.out _ (List.getElem_mem hltD)
          have hstep : Hid (FineD s.data.toList D[n] → ∀ d ∈ D.take (n + 1), FineD s.data.toList d) := Lib.hid (fun h d hd => by
            rw [List.take_succ_eq_append_getElem hltD] at hd
            rcases List.mem_append.1 hd with hd | hd
            · exact HFI.out d hd
            · rw [List.mem_singleton] at hd; rw [hd]; exact h)
          generalize D[n] = d at *
          obtain ⟨k, i, j⟩ := d
          simp only [] at c0 c1 c2 hil
          clear hltD HFI
          obtain ⟨c, hcx⟩ : ∃ c, s[i]'hil = c := ⟨_, rfl⟩
          have hix : ∀ u : World, (Instr.index 9 (.string s) (.int .i64 (i : Int))).run Tryz.prog u = .ok (.int .u8 (c.toNat : Int)) u := fun u => by rw [← hcx]; exact index_at s _ i rfl hil u
          have HI : Hid (s.data.toList[i]? = some c) := Lib.hid (by rw [← hcx]; exact List.getElem?_eq_getElem (by rw [HSD.out]; exact hil))
          clear hcx hil
          by_cases h5 : k = 105
          · have b5 : (k == 105) = true := beq_iff_eq.2 h5
            go_wp2_with fail
            go_ret
            exact ⟨rfl, by first | exact tok.below_drewN (HB1.out.trans (HB.out.mono hz1)) | exact HB1.out.trans (HB.out.mono hz1)⟩
          · have b5 : (k == 105) = false := beq_eq_false_iff_ne.2 h5
            by_cases h6 : k = 106
            · have b6 : (k == 106) = true := beq_iff_eq.2 h6
              by_cases h9 : c = 96
              · have b9 : ((c.toNat : Int) == 96) = true := byte_eq (d := 96) h9
                go_wp2_with fail
                go_ret
                exact ⟨rfl, by first | exact tok.below_drewN (HB1.out.trans (HB.out.mono hz1)) | exact HB1.out.trans (HB.out.mono hz1)⟩
              · have b9 : ((c.toNat : Int) == 96) = false := byte_ne (d := 96) h9
                have HST := Lib.hid (hstep.out ⟨h5, fun _ e => h9 (by rw [HI.out] at e; exact Option.some.inj e)⟩)
                go_wp2_with fail
                go_roundw
                case rel => exact ⟨n + 1, by omega, by go_num, HST.out, by first | exact tok.below_drewN HB.out | exact HB.out⟩
                case measure => simp [intOf]; omega
            · have b6 : (k == 106) = false := beq_eq_false_iff_ne.2 h6
              have HST := Lib.hid (hstep.out ⟨h5, fun e => absurd e h6⟩)
              go_wp2_with fail
              go_roundw
              case rel => exact ⟨n + 1, by omega, by go_num, HST.out, by first | exact tok.below_drewN HB.out | exact HB.out⟩
              case measure => simp [intOf]; omega
        · have hd : decide ((n : Int) < (n2 : Int)) = false := decide_eq_false (by omega)
          have hen : Ends s.data.toList D := by
            intro d hd
            have := HFI.out d (by rw [List.take_of_length_le (by rw [HN2.out]; omega)]; exact hd)
            exact this
          obtain ⟨M, hM⟩ := HF.out hen
          subst hM
          clear hen HFI HF
          have hb3 := HB1.out.trans (HB.out.mono hz1)
          have HB3 := Lib.hid hb3
          have hsz3 := hb3.size
          clear hb3
          have hdl : decide ((T ++ (⟨2, s.size, s.size + 1⟩ : Tr) :: M).length ≤ T.length) = false := decide_eq_false (by simp)
          go_wp2_with fail
          go_at_call 8
          refine (HS1.out _ HB3.out).mono ?_
          rintro e w4 ⟨v3, v4, rfl, hT, hG, hb4⟩
          have HT4 := Lib.hid hT
          have HB4 := Lib.hid (HB3.out.trans (hb4.mono hsz3))
          have hsz4 := HB4.out.size
          clear hT hG hb4
          go_wp2_with fail
          go_at_call 8
          (with_reducible refine (HS2.out _ HB4.out).mono ?_)
          rintro e w5 ⟨v5, v6, rfl, hT, hG, hb5⟩
          have HT5 := Lib.hid hT
          have HB5 := Lib.hid (HB4.out.trans (hb5.mono hsz4))
          have HR4 := Lib.hid ((row_of_any HT4.out).below (hb5.mono (Nat.le_refl _)))
          clear hT hG hb5
          obtain ⟨g4, off4, o4, cap4, hc4, hv4, ho4, hcell4⟩ := HR4.out
          obtain ⟨g5, off5, o5, cap5, hc5, hv5, ho5, hcell5⟩ := row_of_any HT5.out
          have hq5 : T.length ≤ cap5 := by simp at hc5; omega
          have HR5 : Hid (Row w5 (.slice (some ⟨g5, off5, none⟩) T.length cap5) T) := Lib.hid ⟨g5, off5, _, cap5, hq5, rfl, fun _ => rfl, by have := hcell5.take T.length; simpa using this⟩
          have HR4' : Hid (Row w5 (.slice o4 T.length cap4) T) := Lib.hid ⟨g4, off4, _, cap4, hc4, rfl, ho4, hcell4⟩
          subst hv4 hv5
          rw [ho5 (by simp)]
          obtain ⟨c0, c1, c2⟩ := hcell5 T.length (by simp)
          simp only [List.getElem_append_right, Nat.le_refl, Nat.sub_self, List.getElem_cons_zero] at c0 c1 c2
          clear hcell5 hcell4 ho4 ho5 hc5
          go_wp2_with (go_at_call 9; refine (toks_any HR4'.out HR5.out (by omega)).mono ?_; rintro e w6 ⟨rfl, hb6⟩; have HB6 := Lib.hid (HB5.out.trans (hb6.mono HB5.out.size)); clear hb6)
          go_ret
          exact ⟨rfl, HB6.out⟩
    · have hd1 : decide ((1048576 : Int) < (t.size : Int)) = true := decide_eq_true (by omega)
      go_enter Tryz.func3, Tryz.ntmps3
      go_wp2_with fail
      go_ret
      exact ⟨rfl, Below.refl _ _⟩
  · have hd0 : decide ((1048576 : Int) < (s.size : Int)) = true := decide_eq_true (by omega)
    go_enter Tryz.func3, Tryz.ntmps3
    go_wp2_with fail
    go_ret
    exact ⟨rfl, Below.refl _ _⟩
end Go.Proofs.YtjbamlmdeopcaaaGreatDoor.lx
end

section
/-
  The law LexerScans.
-/
namespace Go.Proofs.YtjbamlmdeopcaaaGreatDoor.lx
open Go.RowKit Go.Proofs.YtjbamlmdeopcaaaGreatDoor.tok

/-- Below block B the world is as it was, but for block g. -/
structure Save (B g : Nat) (w w' : World) : Prop where
  os : w'.os = w.os
  tape : w'.tape = w.tape
  output : w'.output = w.output
  size : w.heap.size ≤ w'.heap.size
  block : ∀ k, k < B → k ≠ g → w'.heap[k]? = w.heap[k]?
theorem Save.refl (B g : Nat) (w : World) : Save B g w w := ⟨rfl, rfl, rfl, Nat.le_refl _, fun _ _ _ => rfl⟩
theorem Save.trans {B g : Nat} {a b c : World} (h : Save B g a b) (k : Save B g b c) : Save B g a c :=
  ⟨k.os.trans h.os, k.tape.trans h.tape, k.output.trans h.output, Nat.le_trans h.size k.size, fun i hi hn => (k.block i hi hn).trans (h.block i hi hn)⟩
theorem Save.below {B B' g : Nat} {w w' : World} (h : Save B g w w') (hB : B' ≤ B) (hg : B' ≤ g) : Below B' w w' := ⟨h.os, h.tape, h.output, h.size, fun k hk => h.block k (by omega) (by omega)⟩
theorem Save.setCell {B g : Nat} {a w : World} (h : Save B g a w) (o : Nat) (u : Value) : Save B g a (w.setCell ⟨g, o, none⟩ u) :=
  h.trans ⟨rfl, rfl, rfl, by simp [World.setCell], fun k _ hk => Below.heap_setCell _ _ _ _ hk⟩
/-- A block of so many cells that can be written. -/
def Wide (w : World) (g n : Nat) : Prop := ∃ cur e, w.heap[g]? = some (.cells cur e (0, 0)) ∧ n ≤ cur.size
theorem Wide.at {w : World} {g n : Nat} (h : Wide w g n) {j : Nat} (hj : j < n) : (∃ x, w.cell? ⟨g, j, none⟩ = some x) ∧ w.frozen? ⟨g, j, none⟩ = false := by
  obtain ⟨cur, e, hg, hn⟩ := h
  refine ⟨⟨cur[j]'(by omega), ?_⟩, frozen_of_row w g j _ _ hg⟩
  simp [World.cell?, hg]
theorem Wide.set {w : World} {g n : Nat} (h : Wide w g n) (o : Nat) (u : Value) : Wide (w.setCell ⟨g, o, none⟩ u) g n := by
  obtain ⟨cur, e, hg, hn⟩ := h
  exact ⟨_, e, heap_setCell_same w g o _ _ u hg, by simpa using hn⟩
theorem own_save {w w' : World} {K g B e s n : Nat} {v : Value} {xs : List Value} (h : w.ownsRow B e s v n xs) (hs : Save K g w w') (hk : ∀ k, v.ownBlock = some k → k < K ∧ k ≠ g) : w'.ownsRow B e s v n xs := by
  refine ⟨h.1, ?_⟩
  rcases h.2 with hn | ⟨q, cap, cur, rfl, hq, hh, rest⟩
  · exact .inl hn
  · have := hk q rfl
    exact .inr ⟨q, cap, cur, rfl, hq, by rw [hs.block q this.1 this.2]; exact hh, rest⟩
theorem own_split {w : World} {B e n : Nat} {v : Value} {xs : List Value} (K : Nat) (h : w.ownsRow B e 3 v n xs) : ∃ (o : Option Addr) (cap g : Nat), v = .slice o n cap ∧ n ≤ cap ∧ (n ≠ 0 → o = some ⟨g, 0, none⟩ ∧ Wide w g (n * 3)) ∧ ((g = K ∧ v.ownBlock = none) ∨ (v.ownBlock = some g ∧ B ≤ g ∧ g < w.heap.size)) := by
  rcases h.2 with ⟨rfl, rfl⟩ | ⟨g, cap, cur, rfl, hg, hh, hn, _, hc, _⟩
  · exact ⟨none, 0, K, rfl, Nat.le_refl _, fun h => absurd rfl h, .inl ⟨rfl, rfl⟩⟩
  · exact ⟨_, cap, g, rfl, hn, fun _ => ⟨rfl, cur, e, hh, by rw [hc]; omega⟩, .inr ⟨rfl, hg, (Array.getElem?_eq_some_iff.1 hh).1⟩⟩

set_option maxRecDepth 100000 in
set_option maxHeartbeats 4000000 in
theorem scans_law (s : ByteArray) (w : World) (hE : Env w) (hm : s.size ≤ 140737488351232) : Calls Tryz.prog 4 #[.string s] w (HoldsL w) := by
  by_cases hs : s.size ≤ 1048576
  · have hd0 : decide ((1048576 : Int) < (s.size : Int)) = false := decide_eq_false (by omega)
    have HSD := Lib.hid (sdata s)
    have HR := Lib.hid (fun u => refScan_any s u (by omega))
    have HS1 := Lib.hid (fun (u : World) (hu : Below w.heap.size w u) => scan_any s u (hE.below hu) (by omega))
    have hln := scan_few (L := lang) s.data.toList
    have hld := dgs_few (L := lang) s.data.toList 0
    rw [HSD.out] at hln hld
    generalize scan lang s.data.toList = T at *
    generalize dgs lang s.data.toList 0 = D at *
    clear hE HSD
    go_enter Tryz.func4, Tryz.ntmps4
    go_wp2_with fail
    go_at_call 8
    refine (HS1.out _ (Below.refl _ _)).mono ?_
    rintro e w1 ⟨v1, v2, rfl, hT1, hG1, hb1⟩
    have HT1 := Lib.hid hT1
    have HG1 := Lib.hid hG1
    have HB1 := Lib.hid hb1
    have hz1 := hb1.size
    clear hT1 hG1 hb1
    go_wp2_with fail
    go_at_call 7
    refine (HR.out _).mono ?_
    rintro e w2 ⟨v3, v4, rfl, hT2, hG2, hb2⟩
    have HT2 := Lib.hid hT2
    have HG2 := Lib.hid hG2
    have HB2 := Lib.hid hb2
    have hz2 := hb2.size
    have HT12 := Lib.hid (dec.own_below HT1.out hb2)
    have HG12 := Lib.hid (dec.own_below HG1.out hb2)
    have HBw2 := Lib.hid (HB1.out.trans (hb2.mono hz1))
    clear hT2 hG2 hb2
    go_wp2_with (first | (go_at_call 9; refine (toks_any (row_of_any HT12.out) (row_of_any HT2.out) (by omega)).mono ?_; rintro e w3 ⟨rfl, hb3⟩; have HB3 := Lib.hid hb3; clear hb3) | (go_at_call 10; refine (diags_any ((row_of_any HG12.out).below HB3.out) ((row_of_any HG2.out).below HB3.out) (by omega)).mono ?_; rintro e w4 ⟨rfl, hb4⟩; have HB4 := Lib.hid (HB3.out.trans (hb4.mono HB3.out.size)); clear hb4))
    have hz4 : w2.heap.size ≤ w4.heap.size := HB4.out.size
    have HT4 := Lib.hid (dec.own_below HT12.out HB4.out)
    have HG4 := Lib.hid (dec.own_below HG12.out HB4.out)
    have HM4 := Lib.hid (dec.own_below HT2.out HB4.out)
    have HD4 := Lib.hid (dec.own_below HG2.out HB4.out)
    have HW4 := Lib.hid (HBw2.out.trans (HB4.out.mono (by omega)))
    have HAP := Lib.hid (own_apart HG4.out HT4.out (by decide))
    have HML := Lib.hid (World.ownsRow.lt HM4.out)
    have HDL := Lib.hid (World.ownsRow.lt HD4.out)
    have HGL := Lib.hid (World.ownsRow.lt HG4.out)
    have HML2 := Lib.hid (World.ownsRow.lt HT2.out)
    have HDL2 := Lib.hid (World.ownsRow.lt HG2.out)
    have HT1L := Lib.hid (World.ownsRow.lt HT1.out)
    have HG1L := Lib.hid (World.ownsRow.lt HG1.out)
    obtain ⟨o, cap, g, hv, hcap, hgo, hgs⟩ := own_split w4.heap.size HT4.out
    obtain ⟨n1, hn1⟩ : ∃ n, T.length = n := ⟨_, rfl⟩
    have hgB : w.heap.size ≤ g := by
      rcases hgs with ⟨h, _⟩ | ⟨_, h, _⟩ <;> omega
    have HVM : Hid (∀ k, v3.ownBlock = some k → k < w4.heap.size ∧ k ≠ g) := Lib.hid (fun k hk => by
      have a := HML.out k hk
      refine ⟨a.2, ?_⟩
      rintro rfl
      rcases hgs with ⟨h, _⟩ | ⟨h, _, _⟩
      · omega
      · have := (HT1L.out k h).2
        omega)
    have HVD : Hid (∀ k, v4.ownBlock = some k → k < w4.heap.size ∧ k ≠ g) := Lib.hid (fun k hk => by
      have a := HDL.out k hk
      refine ⟨a.2, ?_⟩
      rintro rfl
      rcases hgs with ⟨h, _⟩ | ⟨h, _, _⟩
      · omega
      · have := (HT1L.out k h).2
        omega)
    have HVG : Hid (∀ k, v2.ownBlock = some k → k < w4.heap.size ∧ k ≠ g) := Lib.hid (fun k hk => by
      have a := HGL.out k hk
      refine ⟨a.2, ?_⟩
      rintro rfl
      rcases hgs with ⟨h, _⟩ | ⟨h, _, _⟩
      · omega
      · rcases HAP.out with e | e
        · rw [hk] at e; cases e
        · exact e (hk.trans h.symm))
    have hgB' : w.heap.size ≤ g := hgB
    have hzw : w.heap.size ≤ w4.heap.size := by omega
    subst hv
    have HGO := Lib.hid hgo
    have HN1 := Lib.hid hn1
    rw [hn1] at hcap hln HGO ⊢
    clear hgo hn1 hgs
    go_loopw [7] (fun p wr => ∃ n : Nat, n ≤ n1 ∧ p = .int .i64 n ∧ (n1 ≠ 0 → Wide wr g (n1 * 3)) ∧ Save w4.heap.size g w4 wr) (fun p _ => n1 - (intOf p).toNat)
    case atStart => exact ⟨0, Nat.zero_le _, rfl, fun h => (HGO.out h).2, Save.refl _ _ _⟩
    case round =>
      obtain ⟨n, hnl, rfl, hwd, hsv⟩ := hrel
      have HSV := Lib.hid hsv
      have HWD := Lib.hid hwd
      clear hwd hsv
      by_cases hlt : n < n1
      · have hd : decide ((n : Int) < (n1 : Int)) = true := decide_eq_true (by omega)
        have ho := (HGO.out (by omega)).1
        subst ho
        have hw := HWD.out (by omega)
        obtain ⟨⟨x0, c0⟩, f0⟩ := hw.at (j := n * 3) (by omega)
        obtain ⟨⟨x1, c1⟩, f1⟩ := hw.at (j := n * 3 + 1) (by omega)
        obtain ⟨⟨x2, c2⟩, f2⟩ := hw.at (j := n * 3 + 2) (by omega)
        have HW := Lib.hid hw
        clear hw
        go_wp2_with fail
        go_roundw
        case rel => exact ⟨n + 1, by omega, by go_num, fun _ => ((HW.out.set _ _).set _ _).set _ _, ((HSV.out.setCell _ _).setCell _ _).setCell _ _⟩
        case measure => simp [intOf]; omega
      · have hd : decide ((n : Int) < (n1 : Int)) = false := decide_eq_false (by omega)
        have HGr := Lib.hid (own_save HG4.out HSV.out HVG.out)
        have HMr := Lib.hid (own_save HM4.out HSV.out HVM.out)
        have HDr := Lib.hid (own_save HD4.out HSV.out HVD.out)
        have HBr := Lib.hid (HSV.out.below hzw hgB')
        have hzr := HSV.out.size
        obtain ⟨o2, cap2, g2, hv2, hcap2, hgo2, hgs2⟩ := own_split wr.heap.size HGr.out
        obtain ⟨n2, hn2⟩ : ∃ n, D.length = n := ⟨_, rfl⟩
        have hgB2 : w.heap.size ≤ g2 := by
          rcases hgs2 with ⟨h, _⟩ | ⟨_, h, _⟩ <;> omega
        have HVM2 : Hid (∀ k, v3.ownBlock = some k → k < wr.heap.size ∧ k ≠ g2) := Lib.hid (fun k hk => by
          have a := HML.out k hk
          refine ⟨by omega, ?_⟩
          rintro rfl
          rcases hgs2 with ⟨h, _⟩ | ⟨h, _, _⟩
          · omega
          · have := (HG1L.out k h).2
            omega)
        have HVD2 : Hid (∀ k, v4.ownBlock = some k → k < wr.heap.size ∧ k ≠ g2) := Lib.hid (fun k hk => by
          have a := HDL.out k hk
          refine ⟨by omega, ?_⟩
          rintro rfl
          rcases hgs2 with ⟨h, _⟩ | ⟨h, _, _⟩
          · omega
          · have := (HG1L.out k h).2
            omega)
        subst hv2
        have HGO2 := Lib.hid hgo2
        have HN2 := Lib.hid hn2
        rw [hn2] at hcap2 hld HGO2 ⊢
        clear hgo2 hn2 hgs2
        go_wp2_with fail
        go_loopw [8] (fun p wq => ∃ m : Nat, m ≤ n2 ∧ p = .int .i64 m ∧ (n2 ≠ 0 → Wide wq g2 (n2 * 3)) ∧ Save wr.heap.size g2 wr wq) (fun p _ => n2 - (intOf p).toNat)
        case atStart => exact ⟨0, Nat.zero_le _, rfl, fun h => (HGO2.out h).2, Save.refl _ _ _⟩
        case round =>
          obtain ⟨m, hml, rfl, hwd2, hsv2⟩ := hrel
          have HSV2 := Lib.hid hsv2
          have HWD2 := Lib.hid hwd2
          clear hwd2 hsv2
          by_cases hlt2 : m < n2
          · have hdm : decide ((m : Int) < (n2 : Int)) = true := decide_eq_true (by omega)
            have ho := (HGO2.out (by omega)).1
            subst ho
            have hw := HWD2.out (by omega)
            obtain ⟨⟨x0, c0⟩, f0⟩ := hw.at (j := m * 3) (by omega)
            obtain ⟨⟨x1, c1⟩, f1⟩ := hw.at (j := m * 3 + 1) (by omega)
            obtain ⟨⟨x2, c2⟩, f2⟩ := hw.at (j := m * 3 + 2) (by omega)
            have HW := Lib.hid hw
            clear hw
            go_wp2_with fail
            go_roundw
            case rel => exact ⟨m + 1, by omega, by go_num, fun _ => ((HW.out.set _ _).set _ _).set _ _, ((HSV2.out.setCell _ _).setCell _ _).setCell _ _⟩
            case measure => simp [intOf]; omega
          · have hdm : decide ((m : Int) < (n2 : Int)) = false := decide_eq_false (by omega)
            have HMq := Lib.hid (own_save HMr.out HSV2.out HVM2.out)
            have HDq := Lib.hid (own_save HDr.out HSV2.out HVD2.out)
            have HBq := Lib.hid (HSV2.out.below (Nat.le_trans hzw hzr) hgB2)
            have HWq := Lib.hid (HW4.out.trans ((HBr.out).trans HBq.out))
            have hzq := HWq.out.size
            clear HMr HDr
            go_wp2_with fail
            go_at_call 8
            refine (HS1.out _ HWq.out).mono ?_
            rintro e w5 ⟨v5, v6, rfl, hT5, hG5, hb5⟩
            have HT5 := Lib.hid (row_of_any hT5)
            have HG5 := Lib.hid (row_of_any hG5)
            have HM5 := Lib.hid (row_of_any (dec.own_below HMq.out hb5))
            have HD5 := Lib.hid (row_of_any (dec.own_below HDq.out hb5))
            have HB5 := Lib.hid (HWq.out.trans (hb5.mono hzq))
            clear hT5 hG5 hb5
            go_wp2_with (first | (go_at_call 9; refine (toks_any HT5.out HM5.out (by rw [HN1.out]; omega)).mono ?_; rintro e w6 ⟨rfl, hb6⟩; have HB6 := Lib.hid hb6; clear hb6) | (go_at_call 10; refine (diags_any (HG5.out.below HB6.out) (HD5.out.below HB6.out) (by rw [HN2.out]; omega)).mono ?_; rintro e w7 ⟨rfl, hb7⟩; have HB7 := Lib.hid (HB6.out.trans (hb7.mono HB6.out.size)); clear hb7))
            go_ret
            exact ⟨rfl, HB5.out.trans (HB7.out.mono HB5.out.size)⟩
  · have hd0 : decide ((1048576 : Int) < (s.size : Int)) = true := decide_eq_true (by omega)
    go_enter Tryz.func4, Tryz.ntmps4
    go_wp2_with fail
    go_ret
    exact ⟨rfl, Below.refl _ _⟩
end Go.Proofs.YtjbamlmdeopcaaaGreatDoor.lx
end
