/-
  Texts put together: Rbf, Rbg, Row, RefDigits, Rbh, Rbi, Rbj.
-/
import Derived.Test.YtjbamlmdeopcaaaGreatDoorPa8
import Derived.Test.YtjbamlmdeopcaaaGreatDoorPa3
section
/-
  The reference's Next, case by case (feeds).
-/
namespace Go.Proofs.YtjbamlmdeopcaaaGreatDoor.lx
open Go.RowKit Go.Proofs.YtjbamlmdeopcaaaGreatDoor.tok

set_option maxRecDepth 100000 in
set_option maxHeartbeats 4000000 in
theorem refNext_3 {s : ByteArray} {i : Nat} {c : UInt8} {w : World} (hlt : i < s.size) (hc : s[i] = c) (hs : s.size ≤ 4194304) (m : Nx) (hm : m = right 2 1) (h1 : i ≠ 0 ∨ Lib.hasPrefix s.data.toList mark = false) (h2 : isBl c = false) (h3 : c = 10) :
    Calls Tryz.prog 24 #[.string s, .int .i64 (i : Int)] w (Told m i w) := by
  have HW := Lib.hid hm
  have HSD := Lib.hid (sdata s)
  have hix : ∀ u : World, (Instr.index 9 (.string s) (.int .i64 (i : Int))).run Tryz.prog u = .ok (.int .u8 (c.toNat : Int)) u := fun u => by rw [← hc]; exact index_at s _ i rfl hlt u
  have H2 := Lib.hid (fun u => refBlank_then c u)
  rw [h2] at H2
  have b10 : ((c.toNat : Int) == 10) = true := byte_eq (d := 10) h3
  clear h2 h3 hm hc
  rcases nm_cases h1 with h1 | ⟨h1, h3⟩ | ⟨h1, h3, h4⟩
  · have b1 : ((i : Int) == 0) = false := beq_eq_false_iff_ne.2 (by omega)
    clear h1
    go_enter Tryz.func24, Tryz.ntmps24
    go_wp2_with (go_at_call 47; refine (H2.out _).mono ?_; rintro e W ⟨rfl, hbW⟩; have HF := Lib.hid ((four_new w (.int .i64 0) (.int .i64 (i : Int)) (.int .i64 ((i : Int) + 1)) (.int .i64 0) (.int .i64 (i : Int)) (.int .i64 0)).then hbW); obtain ⟨⟨⟨u0, u1, u2, u3, u4, u5, k0, k1, k2, k3, k4, k5⟩, f0, f1, f2, f3, f4, f5⟩, x0, x1, x2, y0, y1, y2, ⟨⟨g0, g1, g2⟩, g3, g4, g5⟩, _⟩ := HF.out; clear hbW)
    go_region
    go_wp2_with fail
    exact bodyPost_ret (results_drew Tryz.results24 _ (by repeat (first | exact HF.out.six | refine six_past ?_ (by omega) _)) (.int .i64 2) (.int .i64 (i : Int)) (.int .i64 ((i : Int) + 1)) (.int .i64 0) (.int .i64 (i : Int)) (.int .i64 ((i : Int) + 1)) rfl rfl) rfl (Told.mk' (x := (i : Int)) (y := ((i : Int) + 1)) (by rw [HW.out]; rfl) (by rw [HW.out]; exact fun h => absurd rfl h) (below_put6 (by repeat (first | exact HF.out.below | refine below_at ?_ (by omega) _)) (Nat.le_refl _) _ _ _ _ _ _).drew)
  · have b1 : ((i : Int) == 0) = true := beq_iff_eq.2 (by omega)
    have d3 : decide (3 ≤ (s.size : Int)) = false := decide_eq_false (by omega)
    clear h1 h3
    go_enter Tryz.func24, Tryz.ntmps24
    go_wp2_with (go_at_call 47; refine (H2.out _).mono ?_; rintro e W ⟨rfl, hbW⟩; have HF := Lib.hid ((four_new w (.int .i64 0) (.int .i64 (i : Int)) (.int .i64 ((i : Int) + 1)) (.int .i64 0) (.int .i64 (i : Int)) (.int .i64 0)).then hbW); obtain ⟨⟨⟨u0, u1, u2, u3, u4, u5, k0, k1, k2, k3, k4, k5⟩, f0, f1, f2, f3, f4, f5⟩, x0, x1, x2, y0, y1, y2, ⟨⟨g0, g1, g2⟩, g3, g4, g5⟩, _⟩ := HF.out; clear hbW)
    go_region
    go_wp2_with fail
    exact bodyPost_ret (results_drew Tryz.results24 _ (by repeat (first | exact HF.out.six | refine six_past ?_ (by omega) _)) (.int .i64 2) (.int .i64 (i : Int)) (.int .i64 ((i : Int) + 1)) (.int .i64 0) (.int .i64 (i : Int)) (.int .i64 ((i : Int) + 1)) rfl rfl) rfl (Told.mk' (x := (i : Int)) (y := ((i : Int) + 1)) (by rw [HW.out]; rfl) (by rw [HW.out]; exact fun h => absurd rfl h) (below_put6 (by repeat (first | exact HF.out.below | refine below_at ?_ (by omega) _)) (Nat.le_refl _) _ _ _ _ _ _).drew)
  · have b1 : ((i : Int) == 0) = true := beq_iff_eq.2 (by omega)
    have d3 : decide (3 ≤ (s.size : Int)) = true := decide_eq_true (by omega)
    have hsl3 := slice_to s 3 3 rfl h3
    obtain ⟨x3, hx3⟩ : ∃ x, B (s.data.toList.take 3) = x := ⟨_, rfl⟩
    rw [hx3] at h4 hsl3
    clear h1 h3 hx3
    go_enter Tryz.func24, Tryz.ntmps24
    go_wp2_with (go_at_call 47; refine (H2.out _).mono ?_; rintro e W ⟨rfl, hbW⟩; have HF := Lib.hid ((four_new w (.int .i64 0) (.int .i64 (i : Int)) (.int .i64 ((i : Int) + 1)) (.int .i64 0) (.int .i64 (i : Int)) (.int .i64 0)).then hbW); obtain ⟨⟨⟨u0, u1, u2, u3, u4, u5, k0, k1, k2, k3, k4, k5⟩, f0, f1, f2, f3, f4, f5⟩, x0, x1, x2, y0, y1, y2, ⟨⟨g0, g1, g2⟩, g3, g4, g5⟩, _⟩ := HF.out; clear hbW)
    go_region
    go_wp2_with fail
    exact bodyPost_ret (results_drew Tryz.results24 _ (by repeat (first | exact HF.out.six | refine six_past ?_ (by omega) _)) (.int .i64 2) (.int .i64 (i : Int)) (.int .i64 ((i : Int) + 1)) (.int .i64 0) (.int .i64 (i : Int)) (.int .i64 ((i : Int) + 1)) rfl rfl) rfl (Told.mk' (x := (i : Int)) (y := ((i : Int) + 1)) (by rw [HW.out]; rfl) (by rw [HW.out]; exact fun h => absurd rfl h) (below_put6 (by repeat (first | exact HF.out.below | refine below_at ?_ (by omega) _)) (Nat.le_refl _) _ _ _ _ _ _).drew)
end Go.Proofs.YtjbamlmdeopcaaaGreatDoor.lx
end

section
/-
  The reference's Next, case by case (blanks).
-/
namespace Go.Proofs.YtjbamlmdeopcaaaGreatDoor.lx
open Go.RowKit Go.Proofs.YtjbamlmdeopcaaaGreatDoor.tok

set_option maxRecDepth 100000 in
set_option maxHeartbeats 4000000 in
theorem refNext_2 {s : ByteArray} {i : Nat} {c : UInt8} {w : World} (hlt : i < s.size) (hc : s[i] = c) (hs : s.size ≤ 4194304) (m : Nx) (hm : m = right 1 (runL isBl (s.data.toList.drop i))) (h1 : i ≠ 0 ∨ Lib.hasPrefix s.data.toList mark = false) (h2 : isBl c = true) :
    Calls Tryz.prog 24 #[.string s, .int .i64 (i : Int)] w (Told m i w) := by
  have HW := Lib.hid hm
  have HSD := Lib.hid (sdata s)
  have hix : ∀ u : World, (Instr.index 9 (.string s) (.int .i64 (i : Int))).run Tryz.prog u = .ok (.int .u8 (c.toNat : Int)) u := fun u => by rw [← hc]; exact index_at s _ i rfl hlt u
  have HC : Hid (∀ h : i < s.data.toList.length, isBl s.data.toList[i] = true) := Lib.hid (fun _ => by rw [show s.data.toList[i] = s[i] from rfl, hc]; exact h2)
  have H2 := Lib.hid (fun u => refBlank_then c u)
  rw [h2] at H2
  clear h2 hm hc
  rcases nm_cases h1 with h1 | ⟨h1, h3⟩ | ⟨h1, h3, h4⟩
  · have b1 : ((i : Int) == 0) = false := beq_eq_false_iff_ne.2 (by omega)
    clear h1
    go_enter Tryz.func24, Tryz.ntmps24
    go_wp2_with (go_at_call 47; refine (H2.out _).mono ?_; rintro e W ⟨rfl, hbW⟩; have HF := Lib.hid ((four_new w (.int .i64 0) (.int .i64 (i : Int)) (.int .i64 ((i : Int) + 1)) (.int .i64 0) (.int .i64 (i : Int)) (.int .i64 0)).then hbW); obtain ⟨⟨⟨u0, u1, u2, u3, u4, u5, k0, k1, k2, k3, k4, k5⟩, f0, f1, f2, f3, f4, f5⟩, x0, x1, x2, y0, y1, y2, ⟨⟨g0, g1, g2⟩, g3, g4, g5⟩, _⟩ := HF.out; clear hbW)
    have HF1 := Lib.hid (HF.out.set0 (.int .i64 1))
    have e1 : ((i : Int) + 1) = ((i + 1 : Nat) : Int) := by omega
    have HF2 := HF1
    rw [e1] at HF2
    clear k0 k1 k2 k3 k4 k5 f0 f1 f2 f3 f4 f5 x0 x1 x2 y0 y1 y2 g0 g1 g2 g3 g4 g5
    go_loopw [] (fun wr => ∃ n : Nat, i < n ∧ n ≤ s.size ∧ Four w wr (.int .i64 1) (.int .i64 (i : Int)) (.int .i64 (n : Int)) (.int .i64 0) (.int .i64 (i : Int)) (.int .i64 0) ∧ ∀ j, i ≤ j → j < n → ∀ h : j < s.data.toList.length, isBl s.data.toList[j] = true) (fun wr => s.size - (intOf ((wr.cell? ⟨w.heap.size + 1 + 1, 2, none⟩).getD undef)).toNat)
    case atStart => exact ⟨i + 1, by omega, by omega, HF2.out, fun j g1 g2 h => by
                      obtain rfl : j = i := by omega
                      exact HC.out h⟩
    case round =>
      obtain ⟨n, hn1, hn2, hfo, hall⟩ := hrel
      have HR := Lib.hid hfo
      have HA := Lib.hid hall
      clear hfo hall HF HF1 HF2 e1
      obtain ⟨⟨⟨u0, u1, u2, u3, u4, u5, k0, k1, k2, k3, k4, k5⟩, f0, f1, f2, f3, f4, f5⟩, x0, x1, x2, y0, y1, y2, ⟨⟨g0, g1, g2⟩, g3, g4, g5⟩, _⟩ := HR.out
      by_cases hlt2 : n < s.size
      · obtain ⟨d, hd⟩ : ∃ d, s[n]'hlt2 = d := ⟨_, rfl⟩
        have hixn : ∀ u : World, (Instr.index 9 (.string s) (.int .i64 (n : Int))).run Tryz.prog u = .ok (.int .u8 (d.toNat : Int)) u := fun u => by rw [← hd]; exact index_at s _ n rfl hlt2 u
        have HD : Hid (∀ h : n < s.data.toList.length, s.data.toList[n] = d) := Lib.hid (fun _ => by rw [← hd]; rfl)
        have dlt : decide ((n : Int) < (s.size : Int)) = true := decide_eq_true (by omega)
        clear hd
        cases hp : isBl d with
        | true =>
          have H3 := Lib.hid (fun u => refBlank_any d u)
          rw [hp] at H3
          have HP := Lib.hid hp
          clear hp
          go_wp2_with (go_at_call 47; refine (H3.out _).mono ?_; rintro e w' ⟨rfl, rfl⟩)
          go_roundw
          case rel => exact ⟨n + 1, by omega, by omega, by have := HR.out.set2 (.int .i64 ((n + 1 : Nat) : Int)); exact this, fun j g1 g2 h => by
                        by_cases e : j = n
                        · subst e; rw [HD.out h]; exact HP.out
                        · exact HA.out j g1 (by omega) h⟩
          case measure => have e2 := (HR.out.set2 (.int .i64 ((n : Int) + 1))).x2; simp only [x2, e2, Option.getD_some, intOf]; omega
        | false =>
          have H3 := Lib.hid (fun u => refBlank_any d u)
          rw [hp] at H3
          have HP := Lib.hid hp
          clear hp
          have HE : Hid (i + runL isBl (s.data.toList.drop i) = n) := Lib.hid (run_to (by omega) (by rw [HSD.out]; exact hlt2) HA.out (by rw [HD.out (by rw [HSD.out]; exact hlt2)]; exact HP.out))
          go_wp2_with (go_at_call 47; refine (H3.out _).mono ?_; rintro e w' ⟨rfl, rfl⟩)
          go_region
          go_wp2_with fail
          exact bodyPost_ret (results_drew Tryz.results24 _ (by repeat (first | exact HR.out.six | refine six_past ?_ (by omega) _)) (.int .i64 1) (.int .i64 (i : Int)) (.int .i64 (n : Int)) (.int .i64 0) (.int .i64 (i : Int)) (.int .i64 (n : Int)) rfl rfl) rfl (Told.mk' (x := (i : Int)) (y := (n : Int)) (by rw [HW.out, show ((i : Int) + ((right 1 (runL isBl (s.data.toList.drop i))).width : Int)) = (n : Int) by have := HE.out; simp only [right]; omega]; rfl) (by rw [HW.out]; exact fun h => absurd rfl h) (below_put6 (by repeat (first | exact HR.out.below | refine below_at ?_ (by omega) _)) (Nat.le_refl _) _ _ _ _ _ _).drew)
      · have dlt : decide ((n : Int) < (s.size : Int)) = false := decide_eq_false (by omega)
        obtain rfl : n = s.size := by omega
        have HE : Hid (i + runL isBl (s.data.toList.drop i) = s.size) := Lib.hid (by rw [run_end (by rw [HSD.out]; omega) (fun j g1 h => HA.out j g1 (by rw [HSD.out] at h; omega) h), HSD.out])
        go_wp2_with fail
        go_region
        go_wp2_with fail
        exact bodyPost_ret (results_drew Tryz.results24 _ (by repeat (first | exact HR.out.six | refine six_past ?_ (by omega) _)) (.int .i64 1) (.int .i64 (i : Int)) (.int .i64 (s.size : Int)) (.int .i64 0) (.int .i64 (i : Int)) (.int .i64 (s.size : Int)) rfl rfl) rfl (Told.mk' (x := (i : Int)) (y := (s.size : Int)) (by rw [HW.out, show ((i : Int) + ((right 1 (runL isBl (s.data.toList.drop i))).width : Int)) = (s.size : Int) by have := HE.out; simp only [right]; omega]; rfl) (by rw [HW.out]; exact fun h => absurd rfl h) (below_put6 (by repeat (first | exact HR.out.below | refine below_at ?_ (by omega) _)) (Nat.le_refl _) _ _ _ _ _ _).drew)
  · have b1 : ((i : Int) == 0) = true := beq_iff_eq.2 (by omega)
    have d3 : decide (3 ≤ (s.size : Int)) = false := decide_eq_false (by omega)
    clear h1 h3
    go_enter Tryz.func24, Tryz.ntmps24
    go_wp2_with (go_at_call 47; refine (H2.out _).mono ?_; rintro e W ⟨rfl, hbW⟩; have HF := Lib.hid ((four_new w (.int .i64 0) (.int .i64 (i : Int)) (.int .i64 ((i : Int) + 1)) (.int .i64 0) (.int .i64 (i : Int)) (.int .i64 0)).then hbW); obtain ⟨⟨⟨u0, u1, u2, u3, u4, u5, k0, k1, k2, k3, k4, k5⟩, f0, f1, f2, f3, f4, f5⟩, x0, x1, x2, y0, y1, y2, ⟨⟨g0, g1, g2⟩, g3, g4, g5⟩, _⟩ := HF.out; clear hbW)
    have HF1 := Lib.hid (HF.out.set0 (.int .i64 1))
    have e1 : ((i : Int) + 1) = ((i + 1 : Nat) : Int) := by omega
    have HF2 := HF1
    rw [e1] at HF2
    clear k0 k1 k2 k3 k4 k5 f0 f1 f2 f3 f4 f5 x0 x1 x2 y0 y1 y2 g0 g1 g2 g3 g4 g5
    go_loopw [] (fun wr => ∃ n : Nat, i < n ∧ n ≤ s.size ∧ Four w wr (.int .i64 1) (.int .i64 (i : Int)) (.int .i64 (n : Int)) (.int .i64 0) (.int .i64 (i : Int)) (.int .i64 0) ∧ ∀ j, i ≤ j → j < n → ∀ h : j < s.data.toList.length, isBl s.data.toList[j] = true) (fun wr => s.size - (intOf ((wr.cell? ⟨w.heap.size + 1 + 1, 2, none⟩).getD undef)).toNat)
    case atStart => exact ⟨i + 1, by omega, by omega, HF2.out, fun j g1 g2 h => by
                      obtain rfl : j = i := by omega
                      exact HC.out h⟩
    case round =>
      obtain ⟨n, hn1, hn2, hfo, hall⟩ := hrel
      have HR := Lib.hid hfo
      have HA := Lib.hid hall
      clear hfo hall HF HF1 HF2 e1
      obtain ⟨⟨⟨u0, u1, u2, u3, u4, u5, k0, k1, k2, k3, k4, k5⟩, f0, f1, f2, f3, f4, f5⟩, x0, x1, x2, y0, y1, y2, ⟨⟨g0, g1, g2⟩, g3, g4, g5⟩, _⟩ := HR.out
      by_cases hlt2 : n < s.size
      · obtain ⟨d, hd⟩ : ∃ d, s[n]'hlt2 = d := ⟨_, rfl⟩
        have hixn : ∀ u : World, (Instr.index 9 (.string s) (.int .i64 (n : Int))).run Tryz.prog u = .ok (.int .u8 (d.toNat : Int)) u := fun u => by rw [← hd]; exact index_at s _ n rfl hlt2 u
        have HD : Hid (∀ h : n < s.data.toList.length, s.data.toList[n] = d) := Lib.hid (fun _ => by rw [← hd]; rfl)
        have dlt : decide ((n : Int) < (s.size : Int)) = true := decide_eq_true (by omega)
        clear hd
        cases hp : isBl d with
        | true =>
          have H3 := Lib.hid (fun u => refBlank_any d u)
          rw [hp] at H3
          have HP := Lib.hid hp
          clear hp
          go_wp2_with (go_at_call 47; refine (H3.out _).mono ?_; rintro e w' ⟨rfl, rfl⟩)
          go_roundw
          case rel => exact ⟨n + 1, by omega, by omega, by have := HR.out.set2 (.int .i64 ((n + 1 : Nat) : Int)); exact this, fun j g1 g2 h => by
                        by_cases e : j = n
                        · subst e; rw [HD.out h]; exact HP.out
                        · exact HA.out j g1 (by omega) h⟩
          case measure => have e2 := (HR.out.set2 (.int .i64 ((n : Int) + 1))).x2; simp only [x2, e2, Option.getD_some, intOf]; omega
        | false =>
          have H3 := Lib.hid (fun u => refBlank_any d u)
          rw [hp] at H3
          have HP := Lib.hid hp
          clear hp
          have HE : Hid (i + runL isBl (s.data.toList.drop i) = n) := Lib.hid (run_to (by omega) (by rw [HSD.out]; exact hlt2) HA.out (by rw [HD.out (by rw [HSD.out]; exact hlt2)]; exact HP.out))
          go_wp2_with (go_at_call 47; refine (H3.out _).mono ?_; rintro e w' ⟨rfl, rfl⟩)
          go_region
          go_wp2_with fail
          exact bodyPost_ret (results_drew Tryz.results24 _ (by repeat (first | exact HR.out.six | refine six_past ?_ (by omega) _)) (.int .i64 1) (.int .i64 (i : Int)) (.int .i64 (n : Int)) (.int .i64 0) (.int .i64 (i : Int)) (.int .i64 (n : Int)) rfl rfl) rfl (Told.mk' (x := (i : Int)) (y := (n : Int)) (by rw [HW.out, show ((i : Int) + ((right 1 (runL isBl (s.data.toList.drop i))).width : Int)) = (n : Int) by have := HE.out; simp only [right]; omega]; rfl) (by rw [HW.out]; exact fun h => absurd rfl h) (below_put6 (by repeat (first | exact HR.out.below | refine below_at ?_ (by omega) _)) (Nat.le_refl _) _ _ _ _ _ _).drew)
      · have dlt : decide ((n : Int) < (s.size : Int)) = false := decide_eq_false (by omega)
        obtain rfl : n = s.size := by omega
        have HE : Hid (i + runL isBl (s.data.toList.drop i) = s.size) := Lib.hid (by rw [run_end (by rw [HSD.out]; omega) (fun j g1 h => HA.out j g1 (by rw [HSD.out] at h; omega) h), HSD.out])
        go_wp2_with fail
        go_region
        go_wp2_with fail
        exact bodyPost_ret (results_drew Tryz.results24 _ (by repeat (first | exact HR.out.six | refine six_past ?_ (by omega) _)) (.int .i64 1) (.int .i64 (i : Int)) (.int .i64 (s.size : Int)) (.int .i64 0) (.int .i64 (i : Int)) (.int .i64 (s.size : Int)) rfl rfl) rfl (Told.mk' (x := (i : Int)) (y := (s.size : Int)) (by rw [HW.out, show ((i : Int) + ((right 1 (runL isBl (s.data.toList.drop i))).width : Int)) = (s.size : Int) by have := HE.out; simp only [right]; omega]; rfl) (by rw [HW.out]; exact fun h => absurd rfl h) (below_put6 (by repeat (first | exact HR.out.below | refine below_at ?_ (by omega) _)) (Nat.le_refl _) _ _ _ _ _ _).drew)
  · have b1 : ((i : Int) == 0) = true := beq_iff_eq.2 (by omega)
    have d3 : decide (3 ≤ (s.size : Int)) = true := decide_eq_true (by omega)
    have hsl3 := slice_to s 3 3 rfl h3
    obtain ⟨x3, hx3⟩ : ∃ x, B (s.data.toList.take 3) = x := ⟨_, rfl⟩
    rw [hx3] at h4 hsl3
    clear h1 h3 hx3
    go_enter Tryz.func24, Tryz.ntmps24
    go_wp2_with (go_at_call 47; refine (H2.out _).mono ?_; rintro e W ⟨rfl, hbW⟩; have HF := Lib.hid ((four_new w (.int .i64 0) (.int .i64 (i : Int)) (.int .i64 ((i : Int) + 1)) (.int .i64 0) (.int .i64 (i : Int)) (.int .i64 0)).then hbW); obtain ⟨⟨⟨u0, u1, u2, u3, u4, u5, k0, k1, k2, k3, k4, k5⟩, f0, f1, f2, f3, f4, f5⟩, x0, x1, x2, y0, y1, y2, ⟨⟨g0, g1, g2⟩, g3, g4, g5⟩, _⟩ := HF.out; clear hbW)
    have HF1 := Lib.hid (HF.out.set0 (.int .i64 1))
    have e1 : ((i : Int) + 1) = ((i + 1 : Nat) : Int) := by omega
    have HF2 := HF1
    rw [e1] at HF2
    clear k0 k1 k2 k3 k4 k5 f0 f1 f2 f3 f4 f5 x0 x1 x2 y0 y1 y2 g0 g1 g2 g3 g4 g5
    go_loopw [] (fun wr => ∃ n : Nat, i < n ∧ n ≤ s.size ∧ Four w wr (.int .i64 1) (.int .i64 (i : Int)) (.int .i64 (n : Int)) (.int .i64 0) (.int .i64 (i : Int)) (.int .i64 0) ∧ ∀ j, i ≤ j → j < n → ∀ h : j < s.data.toList.length, isBl s.data.toList[j] = true) (fun wr => s.size - (intOf ((wr.cell? ⟨w.heap.size + 1 + 1, 2, none⟩).getD undef)).toNat)
    case atStart => exact ⟨i + 1, by omega, by omega, HF2.out, fun j g1 g2 h => by
                      obtain rfl : j = i := by omega
                      exact HC.out h⟩
    case round =>
      obtain ⟨n, hn1, hn2, hfo, hall⟩ := hrel
      have HR := Lib.hid hfo
      have HA := Lib.hid hall
      clear hfo hall HF HF1 HF2 e1
      obtain ⟨⟨⟨u0, u1, u2, u3, u4, u5, k0, k1, k2, k3, k4, k5⟩, f0, f1, f2, f3, f4, f5⟩, x0, x1, x2, y0, y1, y2, ⟨⟨g0, g1, g2⟩, g3, g4, g5⟩, _⟩ := HR.out
      by_cases hlt2 : n < s.size
      · obtain ⟨d, hd⟩ : ∃ d, s[n]'hlt2 = d := ⟨_, rfl⟩
        have hixn : ∀ u : World, (Instr.index 9 (.string s) (.int .i64 (n : Int))).run Tryz.prog u = .ok (.int .u8 (d.toNat : Int)) u := fun u => by rw [← hd]; exact index_at s _ n rfl hlt2 u
        have HD : Hid (∀ h : n < s.data.toList.length, s.data.toList[n] = d) := Lib.hid (fun _ => by rw [← hd]; rfl)
        have dlt : decide ((n : Int) < (s.size : Int)) = true := decide_eq_true (by omega)
        clear hd
        cases hp : isBl d with
        | true =>
          have H3 := Lib.hid (fun u => refBlank_any d u)
          rw [hp] at H3
          have HP := Lib.hid hp
          clear hp
          go_wp2_with (go_at_call 47; refine (H3.out _).mono ?_; rintro e w' ⟨rfl, rfl⟩)
          go_roundw
          case rel => exact ⟨n + 1, by omega, by omega, by have := HR.out.set2 (.int .i64 ((n + 1 : Nat) : Int)); exact this, fun j g1 g2 h => by
                        by_cases e : j = n
                        · subst e; rw [HD.out h]; exact HP.out
                        · exact HA.out j g1 (by omega) h⟩
          case measure => have e2 := (HR.out.set2 (.int .i64 ((n : Int) + 1))).x2; simp only [x2, e2, Option.getD_some, intOf]; omega
        | false =>
          have H3 := Lib.hid (fun u => refBlank_any d u)
          rw [hp] at H3
          have HP := Lib.hid hp
          clear hp
          have HE : Hid (i + runL isBl (s.data.toList.drop i) = n) := Lib.hid (run_to (by omega) (by rw [HSD.out]; exact hlt2) HA.out (by rw [HD.out (by rw [HSD.out]; exact hlt2)]; exact HP.out))
          go_wp2_with (go_at_call 47; refine (H3.out _).mono ?_; rintro e w' ⟨rfl, rfl⟩)
          go_region
          go_wp2_with fail
          exact bodyPost_ret (results_drew Tryz.results24 _ (by repeat (first | exact HR.out.six | refine six_past ?_ (by omega) _)) (.int .i64 1) (.int .i64 (i : Int)) (.int .i64 (n : Int)) (.int .i64 0) (.int .i64 (i : Int)) (.int .i64 (n : Int)) rfl rfl) rfl (Told.mk' (x := (i : Int)) (y := (n : Int)) (by rw [HW.out, show ((i : Int) + ((right 1 (runL isBl (s.data.toList.drop i))).width : Int)) = (n : Int) by have := HE.out; simp only [right]; omega]; rfl) (by rw [HW.out]; exact fun h => absurd rfl h) (below_put6 (by repeat (first | exact HR.out.below | refine below_at ?_ (by omega) _)) (Nat.le_refl _) _ _ _ _ _ _).drew)
      · have dlt : decide ((n : Int) < (s.size : Int)) = false := decide_eq_false (by omega)
        obtain rfl : n = s.size := by omega
        have HE : Hid (i + runL isBl (s.data.toList.drop i) = s.size) := Lib.hid (by rw [run_end (by rw [HSD.out]; omega) (fun j g1 h => HA.out j g1 (by rw [HSD.out] at h; omega) h), HSD.out])
        go_wp2_with fail
        go_region
        go_wp2_with fail
        exact bodyPost_ret (results_drew Tryz.results24 _ (by repeat (first | exact HR.out.six | refine six_past ?_ (by omega) _)) (.int .i64 1) (.int .i64 (i : Int)) (.int .i64 (s.size : Int)) (.int .i64 0) (.int .i64 (i : Int)) (.int .i64 (s.size : Int)) rfl rfl) rfl (Told.mk' (x := (i : Int)) (y := (s.size : Int)) (by rw [HW.out, show ((i : Int) + ((right 1 (runL isBl (s.data.toList.drop i))).width : Int)) = (s.size : Int) by have := HE.out; simp only [right]; omega]; rfl) (by rw [HW.out]; exact fun h => absurd rfl h) (below_put6 (by repeat (first | exact HR.out.below | refine below_at ?_ (by omega) _)) (Nat.le_refl _) _ _ _ _ _ _).drew)
end Go.Proofs.YtjbamlmdeopcaaaGreatDoor.lx
end

section
/-
  The reference's row.
-/
namespace Go.Proofs.YtjbamlmdeopcaaaGreatDoor.tok
open Go.RowKit

/-- What the reference's row answers for digits without a _ ahead. -/
def rowed (base : Int) (l : List UInt8) : List UInt8 × Bool := match jTo base l l.length with
  | some (d, false) => (d, true)
  | _ => ([], false)
theorem rowed_none {base : Int} {l : List UInt8} (h : jTo base l l.length = none) : rowed base l = ([], false) := by rw [rowed, h]
theorem rowed_apart {base : Int} {l d : List UInt8} (h : jTo base l l.length = some (d, true)) : rowed base l = ([], false) := by rw [rowed, h]
theorem jTo_digit_le {base : Int} {l : List UInt8} : ∀ k, k ≤ l.length → ∀ d a, jTo base l k = some (d, a) → a = false → d ≠ [] := by
  intro k
  induction k with
  | zero => intro _ d a h g; simp [jTo] at h; rw [g] at h; simp at h
  | succ k ih =>
    intro hk d a h g
    rw [jTo_succ (by omega)] at h
    cases hp : jTo base l k with
    | none => rw [hp] at h; simp [jStep] at h
    | some p =>
      obtain ⟨d', a'⟩ := p
      rw [hp] at h
      simp only [jStep] at h
      split at h
      · obtain ⟨h1, h2⟩ := Prod.mk.inj (Option.some.inj h); rw [← h1]; simp
      · split at h
        · obtain ⟨h1, h2⟩ := Prod.mk.inj (Option.some.inj h); rw [g] at h2; cases h2
        · cases h
theorem jTo_digit {base : Int} {l d : List UInt8} (h : jTo base l l.length = some (d, false)) : d ≠ [] := jTo_digit_le _ (Nat.le_refl _) d false h rfl
/-- What the flag says of the byte ahead. -/
def Side (l : List UInt8) (k : Nat) (a : Bool) : Prop := (a = true ↔ k = 0 ∨ ∃ h : k - 1 < l.length, 0 < k ∧ l[k - 1] = 95) ∧ (0 < k → k = l.length → a = false)
theorem Side.zero (l : List UInt8) : Side l 0 true := ⟨⟨fun _ => .inl rfl, fun _ => rfl⟩, fun h => by omega⟩
theorem Side.prev {l : List UInt8} {k : Nat} {a : Bool} (h : Side l k a) (hk : 0 < k) (hl : k - 1 < l.length) : a = true ↔ l[k - 1] = 95 := by
  rw [h.1]
  exact ⟨fun g => g.elim (fun e => by omega) (fun ⟨_, _, e⟩ => e), fun e => .inr ⟨hl, hk, e⟩⟩
theorem Side.zero_true {l : List UInt8} {k : Nat} {a : Bool} (h : Side l k a) (hk : k = 0) : a = true := h.1.2 (.inl hk)
theorem Side.at_end {l : List UInt8} {k : Nat} {a : Bool} (h : Side l k a) (hk : 0 < k) (hl : k = l.length) : a = false := h.2 hk hl
theorem Side.step {l : List UInt8} {k : Nat} {a : Bool} (hl : k < l.length) (h : a = true ↔ l[k] = 95) (he : a = true → k + 1 < l.length) : Side l (k + 1) a := by
  refine ⟨?_, fun _ e => ?_⟩
  · rw [h]
    constructor
    · intro g; exact .inr ⟨by simpa using hl, by omega, by simpa using g⟩
    · intro g
      rcases g with g | ⟨_, _, g⟩
      · omega
      · simpa using g
  · cases a with
    | false => rfl
    | true => have := he rfl; omega
def RowPost (x : List UInt8) (b : Bool) (w : World) (e : Ending) (w' : World) : Prop := e = .returned (.tuple #[.string (B x), .bool b]) ∧ w = w'

set_option maxRecDepth 100000 in
set_option maxHeartbeats 4000000 in
theorem row_plain (y : ByteArray) (base : Int) (w : World) (hs : y.size ≤ 16777216) (hb : base ≤ 16) :
    Calls Tryz.prog 71 #[.string y, .int .i64 base, .bool false] w (RowPost (rowed base y.data.toList).1 (rowed base y.data.toList).2 w) := by
  go_enter Tryz.func71, Tryz.ntmps71
  go_wp2_with fail
  go_loop [8, 9] (fun out i => ∃ (k : Nat) (d : List UInt8) (a : Bool), k ≤ y.size ∧ i = .int .i64 k ∧ out = .string (B d) ∧ jTo base y.data.toList k = some (d, a) ∧ Side y.data.toList k a) (fun _ i => y.size - (intOf i).toNat)
  case atStart => exact ⟨0, [], true, Nat.zero_le _, rfl, rfl, rfl, Side.zero _⟩
  case round =>
    obtain ⟨k, d, a, hk, rfl, rfl, hj, hside⟩ := hrel
    have hsd := sdata y
    have hf := jTo_few k d a (by omega) hj
    have HJ := Lib.hid hj
    have HS := Lib.hid hside
    have hbd : (B d).size ≤ 16777216 := by rw [bsize]; omega
    clear hj hside
    have HD := Lib.hid hsd
    clear hsd
    by_cases hlt : k < y.size
    · have HN := Lib.hid (jTo_succ (base := base) (l := y.data.toList) (k := k) (by have := HD.out; omega))
      obtain ⟨c, hc⟩ : ∃ c, y[k]'hlt = c := ⟨_, rfl⟩
      have hsl := slice_one y k hlt c hc
      have HC := Lib.hid hc
      rw [at_data hlt, hc, HJ.out] at HN
      have hc0 : (0 : Int) ≤ (c.toNat : Int) := by omega
      have hc1 : (c.toNat : Int) ≤ 255 := by have := UInt8.toNat_lt c; omega
      obtain ⟨z, hz⟩ : ∃ z, digZ (c.toNat : Int) 99 = z := ⟨_, rfl⟩
      have HZ := Lib.hid hz
      have HI : Hid (isDig base c = decide (z < base)) := Lib.hid (by rw [isDig, ← hz]; exact decide_eq_decide.2 (digZ_lt _ 16 99 base (by omega) (by omega) hb))
      clear hz
      by_cases h95 : c = 95
      · have hcz : ((c.toNat : Int) == 95) = true := byte_eq (d := 95) h95
        have hz99 : z = 99 := by rw [← HZ.out, h95]; rfl
        have hdd : decide (z < base) = false := decide_eq_false (by omega)
        have hdd' : decide (base ≤ z) = true := decide_eq_true (by omega)
        rw [hdd] at HI
        by_cases hk0 : 0 < k
        · have hd0 : decide ((0 : Int) < (k : Int)) = true := decide_eq_true (by omega)
          obtain ⟨p, hp⟩ : ∃ p, y[k - 1]'(by omega) = p := ⟨_, rfl⟩
          have hix : ∀ u : World, (Instr.index 9 (.string y) (.int .i64 ((k : Int) - 1))).run Tryz.prog u = .ok (.int .u8 (p.toNat : Int)) u := fun u => by
            rw [← hp]; exact index_at y _ (k - 1) (by omega) (by omega) u
          have ha := HS.out.prev hk0 (by have := HD.out; omega)
          rw [at_data (s := y) (i := k - 1) (by omega), hp] at ha
          by_cases hp95 : p = 95
          · have hpz : ((p.toNat : Int) != 95) = false := byte_eq' (d := 95) hp95
            have hat : a = true := ha.2 hp95
            have HR0 : Hid (rowed base y.data.toList = ([], false)) := Lib.hid (rowed_none (jTo_end (by have := HD.out; omega) (show jTo base y.data.toList (k + 1) = none by rw [HN.out, jStep, HI.out, if_neg (by simp), if_neg (by rw [hat]; simp)])))
            clear h95 HN ha hp95 hat hp
            go_wp2_with (go_at_call 89; refine (refDigit_any _ _ hc0 hc1).mono ?_; rintro e w' ⟨rfl, rfl⟩; rw [HZ.out])
            go_ret2
            exact ⟨by rw [HR0.out]; rfl, rfl⟩
          · have hpz : ((p.toNat : Int) != 95) = true := byte_ne' (d := 95) hp95
            have haf : a = false := by cases a with | false => rfl | true => exact absurd (ha.1 rfl) hp95
            have HR0 : Hid (jTo base y.data.toList (k + 1) = some (d, true)) := Lib.hid (by rw [HN.out, jStep, HI.out, if_neg (by simp), if_pos ⟨h95, haf⟩])
            clear HN ha hp95 haf hp
            by_cases hend : k + 1 < y.size
            · have he : decide ((k : Int) + 1 < (y.size : Int)) = true := decide_eq_true (by omega)
              have HS1 : Hid (Side y.data.toList (k + 1) true) := Lib.hid (Side.step (by have := HD.out; omega) (by rw [at_data hlt, HC.out]; exact ⟨fun _ => h95, fun _ => rfl⟩) (fun _ => by have := HD.out; omega))
              clear h95
              go_wp2_with fail
              go_round
              case rel => exact ⟨k + 1, d, true, by omega, by go_num, rfl, HR0.out, HS1.out⟩
              case measure => simp [intOf]; omega
            · have he : decide ((k : Int) + 1 < (y.size : Int)) = false := decide_eq_false (by omega)
              have HR1 : Hid (rowed base y.data.toList = ([], false)) := Lib.hid (rowed_apart (d := d) (by rw [HD.out, show y.size = k + 1 by omega]; exact HR0.out))
              clear h95
              go_wp2_with (go_at_call 89; refine (refDigit_any _ _ hc0 hc1).mono ?_; rintro e w' ⟨rfl, rfl⟩; rw [HZ.out])
              go_ret2
              exact ⟨by rw [HR1.out]; rfl, rfl⟩
        · have hd0 : decide ((0 : Int) < (k : Int)) = false := decide_eq_false (by omega)
          have hat : a = true := HS.out.zero_true (by omega)
          have HR0 : Hid (rowed base y.data.toList = ([], false)) := Lib.hid (rowed_none (jTo_end (by have := HD.out; omega) (show jTo base y.data.toList (k + 1) = none by rw [HN.out, jStep, HI.out, if_neg (by simp), if_neg (by rw [hat]; simp)])))
          clear h95 HN hat
          have hk00 : k = 0 := by omega
          subst hk00
          go_wp2_with (go_at_call 89; refine (refDigit_any _ _ hc0 hc1).mono ?_; rintro e w' ⟨rfl, rfl⟩; rw [HZ.out])
          go_ret2
          exact ⟨by rw [HR0.out]; rfl, rfl⟩
      · have hcz : ((c.toNat : Int) == 95) = false := byte_ne (d := 95) h95
        by_cases hdig : z < base
        · have hdd' : decide (base ≤ z) = false := decide_eq_false (by omega)
          have HR0 : Hid (jTo base y.data.toList (k + 1) = some (d ++ [c], false)) := Lib.hid (by rw [HN.out, jStep, HI.out, if_pos (decide_eq_true hdig)])
          have HS1 : Hid (Side y.data.toList (k + 1) false) := Lib.hid (Side.step (by have := HD.out; omega) (by rw [at_data hlt, HC.out]; exact ⟨fun g => (by cases g), fun g => absurd g h95⟩) (fun g => (by cases g)))
          have hbc : (B [c]).size ≤ 1 := by rw [bsize]; simp
          clear h95 HN
          go_wp2_with (go_at_call 89; refine (refDigit_any _ _ hc0 hc1).mono ?_; rintro e w' ⟨rfl, rfl⟩; rw [HZ.out])
          go_round
          case rel => exact ⟨k + 1, d ++ [c], false, by omega, by go_num, by rw [b_append], HR0.out, HS1.out⟩
          case measure => simp [intOf]; omega
        · have hdd' : decide (base ≤ z) = true := decide_eq_true (by omega)
          have HR0 : Hid (rowed base y.data.toList = ([], false)) := Lib.hid (rowed_none (jTo_end (by have := HD.out; omega) (show jTo base y.data.toList (k + 1) = none by rw [HN.out, jStep, HI.out, if_neg (by simpa using hdig), if_neg (fun g => h95 g.1)])))
          clear h95 HN
          go_wp2_with (go_at_call 89; refine (refDigit_any _ _ hc0 hc1).mono ?_; rintro e w' ⟨rfl, rfl⟩; rw [HZ.out])
          go_ret2
          exact ⟨by rw [HR0.out]; rfl, rfl⟩
    · obtain rfl : k = y.size := by omega
      by_cases hk0 : y.size = 0
      · have hda : d = [] ∧ a = true := by have := HJ.out; rw [hk0] at this; obtain ⟨h1, h2⟩ := Prod.mk.inj (Option.some.inj this); exact ⟨h1.symm, h2.symm⟩
        obtain ⟨rfl, rfl⟩ := hda
        have HR0 : Hid (rowed base y.data.toList = ([], false)) := Lib.hid (rowed_apart (d := []) (by rw [HD.out]; exact HJ.out))
        have hem : (B []).toList = [] := by rw [blist]
        go_wp2_with fail
        go_ret2
        exact ⟨by rw [HR0.out]; rfl, rfl⟩
      · have haf : a = false := HS.out.at_end (by omega) (by rw [HD.out])
        subst haf
        have hdne := jTo_digit (by rw [HD.out]; exact HJ.out)
        have HR0 : Hid (rowed base y.data.toList = (d, true)) := Lib.hid (by rw [rowed, HD.out, HJ.out])
        have hem : (B d).toList ≠ [] := by rw [blist]; exact hdne
        have hem2 : (!(B d).toList.isEmpty) = true := by rw [blist]; simpa using hdne
        go_wp2_with fail
        go_ret2
        exact ⟨by rw [HR0.out]; rfl, rfl⟩
set_option maxRecDepth 100000 in
set_option maxHeartbeats 4000000 in
theorem row_off (y : ByteArray) (base : Int) (w : World) (hs : y.size ≤ 16777216) (hb : base ≤ 16) (hno : ∀ h : 0 < y.size, y[0] ≠ 95) :
    Calls Tryz.prog 71 #[.string y, .int .i64 base, .bool true] w (RowPost (rowed base y.data.toList).1 (rowed base y.data.toList).2 w) := by
  by_cases hp : 0 < y.size
  · have hd0 : decide ((0 : Int) < (y.size : Int)) = true := decide_eq_true (by omega)
    have h1 := hno hp
    obtain ⟨c, hc⟩ : ∃ c, y[0]'hp = c := ⟨_, rfl⟩
    rw [hc] at h1
    have hcz : ((c.toNat : Int) == 95) = false := byte_ne (d := 95) h1
    clear hno h1
    go_enter Tryz.func71, Tryz.ntmps71
    go_wp2_with fail
    clear hcz hc hd0
    go_loop [8, 9] (fun out i => ∃ (k : Nat) (d : List UInt8) (a : Bool), k ≤ y.size ∧ i = .int .i64 k ∧ out = .string (B d) ∧ jTo base y.data.toList k = some (d, a) ∧ Side y.data.toList k a) (fun _ i => y.size - (intOf i).toNat)
    case atStart => exact ⟨0, [], true, Nat.zero_le _, rfl, rfl, rfl, Side.zero _⟩
    case round =>
      obtain ⟨k, d, a, hk, rfl, rfl, hj, hside⟩ := hrel
      have hsd := sdata y
      have hf := jTo_few k d a (by omega) hj
      have HJ := Lib.hid hj
      have HS := Lib.hid hside
      have hbd : (B d).size ≤ 16777216 := by rw [bsize]; omega
      clear hj hside
      have HD := Lib.hid hsd
      clear hsd
      by_cases hlt : k < y.size
      · have HN := Lib.hid (jTo_succ (base := base) (l := y.data.toList) (k := k) (by have := HD.out; omega))
        obtain ⟨c, hc⟩ : ∃ c, y[k]'hlt = c := ⟨_, rfl⟩
        have hsl := slice_one y k hlt c hc
        have HC := Lib.hid hc
        rw [at_data hlt, hc, HJ.out] at HN
        have hc0 : (0 : Int) ≤ (c.toNat : Int) := by omega
        have hc1 : (c.toNat : Int) ≤ 255 := by have := UInt8.toNat_lt c; omega
        obtain ⟨z, hz⟩ : ∃ z, digZ (c.toNat : Int) 99 = z := ⟨_, rfl⟩
        have HZ := Lib.hid hz
        have HI : Hid (isDig base c = decide (z < base)) := Lib.hid (by rw [isDig, ← hz]; exact decide_eq_decide.2 (digZ_lt _ 16 99 base (by omega) (by omega) hb))
        clear hz
        by_cases h95 : c = 95
        · have hcz : ((c.toNat : Int) == 95) = true := byte_eq (d := 95) h95
          have hz99 : z = 99 := by rw [← HZ.out, h95]; rfl
          have hdd : decide (z < base) = false := decide_eq_false (by omega)
          have hdd' : decide (base ≤ z) = true := decide_eq_true (by omega)
          rw [hdd] at HI
          by_cases hk0 : 0 < k
          · have hd0 : decide ((0 : Int) < (k : Int)) = true := decide_eq_true (by omega)
            obtain ⟨p, hp⟩ : ∃ p, y[k - 1]'(by omega) = p := ⟨_, rfl⟩
            have hix : ∀ u : World, (Instr.index 9 (.string y) (.int .i64 ((k : Int) - 1))).run Tryz.prog u = .ok (.int .u8 (p.toNat : Int)) u := fun u => by
              rw [← hp]; exact index_at y _ (k - 1) (by omega) (by omega) u
            have ha := HS.out.prev hk0 (by have := HD.out; omega)
            rw [at_data (s := y) (i := k - 1) (by omega), hp] at ha
            by_cases hp95 : p = 95
            · have hpz : ((p.toNat : Int) != 95) = false := byte_eq' (d := 95) hp95
              have hat : a = true := ha.2 hp95
              have HR0 : Hid (rowed base y.data.toList = ([], false)) := Lib.hid (rowed_none (jTo_end (by have := HD.out; omega) (show jTo base y.data.toList (k + 1) = none by rw [HN.out, jStep, HI.out, if_neg (by simp), if_neg (by rw [hat]; simp)])))
              clear h95 HN ha hp95 hat hp
              go_wp2_with (go_at_call 89; refine (refDigit_any _ _ hc0 hc1).mono ?_; rintro e w' ⟨rfl, rfl⟩; rw [HZ.out])
              go_ret2
              exact ⟨by rw [HR0.out]; rfl, rfl⟩
            · have hpz : ((p.toNat : Int) != 95) = true := byte_ne' (d := 95) hp95
              have haf : a = false := by cases a with | false => rfl | true => exact absurd (ha.1 rfl) hp95
              have HR0 : Hid (jTo base y.data.toList (k + 1) = some (d, true)) := Lib.hid (by rw [HN.out, jStep, HI.out, if_neg (by simp), if_pos ⟨h95, haf⟩])
              clear HN ha hp95 haf hp
              by_cases hend : k + 1 < y.size
              · have he : decide ((k : Int) + 1 < (y.size : Int)) = true := decide_eq_true (by omega)
                have HS1 : Hid (Side y.data.toList (k + 1) true) := Lib.hid (Side.step (by have := HD.out; omega) (by rw [at_data hlt, HC.out]; exact ⟨fun _ => h95, fun _ => rfl⟩) (fun _ => by have := HD.out; omega))
                clear h95
                go_wp2_with fail
                go_round
                case rel => exact ⟨k + 1, d, true, by omega, by go_num, rfl, HR0.out, HS1.out⟩
                case measure => simp [intOf]; omega
              · have he : decide ((k : Int) + 1 < (y.size : Int)) = false := decide_eq_false (by omega)
                have HR1 : Hid (rowed base y.data.toList = ([], false)) := Lib.hid (rowed_apart (d := d) (by rw [HD.out, show y.size = k + 1 by omega]; exact HR0.out))
                clear h95
                go_wp2_with (go_at_call 89; refine (refDigit_any _ _ hc0 hc1).mono ?_; rintro e w' ⟨rfl, rfl⟩; rw [HZ.out])
                go_ret2
                exact ⟨by rw [HR1.out]; rfl, rfl⟩
          · have hd0 : decide ((0 : Int) < (k : Int)) = false := decide_eq_false (by omega)
            have hat : a = true := HS.out.zero_true (by omega)
            have HR0 : Hid (rowed base y.data.toList = ([], false)) := Lib.hid (rowed_none (jTo_end (by have := HD.out; omega) (show jTo base y.data.toList (k + 1) = none by rw [HN.out, jStep, HI.out, if_neg (by simp), if_neg (by rw [hat]; simp)])))
            clear h95 HN hat
            have hk00 : k = 0 := by omega
            subst hk00
            go_wp2_with (go_at_call 89; refine (refDigit_any _ _ hc0 hc1).mono ?_; rintro e w' ⟨rfl, rfl⟩; rw [HZ.out])
            go_ret2
            exact ⟨by rw [HR0.out]; rfl, rfl⟩
        · have hcz : ((c.toNat : Int) == 95) = false := byte_ne (d := 95) h95
          by_cases hdig : z < base
          · have hdd' : decide (base ≤ z) = false := decide_eq_false (by omega)
            have HR0 : Hid (jTo base y.data.toList (k + 1) = some (d ++ [c], false)) := Lib.hid (by rw [HN.out, jStep, HI.out, if_pos (decide_eq_true hdig)])
            have HS1 : Hid (Side y.data.toList (k + 1) false) := Lib.hid (Side.step (by have := HD.out; omega) (by rw [at_data hlt, HC.out]; exact ⟨fun g => (by cases g), fun g => absurd g h95⟩) (fun g => (by cases g)))
            have hbc : (B [c]).size ≤ 1 := by rw [bsize]; simp
            clear h95 HN
            go_wp2_with (go_at_call 89; refine (refDigit_any _ _ hc0 hc1).mono ?_; rintro e w' ⟨rfl, rfl⟩; rw [HZ.out])
            go_round
            case rel => exact ⟨k + 1, d ++ [c], false, by omega, by go_num, by rw [b_append], HR0.out, HS1.out⟩
            case measure => simp [intOf]; omega
          · have hdd' : decide (base ≤ z) = true := decide_eq_true (by omega)
            have HR0 : Hid (rowed base y.data.toList = ([], false)) := Lib.hid (rowed_none (jTo_end (by have := HD.out; omega) (show jTo base y.data.toList (k + 1) = none by rw [HN.out, jStep, HI.out, if_neg (by simpa using hdig), if_neg (fun g => h95 g.1)])))
            clear h95 HN
            go_wp2_with (go_at_call 89; refine (refDigit_any _ _ hc0 hc1).mono ?_; rintro e w' ⟨rfl, rfl⟩; rw [HZ.out])
            go_ret2
            exact ⟨by rw [HR0.out]; rfl, rfl⟩
      · obtain rfl : k = y.size := by omega
        by_cases hk0 : y.size = 0
        · have hda : d = [] ∧ a = true := by have := HJ.out; rw [hk0] at this; obtain ⟨h1, h2⟩ := Prod.mk.inj (Option.some.inj this); exact ⟨h1.symm, h2.symm⟩
          obtain ⟨rfl, rfl⟩ := hda
          have HR0 : Hid (rowed base y.data.toList = ([], false)) := Lib.hid (rowed_apart (d := []) (by rw [HD.out]; exact HJ.out))
          have hem : (B []).toList = [] := by rw [blist]
          go_wp2_with fail
          go_ret2
          exact ⟨by rw [HR0.out]; rfl, rfl⟩
        · have haf : a = false := HS.out.at_end (by omega) (by rw [HD.out])
          subst haf
          have hdne := jTo_digit (by rw [HD.out]; exact HJ.out)
          have HR0 : Hid (rowed base y.data.toList = (d, true)) := Lib.hid (by rw [rowed, HD.out, HJ.out])
          have hem : (B d).toList ≠ [] := by rw [blist]; exact hdne
          have hem2 : (!(B d).toList.isEmpty) = true := by rw [blist]; simpa using hdne
          go_wp2_with fail
          go_ret2
          exact ⟨by rw [HR0.out]; rfl, rfl⟩
  · have hd0 : decide ((0 : Int) < (y.size : Int)) = false := decide_eq_false (by omega)
    clear hno
    go_enter Tryz.func71, Tryz.ntmps71
    go_wp2_with fail
    clear hd0
    go_loop [8, 9] (fun out i => ∃ (k : Nat) (d : List UInt8) (a : Bool), k ≤ y.size ∧ i = .int .i64 k ∧ out = .string (B d) ∧ jTo base y.data.toList k = some (d, a) ∧ Side y.data.toList k a) (fun _ i => y.size - (intOf i).toNat)
    case atStart => exact ⟨0, [], true, Nat.zero_le _, rfl, rfl, rfl, Side.zero _⟩
    case round =>
      obtain ⟨k, d, a, hk, rfl, rfl, hj, hside⟩ := hrel
      have hsd := sdata y
      have hf := jTo_few k d a (by omega) hj
      have HJ := Lib.hid hj
      have HS := Lib.hid hside
      have hbd : (B d).size ≤ 16777216 := by rw [bsize]; omega
      clear hj hside
      have HD := Lib.hid hsd
      clear hsd
      by_cases hlt : k < y.size
      · omega
      · obtain rfl : k = y.size := by omega
        by_cases hk0 : y.size = 0
        · have hda : d = [] ∧ a = true := by have := HJ.out; rw [hk0] at this; obtain ⟨h1, h2⟩ := Prod.mk.inj (Option.some.inj this); exact ⟨h1.symm, h2.symm⟩
          obtain ⟨rfl, rfl⟩ := hda
          have HR0 : Hid (rowed base y.data.toList = ([], false)) := Lib.hid (rowed_apart (d := []) (by rw [HD.out]; exact HJ.out))
          have hem : (B []).toList = [] := by rw [blist]
          go_wp2_with fail
          go_ret2
          exact ⟨by rw [HR0.out]; rfl, rfl⟩
        · omega
set_option maxRecDepth 100000 in
set_option maxHeartbeats 4000000 in
theorem row_on (s : ByteArray) (y : ByteArray) (base : Int) (w : World) (hs : y.size ≤ 16777216) (hb : base ≤ 16) (hp : 0 < s.size) (hc0 : s[0] = 95) (hy : s.extract 1 s.size = y) :
    Calls Tryz.prog 71 #[.string s, .int .i64 base, .bool true] w (RowPost (rowed base y.data.toList).1 (rowed base y.data.toList).2 w) := by
  have hd0 : decide ((0 : Int) < (s.size : Int)) = true := decide_eq_true (by omega)
  obtain ⟨c, hc⟩ : ∃ c, s[0]'hp = c := ⟨_, rfl⟩
  rw [hc] at hc0
  have hcz : ((c.toNat : Int) == 95) = true := byte_eq (d := 95) hc0
  have hsl : ∀ u : World, (Instr.slice 9 (.string s) (some (.int .i64 1)) none none).run Tryz.prog u = .ok (.string y) u := fun u => by
    rw [← hy]
    exact run_slice_string_l (P := Tryz.prog) (w := u) (t := 9) (s := s) (ht := Tryz.underlying9) .i64 1 (by omega) (by omega)
  clear hy hc0
  go_enter Tryz.func71, Tryz.ntmps71
  go_wp2_with fail
  clear hcz hc hd0 hsl
  go_loop [8, 9] (fun out i => ∃ (k : Nat) (d : List UInt8) (a : Bool), k ≤ y.size ∧ i = .int .i64 k ∧ out = .string (B d) ∧ jTo base y.data.toList k = some (d, a) ∧ Side y.data.toList k a) (fun _ i => y.size - (intOf i).toNat)
  case atStart => exact ⟨0, [], true, Nat.zero_le _, rfl, rfl, rfl, Side.zero _⟩
  case round =>
    obtain ⟨k, d, a, hk, rfl, rfl, hj, hside⟩ := hrel
    have hsd := sdata y
    have hf := jTo_few k d a (by omega) hj
    have HJ := Lib.hid hj
    have HS := Lib.hid hside
    have hbd : (B d).size ≤ 16777216 := by rw [bsize]; omega
    clear hj hside
    have HD := Lib.hid hsd
    clear hsd
    by_cases hlt : k < y.size
    · have HN := Lib.hid (jTo_succ (base := base) (l := y.data.toList) (k := k) (by have := HD.out; omega))
      obtain ⟨c, hc⟩ : ∃ c, y[k]'hlt = c := ⟨_, rfl⟩
      have hsl := slice_one y k hlt c hc
      have HC := Lib.hid hc
      rw [at_data hlt, hc, HJ.out] at HN
      have hc0 : (0 : Int) ≤ (c.toNat : Int) := by omega
      have hc1 : (c.toNat : Int) ≤ 255 := by have := UInt8.toNat_lt c; omega
      obtain ⟨z, hz⟩ : ∃ z, digZ (c.toNat : Int) 99 = z := ⟨_, rfl⟩
      have HZ := Lib.hid hz
      have HI : Hid (isDig base c = decide (z < base)) := Lib.hid (by rw [isDig, ← hz]; exact decide_eq_decide.2 (digZ_lt _ 16 99 base (by omega) (by omega) hb))
      clear hz
      by_cases h95 : c = 95
      · have hcz : ((c.toNat : Int) == 95) = true := byte_eq (d := 95) h95
        have hz99 : z = 99 := by rw [← HZ.out, h95]; rfl
        have hdd : decide (z < base) = false := decide_eq_false (by omega)
        have hdd' : decide (base ≤ z) = true := decide_eq_true (by omega)
        rw [hdd] at HI
        by_cases hk0 : 0 < k
        · have hd0 : decide ((0 : Int) < (k : Int)) = true := decide_eq_true (by omega)
          obtain ⟨p, hp⟩ : ∃ p, y[k - 1]'(by omega) = p := ⟨_, rfl⟩
          have hix : ∀ u : World, (Instr.index 9 (.string y) (.int .i64 ((k : Int) - 1))).run Tryz.prog u = .ok (.int .u8 (p.toNat : Int)) u := fun u => by
            rw [← hp]; exact index_at y _ (k - 1) (by omega) (by omega) u
          have ha := HS.out.prev hk0 (by have := HD.out; omega)
          rw [at_data (s := y) (i := k - 1) (by omega), hp] at ha
          by_cases hp95 : p = 95
          · have hpz : ((p.toNat : Int) != 95) = false := byte_eq' (d := 95) hp95
            have hat : a = true := ha.2 hp95
            have HR0 : Hid (rowed base y.data.toList = ([], false)) := Lib.hid (rowed_none (jTo_end (by have := HD.out; omega) (show jTo base y.data.toList (k + 1) = none by rw [HN.out, jStep, HI.out, if_neg (by simp), if_neg (by rw [hat]; simp)])))
            clear h95 HN ha hp95 hat hp
            go_wp2_with (go_at_call 89; refine (refDigit_any _ _ hc0 hc1).mono ?_; rintro e w' ⟨rfl, rfl⟩; rw [HZ.out])
            go_ret2
            exact ⟨by rw [HR0.out]; rfl, rfl⟩
          · have hpz : ((p.toNat : Int) != 95) = true := byte_ne' (d := 95) hp95
            have haf : a = false := by cases a with | false => rfl | true => exact absurd (ha.1 rfl) hp95
            have HR0 : Hid (jTo base y.data.toList (k + 1) = some (d, true)) := Lib.hid (by rw [HN.out, jStep, HI.out, if_neg (by simp), if_pos ⟨h95, haf⟩])
            clear HN ha hp95 haf hp
            by_cases hend : k + 1 < y.size
            · have he : decide ((k : Int) + 1 < (y.size : Int)) = true := decide_eq_true (by omega)
              have HS1 : Hid (Side y.data.toList (k + 1) true) := Lib.hid (Side.step (by have := HD.out; omega) (by rw [at_data hlt, HC.out]; exact ⟨fun _ => h95, fun _ => rfl⟩) (fun _ => by have := HD.out; omega))
              clear h95
              go_wp2_with fail
              go_round
              case rel => exact ⟨k + 1, d, true, by omega, by go_num, rfl, HR0.out, HS1.out⟩
              case measure => simp [intOf]; omega
            · have he : decide ((k : Int) + 1 < (y.size : Int)) = false := decide_eq_false (by omega)
              have HR1 : Hid (rowed base y.data.toList = ([], false)) := Lib.hid (rowed_apart (d := d) (by rw [HD.out, show y.size = k + 1 by omega]; exact HR0.out))
              clear h95
              go_wp2_with (go_at_call 89; refine (refDigit_any _ _ hc0 hc1).mono ?_; rintro e w' ⟨rfl, rfl⟩; rw [HZ.out])
              go_ret2
              exact ⟨by rw [HR1.out]; rfl, rfl⟩
        · have hd0 : decide ((0 : Int) < (k : Int)) = false := decide_eq_false (by omega)
          have hat : a = true := HS.out.zero_true (by omega)
          have HR0 : Hid (rowed base y.data.toList = ([], false)) := Lib.hid (rowed_none (jTo_end (by have := HD.out; omega) (show jTo base y.data.toList (k + 1) = none by rw [HN.out, jStep, HI.out, if_neg (by simp), if_neg (by rw [hat]; simp)])))
          clear h95 HN hat
          have hk00 : k = 0 := by omega
          subst hk00
          go_wp2_with (go_at_call 89; refine (refDigit_any _ _ hc0 hc1).mono ?_; rintro e w' ⟨rfl, rfl⟩; rw [HZ.out])
          go_ret2
          exact ⟨by rw [HR0.out]; rfl, rfl⟩
      · have hcz : ((c.toNat : Int) == 95) = false := byte_ne (d := 95) h95
        by_cases hdig : z < base
        · have hdd' : decide (base ≤ z) = false := decide_eq_false (by omega)
          have HR0 : Hid (jTo base y.data.toList (k + 1) = some (d ++ [c], false)) := Lib.hid (by rw [HN.out, jStep, HI.out, if_pos (decide_eq_true hdig)])
          have HS1 : Hid (Side y.data.toList (k + 1) false) := Lib.hid (Side.step (by have := HD.out; omega) (by rw [at_data hlt, HC.out]; exact ⟨fun g => (by cases g), fun g => absurd g h95⟩) (fun g => (by cases g)))
          have hbc : (B [c]).size ≤ 1 := by rw [bsize]; simp
          clear h95 HN
          go_wp2_with (go_at_call 89; refine (refDigit_any _ _ hc0 hc1).mono ?_; rintro e w' ⟨rfl, rfl⟩; rw [HZ.out])
          go_round
          case rel => exact ⟨k + 1, d ++ [c], false, by omega, by go_num, by rw [b_append], HR0.out, HS1.out⟩
          case measure => simp [intOf]; omega
        · have hdd' : decide (base ≤ z) = true := decide_eq_true (by omega)
          have HR0 : Hid (rowed base y.data.toList = ([], false)) := Lib.hid (rowed_none (jTo_end (by have := HD.out; omega) (show jTo base y.data.toList (k + 1) = none by rw [HN.out, jStep, HI.out, if_neg (by simpa using hdig), if_neg (fun g => h95 g.1)])))
          clear h95 HN
          go_wp2_with (go_at_call 89; refine (refDigit_any _ _ hc0 hc1).mono ?_; rintro e w' ⟨rfl, rfl⟩; rw [HZ.out])
          go_ret2
          exact ⟨by rw [HR0.out]; rfl, rfl⟩
    · obtain rfl : k = y.size := by omega
      by_cases hk0 : y.size = 0
      · have hda : d = [] ∧ a = true := by have := HJ.out; rw [hk0] at this; obtain ⟨h1, h2⟩ := Prod.mk.inj (Option.some.inj this); exact ⟨h1.symm, h2.symm⟩
        obtain ⟨rfl, rfl⟩ := hda
        have HR0 : Hid (rowed base y.data.toList = ([], false)) := Lib.hid (rowed_apart (d := []) (by rw [HD.out]; exact HJ.out))
        have hem : (B []).toList = [] := by rw [blist]
        go_wp2_with fail
        go_ret2
        exact ⟨by rw [HR0.out]; rfl, rfl⟩
      · have haf : a = false := HS.out.at_end (by omega) (by rw [HD.out])
        subst haf
        have hdne := jTo_digit (by rw [HD.out]; exact HJ.out)
        have HR0 : Hid (rowed base y.data.toList = (d, true)) := Lib.hid (by rw [rowed, HD.out, HJ.out])
        have hem : (B d).toList ≠ [] := by rw [blist]; exact hdne
        have hem2 : (!(B d).toList.isEmpty) = true := by rw [blist]; simpa using hdne
        go_wp2_with fail
        go_ret2
        exact ⟨by rw [HR0.out]; rfl, rfl⟩
end Go.Proofs.YtjbamlmdeopcaaaGreatDoor.tok
end

section
/-
  The reference's Digits.
-/
namespace Go.Proofs.YtjbamlmdeopcaaaGreatDoor.tok
open Go.RowKit

theorem trim_on {a : UInt8} {t : List UInt8} (h : a = 95) : Lib.trimPrefix (a :: t) [95] = t := by
  subst h
  simp [Lib.trimPrefix, Lib.hasPrefix]
theorem trim_off {a : UInt8} {t : List UInt8} (h : a ≠ 95) : Lib.trimPrefix (a :: t) [95] = a :: t := by
  have : Lib.hasPrefix (a :: t) [95] = false := by
    show ((95 : UInt8) == a && List.isPrefixOf [] t) = false
    rw [show ((95 : UInt8) == a) = false by simpa using Ne.symm h]
    rfl
  rw [Lib.trimPrefix, if_neg (by rw [this]; simp)]
theorem head_at {x : List UInt8} {a : UInt8} {t : List UInt8} (e : x = a :: t) (h : 0 < (B x).size) : (B x)[0] = a := by
  have h' : 0 < (B x).data.toList.length := by rw [sdata]; exact h
  have e1 : (B x).data.toList[0]'h' = (B x)[0] := at_data h
  rw [← e1]
  simp [bdata, e]
/-- What the reference's row answers. -/
def rowOf (base : Int) (ahead : Bool) (x : List UInt8) : List UInt8 × Bool := rowed base (if ahead then Lib.trimPrefix x [95] else x)
theorem row_b (x : List UInt8) (base : Int) (a : Bool) (w : World) (hs : x.length ≤ 16777216) (hb : base ≤ 16) :
    Calls Tryz.prog 71 #[.string (B x), .int .i64 base, .bool a] w (RowPost (rowOf base a x).1 (rowOf base a x).2 w) := by
  cases a with
  | false =>
    have := row_plain (B x) base w (by rw [bsize]; exact hs) hb
    rwa [bdata] at this
  | true =>
    show Calls _ _ _ _ (RowPost (rowed base (Lib.trimPrefix x [95])).1 (rowed base (Lib.trimPrefix x [95])).2 w)
    cases x with
    | nil =>
      have := row_off (B []) base w (by rw [bsize]; simp) hb (fun h => by rw [bsize] at h; simp at h)
      rwa [bdata] at this
    | cons a t =>
      by_cases h : a = 95
      · have hy : (B (a :: t)).extract 1 (B (a :: t)).size = B t := by
          rw [b_extract, bdata, bsize, List.drop_one, List.tail_cons, List.take_of_length_le (by simp)]
        have := row_on (B (a :: t)) (B t) base w (by rw [bsize]; simp at hs; omega) hb (by rw [bsize]; simp) (by rw [head_at rfl, h]) hy
        rw [bdata] at this
        rw [trim_on h]
        exact this
      · have := row_off (B (a :: t)) base w (by rw [bsize]; exact hs) hb (fun g => by rw [head_at rfl]; exact h)
        rw [bdata] at this
        rw [trim_off h]
        exact this

/-- The document's answer, by the row's. -/
theorem num_row (l : List UInt8) : numOf l = if (rowOf (prefixOf l).1 (decide (0 < (prefixOf l).2)) (l.drop (prefixOf l).2)).2 then ((prefixOf l).1, (rowOf (prefixOf l).1 (decide (0 < (prefixOf l).2)) (l.drop (prefixOf l).2)).1, true) else (0, [], false) := by
  have e : (if decide (0 < (prefixOf l).2) = true then Lib.trimPrefix (l.drop (prefixOf l).2) [95] else l.drop (prefixOf l).2) = restOf l := by
    unfold restOf
    by_cases h : 0 < (prefixOf l).2
    · rw [if_pos (decide_eq_true h), if_pos h]
    · rw [if_neg (by simpa using h), if_neg h]
  unfold rowOf
  rw [e]
  unfold numOf rowed
  cases jTo ((prefixOf l).1 : Int) (restOf l) (restOf l).length with
  | none => rfl
  | some p =>
    obtain ⟨d, a⟩ := p
    cases a <;> rfl

set_option maxRecDepth 100000 in
set_option maxHeartbeats 1000000 in
theorem refDigits_short (s : ByteArray) (w : World) (hs : s.size ≤ 16777216) (h48 : s.toList ≠ [48]) (h : s.size < 2) (hpre : prefixOf s.data.toList = (10, 0)) :
    Calls Tryz.prog 51 #[.string s] w (Triple (numOf s.data.toList).1 (numOf s.data.toList).2.1 (numOf s.data.toList).2.2 w) := by
  have hnum := num_row s.data.toList
  rw [hpre] at hnum
  have hlen : 0 ≤ s.size := by have := (prefix_le s.data.toList).1; rw [hpre, sdata] at this; exact this
  obtain ⟨x, hx⟩ : ∃ x, s.data.toList.drop 0 = x := ⟨_, rfl⟩
  have hsl : ∀ u : World, (Instr.slice 9 (.string s) (some (.int .i64 0)) none none).run Tryz.prog u = .ok (.string (B x)) u := fun u => by rw [← hx]; exact slice_from s 0 hlen u
  have hxl : x.length ≤ 16777216 := by rw [← hx, List.length_drop, sdata]; omega
  obtain ⟨d, ok, hr⟩ : ∃ d ok, rowOf 10 false x = (d, ok) := ⟨_, _, rfl⟩
  have HR := Lib.hid hr
  have HE : Hid (numOf s.data.toList = if ok then (10, d, true) else (0, [], false)) := Lib.hid (by
    rw [hnum]
    show (if (rowOf 10 false (s.data.toList.drop 0)).2 then (10, (rowOf 10 false (s.data.toList.drop 0)).1, true) else (0, [], false)) = _
    rw [hx, hr])
  have h48' : (s.toList == [48]) = false := by simpa using h48
  have hd1 : decide ((1 : Int) < (s.size : Int)) = false := decide_eq_false (by omega)
  clear hnum hx hr hpre h48
  cases ok with
  | true =>
    have HF : Hid (numOf s.data.toList = (10, d, true)) := Lib.hid (by rw [HE.out, if_pos rfl])
    clear HE
    go_enter Tryz.func51, Tryz.ntmps51
    go_wp2_with (go_at_call 71; refine (row_b _ _ _ _ hxl (by decide)).mono ?_; rintro e w' ⟨rfl, rfl⟩; rw [HR.out])
    go_ret3
    exact ⟨by rw [HF.out]; rfl, Below.refl _ _⟩
  | false =>
    have HF : Hid (numOf s.data.toList = (0, [], false)) := Lib.hid (by rw [HE.out, if_neg (by simp)])
    clear HE
    go_enter Tryz.func51, Tryz.ntmps51
    go_wp2_with (go_at_call 71; refine (row_b _ _ _ _ hxl (by decide)).mono ?_; rintro e w' ⟨rfl, rfl⟩; rw [HR.out])
    go_ret3
    exact ⟨by rw [HF.out]; rfl, Below.refl _ _⟩
set_option maxRecDepth 100000 in
set_option maxHeartbeats 1000000 in
theorem refDigits_ten (s : ByteArray) (w : World) (hs : s.size ≤ 16777216) (h48 : s.toList ≠ [48]) (h : 1 < s.size) (ha : s[0] ≠ 48) (hpre : prefixOf s.data.toList = (10, 0)) :
    Calls Tryz.prog 51 #[.string s] w (Triple (numOf s.data.toList).1 (numOf s.data.toList).2.1 (numOf s.data.toList).2.2 w) := by
  have hnum := num_row s.data.toList
  rw [hpre] at hnum
  have hlen : 0 ≤ s.size := by have := (prefix_le s.data.toList).1; rw [hpre, sdata] at this; exact this
  obtain ⟨x, hx⟩ : ∃ x, s.data.toList.drop 0 = x := ⟨_, rfl⟩
  have hsl : ∀ u : World, (Instr.slice 9 (.string s) (some (.int .i64 0)) none none).run Tryz.prog u = .ok (.string (B x)) u := fun u => by rw [← hx]; exact slice_from s 0 hlen u
  have hxl : x.length ≤ 16777216 := by rw [← hx, List.length_drop, sdata]; omega
  obtain ⟨d, ok, hr⟩ : ∃ d ok, rowOf 10 false x = (d, ok) := ⟨_, _, rfl⟩
  have HR := Lib.hid hr
  have HE : Hid (numOf s.data.toList = if ok then (10, d, true) else (0, [], false)) := Lib.hid (by
    rw [hnum]
    show (if (rowOf 10 false (s.data.toList.drop 0)).2 then (10, (rowOf 10 false (s.data.toList.drop 0)).1, true) else (0, [], false)) = _
    rw [hx, hr])
  have h48' : (s.toList == [48]) = false := by simpa using h48
  have hd1 : decide ((1 : Int) < (s.size : Int)) = true := decide_eq_true (by omega)
  obtain ⟨a, ha'⟩ : ∃ a, s[0] = a := ⟨_, rfl⟩
  rw [ha'] at ha
  have haz : ((a.toNat : Int) == 48) = false := byte_ne (d := 48) ha
  clear ha
  clear hnum hx hr hpre h48
  cases ok with
  | true =>
    have HF : Hid (numOf s.data.toList = (10, d, true)) := Lib.hid (by rw [HE.out, if_pos rfl])
    clear HE
    go_enter Tryz.func51, Tryz.ntmps51
    go_wp2_with (go_at_call 71; refine (row_b _ _ _ _ hxl (by decide)).mono ?_; rintro e w' ⟨rfl, rfl⟩; rw [HR.out])
    go_ret3
    exact ⟨by rw [HF.out]; rfl, Below.refl _ _⟩
  | false =>
    have HF : Hid (numOf s.data.toList = (0, [], false)) := Lib.hid (by rw [HE.out, if_neg (by simp)])
    clear HE
    go_enter Tryz.func51, Tryz.ntmps51
    go_wp2_with (go_at_call 71; refine (row_b _ _ _ _ hxl (by decide)).mono ?_; rintro e w' ⟨rfl, rfl⟩; rw [HR.out])
    go_ret3
    exact ⟨by rw [HF.out]; rfl, Below.refl _ _⟩
set_option maxRecDepth 100000 in
set_option maxHeartbeats 1000000 in
theorem refDigits_98 (s : ByteArray) (w : World) (hs : s.size ≤ 16777216) (h48 : s.toList ≠ [48]) (h : 1 < s.size) (ha : s[0] = 48) (hc : s[1] = 98) (hpre : prefixOf s.data.toList = (2, 2)) :
    Calls Tryz.prog 51 #[.string s] w (Triple (numOf s.data.toList).1 (numOf s.data.toList).2.1 (numOf s.data.toList).2.2 w) := by
  have hnum := num_row s.data.toList
  rw [hpre] at hnum
  have hlen : 2 ≤ s.size := by have := (prefix_le s.data.toList).1; rw [hpre, sdata] at this; exact this
  obtain ⟨x, hx⟩ : ∃ x, s.data.toList.drop 2 = x := ⟨_, rfl⟩
  have hsl : ∀ u : World, (Instr.slice 9 (.string s) (some (.int .i64 2)) none none).run Tryz.prog u = .ok (.string (B x)) u := fun u => by rw [← hx]; exact slice_from s 2 hlen u
  have hxl : x.length ≤ 16777216 := by rw [← hx, List.length_drop, sdata]; omega
  obtain ⟨d, ok, hr⟩ : ∃ d ok, rowOf 2 true x = (d, ok) := ⟨_, _, rfl⟩
  have HR := Lib.hid hr
  have HE : Hid (numOf s.data.toList = if ok then (2, d, true) else (0, [], false)) := Lib.hid (by
    rw [hnum]
    show (if (rowOf 2 true (s.data.toList.drop 2)).2 then (2, (rowOf 2 true (s.data.toList.drop 2)).1, true) else (0, [], false)) = _
    rw [hx, hr])
  have h48' : (s.toList == [48]) = false := by simpa using h48
  have hd1 : decide ((1 : Int) < (s.size : Int)) = true := decide_eq_true (by omega)
  obtain ⟨a, ha'⟩ : ∃ a, s[0] = a := ⟨_, rfl⟩
  rw [ha'] at ha
  have haz : ((a.toNat : Int) == 48) = true := byte_eq (d := 48) ha
  clear ha
  obtain ⟨c, hc'⟩ : ∃ c, s[1] = c := ⟨_, rfl⟩
  rw [hc'] at hc
  have hc98 : ((c.toNat : Int) == 98) = true := byte_eq (d := 98) hc
  clear hc
  clear hnum hx hr hpre h48
  cases ok with
  | true =>
    have HF : Hid (numOf s.data.toList = (2, d, true)) := Lib.hid (by rw [HE.out, if_pos rfl])
    clear HE
    go_enter Tryz.func51, Tryz.ntmps51
    go_wp2_with (go_at_call 71; refine (row_b _ _ _ _ hxl (by decide)).mono ?_; rintro e w' ⟨rfl, rfl⟩; rw [HR.out])
    go_ret3
    exact ⟨by rw [HF.out]; rfl, Below.refl _ _⟩
  | false =>
    have HF : Hid (numOf s.data.toList = (0, [], false)) := Lib.hid (by rw [HE.out, if_neg (by simp)])
    clear HE
    go_enter Tryz.func51, Tryz.ntmps51
    go_wp2_with (go_at_call 71; refine (row_b _ _ _ _ hxl (by decide)).mono ?_; rintro e w' ⟨rfl, rfl⟩; rw [HR.out])
    go_ret3
    exact ⟨by rw [HF.out]; rfl, Below.refl _ _⟩
set_option maxRecDepth 100000 in
set_option maxHeartbeats 1000000 in
theorem refDigits_66 (s : ByteArray) (w : World) (hs : s.size ≤ 16777216) (h48 : s.toList ≠ [48]) (h : 1 < s.size) (ha : s[0] = 48) (hc : s[1] = 66) (hpre : prefixOf s.data.toList = (2, 2)) :
    Calls Tryz.prog 51 #[.string s] w (Triple (numOf s.data.toList).1 (numOf s.data.toList).2.1 (numOf s.data.toList).2.2 w) := by
  have hnum := num_row s.data.toList
  rw [hpre] at hnum
  have hlen : 2 ≤ s.size := by have := (prefix_le s.data.toList).1; rw [hpre, sdata] at this; exact this
  obtain ⟨x, hx⟩ : ∃ x, s.data.toList.drop 2 = x := ⟨_, rfl⟩
  have hsl : ∀ u : World, (Instr.slice 9 (.string s) (some (.int .i64 2)) none none).run Tryz.prog u = .ok (.string (B x)) u := fun u => by rw [← hx]; exact slice_from s 2 hlen u
  have hxl : x.length ≤ 16777216 := by rw [← hx, List.length_drop, sdata]; omega
  obtain ⟨d, ok, hr⟩ : ∃ d ok, rowOf 2 true x = (d, ok) := ⟨_, _, rfl⟩
  have HR := Lib.hid hr
  have HE : Hid (numOf s.data.toList = if ok then (2, d, true) else (0, [], false)) := Lib.hid (by
    rw [hnum]
    show (if (rowOf 2 true (s.data.toList.drop 2)).2 then (2, (rowOf 2 true (s.data.toList.drop 2)).1, true) else (0, [], false)) = _
    rw [hx, hr])
  have h48' : (s.toList == [48]) = false := by simpa using h48
  have hd1 : decide ((1 : Int) < (s.size : Int)) = true := decide_eq_true (by omega)
  obtain ⟨a, ha'⟩ : ∃ a, s[0] = a := ⟨_, rfl⟩
  rw [ha'] at ha
  have haz : ((a.toNat : Int) == 48) = true := byte_eq (d := 48) ha
  clear ha
  obtain ⟨c, hc'⟩ : ∃ c, s[1] = c := ⟨_, rfl⟩
  rw [hc'] at hc
  have hc98 : ((c.toNat : Int) == 98) = false := byte_ne (d := 98) (by rw [hc]; decide)
  have hc66 : ((c.toNat : Int) == 66) = true := byte_eq (d := 66) hc
  clear hc
  clear hnum hx hr hpre h48
  cases ok with
  | true =>
    have HF : Hid (numOf s.data.toList = (2, d, true)) := Lib.hid (by rw [HE.out, if_pos rfl])
    clear HE
    go_enter Tryz.func51, Tryz.ntmps51
    go_wp2_with (go_at_call 71; refine (row_b _ _ _ _ hxl (by decide)).mono ?_; rintro e w' ⟨rfl, rfl⟩; rw [HR.out])
    go_ret3
    exact ⟨by rw [HF.out]; rfl, Below.refl _ _⟩
  | false =>
    have HF : Hid (numOf s.data.toList = (0, [], false)) := Lib.hid (by rw [HE.out, if_neg (by simp)])
    clear HE
    go_enter Tryz.func51, Tryz.ntmps51
    go_wp2_with (go_at_call 71; refine (row_b _ _ _ _ hxl (by decide)).mono ?_; rintro e w' ⟨rfl, rfl⟩; rw [HR.out])
    go_ret3
    exact ⟨by rw [HF.out]; rfl, Below.refl _ _⟩
set_option maxRecDepth 100000 in
set_option maxHeartbeats 1000000 in
theorem refDigits_111 (s : ByteArray) (w : World) (hs : s.size ≤ 16777216) (h48 : s.toList ≠ [48]) (h : 1 < s.size) (ha : s[0] = 48) (hc : s[1] = 111) (hpre : prefixOf s.data.toList = (8, 2)) :
    Calls Tryz.prog 51 #[.string s] w (Triple (numOf s.data.toList).1 (numOf s.data.toList).2.1 (numOf s.data.toList).2.2 w) := by
  have hnum := num_row s.data.toList
  rw [hpre] at hnum
  have hlen : 2 ≤ s.size := by have := (prefix_le s.data.toList).1; rw [hpre, sdata] at this; exact this
  obtain ⟨x, hx⟩ : ∃ x, s.data.toList.drop 2 = x := ⟨_, rfl⟩
  have hsl : ∀ u : World, (Instr.slice 9 (.string s) (some (.int .i64 2)) none none).run Tryz.prog u = .ok (.string (B x)) u := fun u => by rw [← hx]; exact slice_from s 2 hlen u
  have hxl : x.length ≤ 16777216 := by rw [← hx, List.length_drop, sdata]; omega
  obtain ⟨d, ok, hr⟩ : ∃ d ok, rowOf 8 true x = (d, ok) := ⟨_, _, rfl⟩
  have HR := Lib.hid hr
  have HE : Hid (numOf s.data.toList = if ok then (8, d, true) else (0, [], false)) := Lib.hid (by
    rw [hnum]
    show (if (rowOf 8 true (s.data.toList.drop 2)).2 then (8, (rowOf 8 true (s.data.toList.drop 2)).1, true) else (0, [], false)) = _
    rw [hx, hr])
  have h48' : (s.toList == [48]) = false := by simpa using h48
  have hd1 : decide ((1 : Int) < (s.size : Int)) = true := decide_eq_true (by omega)
  obtain ⟨a, ha'⟩ : ∃ a, s[0] = a := ⟨_, rfl⟩
  rw [ha'] at ha
  have haz : ((a.toNat : Int) == 48) = true := byte_eq (d := 48) ha
  clear ha
  obtain ⟨c, hc'⟩ : ∃ c, s[1] = c := ⟨_, rfl⟩
  rw [hc'] at hc
  have hc98 : ((c.toNat : Int) == 98) = false := byte_ne (d := 98) (by rw [hc]; decide)
  have hc66 : ((c.toNat : Int) == 66) = false := byte_ne (d := 66) (by rw [hc]; decide)
  have hc111 : ((c.toNat : Int) == 111) = true := byte_eq (d := 111) hc
  clear hc
  clear hnum hx hr hpre h48
  cases ok with
  | true =>
    have HF : Hid (numOf s.data.toList = (8, d, true)) := Lib.hid (by rw [HE.out, if_pos rfl])
    clear HE
    go_enter Tryz.func51, Tryz.ntmps51
    go_wp2_with (go_at_call 71; refine (row_b _ _ _ _ hxl (by decide)).mono ?_; rintro e w' ⟨rfl, rfl⟩; rw [HR.out])
    go_ret3
    exact ⟨by rw [HF.out]; rfl, Below.refl _ _⟩
  | false =>
    have HF : Hid (numOf s.data.toList = (0, [], false)) := Lib.hid (by rw [HE.out, if_neg (by simp)])
    clear HE
    go_enter Tryz.func51, Tryz.ntmps51
    go_wp2_with (go_at_call 71; refine (row_b _ _ _ _ hxl (by decide)).mono ?_; rintro e w' ⟨rfl, rfl⟩; rw [HR.out])
    go_ret3
    exact ⟨by rw [HF.out]; rfl, Below.refl _ _⟩
set_option maxRecDepth 100000 in
set_option maxHeartbeats 1000000 in
theorem refDigits_79 (s : ByteArray) (w : World) (hs : s.size ≤ 16777216) (h48 : s.toList ≠ [48]) (h : 1 < s.size) (ha : s[0] = 48) (hc : s[1] = 79) (hpre : prefixOf s.data.toList = (8, 2)) :
    Calls Tryz.prog 51 #[.string s] w (Triple (numOf s.data.toList).1 (numOf s.data.toList).2.1 (numOf s.data.toList).2.2 w) := by
  have hnum := num_row s.data.toList
  rw [hpre] at hnum
  have hlen : 2 ≤ s.size := by have := (prefix_le s.data.toList).1; rw [hpre, sdata] at this; exact this
  obtain ⟨x, hx⟩ : ∃ x, s.data.toList.drop 2 = x := ⟨_, rfl⟩
  have hsl : ∀ u : World, (Instr.slice 9 (.string s) (some (.int .i64 2)) none none).run Tryz.prog u = .ok (.string (B x)) u := fun u => by rw [← hx]; exact slice_from s 2 hlen u
  have hxl : x.length ≤ 16777216 := by rw [← hx, List.length_drop, sdata]; omega
  obtain ⟨d, ok, hr⟩ : ∃ d ok, rowOf 8 true x = (d, ok) := ⟨_, _, rfl⟩
  have HR := Lib.hid hr
  have HE : Hid (numOf s.data.toList = if ok then (8, d, true) else (0, [], false)) := Lib.hid (by
    rw [hnum]
    show (if (rowOf 8 true (s.data.toList.drop 2)).2 then (8, (rowOf 8 true (s.data.toList.drop 2)).1, true) else (0, [], false)) = _
    rw [hx, hr])
  have h48' : (s.toList == [48]) = false := by simpa using h48
  have hd1 : decide ((1 : Int) < (s.size : Int)) = true := decide_eq_true (by omega)
  obtain ⟨a, ha'⟩ : ∃ a, s[0] = a := ⟨_, rfl⟩
  rw [ha'] at ha
  have haz : ((a.toNat : Int) == 48) = true := byte_eq (d := 48) ha
  clear ha
  obtain ⟨c, hc'⟩ : ∃ c, s[1] = c := ⟨_, rfl⟩
  rw [hc'] at hc
  have hc98 : ((c.toNat : Int) == 98) = false := byte_ne (d := 98) (by rw [hc]; decide)
  have hc66 : ((c.toNat : Int) == 66) = false := byte_ne (d := 66) (by rw [hc]; decide)
  have hc111 : ((c.toNat : Int) == 111) = false := byte_ne (d := 111) (by rw [hc]; decide)
  have hc79 : ((c.toNat : Int) == 79) = true := byte_eq (d := 79) hc
  clear hc
  clear hnum hx hr hpre h48
  cases ok with
  | true =>
    have HF : Hid (numOf s.data.toList = (8, d, true)) := Lib.hid (by rw [HE.out, if_pos rfl])
    clear HE
    go_enter Tryz.func51, Tryz.ntmps51
    go_wp2_with (go_at_call 71; refine (row_b _ _ _ _ hxl (by decide)).mono ?_; rintro e w' ⟨rfl, rfl⟩; rw [HR.out])
    go_ret3
    exact ⟨by rw [HF.out]; rfl, Below.refl _ _⟩
  | false =>
    have HF : Hid (numOf s.data.toList = (0, [], false)) := Lib.hid (by rw [HE.out, if_neg (by simp)])
    clear HE
    go_enter Tryz.func51, Tryz.ntmps51
    go_wp2_with (go_at_call 71; refine (row_b _ _ _ _ hxl (by decide)).mono ?_; rintro e w' ⟨rfl, rfl⟩; rw [HR.out])
    go_ret3
    exact ⟨by rw [HF.out]; rfl, Below.refl _ _⟩
set_option maxRecDepth 100000 in
set_option maxHeartbeats 1000000 in
theorem refDigits_120 (s : ByteArray) (w : World) (hs : s.size ≤ 16777216) (h48 : s.toList ≠ [48]) (h : 1 < s.size) (ha : s[0] = 48) (hc : s[1] = 120) (hpre : prefixOf s.data.toList = (16, 2)) :
    Calls Tryz.prog 51 #[.string s] w (Triple (numOf s.data.toList).1 (numOf s.data.toList).2.1 (numOf s.data.toList).2.2 w) := by
  have hnum := num_row s.data.toList
  rw [hpre] at hnum
  have hlen : 2 ≤ s.size := by have := (prefix_le s.data.toList).1; rw [hpre, sdata] at this; exact this
  obtain ⟨x, hx⟩ : ∃ x, s.data.toList.drop 2 = x := ⟨_, rfl⟩
  have hsl : ∀ u : World, (Instr.slice 9 (.string s) (some (.int .i64 2)) none none).run Tryz.prog u = .ok (.string (B x)) u := fun u => by rw [← hx]; exact slice_from s 2 hlen u
  have hxl : x.length ≤ 16777216 := by rw [← hx, List.length_drop, sdata]; omega
  obtain ⟨d, ok, hr⟩ : ∃ d ok, rowOf 16 true x = (d, ok) := ⟨_, _, rfl⟩
  have HR := Lib.hid hr
  have HE : Hid (numOf s.data.toList = if ok then (16, d, true) else (0, [], false)) := Lib.hid (by
    rw [hnum]
    show (if (rowOf 16 true (s.data.toList.drop 2)).2 then (16, (rowOf 16 true (s.data.toList.drop 2)).1, true) else (0, [], false)) = _
    rw [hx, hr])
  have h48' : (s.toList == [48]) = false := by simpa using h48
  have hd1 : decide ((1 : Int) < (s.size : Int)) = true := decide_eq_true (by omega)
  obtain ⟨a, ha'⟩ : ∃ a, s[0] = a := ⟨_, rfl⟩
  rw [ha'] at ha
  have haz : ((a.toNat : Int) == 48) = true := byte_eq (d := 48) ha
  clear ha
  obtain ⟨c, hc'⟩ : ∃ c, s[1] = c := ⟨_, rfl⟩
  rw [hc'] at hc
  have hc98 : ((c.toNat : Int) == 98) = false := byte_ne (d := 98) (by rw [hc]; decide)
  have hc66 : ((c.toNat : Int) == 66) = false := byte_ne (d := 66) (by rw [hc]; decide)
  have hc111 : ((c.toNat : Int) == 111) = false := byte_ne (d := 111) (by rw [hc]; decide)
  have hc79 : ((c.toNat : Int) == 79) = false := byte_ne (d := 79) (by rw [hc]; decide)
  have hc120 : ((c.toNat : Int) == 120) = true := byte_eq (d := 120) hc
  clear hc
  clear hnum hx hr hpre h48
  cases ok with
  | true =>
    have HF : Hid (numOf s.data.toList = (16, d, true)) := Lib.hid (by rw [HE.out, if_pos rfl])
    clear HE
    go_enter Tryz.func51, Tryz.ntmps51
    go_wp2_with (go_at_call 71; refine (row_b _ _ _ _ hxl (by decide)).mono ?_; rintro e w' ⟨rfl, rfl⟩; rw [HR.out])
    go_ret3
    exact ⟨by rw [HF.out]; rfl, Below.refl _ _⟩
  | false =>
    have HF : Hid (numOf s.data.toList = (0, [], false)) := Lib.hid (by rw [HE.out, if_neg (by simp)])
    clear HE
    go_enter Tryz.func51, Tryz.ntmps51
    go_wp2_with (go_at_call 71; refine (row_b _ _ _ _ hxl (by decide)).mono ?_; rintro e w' ⟨rfl, rfl⟩; rw [HR.out])
    go_ret3
    exact ⟨by rw [HF.out]; rfl, Below.refl _ _⟩
set_option maxRecDepth 100000 in
set_option maxHeartbeats 1000000 in
theorem refDigits_88 (s : ByteArray) (w : World) (hs : s.size ≤ 16777216) (h48 : s.toList ≠ [48]) (h : 1 < s.size) (ha : s[0] = 48) (hc : s[1] = 88) (hpre : prefixOf s.data.toList = (16, 2)) :
    Calls Tryz.prog 51 #[.string s] w (Triple (numOf s.data.toList).1 (numOf s.data.toList).2.1 (numOf s.data.toList).2.2 w) := by
  have hnum := num_row s.data.toList
  rw [hpre] at hnum
  have hlen : 2 ≤ s.size := by have := (prefix_le s.data.toList).1; rw [hpre, sdata] at this; exact this
  obtain ⟨x, hx⟩ : ∃ x, s.data.toList.drop 2 = x := ⟨_, rfl⟩
  have hsl : ∀ u : World, (Instr.slice 9 (.string s) (some (.int .i64 2)) none none).run Tryz.prog u = .ok (.string (B x)) u := fun u => by rw [← hx]; exact slice_from s 2 hlen u
  have hxl : x.length ≤ 16777216 := by rw [← hx, List.length_drop, sdata]; omega
  obtain ⟨d, ok, hr⟩ : ∃ d ok, rowOf 16 true x = (d, ok) := ⟨_, _, rfl⟩
  have HR := Lib.hid hr
  have HE : Hid (numOf s.data.toList = if ok then (16, d, true) else (0, [], false)) := Lib.hid (by
    rw [hnum]
    show (if (rowOf 16 true (s.data.toList.drop 2)).2 then (16, (rowOf 16 true (s.data.toList.drop 2)).1, true) else (0, [], false)) = _
    rw [hx, hr])
  have h48' : (s.toList == [48]) = false := by simpa using h48
  have hd1 : decide ((1 : Int) < (s.size : Int)) = true := decide_eq_true (by omega)
  obtain ⟨a, ha'⟩ : ∃ a, s[0] = a := ⟨_, rfl⟩
  rw [ha'] at ha
  have haz : ((a.toNat : Int) == 48) = true := byte_eq (d := 48) ha
  clear ha
  obtain ⟨c, hc'⟩ : ∃ c, s[1] = c := ⟨_, rfl⟩
  rw [hc'] at hc
  have hc98 : ((c.toNat : Int) == 98) = false := byte_ne (d := 98) (by rw [hc]; decide)
  have hc66 : ((c.toNat : Int) == 66) = false := byte_ne (d := 66) (by rw [hc]; decide)
  have hc111 : ((c.toNat : Int) == 111) = false := byte_ne (d := 111) (by rw [hc]; decide)
  have hc79 : ((c.toNat : Int) == 79) = false := byte_ne (d := 79) (by rw [hc]; decide)
  have hc120 : ((c.toNat : Int) == 120) = false := byte_ne (d := 120) (by rw [hc]; decide)
  have hc88 : ((c.toNat : Int) == 88) = true := byte_eq (d := 88) hc
  clear hc
  clear hnum hx hr hpre h48
  cases ok with
  | true =>
    have HF : Hid (numOf s.data.toList = (16, d, true)) := Lib.hid (by rw [HE.out, if_pos rfl])
    clear HE
    go_enter Tryz.func51, Tryz.ntmps51
    go_wp2_with (go_at_call 71; refine (row_b _ _ _ _ hxl (by decide)).mono ?_; rintro e w' ⟨rfl, rfl⟩; rw [HR.out])
    go_ret3
    exact ⟨by rw [HF.out]; rfl, Below.refl _ _⟩
  | false =>
    have HF : Hid (numOf s.data.toList = (0, [], false)) := Lib.hid (by rw [HE.out, if_neg (by simp)])
    clear HE
    go_enter Tryz.func51, Tryz.ntmps51
    go_wp2_with (go_at_call 71; refine (row_b _ _ _ _ hxl (by decide)).mono ?_; rintro e w' ⟨rfl, rfl⟩; rw [HR.out])
    go_ret3
    exact ⟨by rw [HF.out]; rfl, Below.refl _ _⟩
set_option maxRecDepth 100000 in
set_option maxHeartbeats 1000000 in
theorem refDigits_eight (s : ByteArray) (w : World) (hs : s.size ≤ 16777216) (h48 : s.toList ≠ [48]) (h : 1 < s.size) (ha : s[0] = 48) (n98 : s[1] ≠ 98) (n66 : s[1] ≠ 66) (n111 : s[1] ≠ 111) (n79 : s[1] ≠ 79) (n120 : s[1] ≠ 120) (n88 : s[1] ≠ 88) (hpre : prefixOf s.data.toList = (8, 1)) :
    Calls Tryz.prog 51 #[.string s] w (Triple (numOf s.data.toList).1 (numOf s.data.toList).2.1 (numOf s.data.toList).2.2 w) := by
  have hnum := num_row s.data.toList
  rw [hpre] at hnum
  have hlen : 1 ≤ s.size := by have := (prefix_le s.data.toList).1; rw [hpre, sdata] at this; exact this
  obtain ⟨x, hx⟩ : ∃ x, s.data.toList.drop 1 = x := ⟨_, rfl⟩
  have hsl : ∀ u : World, (Instr.slice 9 (.string s) (some (.int .i64 1)) none none).run Tryz.prog u = .ok (.string (B x)) u := fun u => by rw [← hx]; exact slice_from s 1 hlen u
  have hxl : x.length ≤ 16777216 := by rw [← hx, List.length_drop, sdata]; omega
  obtain ⟨d, ok, hr⟩ : ∃ d ok, rowOf 8 true x = (d, ok) := ⟨_, _, rfl⟩
  have HR := Lib.hid hr
  have HE : Hid (numOf s.data.toList = if ok then (8, d, true) else (0, [], false)) := Lib.hid (by
    rw [hnum]
    show (if (rowOf 8 true (s.data.toList.drop 1)).2 then (8, (rowOf 8 true (s.data.toList.drop 1)).1, true) else (0, [], false)) = _
    rw [hx, hr])
  have h48' : (s.toList == [48]) = false := by simpa using h48
  have hd1 : decide ((1 : Int) < (s.size : Int)) = true := decide_eq_true (by omega)
  obtain ⟨a, ha'⟩ : ∃ a, s[0] = a := ⟨_, rfl⟩
  rw [ha'] at ha
  have haz : ((a.toNat : Int) == 48) = true := byte_eq (d := 48) ha
  clear ha
  obtain ⟨c, hc'⟩ : ∃ c, s[1] = c := ⟨_, rfl⟩
  rw [hc'] at n98 n66 n111 n79 n120 n88
  have hc98 : ((c.toNat : Int) == 98) = false := byte_ne (d := 98) n98
  have hc66 : ((c.toNat : Int) == 66) = false := byte_ne (d := 66) n66
  have hc111 : ((c.toNat : Int) == 111) = false := byte_ne (d := 111) n111
  have hc79 : ((c.toNat : Int) == 79) = false := byte_ne (d := 79) n79
  have hc120 : ((c.toNat : Int) == 120) = false := byte_ne (d := 120) n120
  have hc88 : ((c.toNat : Int) == 88) = false := byte_ne (d := 88) n88
  clear n98 n66 n111 n79 n120 n88
  clear hnum hx hr hpre h48
  cases ok with
  | true =>
    have HF : Hid (numOf s.data.toList = (8, d, true)) := Lib.hid (by rw [HE.out, if_pos rfl])
    clear HE
    go_enter Tryz.func51, Tryz.ntmps51
    go_wp2_with (go_at_call 71; refine (row_b _ _ _ _ hxl (by decide)).mono ?_; rintro e w' ⟨rfl, rfl⟩; rw [HR.out])
    go_ret3
    exact ⟨by rw [HF.out]; rfl, Below.refl _ _⟩
  | false =>
    have HF : Hid (numOf s.data.toList = (0, [], false)) := Lib.hid (by rw [HE.out, if_neg (by simp)])
    clear HE
    go_enter Tryz.func51, Tryz.ntmps51
    go_wp2_with (go_at_call 71; refine (row_b _ _ _ _ hxl (by decide)).mono ?_; rintro e w' ⟨rfl, rfl⟩; rw [HR.out])
    go_ret3
    exact ⟨by rw [HF.out]; rfl, Below.refl _ _⟩
set_option maxRecDepth 100000 in
set_option maxHeartbeats 1000000 in
theorem refDigits_zero (s : ByteArray) (w : World) (h48 : s.toList = [48]) :
    Calls Tryz.prog 51 #[.string s] w (Triple (numOf s.data.toList).1 (numOf s.data.toList).2.1 (numOf s.data.toList).2.2 w) := by
  have e : numOf s.data.toList = (10, [48], true) := by rw [← Lib.toList_data, h48]; decide
  have HE := Lib.hid e
  have h48' : (s.toList == [48]) = true := by simpa using h48
  clear e h48
  go_enter Tryz.func51, Tryz.ntmps51
  go_wp2_with fail
  go_ret3
  exact ⟨by rw [HE.out]; rfl, Below.refl _ _⟩
theorem refDigits_any (s : ByteArray) (w : World) (hs : s.size ≤ 16777216) :
    Calls Tryz.prog 51 #[.string s] w (Triple (numOf s.data.toList).1 (numOf s.data.toList).2.1 (numOf s.data.toList).2.2 w) := by
  by_cases h48 : s.toList = [48]
  · exact refDigits_zero s w h48
  by_cases h : s.size < 2
  · exact refDigits_short s w hs h48 h (prefix_short (by rw [sdata]; exact h))
  have h0 : 0 < s.size := by omega
  have h1 : 1 < s.size := by omega
  have e := prefix_long (l := s.data.toList) (by rw [sdata]; exact h1)
  rw [at_data h0, at_data h1] at e
  by_cases ha : s[0] = 48
  · rw [if_pos ha] at e
    by_cases c98 : s[1] = 98
    · rw [if_pos (.inl c98)] at e; exact refDigits_98 s w hs h48 h1 ha c98 e
    by_cases c66 : s[1] = 66
    · rw [if_pos (.inr c66)] at e; exact refDigits_66 s w hs h48 h1 ha c66 e
    rw [if_neg (fun g => g.elim c98 c66)] at e
    by_cases c111 : s[1] = 111
    · rw [if_pos (.inl c111)] at e; exact refDigits_111 s w hs h48 h1 ha c111 e
    by_cases c79 : s[1] = 79
    · rw [if_pos (.inr c79)] at e; exact refDigits_79 s w hs h48 h1 ha c79 e
    rw [if_neg (fun g => g.elim c111 c79)] at e
    by_cases c120 : s[1] = 120
    · rw [if_pos (.inl c120)] at e; exact refDigits_120 s w hs h48 h1 ha c120 e
    by_cases c88 : s[1] = 88
    · rw [if_pos (.inr c88)] at e; exact refDigits_88 s w hs h48 h1 ha c88 e
    rw [if_neg (fun g => g.elim c120 c88)] at e
    exact refDigits_eight s w hs h48 h1 ha c98 c66 c111 c79 c120 c88 e
  · rw [if_neg ha] at e
    exact refDigits_ten s w hs h48 h1 ha e
end Go.Proofs.YtjbamlmdeopcaaaGreatDoor.tok
end

section
/-
  The reference's Next: what its cases lean on.
-/
namespace Go.Proofs.YtjbamlmdeopcaaaGreatDoor.lx
open Go.RowKit Go.Proofs.YtjbamlmdeopcaaaGreatDoor.tok

theorem closed_is (kind code : Int) (n : Nat) (clo l : List UInt8) (i : Nat) (h0 : 0 < clo.length) :
    closedL kind code n clo (l.drop i) = if findL l (i + n) clo = l.length then wrong kind (l.length - i) code else right kind (findL l (i + n) clo + clo.length - i) := by
  unfold closedL findL
  rw [List.drop_drop, List.length_drop]
  by_cases h : Lib.index (l.drop (i + n)) clo < 0
  · rw [if_pos h, if_pos h, if_pos rfl]
  · have hr := Lib.index_room (l.drop (i + n)) clo (by omega)
    rw [List.length_drop] at hr
    rw [if_neg h, if_neg h, if_neg (by omega)]
    congr 1
    omega
theorem find_room (l q : List UInt8) (i : Nat) (hi : i ≤ l.length) (h : findL l i q ≠ l.length) : findL l i q + q.length ≤ l.length := by
  unfold findL at h ⊢
  by_cases g : Lib.index (l.drop i) q < 0
  · rw [if_pos g] at h; exact absurd rfl h
  · rw [if_neg g]
    have hr := Lib.index_room (l.drop i) q (by omega)
    rw [List.length_drop] at hr
    omega
theorem refFind_is (s q : ByteArray) (i t : Nat) (z : Int) (w : World) (hs : s.size ≤ 4194304) (hq : q.size ≤ 4) (hi : i ≤ s.size) (hz : z = (i : Int)) (ht : findL s.data.toList i q.data.toList = t) :
    Calls Tryz.prog 25 #[.string s, .int .i64 z, .string q] w fun e w' => e = .returned (.int .i64 (t : Int)) ∧ w = w' := by
  subst hz ht
  exact refFind_any s q i w hs hq hi
theorem refFind_then (s q : ByteArray) (i t : Nat) (z : Int) (w : World) (hs : s.size ≤ 4194304) (hq : q.size ≤ 4) (hi : i ≤ s.size) (hz : z = (i : Int)) (ht : findL s.data.toList i q.data.toList = t) :
    Calls Tryz.prog 25 #[.string s, .int .i64 z, .string q] w fun e w' => e = .returned (.int .i64 (t : Int)) ∧ Below w.heap.size w w' := by
  refine (refFind_is s q i t z w hs hq hi hz ht).mono ?_
  rintro e w' ⟨rfl, rfl⟩
  exact ⟨rfl, Below.refl _ _⟩
end Go.Proofs.YtjbamlmdeopcaaaGreatDoor.lx
end

section
/-
  The reference's Next, case by case (class 4).
-/
namespace Go.Proofs.YtjbamlmdeopcaaaGreatDoor.lx
open Go.RowKit Go.Proofs.YtjbamlmdeopcaaaGreatDoor.tok

set_option maxRecDepth 100000 in
set_option maxHeartbeats 4000000 in
theorem refNext_4 {s : ByteArray} {i : Nat} {c : UInt8} {w : World} (hlt : i < s.size) (hc : s[i] = c) (hs : s.size ≤ 4194304) (m : Nx) (hm : m = right 3 (runL noFeed (s.data.toList.drop i))) (h1 : i ≠ 0 ∨ Lib.hasPrefix s.data.toList mark = false) (h2 : isBl c = false) (h3 : c ≠ 10) (h4 : c = 47) (h5 : i + 1 < s.size) (h6 : s[i + 1] = 47) :
    Calls Tryz.prog 24 #[.string s, .int .i64 (i : Int)] w (Told m i w) := by
  have HW := Lib.hid hm
  have HSD := Lib.hid (sdata s)
  have hix : ∀ u : World, (Instr.index 9 (.string s) (.int .i64 (i : Int))).run Tryz.prog u = .ok (.int .u8 (c.toNat : Int)) u := fun u => by rw [← hc]; exact index_at s _ i rfl hlt u
  have H2 := Lib.hid (fun u => refBlank_then c u)
  rw [h2] at H2
  have b10 : ((c.toNat : Int) == 10) = false := byte_ne (d := 10) h3
  have b47 : ((c.toNat : Int) == 47) = true := byte_eq (d := 47) h4
  have dl1 : decide ((i : Int) + 1 < (s.size : Int)) = true := decide_eq_true (by omega)
  obtain ⟨d, hd⟩ : ∃ d, s[i + 1]'h5 = d := ⟨_, rfl⟩
  have hix1 : ∀ u : World, (Instr.index 9 (.string s) (.int .i64 ((i : Int) + 1))).run Tryz.prog u = .ok (.int .u8 (d.toNat : Int)) u := fun u => by rw [← hd]; exact index_at s _ (i + 1) (by omega) h5 u
  rw [hd] at h6
  have bd : ((d.toNat : Int) == 47) = true := byte_eq (d := 47) h6
  obtain ⟨t, ht⟩ : ∃ t, findL s.data.toList i [10] = t := ⟨_, rfl⟩
  have HFI := Lib.hid (fun u => refFind_is s ⟨#[10]⟩ i t (i : Int) u hs (by decide) (by omega) rfl ht)
  have HE : Hid (i + runL noFeed (s.data.toList.drop i) = t) := Lib.hid (by rw [← ht, find_feed _ _ (by rw [HSD.out]; omega)])
  have htl : t ≤ s.size := by have := (find_le s.data.toList [10] i (by rw [HSD.out]; omega)).2; rw [ht, HSD.out] at this; exact this
  clear h2 h3 hm hc h4 h6 hd ht
  rcases nm_cases h1 with h1 | ⟨h1, h3⟩ | ⟨h1, h3, h4⟩
  · have b1 : ((i : Int) == 0) = false := beq_eq_false_iff_ne.2 (by omega)
    clear h1
    go_enter Tryz.func24, Tryz.ntmps24
    go_wp2_with (first | (go_at_call 47; refine (H2.out _).mono ?_; rintro e W ⟨rfl, hbW⟩; have HF := Lib.hid ((four_new w (.int .i64 0) (.int .i64 (i : Int)) (.int .i64 ((i : Int) + 1)) (.int .i64 0) (.int .i64 (i : Int)) (.int .i64 0)).then hbW); obtain ⟨⟨⟨u0, u1, u2, u3, u4, u5, k0, k1, k2, k3, k4, k5⟩, f0, f1, f2, f3, f4, f5⟩, x0, x1, x2, y0, y1, y2, ⟨⟨g0, g1, g2⟩, g3, g4, g5⟩, _⟩ := HF.out; clear hbW) | (go_at_call 25; refine (HFI.out _).mono ?_; rintro e w' ⟨rfl, rfl⟩))
    go_region
    go_wp2_with fail
    exact bodyPost_ret (results_drew Tryz.results24 _ (by repeat (first | exact HF.out.six | refine six_past ?_ (by omega) _)) (.int .i64 3) (.int .i64 (i : Int)) (.int .i64 (t : Int)) (.int .i64 0) (.int .i64 (i : Int)) (.int .i64 (t : Int)) rfl rfl) rfl (Told.mk' (x := (i : Int)) (y := (t : Int)) (by rw [HW.out, show ((i : Int) + ((right 3 (runL noFeed (s.data.toList.drop i))).width : Int)) = (t : Int) by have := HE.out; simp only [right]; omega]; rfl) (by rw [HW.out]; exact fun h => absurd rfl h) (below_put6 (by repeat (first | exact HF.out.below | refine below_at ?_ (by omega) _)) (Nat.le_refl _) _ _ _ _ _ _).drew)
  · have b1 : ((i : Int) == 0) = true := beq_iff_eq.2 (by omega)
    have d3 : decide (3 ≤ (s.size : Int)) = false := decide_eq_false (by omega)
    clear h1 h3
    go_enter Tryz.func24, Tryz.ntmps24
    go_wp2_with (first | (go_at_call 47; refine (H2.out _).mono ?_; rintro e W ⟨rfl, hbW⟩; have HF := Lib.hid ((four_new w (.int .i64 0) (.int .i64 (i : Int)) (.int .i64 ((i : Int) + 1)) (.int .i64 0) (.int .i64 (i : Int)) (.int .i64 0)).then hbW); obtain ⟨⟨⟨u0, u1, u2, u3, u4, u5, k0, k1, k2, k3, k4, k5⟩, f0, f1, f2, f3, f4, f5⟩, x0, x1, x2, y0, y1, y2, ⟨⟨g0, g1, g2⟩, g3, g4, g5⟩, _⟩ := HF.out; clear hbW) | (go_at_call 25; refine (HFI.out _).mono ?_; rintro e w' ⟨rfl, rfl⟩))
    go_region
    go_wp2_with fail
    exact bodyPost_ret (results_drew Tryz.results24 _ (by repeat (first | exact HF.out.six | refine six_past ?_ (by omega) _)) (.int .i64 3) (.int .i64 (i : Int)) (.int .i64 (t : Int)) (.int .i64 0) (.int .i64 (i : Int)) (.int .i64 (t : Int)) rfl rfl) rfl (Told.mk' (x := (i : Int)) (y := (t : Int)) (by rw [HW.out, show ((i : Int) + ((right 3 (runL noFeed (s.data.toList.drop i))).width : Int)) = (t : Int) by have := HE.out; simp only [right]; omega]; rfl) (by rw [HW.out]; exact fun h => absurd rfl h) (below_put6 (by repeat (first | exact HF.out.below | refine below_at ?_ (by omega) _)) (Nat.le_refl _) _ _ _ _ _ _).drew)
  · have b1 : ((i : Int) == 0) = true := beq_iff_eq.2 (by omega)
    have d3 : decide (3 ≤ (s.size : Int)) = true := decide_eq_true (by omega)
    have hsl3 := slice_to s 3 3 rfl h3
    obtain ⟨x3, hx3⟩ : ∃ x, B (s.data.toList.take 3) = x := ⟨_, rfl⟩
    rw [hx3] at h4 hsl3
    clear h1 h3 hx3
    go_enter Tryz.func24, Tryz.ntmps24
    go_wp2_with (first | (go_at_call 47; refine (H2.out _).mono ?_; rintro e W ⟨rfl, hbW⟩; have HF := Lib.hid ((four_new w (.int .i64 0) (.int .i64 (i : Int)) (.int .i64 ((i : Int) + 1)) (.int .i64 0) (.int .i64 (i : Int)) (.int .i64 0)).then hbW); obtain ⟨⟨⟨u0, u1, u2, u3, u4, u5, k0, k1, k2, k3, k4, k5⟩, f0, f1, f2, f3, f4, f5⟩, x0, x1, x2, y0, y1, y2, ⟨⟨g0, g1, g2⟩, g3, g4, g5⟩, _⟩ := HF.out; clear hbW) | (go_at_call 25; refine (HFI.out _).mono ?_; rintro e w' ⟨rfl, rfl⟩))
    go_region
    go_wp2_with fail
    exact bodyPost_ret (results_drew Tryz.results24 _ (by repeat (first | exact HF.out.six | refine six_past ?_ (by omega) _)) (.int .i64 3) (.int .i64 (i : Int)) (.int .i64 (t : Int)) (.int .i64 0) (.int .i64 (i : Int)) (.int .i64 (t : Int)) rfl rfl) rfl (Told.mk' (x := (i : Int)) (y := (t : Int)) (by rw [HW.out, show ((i : Int) + ((right 3 (runL noFeed (s.data.toList.drop i))).width : Int)) = (t : Int) by have := HE.out; simp only [right]; omega]; rfl) (by rw [HW.out]; exact fun h => absurd rfl h) (below_put6 (by repeat (first | exact HF.out.below | refine below_at ?_ (by omega) _)) (Nat.le_refl _) _ _ _ _ _ _).drew)
end Go.Proofs.YtjbamlmdeopcaaaGreatDoor.lx
end

section
/-
  The reference's Next, case by case (class 5).
-/
namespace Go.Proofs.YtjbamlmdeopcaaaGreatDoor.lx
open Go.RowKit Go.Proofs.YtjbamlmdeopcaaaGreatDoor.tok

set_option maxRecDepth 100000 in
set_option maxHeartbeats 4000000 in
theorem refNext_5 {s : ByteArray} {i : Nat} {c : UInt8} {w : World} (hlt : i < s.size) (hc : s[i] = c) (hs : s.size ≤ 4194304) (m : Nx) (hm : m = closedL 4 105 2 [42, 47] (s.data.toList.drop i)) (h1 : i ≠ 0 ∨ Lib.hasPrefix s.data.toList mark = false) (h2 : isBl c = false) (h3 : c ≠ 10) (h4 : c = 47) (h5 : i + 1 < s.size) (h6 : s[i + 1] = 42) :
    Calls Tryz.prog 24 #[.string s, .int .i64 (i : Int)] w (Told m i w) := by
  have HW := Lib.hid hm
  have HSD := Lib.hid (sdata s)
  have hix : ∀ u : World, (Instr.index 9 (.string s) (.int .i64 (i : Int))).run Tryz.prog u = .ok (.int .u8 (c.toNat : Int)) u := fun u => by rw [← hc]; exact index_at s _ i rfl hlt u
  have H2 := Lib.hid (fun u => refBlank_then c u)
  rw [h2] at H2
  have b10 : ((c.toNat : Int) == 10) = false := byte_ne (d := 10) h3
  rw [closed_is 4 105 2 [42, 47] s.data.toList i (by decide)] at HW
  obtain ⟨t, ht⟩ : ∃ t, findL s.data.toList (i + 2) [42, 47] = t := ⟨_, rfl⟩
  have HFI := Lib.hid (fun u => refFind_then s ⟨#[42, 47]⟩ (i + 2) t ((i : Int) + 2) u hs (by decide) (by omega) (by omega) ht)
  have hle := find_le s.data.toList [42, 47] (i + 2) (by rw [HSD.out]; omega)
  have hro := find_room s.data.toList [42, 47] (i + 2) (by rw [HSD.out]; omega)
  rw [ht, HSD.out] at HW hle hro
  have b47 : ((c.toNat : Int) == 47) = true := byte_eq (d := 47) h4
  have dl1 : decide ((i : Int) + 1 < (s.size : Int)) = true := decide_eq_true (by omega)
  obtain ⟨d, hd⟩ : ∃ d, s[i + 1]'h5 = d := ⟨_, rfl⟩
  have hix1 : ∀ u : World, (Instr.index 9 (.string s) (.int .i64 ((i : Int) + 1))).run Tryz.prog u = .ok (.int .u8 (d.toNat : Int)) u := fun u => by rw [← hd]; exact index_at s _ (i + 1) (by omega) h5 u
  rw [hd] at h6
  have bd : ((d.toNat : Int) == 47) = false := byte_ne (d := 47) (by rw [h6]; decide)
  have bd2 : ((d.toNat : Int) == 42) = true := byte_eq (d := 42) h6
  clear h2 h3 hm hc h4 h6 hd ht
  by_cases he : t = s.size
  · have be : ((t : Int) == (s.size : Int)) = true := beq_iff_eq.2 (by omega)
    rw [if_pos he] at HW
    have HE : Hid (i + (s.size - i) = t) := Lib.hid (by omega)
    clear hro he
    rcases nm_cases h1 with h1 | ⟨h1, h3⟩ | ⟨h1, h3, h4⟩
    · have b1 : ((i : Int) == 0) = false := beq_eq_false_iff_ne.2 (by omega)
      clear h1
      go_enter Tryz.func24, Tryz.ntmps24
      go_wp2_with (first | (go_at_call 47; refine (H2.out _).mono ?_; rintro e W ⟨rfl, hbW⟩; have HF := Lib.hid ((four_new w (.int .i64 0) (.int .i64 (i : Int)) (.int .i64 ((i : Int) + 1)) (.int .i64 0) (.int .i64 (i : Int)) (.int .i64 0)).then hbW); obtain ⟨⟨⟨u0, u1, u2, u3, u4, u5, k0, k1, k2, k3, k4, k5⟩, f0, f1, f2, f3, f4, f5⟩, x0, x1, x2, y0, y1, y2, ⟨⟨g0, g1, g2⟩, g3, g4, g5⟩, _⟩ := HF.out; clear hbW) | (go_at_call 25; refine (HFI.out _).mono ?_; rintro e W2 ⟨rfl, hb2⟩; have HG := Lib.hid ((HF.out.set0 (.int .i64 4)).then hb2); clear k0 k1 k2 k3 k4 k5 f0 f1 f2 f3 f4 f5 x0 x1 x2 y0 y1 y2 g0 g1 g2 g3 g4 g5; clear hb2; obtain ⟨⟨⟨u0, u1, u2, u3, u4, u5, k0, k1, k2, k3, k4, k5⟩, f0, f1, f2, f3, f4, f5⟩, x0, x1, x2, y0, y1, y2, ⟨⟨g0, g1, g2⟩, g3, g4, g5⟩, _⟩ := HG.out))
      go_region
      go_wp2_with fail
      exact bodyPost_ret (results_drew Tryz.results24 _ (by repeat (first | exact HG.out.six | refine six_past ?_ (by omega) _)) (.int .i64 4) (.int .i64 (i : Int)) (.int .i64 (t : Int)) (.int .i64 105) (.int .i64 (i : Int)) (.int .i64 (t : Int)) rfl rfl) rfl (Told.mk' (x := (i : Int)) (y := (t : Int)) (by rw [HW.out, show ((i : Int) + ((wrong 4 (s.size - i) 105).width : Int)) = (t : Int) by have := HE.out; simp only [wrong]; omega]; rfl) (by rw [HW.out]; exact fun _ => ⟨by simp [wrong], by have := HE.out; simp only [wrong]; omega⟩) (below_put6 (by repeat (first | exact HG.out.below | refine below_at ?_ (by omega) _)) (Nat.le_refl _) _ _ _ _ _ _).drew)
    · have b1 : ((i : Int) == 0) = true := beq_iff_eq.2 (by omega)
      have d3 : decide (3 ≤ (s.size : Int)) = false := decide_eq_false (by omega)
      clear h1 h3
      go_enter Tryz.func24, Tryz.ntmps24
      go_wp2_with (first | (go_at_call 47; refine (H2.out _).mono ?_; rintro e W ⟨rfl, hbW⟩; have HF := Lib.hid ((four_new w (.int .i64 0) (.int .i64 (i : Int)) (.int .i64 ((i : Int) + 1)) (.int .i64 0) (.int .i64 (i : Int)) (.int .i64 0)).then hbW); obtain ⟨⟨⟨u0, u1, u2, u3, u4, u5, k0, k1, k2, k3, k4, k5⟩, f0, f1, f2, f3, f4, f5⟩, x0, x1, x2, y0, y1, y2, ⟨⟨g0, g1, g2⟩, g3, g4, g5⟩, _⟩ := HF.out; clear hbW) | (go_at_call 25; refine (HFI.out _).mono ?_; rintro e W2 ⟨rfl, hb2⟩; have HG := Lib.hid ((HF.out.set0 (.int .i64 4)).then hb2); clear k0 k1 k2 k3 k4 k5 f0 f1 f2 f3 f4 f5 x0 x1 x2 y0 y1 y2 g0 g1 g2 g3 g4 g5; clear hb2; obtain ⟨⟨⟨u0, u1, u2, u3, u4, u5, k0, k1, k2, k3, k4, k5⟩, f0, f1, f2, f3, f4, f5⟩, x0, x1, x2, y0, y1, y2, ⟨⟨g0, g1, g2⟩, g3, g4, g5⟩, _⟩ := HG.out))
      go_region
      go_wp2_with fail
      exact bodyPost_ret (results_drew Tryz.results24 _ (by repeat (first | exact HG.out.six | refine six_past ?_ (by omega) _)) (.int .i64 4) (.int .i64 (i : Int)) (.int .i64 (t : Int)) (.int .i64 105) (.int .i64 (i : Int)) (.int .i64 (t : Int)) rfl rfl) rfl (Told.mk' (x := (i : Int)) (y := (t : Int)) (by rw [HW.out, show ((i : Int) + ((wrong 4 (s.size - i) 105).width : Int)) = (t : Int) by have := HE.out; simp only [wrong]; omega]; rfl) (by rw [HW.out]; exact fun _ => ⟨by simp [wrong], by have := HE.out; simp only [wrong]; omega⟩) (below_put6 (by repeat (first | exact HG.out.below | refine below_at ?_ (by omega) _)) (Nat.le_refl _) _ _ _ _ _ _).drew)
    · have b1 : ((i : Int) == 0) = true := beq_iff_eq.2 (by omega)
      have d3 : decide (3 ≤ (s.size : Int)) = true := decide_eq_true (by omega)
      have hsl3 := slice_to s 3 3 rfl h3
      obtain ⟨x3, hx3⟩ : ∃ x, B (s.data.toList.take 3) = x := ⟨_, rfl⟩
      rw [hx3] at h4 hsl3
      clear h1 h3 hx3
      go_enter Tryz.func24, Tryz.ntmps24
      go_wp2_with (first | (go_at_call 47; refine (H2.out _).mono ?_; rintro e W ⟨rfl, hbW⟩; have HF := Lib.hid ((four_new w (.int .i64 0) (.int .i64 (i : Int)) (.int .i64 ((i : Int) + 1)) (.int .i64 0) (.int .i64 (i : Int)) (.int .i64 0)).then hbW); obtain ⟨⟨⟨u0, u1, u2, u3, u4, u5, k0, k1, k2, k3, k4, k5⟩, f0, f1, f2, f3, f4, f5⟩, x0, x1, x2, y0, y1, y2, ⟨⟨g0, g1, g2⟩, g3, g4, g5⟩, _⟩ := HF.out; clear hbW) | (go_at_call 25; refine (HFI.out _).mono ?_; rintro e W2 ⟨rfl, hb2⟩; have HG := Lib.hid ((HF.out.set0 (.int .i64 4)).then hb2); clear k0 k1 k2 k3 k4 k5 f0 f1 f2 f3 f4 f5 x0 x1 x2 y0 y1 y2 g0 g1 g2 g3 g4 g5; clear hb2; obtain ⟨⟨⟨u0, u1, u2, u3, u4, u5, k0, k1, k2, k3, k4, k5⟩, f0, f1, f2, f3, f4, f5⟩, x0, x1, x2, y0, y1, y2, ⟨⟨g0, g1, g2⟩, g3, g4, g5⟩, _⟩ := HG.out))
      go_region
      go_wp2_with fail
      exact bodyPost_ret (results_drew Tryz.results24 _ (by repeat (first | exact HG.out.six | refine six_past ?_ (by omega) _)) (.int .i64 4) (.int .i64 (i : Int)) (.int .i64 (t : Int)) (.int .i64 105) (.int .i64 (i : Int)) (.int .i64 (t : Int)) rfl rfl) rfl (Told.mk' (x := (i : Int)) (y := (t : Int)) (by rw [HW.out, show ((i : Int) + ((wrong 4 (s.size - i) 105).width : Int)) = (t : Int) by have := HE.out; simp only [wrong]; omega]; rfl) (by rw [HW.out]; exact fun _ => ⟨by simp [wrong], by have := HE.out; simp only [wrong]; omega⟩) (below_put6 (by repeat (first | exact HG.out.below | refine below_at ?_ (by omega) _)) (Nat.le_refl _) _ _ _ _ _ _).drew)
  · have be : ((t : Int) == (s.size : Int)) = false := beq_eq_false_iff_ne.2 (by omega)
    rw [if_neg he] at HW
    have hro' := hro he
    have hro2 : t + 2 ≤ s.size := hro'
    have HE : Hid (i + (t + 2 - i) = t + 2) := Lib.hid (by omega)
    have HW2 : Hid (m = right 4 (t + 2 - i)) := HW
    clear hro hro' he HW
    have HW := HW2
    clear HW2
    rcases nm_cases h1 with h1 | ⟨h1, h3⟩ | ⟨h1, h3, h4⟩
    · have b1 : ((i : Int) == 0) = false := beq_eq_false_iff_ne.2 (by omega)
      clear h1
      go_enter Tryz.func24, Tryz.ntmps24
      go_wp2_with (first | (go_at_call 47; refine (H2.out _).mono ?_; rintro e W ⟨rfl, hbW⟩; have HF := Lib.hid ((four_new w (.int .i64 0) (.int .i64 (i : Int)) (.int .i64 ((i : Int) + 1)) (.int .i64 0) (.int .i64 (i : Int)) (.int .i64 0)).then hbW); obtain ⟨⟨⟨u0, u1, u2, u3, u4, u5, k0, k1, k2, k3, k4, k5⟩, f0, f1, f2, f3, f4, f5⟩, x0, x1, x2, y0, y1, y2, ⟨⟨g0, g1, g2⟩, g3, g4, g5⟩, _⟩ := HF.out; clear hbW) | (go_at_call 25; refine (HFI.out _).mono ?_; rintro e W2 ⟨rfl, hb2⟩; have HG := Lib.hid ((HF.out.set0 (.int .i64 4)).then hb2); clear k0 k1 k2 k3 k4 k5 f0 f1 f2 f3 f4 f5 x0 x1 x2 y0 y1 y2 g0 g1 g2 g3 g4 g5; clear hb2; obtain ⟨⟨⟨u0, u1, u2, u3, u4, u5, k0, k1, k2, k3, k4, k5⟩, f0, f1, f2, f3, f4, f5⟩, x0, x1, x2, y0, y1, y2, ⟨⟨g0, g1, g2⟩, g3, g4, g5⟩, _⟩ := HG.out))
      go_region
      go_wp2_with fail
      exact bodyPost_ret (results_drew Tryz.results24 _ (by repeat (first | exact HG.out.six | refine six_past ?_ (by omega) _)) (.int .i64 4) (.int .i64 (i : Int)) (.int .i64 ((t : Int) + 2 : Int)) (.int .i64 0) (.int .i64 (i : Int)) (.int .i64 ((t : Int) + 2 : Int)) rfl rfl) rfl (Told.mk' (x := (i : Int)) (y := ((t : Int) + 2 : Int)) (by rw [HW.out, show ((i : Int) + ((right 4 (t + 2 - i)).width : Int)) = ((t : Int) + 2 : Int) by have := HE.out; simp only [right]; omega]; rfl) (by rw [HW.out]; exact fun h => absurd rfl h) (below_put6 (by repeat (first | exact HG.out.below | refine below_at ?_ (by omega) _)) (Nat.le_refl _) _ _ _ _ _ _).drew)
    · have b1 : ((i : Int) == 0) = true := beq_iff_eq.2 (by omega)
      have d3 : decide (3 ≤ (s.size : Int)) = false := decide_eq_false (by omega)
      clear h1 h3
      go_enter Tryz.func24, Tryz.ntmps24
      go_wp2_with (first | (go_at_call 47; refine (H2.out _).mono ?_; rintro e W ⟨rfl, hbW⟩; have HF := Lib.hid ((four_new w (.int .i64 0) (.int .i64 (i : Int)) (.int .i64 ((i : Int) + 1)) (.int .i64 0) (.int .i64 (i : Int)) (.int .i64 0)).then hbW); obtain ⟨⟨⟨u0, u1, u2, u3, u4, u5, k0, k1, k2, k3, k4, k5⟩, f0, f1, f2, f3, f4, f5⟩, x0, x1, x2, y0, y1, y2, ⟨⟨g0, g1, g2⟩, g3, g4, g5⟩, _⟩ := HF.out; clear hbW) | (go_at_call 25; refine (HFI.out _).mono ?_; rintro e W2 ⟨rfl, hb2⟩; have HG := Lib.hid ((HF.out.set0 (.int .i64 4)).then hb2); clear k0 k1 k2 k3 k4 k5 f0 f1 f2 f3 f4 f5 x0 x1 x2 y0 y1 y2 g0 g1 g2 g3 g4 g5; clear hb2; obtain ⟨⟨⟨u0, u1, u2, u3, u4, u5, k0, k1, k2, k3, k4, k5⟩, f0, f1, f2, f3, f4, f5⟩, x0, x1, x2, y0, y1, y2, ⟨⟨g0, g1, g2⟩, g3, g4, g5⟩, _⟩ := HG.out))
      go_region
      go_wp2_with fail
      exact bodyPost_ret (results_drew Tryz.results24 _ (by repeat (first | exact HG.out.six | refine six_past ?_ (by omega) _)) (.int .i64 4) (.int .i64 (i : Int)) (.int .i64 ((t : Int) + 2 : Int)) (.int .i64 0) (.int .i64 (i : Int)) (.int .i64 ((t : Int) + 2 : Int)) rfl rfl) rfl (Told.mk' (x := (i : Int)) (y := ((t : Int) + 2 : Int)) (by rw [HW.out, show ((i : Int) + ((right 4 (t + 2 - i)).width : Int)) = ((t : Int) + 2 : Int) by have := HE.out; simp only [right]; omega]; rfl) (by rw [HW.out]; exact fun h => absurd rfl h) (below_put6 (by repeat (first | exact HG.out.below | refine below_at ?_ (by omega) _)) (Nat.le_refl _) _ _ _ _ _ _).drew)
    · have b1 : ((i : Int) == 0) = true := beq_iff_eq.2 (by omega)
      have d3 : decide (3 ≤ (s.size : Int)) = true := decide_eq_true (by omega)
      have hsl3 := slice_to s 3 3 rfl h3
      obtain ⟨x3, hx3⟩ : ∃ x, B (s.data.toList.take 3) = x := ⟨_, rfl⟩
      rw [hx3] at h4 hsl3
      clear h1 h3 hx3
      go_enter Tryz.func24, Tryz.ntmps24
      go_wp2_with (first | (go_at_call 47; refine (H2.out _).mono ?_; rintro e W ⟨rfl, hbW⟩; have HF := Lib.hid ((four_new w (.int .i64 0) (.int .i64 (i : Int)) (.int .i64 ((i : Int) + 1)) (.int .i64 0) (.int .i64 (i : Int)) (.int .i64 0)).then hbW); obtain ⟨⟨⟨u0, u1, u2, u3, u4, u5, k0, k1, k2, k3, k4, k5⟩, f0, f1, f2, f3, f4, f5⟩, x0, x1, x2, y0, y1, y2, ⟨⟨g0, g1, g2⟩, g3, g4, g5⟩, _⟩ := HF.out; clear hbW) | (go_at_call 25; refine (HFI.out _).mono ?_; rintro e W2 ⟨rfl, hb2⟩; have HG := Lib.hid ((HF.out.set0 (.int .i64 4)).then hb2); clear k0 k1 k2 k3 k4 k5 f0 f1 f2 f3 f4 f5 x0 x1 x2 y0 y1 y2 g0 g1 g2 g3 g4 g5; clear hb2; obtain ⟨⟨⟨u0, u1, u2, u3, u4, u5, k0, k1, k2, k3, k4, k5⟩, f0, f1, f2, f3, f4, f5⟩, x0, x1, x2, y0, y1, y2, ⟨⟨g0, g1, g2⟩, g3, g4, g5⟩, _⟩ := HG.out))
      go_region
      go_wp2_with fail
      exact bodyPost_ret (results_drew Tryz.results24 _ (by repeat (first | exact HG.out.six | refine six_past ?_ (by omega) _)) (.int .i64 4) (.int .i64 (i : Int)) (.int .i64 ((t : Int) + 2 : Int)) (.int .i64 0) (.int .i64 (i : Int)) (.int .i64 ((t : Int) + 2 : Int)) rfl rfl) rfl (Told.mk' (x := (i : Int)) (y := ((t : Int) + 2 : Int)) (by rw [HW.out, show ((i : Int) + ((right 4 (t + 2 - i)).width : Int)) = ((t : Int) + 2 : Int) by have := HE.out; simp only [right]; omega]; rfl) (by rw [HW.out]; exact fun h => absurd rfl h) (below_put6 (by repeat (first | exact HG.out.below | refine below_at ?_ (by omega) _)) (Nat.le_refl _) _ _ _ _ _ _).drew)
end Go.Proofs.YtjbamlmdeopcaaaGreatDoor.lx
end
