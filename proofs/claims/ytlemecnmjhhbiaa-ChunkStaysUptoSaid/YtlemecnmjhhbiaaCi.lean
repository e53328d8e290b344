/-
  Layer 4: the reference's Cut.
-/
import Derived.Test.YtlemecnmjhhbiaaCf
namespace Go.Proofs.Ytlemecnmjhhbiaa.ck
open Go.RowKit

/-- A span, a token is put behind a row of one's own. -/
theorem push_sn {w : World} {base : Nat} {v : Value} {T0 : List Sn} (hown : Mine sn w base v T0) (a b : Int) (hb : base ≤ w.heap.size) (hm : (T0.length + 1) * 16 ≤ 140737488355328) :
    ∃ v' w', (∀ ty, (Builtin.append_ #[26, 26] ty #[v, .slice (some ⟨w.heap.size, 0, none⟩) 1 1]).run Try.prog (w.alloc (.cells #[.int .i64 a, .int .i64 b] 30)) = .ok v' w') ∧ Mine sn w' base v' (T0 ++ [⟨a, b⟩]) ∧ ∀ K w0, K ≤ base → Below K w0 w → Below K w0 w' := by
  have hB : Below w.heap.size w (w.alloc (.cells #[.int .i64 a, .int .i64 b] 30)) := (Below.refl _ _).alloc (Nat.le_refl _) _
  have hr : Row sn (w.alloc (.cells #[.int .i64 a, .int .i64 b] 30)) (.slice (some ⟨w.heap.size, 0, none⟩) 1 1) [⟨a, b⟩] := Row.new (F := sn) w [⟨a, b⟩]
  obtain ⟨v', w', h1, h2, h3⟩ := run_append_row (hown.below hB) hr (by simp; omega) (by simp [maxLen]; omega) (by show (T0.length + 1) * 16 ≤ _; exact hm)
  exact ⟨v', w', h1, h2, fun K w0 hK hw => Mine.more (hown.below hB) (hw.alloc (Nat.le_trans hK hb) _) hK (by simp; omega) h3⟩
theorem push_tk {w : World} {base : Nat} {v : Value} {T0 : List Tk} (hown : Mine tk w base v T0) (a b c : Int) (hb : base ≤ w.heap.size) (hm : (T0.length + 1) * 24 ≤ 140737488355328) :
    ∃ v' w', (∀ ty, (Builtin.append_ #[22, 22] ty #[v, .slice (some ⟨w.heap.size, 0, none⟩) 1 1]).run Try.prog (w.alloc (.cells #[.int .i64 a, .int .i64 b, .int .i64 c] 25)) = .ok v' w') ∧ Mine tk w' base v' (T0 ++ [⟨a, b, c⟩]) ∧ ∀ K w0, K ≤ base → Below K w0 w → Below K w0 w' := by
  have hB : Below w.heap.size w (w.alloc (.cells #[.int .i64 a, .int .i64 b, .int .i64 c] 25)) := (Below.refl _ _).alloc (Nat.le_refl _) _
  have hr : Row tk (w.alloc (.cells #[.int .i64 a, .int .i64 b, .int .i64 c] 25)) (.slice (some ⟨w.heap.size, 0, none⟩) 1 1) [⟨a, b, c⟩] := Row.new (F := tk) w [⟨a, b, c⟩]
  obtain ⟨v', w', h1, h2, h3⟩ := run_append_row (hown.below hB) hr (by simp; omega) (by simp [maxLen]; omega) (by show (T0.length + 1) * 24 ≤ _; exact hm)
  exact ⟨v', w', h1, h2, fun K w0 hK hw => Mine.more (hown.below hB) (hw.alloc (Nat.le_trans hK hb) _) hK (by simp; omega) h3⟩
theorem semi_no {z : Int} (h : semi z = false) : (z == 15) = false ∧ (z == 16) = false := by
  simp only [semi, decide_eq_false_iff_not] at h
  exact ⟨beq_eq_false_iff_ne.2 (by omega), beq_eq_false_iff_ne.2 (by omega)⟩
theorem semi_yes {z : Int} (h : semi z = true) : z = 15 ∨ z = 16 := by
  simp only [semi, decide_eq_true_eq] at h
  omega
theorem deep_le (d : Nat) (z : Int) : deep d z ≤ d + 1 := by
  unfold deep
  split
  · omega
  · split <;> omega

set_option maxRecDepth 100000 in
set_option maxHeartbeats 8000000 in
theorem refCut_any (v : Value) (T : List Tk) (w : World) (hr : Row tk w v T) (hn : T.length * 24 ≤ 140737488355328) :
    Calls Try.prog 11 #[v] w (Made (regs T) w) := by
  obtain ⟨g, off, o, cap, hc, rfl, ho, hcell⟩ := hr
  have HC := Lib.hid hcell
  have HO := Lib.hid ho
  clear hcell ho
  obtain ⟨len, hlen⟩ : ∃ len, T.length = len := ⟨_, rfl⟩
  rw [hlen] at hc hn
  have HN := Lib.hid hlen
  rw [HN.out]
  clear hlen
  have hn1 : len ≤ 140737488355328 := by omega
  obtain ⟨B0, hB0⟩ : ∃ B0, w.heap.size = B0 := ⟨_, rfl⟩
  have HZ := Lib.hid hB0
  have HQ : Hid (Made (regs T) w = fun e w' => ∃ v', e = .returned v' ∧ Mine sn w' B0 v' (regs T) ∧ Below B0 w w') := Lib.hid (by unfold Made; rw [hB0])
  rw [HQ.out]
  clear hB0 HQ
  go_enter Try.func11, Try.ntmps11
  go_wp2
  go_loopw [3, 4, 5, 6, 11] (fun vv pf pd ps p wr => ∃ (n fr d : Nat) (s : Bool) (M : List Sn), n ≤ len ∧ fr ≤ n ∧ d ≤ n ∧ M.length ≤ n ∧ pf = .int .i64 fr ∧ pd = .int .i64 d ∧ ps = .bool s ∧ p = .int .i64 n ∧ M ++ rcut fr n d s (T.drop n) = regs T ∧ Mine sn wr B0 vv M ∧ Below B0 w wr) (fun _ _ _ _ p _ => len - (intOf p).toNat)
  case atStart => exact ⟨0, 0, 0, false, [], Nat.zero_le _, Nat.le_refl _, Nat.le_refl _, Nat.le_refl _, rfl, rfl, rfl, rfl, rfl, Mine.nil _ _, Below.refl _ _⟩
  case round =>
    obtain ⟨n, fr, d, s, M, hnl, hfn, hdn, hMn, rfl, rfl, rfl, rfl, hle, hown, hb⟩ := hrel
    have HB := Lib.hid hb
    have HL := Lib.hid hle
    have HM := Lib.hid hown
    have hsz : B0 ≤ wr.heap.size := by have := hb.size; rw [HZ.out] at this; exact this
    clear hb hle hown
    by_cases hlt : n < len
    · have hltT : n < T.length := by rw [HN.out]; exact hlt
      have hd : decide ((n : Int) < (len : Int)) = true := decide_eq_true (by omega)
      have hne : T ≠ [] := by rintro rfl; simp at hltT
      have ho := HO.out hne
      subst ho
      obtain ⟨c0, c1, c2⟩ := cells_tk (HC.out.below (by rw [HZ.out]; exact HB.out)) n hltT
      rw [List.drop_eq_getElem_cons hltT, rcut] at HL
      generalize T[n] = t at *
      obtain ⟨z, x1, x2⟩ := t
      simp only [] at c0 c1 c2 HL
      have HT := Lib.hid (fun u => refTrivia_any z u)
      have HD := Lib.hid (fun u => deeper_any d z (by omega) u)
      have hdl := deep_le d z
      clear hne hltT
      have HA := Lib.hid ((Below.refl wr.heap.size wr).alloc (Nat.le_refl _) (.cells #[.int .i64 z, .int .i64 x1, .int .i64 x2] 25))
      have HB1 := Lib.hid (HB.out.alloc hsz (.cells #[.int .i64 z, .int .i64 x1, .int .i64 x2] 25))
      have HM1 := Lib.hid (HM.out.below HA.out)
      by_cases hsd : (semi z && d == 0) = true
      · rw [if_pos hsd] at HL
        obtain ⟨hs, hd0⟩ := (Bool.and_eq_true _ _).mp hsd
        have hd0 : d = 0 := beq_iff_eq.1 hd0
        subst hd0
        obtain ⟨v', w', hrun, hm', hbel⟩ := push_sn HM1.out (fr : Int) ((n : Int) + 1) (by simp; omega) (by omega)
        rw [World.size_alloc] at hrun
        have HRUN := Lib.hid hrun
        have HM' := Lib.hid hm'
        have HB' := Lib.hid (hbel B0 w (Nat.le_refl _) HB1.out)
        clear hrun hm' hbel hsd hdl HM1 HB1 HA HM
        rw [triv_semi hs] at HT
        rcases semi_yes hs with hz | hz
        all_goals
          subst hz
          clear hs
          cases s
          all_goals
            go_wp2_with (first | (go_at_call 21; refine (HT.out _).mono ?_; rintro e w' ⟨rfl, rfl⟩) | (at_builtin; refine Lib.wpList_append_run _ rfl _ _ _ _ rfl _ _ rfl rfl _ _ (HRUN.out _) ?_))
            go_roundw
            case rel => exact ⟨n + 1, n + 1, 0, false, M ++ [⟨(fr : Int), (n : Int) + 1⟩], by omega, by omega, by omega, by simp; omega, by go_num, rfl, rfl, by go_num, by rw [← HL.out]; simp, HM'.out, HB'.out⟩
            case measure => simp [intOf]; omega
      · rw [if_neg hsd] at HL
        have hx : ((d : Int) == 0) = false ∨ (((d : Int) == 0) = true ∧ (z == 15) = false ∧ (z == 16) = false) := by
          by_cases hd0 : d = 0
          · subst hd0
            exact .inr ⟨rfl, semi_no (by simpa using hsd)⟩
          · exact .inl (beq_eq_false_iff_ne.2 (by omega))
        clear hsd HM1
        cases s with
        | true =>
          rw [Bool.true_or] at HL
          rcases hx with h0 | ⟨h0, h15, h16⟩
          all_goals
            go_wp2_with (first | (go_at_call 22; refine (HD.out _).mono ?_; rintro e w' ⟨rfl, rfl⟩))
            go_roundw
            case rel => exact ⟨n + 1, fr, deep d z, true, M, by omega, by omega, by omega, by omega, rfl, rfl, rfl, by go_num, HL.out, HM.out.below HA.out, HB1.out⟩
            case measure => simp [intOf]; omega
        | false =>
          rw [Bool.false_or] at HL
          cases ht : triv z
          all_goals
            rw [ht] at HL HT
            rcases hx with h0 | ⟨h0, h15, h16⟩
            all_goals
              go_wp2_with (first | (go_at_call 21; refine (HT.out _).mono ?_; rintro e w' ⟨rfl, rfl⟩) | (go_at_call 22; refine (HD.out _).mono ?_; rintro e w' ⟨rfl, rfl⟩))
              go_roundw
              case rel => exact ⟨n + 1, fr, deep d z, _, M, by omega, by omega, by omega, by omega, rfl, rfl, rfl, by go_num, HL.out, HM.out.below HA.out, HB1.out⟩
              case measure => simp [intOf]; omega
    · have hd : decide ((n : Int) < (len : Int)) = false := decide_eq_false (by omega)
      have hD : T.drop n = [] := List.drop_of_length_le (by rw [HN.out]; omega)
      obtain rfl : n = len := by omega
      rw [hD, rcut] at HL
      clear hD
      cases s with
      | false =>
        rw [if_neg (by simp), List.append_nil] at HL
        go_wp2_with fail
        go_ret
        exact ⟨_, rfl, by rw [← HL.out]; exact HM.out, HB.out⟩
      | true =>
        rw [if_pos rfl] at HL
        obtain ⟨v', w', hrun, hm', hbel⟩ := push_sn HM.out (fr : Int) (n : Int) hsz (by omega)
        have HRUN := Lib.hid hrun
        have HM' := Lib.hid hm'
        have HB' := Lib.hid (hbel B0 w (Nat.le_refl _) HB.out)
        clear hrun hm' hbel
        go_wp2_with (at_builtin; refine Lib.wpList_append_run _ rfl _ _ _ _ rfl _ _ rfl rfl _ _ (HRUN.out _) ?_)
        go_ret
        exact ⟨_, rfl, by rw [← HL.out]; exact HM'.out, HB'.out⟩
end Go.Proofs.Ytlemecnmjhhbiaa.ck
