/-
  Layer 4: chunk.width.
-/
import Derived.Test.YtlemecnmjhhbiaaCb
import Derived.WalkMore
namespace Go.Proofs.Ytlemecnmjhhbiaa.ck
open Go.RowKit

/-- How many tokens are up to the end of a region, so deep in it. -/
def wid (d : Nat) : List Tk → Nat
  | [] => 0
  | t :: r => if semi t.k && d == 0 then 1 else 1 + wid (deep d t.k) r

set_option maxRecDepth 100000 in
set_option maxHeartbeats 4000000 in
theorem width_any (v : Value) (T : List Tk) (w : World) (hr : Row tk w v T) (hn : T.length ≤ 140737488355328) :
    Calls Try.prog 26 #[v] w fun e w' => e = .returned (.int .i64 (wid 0 T : Int)) ∧ w = w' := by
  obtain ⟨g, off, o, cap, hc, rfl, ho, hcell⟩ := hr
  have HC := Lib.hid hcell
  have HO := Lib.hid ho
  clear hcell ho
  obtain ⟨len, hlen⟩ : ∃ len, T.length = len := ⟨_, rfl⟩
  rw [hlen] at hc hn
  have HN := Lib.hid hlen
  rw [HN.out]
  clear hlen
  go_enter Try.func26, Try.ntmps26
  go_wp2
  go_step3
  go_wp2
  go_step3
  go_wp2
  go_loopw [3, 4] (fun x p wr => ∃ n d : Nat, n ≤ len ∧ d ≤ n ∧ x = .int .i64 d ∧ p = .int .i64 n ∧ n + wid d (T.drop n) = wid 0 T ∧ wr = w) (fun _ p _ => len - (intOf p).toNat)
  case atStart => exact ⟨0, 0, Nat.zero_le _, Nat.le_refl _, rfl, rfl, by simp, rfl⟩
  case round =>
    obtain ⟨n, d, hnl, hdn, rfl, rfl, hle, rfl⟩ := hrel
    have HL := Lib.hid hle
    clear hle
    by_cases hlt : n < len
    · have hltT : n < T.length := by rw [HN.out]; exact hlt
      have hd : decide ((n : Int) < (len : Int)) = true := decide_eq_true (by omega)
      have hne : T ≠ [] := by rintro rfl; simp at hltT
      have ho := HO.out hne
      subst ho
      obtain ⟨c0, c1, c2⟩ := cells_tk HC.out n hltT
      rw [List.drop_eq_getElem_cons hltT, wid] at HL
      generalize T[n] = t at *
      obtain ⟨z, x1, x2⟩ := t
      simp only [] at c0 c1 c2 HL
      clear hne hltT c1 c2
      rcases kinds z with h | h | h | h | h | h | ⟨⟨h1, h2, h3, h4, h5, h6⟩, h7, h8⟩
      · subst h
        rw [show (semi 57 && d == 0) = false from rfl, if_neg (by simp), show deep d 57 = d + 1 from rfl] at HL
        go_wp2_with fail
        go_roundw
        case rel => exact ⟨n + 1, d + 1, by omega, by omega, by go_num, by go_num, by rw [← HL.out]; omega, by trivial⟩
        case measure => simp [intOf]; omega
      · subst h
        rw [show (semi 58 && d == 0) = false from rfl, if_neg (by simp), show deep d 58 = d + 1 from rfl] at HL
        go_wp2_with fail
        go_roundw
        case rel => exact ⟨n + 1, d + 1, by omega, by omega, by go_num, by go_num, by rw [← HL.out]; omega, by trivial⟩
        case measure => simp [intOf]; omega
      · subst h
        rw [show (semi 59 && d == 0) = false from rfl, if_neg (by simp), show deep d 59 = d + 1 from rfl] at HL
        go_wp2_with fail
        go_roundw
        case rel => exact ⟨n + 1, d + 1, by omega, by omega, by go_num, by go_num, by rw [← HL.out]; omega, by trivial⟩
        case measure => simp [intOf]; omega
      · subst h
        rw [show (semi 62 && d == 0) = false from rfl, if_neg (by simp), show deep d 62 = d - 1 from rfl] at HL
        go_wp2_with fail
        all_goals
          go_roundw
          case rel => exact ⟨n + 1, d - 1, by omega, by omega, by go_num, by go_num, by rw [← HL.out]; omega, by trivial⟩
          case measure => simp [intOf]; omega
      · subst h
        rw [show (semi 63 && d == 0) = false from rfl, if_neg (by simp), show deep d 63 = d - 1 from rfl] at HL
        go_wp2_with fail
        all_goals
          go_roundw
          case rel => exact ⟨n + 1, d - 1, by omega, by omega, by go_num, by go_num, by rw [← HL.out]; omega, by trivial⟩
          case measure => simp [intOf]; omega
      · subst h
        rw [show (semi 64 && d == 0) = false from rfl, if_neg (by simp), show deep d 64 = d - 1 from rfl] at HL
        go_wp2_with fail
        all_goals
          go_roundw
          case rel => exact ⟨n + 1, d - 1, by omega, by omega, by go_num, by go_num, by rw [← HL.out]; omega, by trivial⟩
          case measure => simp [intOf]; omega
      · by_cases hs : z = 15 ∨ z = 16
        · have hs1 : semi z = true := by simp [semi]; omega
          rw [hs1, Bool.true_and, show deep d z = d by simp [deep, h7, h8]] at HL
          by_cases hd0 : d = 0
          · subst hd0
            rw [if_pos (show ((0 : Nat) == 0) = true from rfl)] at HL
            rcases hs with hs | hs
            all_goals
              subst hs
              go_wp2_with fail
              go_ret
              exact ⟨by rw [← HL.out, Int.natCast_add]; rfl, rfl⟩
          · have hdz : ((d : Int) == 0) = false := beq_eq_false_iff_ne.2 (by omega)
            rw [if_neg (by simpa using hd0)] at HL
            rcases hs with hs | hs
            all_goals
              subst hs
              go_wp2_with fail
              go_roundw
              case rel => exact ⟨n + 1, d, by omega, by omega, rfl, by go_num, by rw [← HL.out]; omega, by trivial⟩
              case measure => simp [intOf]; omega
        · have h15 : (z == 15) = false := beq_eq_false_iff_ne.2 (by omega)
          have h16 : (z == 16) = false := beq_eq_false_iff_ne.2 (by omega)
          have hs1 : semi z = false := by simp [semi]; omega
          rw [hs1, Bool.false_and, if_neg (by simp), show deep d z = d by simp [deep, h7, h8]] at HL
          clear hs hs1 h7 h8
          go_wp2_with fail
          go_roundw
          case rel => exact ⟨n + 1, d, by omega, by omega, rfl, by go_num, by rw [← HL.out]; omega, by trivial⟩
          case measure => simp [intOf]; omega
    · have hd : decide ((n : Int) < (len : Int)) = false := decide_eq_false (by omega)
      have hD : T.drop n = [] := List.drop_of_length_le (by rw [HN.out]; omega)
      rw [hD, wid] at HL
      clear hD
      go_wp2_with fail
      rw [Exit.noGoto_ret]
      go_ret
      exact ⟨by rw [← HL.out]; rfl, rfl⟩
end Go.Proofs.Ytlemecnmjhhbiaa.ck
