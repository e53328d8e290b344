/-
  Layer 4: token.Trivia, the reference's Trivia and deeper, bears; what kinds are.
-/
import Derived.Test.YtlemecnmjhhbiaaCa
namespace Go.Proofs.Ytlemecnmjhhbiaa.ck
open Go.RowKit

def triv (z : Int) : Bool := decide (1 ≤ z ∧ z ≤ 5)
def opens (z : Int) : Bool := decide (57 ≤ z ∧ z ≤ 59)
def closes (z : Int) : Bool := decide (62 ≤ z ∧ z ≤ 64)
def semi (z : Int) : Bool := decide (15 ≤ z ∧ z ≤ 16)
def bear (z : Int) : Bool := opens z || closes z || semi z
def deep (d : Nat) (z : Int) : Nat := if opens z then d + 1 else if closes z then d - 1 else d

set_option maxRecDepth 100000 in
set_option maxHeartbeats 2000000 in
theorem trivia_any (z : Int) (w : World) : Calls Try.prog 24 #[.int .i64 z] w fun e w' => e = .returned (.bool (triv z)) ∧ w = w' := by
  go_enter Try.func24, Try.ntmps24
  go_wp2_with fail
  all_goals
    go_ret
    refine ⟨?_, rfl⟩
    simp_all [triv]
  omega
theorem two_bounds (z a b : Int) : (decide (a ≤ z) = true ∧ decide (z ≤ b) = true) ∨ decide (a ≤ z) = false ∨ (decide (a ≤ z) = true ∧ decide (z ≤ b) = false) := by
  by_cases h1 : a ≤ z <;> by_cases h2 : z ≤ b <;> simp [h1, h2]
set_option maxRecDepth 100000 in
set_option maxHeartbeats 2000000 in
theorem refTrivia_any (z : Int) (w : World) : Calls Try.prog 21 #[.int .i64 z] w fun e w' => e = .returned (.bool (triv z)) ∧ w = w' := by
  rcases two_bounds z 1 5 with ⟨h1, h2⟩ | h | ⟨h1, h2⟩
  · go_enter Try.func21, Try.ntmps21
    go_wp2_with fail
    go_ret
    exact ⟨by have := of_decide_eq_true h1; have := of_decide_eq_true h2; simp [triv]; omega, rfl⟩
  · go_enter Try.func21, Try.ntmps21
    go_wp2_with fail
    go_ret
    exact ⟨by have := of_decide_eq_false h; simp [triv]; omega, rfl⟩
  · go_enter Try.func21, Try.ntmps21
    go_wp2_with fail
    go_ret
    exact ⟨by have := of_decide_eq_false h2; simp [triv]; omega, rfl⟩
set_option maxRecDepth 100000 in
set_option maxHeartbeats 2000000 in
theorem bears_any (z : Int) (w : World) : Calls Try.prog 18 #[.int .i64 z] w fun e w' => e = .returned (.bool (bear z)) ∧ w = w' := by
  go_enter Try.func18, Try.ntmps18
  go_wp2_with fail
  all_goals
    go_ret
    refine ⟨?_, rfl⟩
    simp_all [bear, opens, closes, semi]
  omega
/-- What a kind is to the depth. -/
theorem kinds (z : Int) : z = 57 ∨ z = 58 ∨ z = 59 ∨ z = 62 ∨ z = 63 ∨ z = 64 ∨ (((z == 57) = false ∧ (z == 58) = false ∧ (z == 59) = false ∧ (z == 62) = false ∧ (z == 63) = false ∧ (z == 64) = false) ∧ opens z = false ∧ closes z = false) := by
  by_cases h : z = 57 ∨ z = 58 ∨ z = 59 ∨ z = 62 ∨ z = 63 ∨ z = 64
  · rcases h with h | h | h | h | h | h <;> simp [h]
  · simp only [not_or] at h
    obtain ⟨h1, h2, h3, h4, h5, h6⟩ := h
    refine .inr (.inr (.inr (.inr (.inr (.inr ⟨⟨beq_eq_false_iff_ne.2 h1, beq_eq_false_iff_ne.2 h2, beq_eq_false_iff_ne.2 h3, beq_eq_false_iff_ne.2 h4, beq_eq_false_iff_ne.2 h5, beq_eq_false_iff_ne.2 h6⟩, ?_, ?_⟩)))))
    · simp [opens]; omega
    · simp [closes]; omega
set_option maxRecDepth 100000 in
set_option maxHeartbeats 2000000 in
theorem deeper_any (d : Nat) (z : Int) (hd : d ≤ 140737488355328) (w : World) : Calls Try.prog 22 #[.int .i64 (d : Int), .int .i64 z] w fun e w' => e = .returned (.int .i64 (deep d z : Int)) ∧ w = w' := by
  rcases kinds z with h | h | h | h | h | h | ⟨⟨h1, h2, h3, h4, h5, h6⟩, h7, h8⟩
  · subst h
    go_enter Try.func22, Try.ntmps22
    go_wp2_with fail
    go_ret
    exact ⟨by simp [deep, opens], rfl⟩
  · subst h
    go_enter Try.func22, Try.ntmps22
    go_wp2_with fail
    go_ret
    exact ⟨by simp [deep, opens], rfl⟩
  · subst h
    go_enter Try.func22, Try.ntmps22
    go_wp2_with fail
    go_ret
    exact ⟨by simp [deep, opens], rfl⟩
  · subst h
    go_enter Try.func22, Try.ntmps22
    go_wp2_with fail
    all_goals
      go_ret
      exact ⟨by simp [deep, opens, closes]; omega, rfl⟩
  · subst h
    go_enter Try.func22, Try.ntmps22
    go_wp2_with fail
    all_goals
      go_ret
      exact ⟨by simp [deep, opens, closes]; omega, rfl⟩
  · subst h
    go_enter Try.func22, Try.ntmps22
    go_wp2_with fail
    all_goals
      go_ret
      exact ⟨by simp [deep, opens, closes]; omega, rfl⟩
  · go_enter Try.func22, Try.ntmps22
    go_wp2_with fail
    go_ret
    exact ⟨by simp [deep, h7, h8], rfl⟩
end Go.Proofs.Ytlemecnmjhhbiaa.ck
