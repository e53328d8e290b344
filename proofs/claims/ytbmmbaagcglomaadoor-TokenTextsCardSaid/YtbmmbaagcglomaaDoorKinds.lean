/-
  What a number is as a kind: token's functions and the reference's.
-/
import Derived.Test.YtbmmbaagcglomaaDoorName
namespace Go.Proofs.YtbmmbaagcglomaaDoor.tok
open Go.RowKit

def triviaOf (z : Int) : Bool := decide (1 ≤ z ∧ z ≤ 5)
def endsOf (z : Int) : Bool := [10, 11, 12, 13, 14, 70, 73, 77, 86, 44, 45, 62, 63, 64].contains z
def precOf (z : Int) : Int :=
  if [22, 23, 24, 25, 28, 29, 30].contains z then 5 else if [20, 21, 26, 27].contains z then 4 else if [46, 47, 48, 52, 53, 54].contains z then 3 else if z = 42 then 2 else if z = 43 then 1 else 0
def plainOf (z : Int) : Int := if 31 ≤ z ∧ z ≤ 41 then z - 11 else 0

set_option maxRecDepth 100000 in
set_option maxHeartbeats 2000000 in
theorem trivia_any (z : Int) (w : World) : Calls Tryd.prog 13 #[.int .i64 z] w fun e w' => e = .returned (.bool (triviaOf z)) ∧ w = w' := by
  go_enter Tryd.func13, Tryd.ntmps13
  go_wp2_with fail
  all_goals
    go_ret
    refine ⟨?_, rfl⟩
    simp_all [triviaOf]
  omega
set_option maxRecDepth 100000 in
set_option maxHeartbeats 2000000 in
theorem refTrivia_any (z : Int) (w : World) : Calls Tryd.prog 14 #[.int .i64 z] w fun e w' => e = .returned (.bool (triviaOf z)) ∧ w = w' := by
  rcases two_bounds z 1 5 with ⟨h1, h2⟩ | h | ⟨h1, h2⟩
  · go_enter Tryd.func14, Tryd.ntmps14
    go_wp2_with fail
    go_ret
    exact ⟨by simp [triviaOf, h1, h2], rfl⟩
  · go_enter Tryd.func14, Tryd.ntmps14
    go_wp2_with fail
    go_ret
    exact ⟨by have := of_decide_eq_false h; simp [triviaOf]; omega, rfl⟩
  · go_enter Tryd.func14, Tryd.ntmps14
    go_wp2_with fail
    go_ret
    exact ⟨by have := of_decide_eq_false h2; simp [triviaOf]; omega, rfl⟩
set_option maxRecDepth 100000 in
set_option maxHeartbeats 2000000 in
theorem ends_any (z : Int) (w : World) : Calls Tryd.prog 15 #[.int .i64 z] w fun e w' => e = .returned (.bool (endsOf z)) ∧ w = w' := by
  go_enter Tryd.func15, Tryd.ntmps15
  go_wp2_with fail
  all_goals
    go_ret
    refine ⟨?_, rfl⟩
    simp_all [endsOf]
set_option maxRecDepth 100000 in
set_option maxHeartbeats 2000000 in
theorem refEnds_any (z : Int) (w : World) : Calls Tryd.prog 16 #[.int .i64 z] w fun e w' => e = .returned (.bool (endsOf z)) ∧ w = w' := by
  go_enter Tryd.func16, Tryd.ntmps16
  go_wp2_with fail
  all_goals
    go_ret
    refine ⟨?_, rfl⟩
    simp_all [endsOf]
set_option maxRecDepth 100000 in
set_option maxHeartbeats 2000000 in
theorem prec_any (z : Int) (w : World) : Calls Tryd.prog 17 #[.int .i64 z] w fun e w' => e = .returned (.int .i64 (precOf z)) ∧ w = w' := by
  go_enter Tryd.func17, Tryd.ntmps17
  go_wp2_with fail
  all_goals
    go_ret
    refine ⟨?_, rfl⟩
    simp_all [precOf]
set_option maxRecDepth 100000 in
set_option maxHeartbeats 2000000 in
theorem refPrec_any (z : Int) (w : World) : Calls Tryd.prog 18 #[.int .i64 z] w fun e w' => e = .returned (.int .i64 (precOf z)) ∧ w = w' := by
  go_enter Tryd.func18, Tryd.ntmps18
  go_wp2_with fail
  all_goals
    go_ret
    refine ⟨?_, rfl⟩
    simp_all [precOf]
set_option maxRecDepth 100000 in
set_option maxHeartbeats 2000000 in
theorem plain_any (z : Int) (w : World) : Calls Tryd.prog 19 #[.int .i64 z] w fun e w' => e = .returned (.int .i64 (plainOf z)) ∧ w = w' := by
  rcases two_bounds z 31 41 with ⟨h1, h2⟩ | h | ⟨h1, h2⟩
  · have hd : decide (z < 31) = false := decide_eq_false (by omega)
    have hd2 : decide (41 < z) = false := decide_eq_false (by omega)
    go_enter Tryd.func19, Tryd.ntmps19
    go_wp2_with fail
    go_ret
    exact ⟨by simp [plainOf, h1, h2]; omega, rfl⟩
  · have hd : decide (z < 31) = true := by have := of_decide_eq_false h; exact decide_eq_true (by omega)
    go_enter Tryd.func19, Tryd.ntmps19
    go_wp2_with fail
    go_ret
    exact ⟨by have := of_decide_eq_false h; rw [plainOf, if_neg (by omega)]; rfl, rfl⟩
  · have hd : decide (z < 31) = false := by have := of_decide_eq_true h1; exact decide_eq_false (by omega)
    have hd2 : decide (41 < z) = true := by have := of_decide_eq_false h2; exact decide_eq_true (by omega)
    go_enter Tryd.func19, Tryd.ntmps19
    go_wp2_with fail
    go_ret
    exact ⟨by have := of_decide_eq_false h2; rw [plainOf, if_neg (by omega)]; rfl, rfl⟩
set_option maxRecDepth 100000 in
set_option maxHeartbeats 2000000 in
theorem refPlain_any (z : Int) (w : World) : Calls Tryd.prog 20 #[.int .i64 z] w fun e w' => e = .returned (.int .i64 (plainOf z)) ∧ w = w' := by
  rcases two_bounds z 31 41 with ⟨h1, h2⟩ | h | ⟨h1, h2⟩
  · go_enter Tryd.func20, Tryd.ntmps20
    go_wp2_with fail
    go_ret
    exact ⟨by simp [plainOf, h1, h2], rfl⟩
  · go_enter Tryd.func20, Tryd.ntmps20
    go_wp2_with fail
    go_ret
    exact ⟨by have := of_decide_eq_false h; rw [plainOf, if_neg (by omega)]; rfl, rfl⟩
  · go_enter Tryd.func20, Tryd.ntmps20
    go_wp2_with fail
    go_ret
    exact ⟨by have := of_decide_eq_false h2; rw [plainOf, if_neg (by omega)]; rfl, rfl⟩

set_option maxRecDepth 100000 in
set_option maxHeartbeats 2000000 in
theorem name_any (z : Int) (w : World) : Calls Tryd.prog 11 #[.int .i64 z] w fun e w' => e = .returned (.string (B (nameOf z))) ∧ Below w.heap.size w w' := by
  by_cases h0 : z = 15
  · subst h0
    go_enter Tryd.func11, Tryd.ntmps11
    go_wp2_with fail
    go_ret
    exact ⟨rfl, Below.refl _ _⟩
  · have h0' : (z == 15) = false := by simpa using h0
    rcases two_bounds z 20 65 with ⟨h1, h2⟩ | h
    · obtain ⟨k, rfl⟩ : ∃ k : Nat, z = (k : Int) + 20 := ⟨(z - 20).toNat, by omega⟩
      have hk : k < 46 := by omega
      have hix := index_sign k hk
      have e : nameOf ((k : Int) + 20) = signs.getD k [] := by
        rw [nameOf, if_neg h0, if_pos ⟨by omega, by omega⟩]
        congr 1; omega
      rw [e]
      clear e h0
      go_enter Tryd.func11, Tryd.ntmps11
      go_wp2_with (go_at_call 31; refine (signs_any _).mono ?_; rintro e w1 ⟨rfl, hb⟩; have HB := Lib.hid hb; clear hb)
      go_ret
      exact ⟨rfl, HB.out⟩
    · rcases two_bounds z 70 90 with ⟨g1, g2⟩ | g
      · obtain ⟨k, rfl⟩ : ∃ k : Nat, z = (k : Int) + 70 := ⟨(z - 70).toNat, by omega⟩
        have hk : k < 21 := by omega
        have hd1 : decide ((20 : Int) ≤ (k : Int) + 70) = true := decide_eq_true (by omega)
        have hd2 : decide ((k : Int) + 70 ≤ 65) = false := decide_eq_false (by omega)
        have hix := index_word k hk
        have e : nameOf ((k : Int) + 70) = words.getD k [] := by
          rw [nameOf, if_neg h0, if_neg (by omega), if_pos ⟨by omega, by omega⟩]
          congr 1; omega
        rw [e]
        clear e h0 h
        go_enter Tryd.func11, Tryd.ntmps11
        go_wp2_with (go_at_call 32; refine (keywords_any _).mono ?_; rintro e w1 ⟨rfl, hb⟩; have HB := Lib.hid hb; clear hb)
        go_ret
        exact ⟨rfl, HB.out⟩
      · have e : nameOf z = otherOf z := by
          rw [nameOf, if_neg h0, if_neg (by rcases h with h | ⟨_, h⟩ <;> (have := of_decide_eq_false h; omega)), if_neg (by rcases g with g | ⟨_, g⟩ <;> (have := of_decide_eq_false g; omega))]
        rw [e]
        clear e h0
        rcases h with h | ⟨h, h'⟩ <;> rcases g with g | ⟨g, g'⟩
        all_goals
          go_enter Tryd.func11, Tryd.ntmps11
          go_wp2_with (go_at_call 33; refine (word_any _ _).mono ?_; rintro e w1 ⟨rfl, rfl⟩)
          go_ret
          exact ⟨rfl, Below.refl _ _⟩
end Go.Proofs.YtbmmbaagcglomaaDoor.tok
