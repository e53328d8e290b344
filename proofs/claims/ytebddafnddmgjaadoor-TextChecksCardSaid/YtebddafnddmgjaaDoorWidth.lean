/-
  The contract of the reference's Width, a class of lead bytes at a time.
-/
import Derived.Test.YtebddafnddmgjaaDoorSmall
import Derived.Lib.Hide
namespace Go.Proofs.YtebddafnddmgjaaDoor.dec
open Go.RowKit Go.Lib

theorem ret_nat {k : IntKind} {b : Nat} (n : Nat) (h : b = n) : Ending.returned (.int k (n : Int)) = .returned (.int k (b : Int)) := by rw [h]


def WidthGoal (s : ByteArray) (i : Nat) (w : World) : Prop :=
  Calls Tryd.prog 9 #[.string s, .int .i64 i] w fun e w' => e = .returned (.int .i64 (widthS s i)) ∧ w = w'

set_option maxHeartbeats 1000000 in
theorem width_ascii (s : ByteArray) (i : Nat) (w : World) (hi : i < s.size) (c : UInt8) (hc : s[i] = c) (h : (c.toNat : Int) < 128) : WidthGoal s i w := by
  have W := @ws_ascii s i (by rw [get_lt s i hi, hc]; omega)
  unfold WidthGoal
  rw [W]
  clear W
  have ql128 : decide ((c.toNat : Int) < 128) = true := decide_eq_true (by omega)
  clear h
  go_enter Tryd.func9, Tryd.ntmps9
  go_wp2_with fail
  go_ret
  exact ⟨rfl, rfl⟩
set_option maxHeartbeats 1000000 in
theorem width_low (s : ByteArray) (i : Nat) (w : World) (hi : i < s.size) (c : UInt8) (hc : s[i] = c) (h : 128 ≤ (c.toNat : Int)) (h' : (c.toNat : Int) < 194) : WidthGoal s i w := by
  have W := @ws_bad s i (by rw [get_lt s i hi, hc]; omega) (by rw [get_lt s i hi, hc]; omega)
  unfold WidthGoal
  rw [W]
  clear W
  have ql128 : decide ((c.toNat : Int) < 128) = false := decide_eq_false (by omega)
  have ql194 : decide ((c.toNat : Int) < 194) = true := decide_eq_true (by omega)
  clear h
  clear h'
  go_enter Tryd.func9, Tryd.ntmps9
  go_wp2_with fail
  go_ret
  exact ⟨rfl, rfl⟩
set_option maxHeartbeats 1000000 in
theorem width_high (s : ByteArray) (i : Nat) (w : World) (hi : i < s.size) (c : UInt8) (hc : s[i] = c) (h : 244 < (c.toNat : Int)) : WidthGoal s i w := by
  have W := @ws_bad s i (by rw [get_lt s i hi, hc]; omega) (by rw [get_lt s i hi, hc]; omega)
  unfold WidthGoal
  rw [W]
  clear W
  have ql128 : decide ((c.toNat : Int) < 128) = false := decide_eq_false (by omega)
  have ql194 : decide ((c.toNat : Int) < 194) = false := decide_eq_false (by omega)
  have qg244 : decide (244 < (c.toNat : Int)) = true := decide_eq_true (by omega)
  clear h
  go_enter Tryd.func9, Tryd.ntmps9
  go_wp2_with fail
  go_ret
  exact ⟨rfl, rfl⟩
set_option maxRecDepth 100000 in
set_option maxHeartbeats 1000000 in
theorem width_two (s : ByteArray) (i : Nat) (w : World) (hs : s.size ≤ 1073741824) (hi : i < s.size) (c : UInt8) (hc : s[i] = c) (h : 194 ≤ (c.toNat : Int)) (h' : (c.toNat : Int) < 224) : WidthGoal s i w := by
  have W := @ws_two s i hi (by rw [get_lt s i hi, hc]; omega) (by rw [get_lt s i hi, hc]; omega)
  unfold WidthGoal
  have ql128 : decide ((c.toNat : Int) < 128) = false := decide_eq_false (by omega)
  have ql194 : decide ((c.toNat : Int) < 194) = false := decide_eq_false (by omega)
  have qg244 : decide (244 < (c.toNat : Int)) = false := decide_eq_false (by omega)
  have ql224 : decide ((c.toNat : Int) < 224) = true := decide_eq_true (by omega)
  clear h
  clear h'
  cases m1 : moreB s (i + 1) 128 191 with
  | false =>
    have z1 : moreZ s (↑i + 1) 128 191 = false := m1
    have W0 : widthS s i = 0 := by rw [W, m1]; simp
    rw [W0]
    clear W W0 m1
    go_enter Tryd.func9, Tryd.ntmps9
    go_wp2_with (go_at_call 11; refine (more_any s _ _ _ _ (by omega) (by omega) (by omega)).mono ?_; rintro e w' ⟨rfl, rfl⟩)
    go_ret
    exact ⟨rfl, rfl⟩
  | true =>
    have z1 : moreZ s (↑i + 1) 128 191 = true := m1
    have W0 : widthS s i = 2 := by rw [W, m1]; rfl
    rw [W0]
    clear W W0 m1
    go_enter Tryd.func9, Tryd.ntmps9
    go_wp2_with (go_at_call 11; refine (more_any s _ _ _ _ (by omega) (by omega) (by omega)).mono ?_; rintro e w' ⟨rfl, rfl⟩)
    go_ret
    exact ⟨rfl, rfl⟩
set_option maxRecDepth 100000 in
set_option maxHeartbeats 1000000 in
theorem width_E0 (s : ByteArray) (i : Nat) (w : World) (hs : s.size ≤ 1073741824) (hi : i < s.size) (c : UInt8) (hc : s[i] = c) (h : (c.toNat : Int) = 224) : WidthGoal s i w := by
  have W := @ws_E0 s i hi (by rw [get_lt s i hi, hc]; omega)
  unfold WidthGoal
  cases m1 : moreB s (i + 1) 160 191 with
  | false =>
    have z1 : moreZ s (↑i + 1) 160 191 = false := m1
    have W0 : widthS s i = 0 := by rw [W, m1]; simp
    rw [W0]
    clear W W0 m1
    go_enter Tryd.func9, Tryd.ntmps9
    go_wp2_with (go_at_call 11; refine (more_any s _ _ _ _ (by omega) (by omega) (by omega)).mono ?_; rintro e w' ⟨rfl, rfl⟩)
    go_ret
    exact ⟨rfl, rfl⟩
  | true =>
    have z1 : moreZ s (↑i + 1) 160 191 = true := m1
    cases m2 : moreB s (i + 2) 128 191 with
    | false =>
      have z2 : moreZ s (↑i + 2) 128 191 = false := m2
      have W0 : widthS s i = 0 := by rw [W, m2]; simp
      rw [W0]
      clear W W0 m1 m2
      go_enter Tryd.func9, Tryd.ntmps9
      go_wp2_with (go_at_call 11; refine (more_any s _ _ _ _ (by omega) (by omega) (by omega)).mono ?_; rintro e w' ⟨rfl, rfl⟩)
      go_ret
      exact ⟨rfl, rfl⟩
    | true =>
      have z2 : moreZ s (↑i + 2) 128 191 = true := m2
      have W0 : widthS s i = 3 := by rw [W, m1, m2]; rfl
      rw [W0]
      clear W W0 m1 m2
      go_enter Tryd.func9, Tryd.ntmps9
      go_wp2_with (go_at_call 11; refine (more_any s _ _ _ _ (by omega) (by omega) (by omega)).mono ?_; rintro e w' ⟨rfl, rfl⟩)
      go_ret
      exact ⟨rfl, rfl⟩
set_option maxRecDepth 100000 in
set_option maxHeartbeats 1000000 in
theorem width_ED (s : ByteArray) (i : Nat) (w : World) (hs : s.size ≤ 1073741824) (hi : i < s.size) (c : UInt8) (hc : s[i] = c) (h : (c.toNat : Int) = 237) : WidthGoal s i w := by
  have W := @ws_ED s i hi (by rw [get_lt s i hi, hc]; omega)
  unfold WidthGoal
  cases m1 : moreB s (i + 1) 128 159 with
  | false =>
    have z1 : moreZ s (↑i + 1) 128 159 = false := m1
    have W0 : widthS s i = 0 := by rw [W, m1]; simp
    rw [W0]
    clear W W0 m1
    go_enter Tryd.func9, Tryd.ntmps9
    go_wp2_with (go_at_call 11; refine (more_any s _ _ _ _ (by omega) (by omega) (by omega)).mono ?_; rintro e w' ⟨rfl, rfl⟩)
    go_ret
    exact ⟨rfl, rfl⟩
  | true =>
    have z1 : moreZ s (↑i + 1) 128 159 = true := m1
    cases m2 : moreB s (i + 2) 128 191 with
    | false =>
      have z2 : moreZ s (↑i + 2) 128 191 = false := m2
      have W0 : widthS s i = 0 := by rw [W, m2]; simp
      rw [W0]
      clear W W0 m1 m2
      go_enter Tryd.func9, Tryd.ntmps9
      go_wp2_with (go_at_call 11; refine (more_any s _ _ _ _ (by omega) (by omega) (by omega)).mono ?_; rintro e w' ⟨rfl, rfl⟩)
      go_ret
      exact ⟨rfl, rfl⟩
    | true =>
      have z2 : moreZ s (↑i + 2) 128 191 = true := m2
      have W0 : widthS s i = 3 := by rw [W, m1, m2]; rfl
      rw [W0]
      clear W W0 m1 m2
      go_enter Tryd.func9, Tryd.ntmps9
      go_wp2_with (go_at_call 11; refine (more_any s _ _ _ _ (by omega) (by omega) (by omega)).mono ?_; rintro e w' ⟨rfl, rfl⟩)
      go_ret
      exact ⟨rfl, rfl⟩
set_option maxRecDepth 100000 in
set_option maxHeartbeats 1000000 in
theorem width_F0 (s : ByteArray) (i : Nat) (w : World) (hs : s.size ≤ 1073741824) (hi : i < s.size) (c : UInt8) (hc : s[i] = c) (h : (c.toNat : Int) = 240) : WidthGoal s i w := by
  have W := @ws_F0 s i hi (by rw [get_lt s i hi, hc]; omega)
  unfold WidthGoal
  cases m1 : moreB s (i + 1) 144 191 with
  | false =>
    have z1 : moreZ s (↑i + 1) 144 191 = false := m1
    have W0 : widthS s i = 0 := by rw [W, m1]; simp
    rw [W0]
    clear W W0 m1
    go_enter Tryd.func9, Tryd.ntmps9
    go_wp2_with (go_at_call 11; refine (more_any s _ _ _ _ (by omega) (by omega) (by omega)).mono ?_; rintro e w' ⟨rfl, rfl⟩)
    go_ret
    exact ⟨rfl, rfl⟩
  | true =>
    have z1 : moreZ s (↑i + 1) 144 191 = true := m1
    cases m2 : moreB s (i + 2) 128 191 with
    | false =>
      have z2 : moreZ s (↑i + 2) 128 191 = false := m2
      have W0 : widthS s i = 0 := by rw [W, m2]; simp
      rw [W0]
      clear W W0 m1 m2
      go_enter Tryd.func9, Tryd.ntmps9
      go_wp2_with (go_at_call 11; refine (more_any s _ _ _ _ (by omega) (by omega) (by omega)).mono ?_; rintro e w' ⟨rfl, rfl⟩)
      go_ret
      exact ⟨rfl, rfl⟩
    | true =>
      have z2 : moreZ s (↑i + 2) 128 191 = true := m2
      cases m3 : moreB s (i + 3) 128 191 with
      | false =>
        have z3 : moreZ s (↑i + 3) 128 191 = false := m3
        have W0 : widthS s i = 0 := by rw [W, m3]; simp
        rw [W0]
        clear W W0 m1 m2 m3
        go_enter Tryd.func9, Tryd.ntmps9
        go_wp2_with (go_at_call 11; refine (more_any s _ _ _ _ (by omega) (by omega) (by omega)).mono ?_; rintro e w' ⟨rfl, rfl⟩)
        go_ret
        exact ⟨rfl, rfl⟩
      | true =>
        have z3 : moreZ s (↑i + 3) 128 191 = true := m3
        have W0 : widthS s i = 4 := by rw [W, m1, m2, m3]; rfl
        rw [W0]
        clear W W0 m1 m2 m3
        go_enter Tryd.func9, Tryd.ntmps9
        go_wp2_with (go_at_call 11; refine (more_any s _ _ _ _ (by omega) (by omega) (by omega)).mono ?_; rintro e w' ⟨rfl, rfl⟩)
        go_ret
        exact ⟨rfl, rfl⟩
set_option maxRecDepth 100000 in
set_option maxHeartbeats 1000000 in
theorem width_F4 (s : ByteArray) (i : Nat) (w : World) (hs : s.size ≤ 1073741824) (hi : i < s.size) (c : UInt8) (hc : s[i] = c) (h : (c.toNat : Int) = 244) : WidthGoal s i w := by
  have W := @ws_F4 s i hi (by rw [get_lt s i hi, hc]; omega)
  unfold WidthGoal
  cases m1 : moreB s (i + 1) 128 143 with
  | false =>
    have z1 : moreZ s (↑i + 1) 128 143 = false := m1
    have W0 : widthS s i = 0 := by rw [W, m1]; simp
    rw [W0]
    clear W W0 m1
    go_enter Tryd.func9, Tryd.ntmps9
    go_wp2_with (go_at_call 11; refine (more_any s _ _ _ _ (by omega) (by omega) (by omega)).mono ?_; rintro e w' ⟨rfl, rfl⟩)
    go_ret
    exact ⟨rfl, rfl⟩
  | true =>
    have z1 : moreZ s (↑i + 1) 128 143 = true := m1
    cases m2 : moreB s (i + 2) 128 191 with
    | false =>
      have z2 : moreZ s (↑i + 2) 128 191 = false := m2
      have W0 : widthS s i = 0 := by rw [W, m2]; simp
      rw [W0]
      clear W W0 m1 m2
      go_enter Tryd.func9, Tryd.ntmps9
      go_wp2_with (go_at_call 11; refine (more_any s _ _ _ _ (by omega) (by omega) (by omega)).mono ?_; rintro e w' ⟨rfl, rfl⟩)
      go_ret
      exact ⟨rfl, rfl⟩
    | true =>
      have z2 : moreZ s (↑i + 2) 128 191 = true := m2
      cases m3 : moreB s (i + 3) 128 191 with
      | false =>
        have z3 : moreZ s (↑i + 3) 128 191 = false := m3
        have W0 : widthS s i = 0 := by rw [W, m3]; simp
        rw [W0]
        clear W W0 m1 m2 m3
        go_enter Tryd.func9, Tryd.ntmps9
        go_wp2_with (go_at_call 11; refine (more_any s _ _ _ _ (by omega) (by omega) (by omega)).mono ?_; rintro e w' ⟨rfl, rfl⟩)
        go_ret
        exact ⟨rfl, rfl⟩
      | true =>
        have z3 : moreZ s (↑i + 3) 128 191 = true := m3
        have W0 : widthS s i = 4 := by rw [W, m1, m2, m3]; rfl
        rw [W0]
        clear W W0 m1 m2 m3
        go_enter Tryd.func9, Tryd.ntmps9
        go_wp2_with (go_at_call 11; refine (more_any s _ _ _ _ (by omega) (by omega) (by omega)).mono ?_; rintro e w' ⟨rfl, rfl⟩)
        go_ret
        exact ⟨rfl, rfl⟩
set_option maxRecDepth 100000 in
set_option maxHeartbeats 1000000 in
theorem width_E1 (s : ByteArray) (i : Nat) (w : World) (hs : s.size ≤ 1073741824) (hi : i < s.size) (c : UInt8) (hc : s[i] = c) (h : 224 < (c.toNat : Int)) (h' : (c.toNat : Int) < 240) (hn : (c.toNat : Int) ≠ 237) : WidthGoal s i w := by
  have W := @ws_E1 s i hi (by rw [get_lt s i hi, hc]; omega) (by rw [get_lt s i hi, hc]; omega) (by rw [get_lt s i hi, hc]; omega)
  unfold WidthGoal
  have ql128 : decide ((c.toNat : Int) < 128) = false := decide_eq_false (by omega)
  have ql194 : decide ((c.toNat : Int) < 194) = false := decide_eq_false (by omega)
  have qg244 : decide (244 < (c.toNat : Int)) = false := decide_eq_false (by omega)
  have ql224 : decide ((c.toNat : Int) < 224) = false := decide_eq_false (by omega)
  have qe224 : ((c.toNat : Int) == 224) = false := beq_eq_false_iff_ne.2 (by omega)
  have qe237 : ((c.toNat : Int) == 237) = false := beq_eq_false_iff_ne.2 (by omega)
  have qe240 : ((c.toNat : Int) == 240) = false := beq_eq_false_iff_ne.2 (by omega)
  have qe244 : ((c.toNat : Int) == 244) = false := beq_eq_false_iff_ne.2 (by omega)
  have ql240 : decide ((c.toNat : Int) < 240) = true := decide_eq_true (by omega)
  clear h
  clear h'
  clear hn
  cases m1 : moreB s (i + 1) 128 191 with
  | false =>
    have z1 : moreZ s (↑i + 1) 128 191 = false := m1
    have W0 : widthS s i = 0 := by rw [W, m1]; simp
    rw [W0]
    clear W W0 m1
    go_enter Tryd.func9, Tryd.ntmps9
    go_wp2_with (go_at_call 11; refine (more_any s _ _ _ _ (by omega) (by omega) (by omega)).mono ?_; rintro e w' ⟨rfl, rfl⟩)
    go_ret
    exact ⟨rfl, rfl⟩
  | true =>
    have z1 : moreZ s (↑i + 1) 128 191 = true := m1
    cases m2 : moreB s (i + 2) 128 191 with
    | false =>
      have z2 : moreZ s (↑i + 2) 128 191 = false := m2
      have W0 : widthS s i = 0 := by rw [W, m2]; simp
      rw [W0]
      clear W W0 m1 m2
      go_enter Tryd.func9, Tryd.ntmps9
      go_wp2_with (go_at_call 11; refine (more_any s _ _ _ _ (by omega) (by omega) (by omega)).mono ?_; rintro e w' ⟨rfl, rfl⟩)
      go_ret
      exact ⟨rfl, rfl⟩
    | true =>
      have z2 : moreZ s (↑i + 2) 128 191 = true := m2
      have W0 : widthS s i = 3 := by rw [W, m1, m2]; rfl
      rw [W0]
      clear W W0 m1 m2
      go_enter Tryd.func9, Tryd.ntmps9
      go_wp2_with (go_at_call 11; refine (more_any s _ _ _ _ (by omega) (by omega) (by omega)).mono ?_; rintro e w' ⟨rfl, rfl⟩)
      go_ret
      exact ⟨rfl, rfl⟩
set_option maxRecDepth 100000 in
set_option maxHeartbeats 1000000 in
theorem width_F1 (s : ByteArray) (i : Nat) (w : World) (hs : s.size ≤ 1073741824) (hi : i < s.size) (c : UInt8) (hc : s[i] = c) (h : 240 < (c.toNat : Int)) (h' : (c.toNat : Int) < 244) : WidthGoal s i w := by
  have W := @ws_F1 s i hi (by rw [get_lt s i hi, hc]; omega) (by rw [get_lt s i hi, hc]; omega)
  unfold WidthGoal
  have ql128 : decide ((c.toNat : Int) < 128) = false := decide_eq_false (by omega)
  have ql194 : decide ((c.toNat : Int) < 194) = false := decide_eq_false (by omega)
  have qg244 : decide (244 < (c.toNat : Int)) = false := decide_eq_false (by omega)
  have ql224 : decide ((c.toNat : Int) < 224) = false := decide_eq_false (by omega)
  have qe224 : ((c.toNat : Int) == 224) = false := beq_eq_false_iff_ne.2 (by omega)
  have qe237 : ((c.toNat : Int) == 237) = false := beq_eq_false_iff_ne.2 (by omega)
  have qe240 : ((c.toNat : Int) == 240) = false := beq_eq_false_iff_ne.2 (by omega)
  have qe244 : ((c.toNat : Int) == 244) = false := beq_eq_false_iff_ne.2 (by omega)
  have ql240 : decide ((c.toNat : Int) < 240) = false := decide_eq_false (by omega)
  clear h
  clear h'
  cases m1 : moreB s (i + 1) 128 191 with
  | false =>
    have z1 : moreZ s (↑i + 1) 128 191 = false := m1
    have W0 : widthS s i = 0 := by rw [W, m1]; simp
    rw [W0]
    clear W W0 m1
    go_enter Tryd.func9, Tryd.ntmps9
    go_wp2_with (go_at_call 11; refine (more_any s _ _ _ _ (by omega) (by omega) (by omega)).mono ?_; rintro e w' ⟨rfl, rfl⟩)
    go_ret
    exact ⟨rfl, rfl⟩
  | true =>
    have z1 : moreZ s (↑i + 1) 128 191 = true := m1
    cases m2 : moreB s (i + 2) 128 191 with
    | false =>
      have z2 : moreZ s (↑i + 2) 128 191 = false := m2
      have W0 : widthS s i = 0 := by rw [W, m2]; simp
      rw [W0]
      clear W W0 m1 m2
      go_enter Tryd.func9, Tryd.ntmps9
      go_wp2_with (go_at_call 11; refine (more_any s _ _ _ _ (by omega) (by omega) (by omega)).mono ?_; rintro e w' ⟨rfl, rfl⟩)
      go_ret
      exact ⟨rfl, rfl⟩
    | true =>
      have z2 : moreZ s (↑i + 2) 128 191 = true := m2
      cases m3 : moreB s (i + 3) 128 191 with
      | false =>
        have z3 : moreZ s (↑i + 3) 128 191 = false := m3
        have W0 : widthS s i = 0 := by rw [W, m3]; simp
        rw [W0]
        clear W W0 m1 m2 m3
        go_enter Tryd.func9, Tryd.ntmps9
        go_wp2_with (go_at_call 11; refine (more_any s _ _ _ _ (by omega) (by omega) (by omega)).mono ?_; rintro e w' ⟨rfl, rfl⟩)
        go_ret
        exact ⟨rfl, rfl⟩
      | true =>
        have z3 : moreZ s (↑i + 3) 128 191 = true := m3
        have W0 : widthS s i = 4 := by rw [W, m1, m2, m3]; rfl
        rw [W0]
        clear W W0 m1 m2 m3
        go_enter Tryd.func9, Tryd.ntmps9
        go_wp2_with (go_at_call 11; refine (more_any s _ _ _ _ (by omega) (by omega) (by omega)).mono ?_; rintro e w' ⟨rfl, rfl⟩)
        go_ret
        exact ⟨rfl, rfl⟩

theorem width_any (s : ByteArray) (i : Nat) (w : World) (hs : s.size ≤ 1073741824) (hi : i < s.size) : WidthGoal s i w := by
  obtain ⟨c, hc⟩ : ∃ c, s[i] = c := ⟨_, rfl⟩
  have hb : c.toNat < 256 := UInt8.toNat_lt _
  by_cases a : (c.toNat : Int) < 128
  · exact width_ascii s i w hi c hc a
  by_cases b : (c.toNat : Int) < 194
  · exact width_low s i w hi c hc (by omega) b
  by_cases d : 244 < (c.toNat : Int)
  · exact width_high s i w hi c hc d
  by_cases g : (c.toNat : Int) < 224
  · exact width_two s i w hs hi c hc (by omega) g
  by_cases e0 : (c.toNat : Int) = 224
  · exact width_E0 s i w hs hi c hc e0
  by_cases ed : (c.toNat : Int) = 237
  · exact width_ED s i w hs hi c hc ed
  by_cases e1 : (c.toNat : Int) < 240
  · exact width_E1 s i w hs hi c hc (by omega) e1 ed
  by_cases f0 : (c.toNat : Int) = 240
  · exact width_F0 s i w hs hi c hc f0
  by_cases f4 : (c.toNat : Int) = 244
  · exact width_F4 s i w hs hi c hc f4
  · exact width_F1 s i w hs hi c hc (by omega) (by omega)
end Go.Proofs.YtebddafnddmgjaaDoor.dec
