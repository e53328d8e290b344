/-
  Texts put together: Rbb, Width, Marks, Ref, RefLists, RefOper, Rbc, Utf, Shown, BackFacts, BackBase, RefEscA, RefEscB, RefEscC.
-/
import Derived.Test.YtjbamlmdeopcaaaGreatDoorPa5
import Derived.Test.YtjbamlmdeopcaaaGreatDoorPa4
import Derived.Lib.Hide
import Derived.Lib.Strings
import Derived.Test.YtjbamlmdeopcaaaGreatDoorPa2
import Derived.Test.YtjbamlmdeopcaaaGreatDoorPa3
import Derived.Laws.Bits128
import Derived.RegionTactic
import Derived.IntWalk
import Derived.Deep.RegionHeld3
section
/-
  The reference's quoted.
-/
namespace Go.Proofs.YtjbamlmdeopcaaaGreatDoor.lx
open Go.RowKit Go.Proofs.YtjbamlmdeopcaaaGreatDoor.tok

set_option maxRecDepth 100000 in
set_option maxHeartbeats 2000000 in
theorem refQuoted_any (s : ByteArray) (i : Nat) (q : UInt8) (w : World) (hs : s.size ≤ 4194304) (h1 : i < s.size) (hq : s[i] = q) (hq10 : q ≠ 10) :
    Calls Tryz.prog 72 #[.string s, .int .i64 (i : Int)] w (LitPost (i + 1 + (lit q (s.data.toList.drop (i + 1))).1) (lit q (s.data.toList.drop (i + 1))).2 w) := by
  have hix0 : ∀ u : World, (Instr.index 9 (.string s) (.int .i64 (i : Int))).run Tryz.prog u = .ok (.int .u8 (q.toNat : Int)) u := fun u => by rw [← hq]; exact index_at s _ i rfl h1 u
  obtain ⟨N, b, hN⟩ : ∃ N b, i + 1 + (lit q (s.data.toList.drop (i + 1))).1 = N ∧ (lit q (s.data.toList.drop (i + 1))).2 = b := ⟨_, _, rfl, rfl⟩
  rw [hN.1, hN.2]
  have HN := Lib.hid hN
  clear hN hq
  go_enter Tryz.func72, Tryz.ntmps72
  go_wp2
  go_loop [1] (fun p => ∃ k : Nat, i + 1 ≤ k ∧ k ≤ s.size ∧ p = .int .i64 k ∧ N = k + (lit q (s.data.toList.drop k)).1 ∧ b = (lit q (s.data.toList.drop k)).2) (fun p => s.size - (intOf p).toNat)
  case atStart => exact ⟨i + 1, Nat.le_refl _, h1, by go_num, HN.out.1.symm, HN.out.2.symm⟩
  case round =>
    obtain ⟨k, hk1, hk2, rfl, hN1, hN2⟩ := hrel
    have HP := Lib.hid (And.intro hN1 hN2)
    clear hN1 hN2 HN hix0
    by_cases hlt : k < s.size
    · obtain ⟨c, hc⟩ : ∃ c, s[k]'hlt = c := ⟨_, rfl⟩
      have hix : ∀ u : World, (Instr.index 9 (.string s) (.int .i64 (k : Int))).run Tryz.prog u = .ok (.int .u8 (c.toNat : Int)) u := fun u => by rw [← hc]; exact index_at s _ k rfl hlt u
      have hd : decide ((k : Int) < (s.size : Int)) = true := decide_eq_true (by omega)
      have HD : Hid (s.data.toList.drop k = c :: s.data.toList.drop (k + 1)) := Lib.hid (by rw [← hc]; exact List.drop_eq_getElem_cons (by rw [sdata]; exact hlt))
      rw [HD.out] at HP
      clear hc
      by_cases c10 : c = 10
      · have b10 : ((c.toNat : Int) != 10) = false := byte_eq' (d := 10) c10
        rw [lit_feed1 (by rw [c10]; exact fun e => hq10 e.symm) c10] at HP
        clear c10
        go_wp2_with fail
        try rw [Exit.noGoto_ret]
        go_ret2
        exact ⟨by rw [HP.out.1, HP.out.2]; simp, rfl⟩
      have b10 : ((c.toNat : Int) != 10) = true := byte_ne' (d := 10) c10
      by_cases cq : c = q
      · have bq : ((c.toNat : Int) == (q.toNat : Int)) = true := byte_eq cq
        have HF := Lib.hid (And.intro HP.out.1 HP.out.2)
        rw [lit_quote cq] at HF
        clear cq HP c10
        go_wp2_with fail
        try rw [Exit.noGoto_ret]
        go_ret2
        exact ⟨by rw [HF.out.1, HF.out.2]; simp, rfl⟩
      have bq : ((c.toNat : Int) == (q.toNat : Int)) = false := byte_ne cq
      by_cases c92 : c = 92
      · have b92 : ((c.toNat : Int) == 92) = true := byte_eq (d := 92) c92
        by_cases hl2 : k + 1 < s.size
        · obtain ⟨d, hd2⟩ : ∃ d, s[k + 1]'hl2 = d := ⟨_, rfl⟩
          have hix2 : ∀ u : World, (Instr.index 9 (.string s) (.int .i64 ((k : Int) + 1))).run Tryz.prog u = .ok (.int .u8 (d.toNat : Int)) u := fun u => by rw [← hd2]; exact index_at s _ (k + 1) (by omega) hl2 u
          have he : decide ((k : Int) + 1 < (s.size : Int)) = true := decide_eq_true (by omega)
          have HD2 : Hid (s.data.toList.drop (k + 1) = d :: s.data.toList.drop (k + 2)) := Lib.hid (by rw [← hd2]; exact List.drop_eq_getElem_cons (by rw [sdata]; exact hl2))
          rw [HD2.out] at HP
          clear hd2
          by_cases d10 : d = 10
          · have bd : ((d.toNat : Int) != 10) = false := byte_eq' (d := 10) d10
            rw [lit_esc_feed cq c10 c92 d10] at HP
            have HZ : Hid (lit q (s.data.toList.drop (k + 1)) = (0, false)) := Lib.hid (by rw [HD2.out]; exact lit_feed1 (by rw [d10]; exact fun e => hq10 e.symm) d10)
            clear cq c10 c92 d10
            go_wp2_with fail
            go_round
            case rel => exact ⟨k + 1, by omega, by omega, by go_num, by rw [HZ.out, HP.out.1]; rfl, by rw [HZ.out, HP.out.2]⟩
            case measure => simp [intOf]; omega
          · have bd : ((d.toNat : Int) != 10) = true := byte_ne' (d := 10) d10
            rw [lit_esc cq c10 c92 d10] at HP
            clear cq c10 c92 d10
            go_wp2_with fail
            go_round
            case rel => exact ⟨k + 2, by omega, by omega, by go_num, by rw [HP.out.1]; simp only; omega, HP.out.2⟩
            case measure => simp [intOf]; omega
        · have he : decide ((k : Int) + 1 < (s.size : Int)) = false := decide_eq_false (by omega)
          have HD2 : Hid (s.data.toList.drop (k + 1) = []) := Lib.hid (List.drop_of_length_le (by rw [sdata]; omega))
          rw [HD2.out, lit_esc_end cq c10] at HP
          clear cq c10 c92
          go_wp2_with fail
          go_round
          case rel => exact ⟨k + 1, by omega, by omega, by go_num, by rw [HD2.out, lit_end, HP.out.1]; rfl, by rw [HD2.out, lit_end, HP.out.2]⟩
          case measure => simp [intOf]; omega
      · have b92 : ((c.toNat : Int) == 92) = false := byte_ne (d := 92) c92
        rw [lit_other cq c10 c92] at HP
        clear cq c10 c92
        go_wp2_with fail
        go_round
        case rel => exact ⟨k + 1, by omega, by omega, by go_num, by rw [HP.out.1]; simp only; omega, HP.out.2⟩
        case measure => simp [intOf]; omega
    · have hd : decide ((k : Int) < (s.size : Int)) = false := decide_eq_false (by omega)
      have HD2 : Hid (s.data.toList.drop k = []) := Lib.hid (List.drop_of_length_le (by rw [sdata]; omega))
      rw [HD2.out, lit_end] at HP
      go_wp2_with fail
      try rw [Exit.noGoto_ret]
      go_ret2
      exact ⟨by rw [HP.out.1, HP.out.2]; simp; try omega, rfl⟩
end Go.Proofs.YtjbamlmdeopcaaaGreatDoor.lx
end

section
/-
  The contract of the reference's Width, a class of lead bytes at a time.
-/
namespace Go.Proofs.YtjbamlmdeopcaaaGreatDoor.dec
open Go.RowKit Go.Lib

theorem ret_nat {k : IntKind} {b : Nat} (n : Nat) (h : b = n) : Ending.returned (.int k (n : Int)) = .returned (.int k (b : Int)) := by rw [h]


def WidthGoal (s : ByteArray) (i : Nat) (w : World) : Prop :=
  Calls Tryz.prog 76 #[.string s, .int .i64 i] w fun e w' => e = .returned (.int .i64 (widthS s i)) ∧ w = w'

set_option maxHeartbeats 1000000 in
theorem width_ascii (s : ByteArray) (i : Nat) (w : World) (hi : i < s.size) (c : UInt8) (hc : s[i] = c) (h : (c.toNat : Int) < 128) : WidthGoal s i w := by
  have W := @ws_ascii s i (by rw [get_lt s i hi, hc]; omega)
  unfold WidthGoal
  rw [W]
  clear W
  have ql128 : decide ((c.toNat : Int) < 128) = true := decide_eq_true (by omega)
  clear h
  go_enter Tryz.func76, Tryz.ntmps76
  go_wp2_with fail
  go_ret
  exact ⟨rfl, rfl⟩
set_option maxHeartbeats 1000000 in
theorem width_low (s : ByteArray) (i : Nat) (w : World) (hi : i < s.size) (c : UInt8) (hc : s[i] = c) (h : 128 ≤ (c.toNat : Int)) (h' : (c.toNat : Int) < 194) : WidthGoal s i w := by
  have W := @ws_bad s i (by rw [get_lt s i hi, hc]; omega) (by rw [get_lt s i hi, hc]; omega)
  unfold WidthGoal
  rw [W]
  clear W
  have ql128 : decide ((c.toNat : Int) < 128) = false := decide_eq_false (by omega)
  have ql194 : decide ((c.toNat : Int) < 194) = true := decide_eq_true (by omega)
  clear h
  clear h'
  go_enter Tryz.func76, Tryz.ntmps76
  go_wp2_with fail
  go_ret
  exact ⟨rfl, rfl⟩
set_option maxHeartbeats 1000000 in
theorem width_high (s : ByteArray) (i : Nat) (w : World) (hi : i < s.size) (c : UInt8) (hc : s[i] = c) (h : 244 < (c.toNat : Int)) : WidthGoal s i w := by
  have W := @ws_bad s i (by rw [get_lt s i hi, hc]; omega) (by rw [get_lt s i hi, hc]; omega)
  unfold WidthGoal
  rw [W]
  clear W
  have ql128 : decide ((c.toNat : Int) < 128) = false := decide_eq_false (by omega)
  have ql194 : decide ((c.toNat : Int) < 194) = false := decide_eq_false (by omega)
  have qg244 : decide (244 < (c.toNat : Int)) = true := decide_eq_true (by omega)
  clear h
  go_enter Tryz.func76, Tryz.ntmps76
  go_wp2_with fail
  go_ret
  exact ⟨rfl, rfl⟩
set_option maxRecDepth 100000 in
set_option maxHeartbeats 1000000 in
theorem width_two (s : ByteArray) (i : Nat) (w : World) (hs : s.size ≤ 1073741824) (hi : i < s.size) (c : UInt8) (hc : s[i] = c) (h : 194 ≤ (c.toNat : Int)) (h' : (c.toNat : Int) < 224) : WidthGoal s i w := by
  have W := @ws_two s i hi (by rw [get_lt s i hi, hc]; omega) (by rw [get_lt s i hi, hc]; omega)
  unfold WidthGoal
  have ql128 : decide ((c.toNat : Int) < 128) = false := decide_eq_false (by omega)
  have ql194 : decide ((c.toNat : Int) < 194) = false := decide_eq_false (by omega)
  have qg244 : decide (244 < (c.toNat : Int)) = false := decide_eq_false (by omega)
  have ql224 : decide ((c.toNat : Int) < 224) = true := decide_eq_true (by omega)
  clear h
  clear h'
  cases m1 : moreB s (i + 1) 128 191 with
  | false =>
    have z1 : moreZ s (↑i + 1) 128 191 = false := m1
    have W0 : widthS s i = 0 := by rw [W, m1]; simp
    rw [W0]
    clear W W0 m1
    go_enter Tryz.func76, Tryz.ntmps76
    go_wp2_with (go_at_call 93; refine (more_any s _ _ _ _ (by omega) (by omega) (by omega)).mono ?_; rintro e w' ⟨rfl, rfl⟩)
    go_ret
    exact ⟨rfl, rfl⟩
  | true =>
    have z1 : moreZ s (↑i + 1) 128 191 = true := m1
    have W0 : widthS s i = 2 := by rw [W, m1]; rfl
    rw [W0]
    clear W W0 m1
    go_enter Tryz.func76, Tryz.ntmps76
    go_wp2_with (go_at_call 93; refine (more_any s _ _ _ _ (by omega) (by omega) (by omega)).mono ?_; rintro e w' ⟨rfl, rfl⟩)
    go_ret
    exact ⟨rfl, rfl⟩
set_option maxRecDepth 100000 in
set_option maxHeartbeats 1000000 in
theorem width_E0 (s : ByteArray) (i : Nat) (w : World) (hs : s.size ≤ 1073741824) (hi : i < s.size) (c : UInt8) (hc : s[i] = c) (h : (c.toNat : Int) = 224) : WidthGoal s i w := by
  have W := @ws_E0 s i hi (by rw [get_lt s i hi, hc]; omega)
  unfold WidthGoal
  cases m1 : moreB s (i + 1) 160 191 with
  | false =>
    have z1 : moreZ s (↑i + 1) 160 191 = false := m1
    have W0 : widthS s i = 0 := by rw [W, m1]; simp
    rw [W0]
    clear W W0 m1
    go_enter Tryz.func76, Tryz.ntmps76
    go_wp2_with (go_at_call 93; refine (more_any s _ _ _ _ (by omega) (by omega) (by omega)).mono ?_; rintro e w' ⟨rfl, rfl⟩)
    go_ret
    exact ⟨rfl, rfl⟩
  | true =>
    have z1 : moreZ s (↑i + 1) 160 191 = true := m1
    cases m2 : moreB s (i + 2) 128 191 with
    | false =>
      have z2 : moreZ s (↑i + 2) 128 191 = false := m2
      have W0 : widthS s i = 0 := by rw [W, m2]; simp
      rw [W0]
      clear W W0 m1 m2
      go_enter Tryz.func76, Tryz.ntmps76
      go_wp2_with (go_at_call 93; refine (more_any s _ _ _ _ (by omega) (by omega) (by omega)).mono ?_; rintro e w' ⟨rfl, rfl⟩)
      go_ret
      exact ⟨rfl, rfl⟩
    | true =>
      have z2 : moreZ s (↑i + 2) 128 191 = true := m2
      have W0 : widthS s i = 3 := by rw [W, m1, m2]; rfl
      rw [W0]
      clear W W0 m1 m2
      go_enter Tryz.func76, Tryz.ntmps76
      go_wp2_with (go_at_call 93; refine (more_any s _ _ _ _ (by omega) (by omega) (by omega)).mono ?_; rintro e w' ⟨rfl, rfl⟩)
      go_ret
      exact ⟨rfl, rfl⟩
set_option maxRecDepth 100000 in
set_option maxHeartbeats 1000000 in
theorem width_ED (s : ByteArray) (i : Nat) (w : World) (hs : s.size ≤ 1073741824) (hi : i < s.size) (c : UInt8) (hc : s[i] = c) (h : (c.toNat : Int) = 237) : WidthGoal s i w := by
  have W := @ws_ED s i hi (by rw [get_lt s i hi, hc]; omega)
  unfold WidthGoal
  cases m1 : moreB s (i + 1) 128 159 with
  | false =>
    have z1 : moreZ s (↑i + 1) 128 159 = false := m1
    have W0 : widthS s i = 0 := by rw [W, m1]; simp
    rw [W0]
    clear W W0 m1
    go_enter Tryz.func76, Tryz.ntmps76
    go_wp2_with (go_at_call 93; refine (more_any s _ _ _ _ (by omega) (by omega) (by omega)).mono ?_; rintro e w' ⟨rfl, rfl⟩)
    go_ret
    exact ⟨rfl, rfl⟩
  | true =>
    have z1 : moreZ s (↑i + 1) 128 159 = true := m1
    cases m2 : moreB s (i + 2) 128 191 with
    | false =>
      have z2 : moreZ s (↑i + 2) 128 191 = false := m2
      have W0 : widthS s i = 0 := by rw [W, m2]; simp
      rw [W0]
      clear W W0 m1 m2
      go_enter Tryz.func76, Tryz.ntmps76
      go_wp2_with (go_at_call 93; refine (more_any s _ _ _ _ (by omega) (by omega) (by omega)).mono ?_; rintro e w' ⟨rfl, rfl⟩)
      go_ret
      exact ⟨rfl, rfl⟩
    | true =>
      have z2 : moreZ s (↑i + 2) 128 191 = true := m2
      have W0 : widthS s i = 3 := by rw [W, m1, m2]; rfl
      rw [W0]
      clear W W0 m1 m2
      go_enter Tryz.func76, Tryz.ntmps76
      go_wp2_with (go_at_call 93; refine (more_any s _ _ _ _ (by omega) (by omega) (by omega)).mono ?_; rintro e w' ⟨rfl, rfl⟩)
      go_ret
      exact ⟨rfl, rfl⟩
set_option maxRecDepth 100000 in
set_option maxHeartbeats 1000000 in
theorem width_F0 (s : ByteArray) (i : Nat) (w : World) (hs : s.size ≤ 1073741824) (hi : i < s.size) (c : UInt8) (hc : s[i] = c) (h : (c.toNat : Int) = 240) : WidthGoal s i w := by
  have W := @ws_F0 s i hi (by rw [get_lt s i hi, hc]; omega)
  unfold WidthGoal
  cases m1 : moreB s (i + 1) 144 191 with
  | false =>
    have z1 : moreZ s (↑i + 1) 144 191 = false := m1
    have W0 : widthS s i = 0 := by rw [W, m1]; simp
    rw [W0]
    clear W W0 m1
    go_enter Tryz.func76, Tryz.ntmps76
    go_wp2_with (go_at_call 93; refine (more_any s _ _ _ _ (by omega) (by omega) (by omega)).mono ?_; rintro e w' ⟨rfl, rfl⟩)
    go_ret
    exact ⟨rfl, rfl⟩
  | true =>
    have z1 : moreZ s (↑i + 1) 144 191 = true := m1
    cases m2 : moreB s (i + 2) 128 191 with
    | false =>
      have z2 : moreZ s (↑i + 2) 128 191 = false := m2
      have W0 : widthS s i = 0 := by rw [W, m2]; simp
      rw [W0]
      clear W W0 m1 m2
      go_enter Tryz.func76, Tryz.ntmps76
      go_wp2_with (go_at_call 93; refine (more_any s _ _ _ _ (by omega) (by omega) (by omega)).mono ?_; rintro e w' ⟨rfl, rfl⟩)
      go_ret
      exact ⟨rfl, rfl⟩
    | true =>
      have z2 : moreZ s (↑i + 2) 128 191 = true := m2
      cases m3 : moreB s (i + 3) 128 191 with
      | false =>
        have z3 : moreZ s (↑i + 3) 128 191 = false := m3
        have W0 : widthS s i = 0 := by rw [W, m3]; simp
        rw [W0]
        clear W W0 m1 m2 m3
        go_enter Tryz.func76, Tryz.ntmps76
        go_wp2_with (go_at_call 93; refine (more_any s _ _ _ _ (by omega) (by omega) (by omega)).mono ?_; rintro e w' ⟨rfl, rfl⟩)
        go_ret
        exact ⟨rfl, rfl⟩
      | true =>
        have z3 : moreZ s (↑i + 3) 128 191 = true := m3
        have W0 : widthS s i = 4 := by rw [W, m1, m2, m3]; rfl
        rw [W0]
        clear W W0 m1 m2 m3
        go_enter Tryz.func76, Tryz.ntmps76
        go_wp2_with (go_at_call 93; refine (more_any s _ _ _ _ (by omega) (by omega) (by omega)).mono ?_; rintro e w' ⟨rfl, rfl⟩)
        go_ret
        exact ⟨rfl, rfl⟩
set_option maxRecDepth 100000 in
set_option maxHeartbeats 1000000 in
theorem width_F4 (s : ByteArray) (i : Nat) (w : World) (hs : s.size ≤ 1073741824) (hi : i < s.size) (c : UInt8) (hc : s[i] = c) (h : (c.toNat : Int) = 244) : WidthGoal s i w := by
  have W := @ws_F4 s i hi (by rw [get_lt s i hi, hc]; omega)
  unfold WidthGoal
  cases m1 : moreB s (i + 1) 128 143 with
  | false =>
    have z1 : moreZ s (↑i + 1) 128 143 = false := m1
    have W0 : widthS s i = 0 := by rw [W, m1]; simp
    rw [W0]
    clear W W0 m1
    go_enter Tryz.func76, Tryz.ntmps76
    go_wp2_with (go_at_call 93; refine (more_any s _ _ _ _ (by omega) (by omega) (by omega)).mono ?_; rintro e w' ⟨rfl, rfl⟩)
    go_ret
    exact ⟨rfl, rfl⟩
  | true =>
    have z1 : moreZ s (↑i + 1) 128 143 = true := m1
    cases m2 : moreB s (i + 2) 128 191 with
    | false =>
      have z2 : moreZ s (↑i + 2) 128 191 = false := m2
      have W0 : widthS s i = 0 := by rw [W, m2]; simp
      rw [W0]
      clear W W0 m1 m2
      go_enter Tryz.func76, Tryz.ntmps76
      go_wp2_with (go_at_call 93; refine (more_any s _ _ _ _ (by omega) (by omega) (by omega)).mono ?_; rintro e w' ⟨rfl, rfl⟩)
      go_ret
      exact ⟨rfl, rfl⟩
    | true =>
      have z2 : moreZ s (↑i + 2) 128 191 = true := m2
      cases m3 : moreB s (i + 3) 128 191 with
      | false =>
        have z3 : moreZ s (↑i + 3) 128 191 = false := m3
        have W0 : widthS s i = 0 := by rw [W, m3]; simp
        rw [W0]
        clear W W0 m1 m2 m3
        go_enter Tryz.func76, Tryz.ntmps76
        go_wp2_with (go_at_call 93; refine (more_any s _ _ _ _ (by omega) (by omega) (by omega)).mono ?_; rintro e w' ⟨rfl, rfl⟩)
        go_ret
        exact ⟨rfl, rfl⟩
      | true =>
        have z3 : moreZ s (↑i + 3) 128 191 = true := m3
        have W0 : widthS s i = 4 := by rw [W, m1, m2, m3]; rfl
        rw [W0]
        clear W W0 m1 m2 m3
        go_enter Tryz.func76, Tryz.ntmps76
        go_wp2_with (go_at_call 93; refine (more_any s _ _ _ _ (by omega) (by omega) (by omega)).mono ?_; rintro e w' ⟨rfl, rfl⟩)
        go_ret
        exact ⟨rfl, rfl⟩
set_option maxRecDepth 100000 in
set_option maxHeartbeats 1000000 in
theorem width_E1 (s : ByteArray) (i : Nat) (w : World) (hs : s.size ≤ 1073741824) (hi : i < s.size) (c : UInt8) (hc : s[i] = c) (h : 224 < (c.toNat : Int)) (h' : (c.toNat : Int) < 240) (hn : (c.toNat : Int) ≠ 237) : WidthGoal s i w := by
  have W := @ws_E1 s i hi (by rw [get_lt s i hi, hc]; omega) (by rw [get_lt s i hi, hc]; omega) (by rw [get_lt s i hi, hc]; omega)
  unfold WidthGoal
  have ql128 : decide ((c.toNat : Int) < 128) = false := decide_eq_false (by omega)
  have ql194 : decide ((c.toNat : Int) < 194) = false := decide_eq_false (by omega)
  have qg244 : decide (244 < (c.toNat : Int)) = false := decide_eq_false (by omega)
  have ql224 : decide ((c.toNat : Int) < 224) = false := decide_eq_false (by omega)
  have qe224 : ((c.toNat : Int) == 224) = false := beq_eq_false_iff_ne.2 (by omega)
  have qe237 : ((c.toNat : Int) == 237) = false := beq_eq_false_iff_ne.2 (by omega)
  have qe240 : ((c.toNat : Int) == 240) = false := beq_eq_false_iff_ne.2 (by omega)
  have qe244 : ((c.toNat : Int) == 244) = false := beq_eq_false_iff_ne.2 (by omega)
  have ql240 : decide ((c.toNat : Int) < 240) = true := decide_eq_true (by omega)
  clear h
  clear h'
  clear hn
  cases m1 : moreB s (i + 1) 128 191 with
  | false =>
    have z1 : moreZ s (↑i + 1) 128 191 = false := m1
    have W0 : widthS s i = 0 := by rw [W, m1]; simp
    rw [W0]
    clear W W0 m1
    go_enter Tryz.func76, Tryz.ntmps76
    go_wp2_with (go_at_call 93; refine (more_any s _ _ _ _ (by omega) (by omega) (by omega)).mono ?_; rintro e w' ⟨rfl, rfl⟩)
    go_ret
    exact ⟨rfl, rfl⟩
  | true =>
    have z1 : moreZ s (↑i + 1) 128 191 = true := m1
    cases m2 : moreB s (i + 2) 128 191 with
    | false =>
      have z2 : moreZ s (↑i + 2) 128 191 = false := m2
      have W0 : widthS s i = 0 := by rw [W, m2]; simp
      rw [W0]
      clear W W0 m1 m2
      go_enter Tryz.func76, Tryz.ntmps76
      go_wp2_with (go_at_call 93; refine (more_any s _ _ _ _ (by omega) (by omega) (by omega)).mono ?_; rintro e w' ⟨rfl, rfl⟩)
      go_ret
      exact ⟨rfl, rfl⟩
    | true =>
      have z2 : moreZ s (↑i + 2) 128 191 = true := m2
      have W0 : widthS s i = 3 := by rw [W, m1, m2]; rfl
      rw [W0]
      clear W W0 m1 m2
      go_enter Tryz.func76, Tryz.ntmps76
      go_wp2_with (go_at_call 93; refine (more_any s _ _ _ _ (by omega) (by omega) (by omega)).mono ?_; rintro e w' ⟨rfl, rfl⟩)
      go_ret
      exact ⟨rfl, rfl⟩
set_option maxRecDepth 100000 in
set_option maxHeartbeats 1000000 in
theorem width_F1 (s : ByteArray) (i : Nat) (w : World) (hs : s.size ≤ 1073741824) (hi : i < s.size) (c : UInt8) (hc : s[i] = c) (h : 240 < (c.toNat : Int)) (h' : (c.toNat : Int) < 244) : WidthGoal s i w := by
  have W := @ws_F1 s i hi (by rw [get_lt s i hi, hc]; omega) (by rw [get_lt s i hi, hc]; omega)
  unfold WidthGoal
  have ql128 : decide ((c.toNat : Int) < 128) = false := decide_eq_false (by omega)
  have ql194 : decide ((c.toNat : Int) < 194) = false := decide_eq_false (by omega)
  have qg244 : decide (244 < (c.toNat : Int)) = false := decide_eq_false (by omega)
  have ql224 : decide ((c.toNat : Int) < 224) = false := decide_eq_false (by omega)
  have qe224 : ((c.toNat : Int) == 224) = false := beq_eq_false_iff_ne.2 (by omega)
  have qe237 : ((c.toNat : Int) == 237) = false := beq_eq_false_iff_ne.2 (by omega)
  have qe240 : ((c.toNat : Int) == 240) = false := beq_eq_false_iff_ne.2 (by omega)
  have qe244 : ((c.toNat : Int) == 244) = false := beq_eq_false_iff_ne.2 (by omega)
  have ql240 : decide ((c.toNat : Int) < 240) = false := decide_eq_false (by omega)
  clear h
  clear h'
  cases m1 : moreB s (i + 1) 128 191 with
  | false =>
    have z1 : moreZ s (↑i + 1) 128 191 = false := m1
    have W0 : widthS s i = 0 := by rw [W, m1]; simp
    rw [W0]
    clear W W0 m1
    go_enter Tryz.func76, Tryz.ntmps76
    go_wp2_with (go_at_call 93; refine (more_any s _ _ _ _ (by omega) (by omega) (by omega)).mono ?_; rintro e w' ⟨rfl, rfl⟩)
    go_ret
    exact ⟨rfl, rfl⟩
  | true =>
    have z1 : moreZ s (↑i + 1) 128 191 = true := m1
    cases m2 : moreB s (i + 2) 128 191 with
    | false =>
      have z2 : moreZ s (↑i + 2) 128 191 = false := m2
      have W0 : widthS s i = 0 := by rw [W, m2]; simp
      rw [W0]
      clear W W0 m1 m2
      go_enter Tryz.func76, Tryz.ntmps76
      go_wp2_with (go_at_call 93; refine (more_any s _ _ _ _ (by omega) (by omega) (by omega)).mono ?_; rintro e w' ⟨rfl, rfl⟩)
      go_ret
      exact ⟨rfl, rfl⟩
    | true =>
      have z2 : moreZ s (↑i + 2) 128 191 = true := m2
      cases m3 : moreB s (i + 3) 128 191 with
      | false =>
        have z3 : moreZ s (↑i + 3) 128 191 = false := m3
        have W0 : widthS s i = 0 := by rw [W, m3]; simp
        rw [W0]
        clear W W0 m1 m2 m3
        go_enter Tryz.func76, Tryz.ntmps76
        go_wp2_with (go_at_call 93; refine (more_any s _ _ _ _ (by omega) (by omega) (by omega)).mono ?_; rintro e w' ⟨rfl, rfl⟩)
        go_ret
        exact ⟨rfl, rfl⟩
      | true =>
        have z3 : moreZ s (↑i + 3) 128 191 = true := m3
        have W0 : widthS s i = 4 := by rw [W, m1, m2, m3]; rfl
        rw [W0]
        clear W W0 m1 m2 m3
        go_enter Tryz.func76, Tryz.ntmps76
        go_wp2_with (go_at_call 93; refine (more_any s _ _ _ _ (by omega) (by omega) (by omega)).mono ?_; rintro e w' ⟨rfl, rfl⟩)
        go_ret
        exact ⟨rfl, rfl⟩

theorem width_any (s : ByteArray) (i : Nat) (w : World) (hs : s.size ≤ 1073741824) (hi : i < s.size) : WidthGoal s i w := by
  obtain ⟨c, hc⟩ : ∃ c, s[i] = c := ⟨_, rfl⟩
  have hb : c.toNat < 256 := UInt8.toNat_lt _
  by_cases a : (c.toNat : Int) < 128
  · exact width_ascii s i w hi c hc a
  by_cases b : (c.toNat : Int) < 194
  · exact width_low s i w hi c hc (by omega) b
  by_cases d : 244 < (c.toNat : Int)
  · exact width_high s i w hi c hc d
  by_cases g : (c.toNat : Int) < 224
  · exact width_two s i w hs hi c hc (by omega) g
  by_cases e0 : (c.toNat : Int) = 224
  · exact width_E0 s i w hs hi c hc e0
  by_cases ed : (c.toNat : Int) = 237
  · exact width_ED s i w hs hi c hc ed
  by_cases e1 : (c.toNat : Int) < 240
  · exact width_E1 s i w hs hi c hc (by omega) e1 ed
  by_cases f0 : (c.toNat : Int) = 240
  · exact width_F0 s i w hs hi c hc f0
  by_cases f4 : (c.toNat : Int) = 244
  · exact width_F4 s i w hs hi c hc f4
  · exact width_F1 s i w hs hi c hc (by omega) (by omega)
end Go.Proofs.YtjbamlmdeopcaaaGreatDoor.dec
end

section
/-
  Plain: which code a place has, by its bytes.
-/
namespace Go.Proofs.YtjbamlmdeopcaaaGreatDoor.dec
open Go.RowKit Go.Lib

theorem three_bytes (s : ByteArray) (i : Nat) (h : i + 2 < s.size) : (s.extract i (i + 3)).toList = [s.get! i, s.get! (i + 1), s.get! (i + 2)] := by
  rw [Lib.toList_data, extract_data, get_lt s i (by omega), get_lt s (i + 1) (by omega), get_lt s (i + 2) (by omega)]
  have hl : s.data.toList.length = s.size := by rw [Array.length_toList]; rfl
  rw [show i + 3 - i = 3 by omega, List.drop_eq_getElem_cons (by omega), List.take_succ_cons, List.drop_eq_getElem_cons (by omega), List.take_succ_cons, List.drop_eq_getElem_cons (by omega), List.take_succ_cons, List.take_zero]
  rfl
theorem wide_mark {s : ByteArray} {i : Nat} (h : runeAt s i = 65279) : wideAt s i = 3 := by
  obtain ⟨a, b, c, d⟩ := mark_iff.1 h
  unfold wideAt
  rw [decode_bytes, b, c, d]
  unfold decodeN
  rw [if_neg (by omega), if_neg (by omega), if_pos (by omega), if_pos (by omega)]
theorem mark_yes {s : ByteArray} {i : Nat} (hw : widthS s i ≠ 0) (h : runeAt s i = 65279) : ((s.extract i (i + widthS s i)).toList == [239, 187, 191]) = true := by
  have hwd := wide_mark h
  obtain ⟨a, b, c, d⟩ := mark_iff.1 h
  rw [← (wide_good hw).1, hwd, three_bytes s i (by omega)]
  rw [beq_iff_eq]
  have e1 : s.get! i = 239 := UInt8.toNat_inj.1 b
  have e2 : s.get! (i + 1) = 187 := UInt8.toNat_inj.1 c
  have e3 : s.get! (i + 2) = 191 := UInt8.toNat_inj.1 d
  rw [e1, e2, e3]
theorem mark_no {s : ByteArray} {i : Nat} (hi : i < s.size) (hw : widthS s i ≠ 0) (h : runeAt s i ≠ 65279) : ((s.extract i (i + widthS s i)).toList == [239, 187, 191]) = false := by
  rw [beq_eq_false_iff_ne]
  intro e
  have hle := wide_le s i hi
  rw [(wide_good hw).1] at hle
  have hl : s.data.toList.length = s.size := by rw [Array.length_toList]; rfl
  have hlen : widthS s i = 3 := by
    have := congrArg List.length e
    rw [Lib.toList_data, extract_data] at this
    simp only [List.length_take, List.length_drop, List.length_cons, List.length_nil] at this
    omega
  rw [hlen] at e hle
  rw [three_bytes s i (by omega)] at e
  simp only [List.cons.injEq, and_true] at e
  refine h (mark_iff.2 ⟨by omega, ?_, ?_, ?_⟩)
  · rw [e.1]; rfl
  · rw [e.2.1]; rfl
  · rw [e.2.2]; rfl
theorem code_nul {s : ByteArray} {i : Nat} (hw : widthS s i ≠ 0) (h : (s.get! i).toNat = 0) : codeAt s i = 102 ∧ widthS s i = 1 := by
  have hr := nul_iff.2 h
  have hg := wide_good hw
  refine ⟨?_, ?_⟩
  · unfold codeAt faultZ
    rw [if_neg (by omega), if_pos (by omega)]
  · exact ws_ascii (by omega)
theorem code_mark {s : ByteArray} {i : Nat} (hw : widthS s i ≠ 0) (hi : 0 < i) (h : runeAt s i = 65279) : codeAt s i = 103 ∧ widthS s i = 3 := by
  have hg := wide_good hw
  refine ⟨?_, ?_⟩
  · unfold codeAt faultZ
    rw [if_neg (by omega), if_neg (by omega), if_pos (by omega)]
  · rw [← hg.1]; exact wide_mark h
theorem code_none {s : ByteArray} {i : Nat} (hw : widthS s i ≠ 0) (h0 : (s.get! i).toNat ≠ 0) (h : runeAt s i ≠ 65279 ∨ i = 0) : codeAt s i = 0 := by
  have hg := wide_good hw
  have hr : runeAt s i ≠ 0 := fun e => h0 (nul_iff.1 e)
  unfold codeAt faultZ
  rw [if_neg (by omega), if_neg (by omega), if_neg (by omega)]

/-- what a round's append does to the relation, in the reference's spelling -/
theorem rel_ref {s : ByteArray} {w wr w2 : World} {i : Nat} {D : List Dg} {v v' : Value} {o : Obj} {code : Int} {wide : Nat} (hf : Far s i D) (hi : i < s.size) (hc : codeAt s i = code ∧ wideAt s i = wide) (hne : code ≠ 0)
    (hown : wr.ownsRow w.heap.size 27 3 v D.length (cellsOf D)) (hb : Below w.heap.size w wr)
    (hown2 : w2.ownsRow w.heap.size 27 3 v' (D.length + 1) (cellsOf D ++ [.int .i64 code, .int .i64 i, .int .i64 ((i : Int) + (wide : Int))])) (hg : (wr.alloc o).grownBy w2 v.ownBlock) :
    ∃ D', Far s (i + wide) D' ∧ w2.ownsRow w.heap.size 27 3 v' D'.length (cellsOf D') ∧ Below w.heap.size w w2 := by
  obtain ⟨rfl, rfl⟩ := hc
  exact ⟨_, rel_some hf hi hne hown (fun k hk => (hown.lt k hk).1) hb (Below.refl _ _) hown2 hg⟩
end Go.Proofs.YtjbamlmdeopcaaaGreatDoor.dec
end

section
/-
  The contract of the reference's Check.
-/
namespace Go.Proofs.YtjbamlmdeopcaaaGreatDoor.dec
open Go.RowKit

theorem width_is {s : ByteArray} {i n : Nat} {z : Int} (w : World) (hs : s.size ≤ 1073741824) (hi : i < s.size) (h : widthS s i = n) (hz : z = n) :
    Calls Tryz.prog 76 #[.string s, .int .i64 i] w fun e w' => e = .returned (.int .i64 z) ∧ w = w' := by
  have := width_any s i w hs hi
  unfold WidthGoal at this
  rw [h] at this
  rw [hz]
  exact this

end Go.Proofs.YtjbamlmdeopcaaaGreatDoor.dec
end

section
/-
  The reference's Signs, Keywords, Name, Keyword, Operator.
-/
namespace Go.Proofs.YtjbamlmdeopcaaaGreatDoor.tok
open Go.RowKit

set_option maxRecDepth 100000 in
set_option maxHeartbeats 1000000 in
theorem refSigns_any (w : World) : Calls Tryz.prog 92 #[] w (MadeTexts signs w) := by
  go_enter Tryz.func92, Tryz.ntmps92
  go_wp2_with (go_at_call 88; refine (cut_any _ _ (by decide)).mono ?_; rintro e w1 ⟨v, rfl, ho, hb⟩; have HO := Lib.hid ho; have HB := Lib.hid hb; clear ho hb)
  go_ret
  exact ⟨_, rfl, HO.out, HB.out⟩
set_option maxRecDepth 100000 in
set_option maxHeartbeats 1000000 in
theorem refWords_any (w : World) : Calls Tryz.prog 70 #[] w (MadeTexts words w) := by
  go_enter Tryz.func70, Tryz.ntmps70
  go_wp2_with (go_at_call 88; refine (cut_any _ _ (by decide)).mono ?_; rintro e w1 ⟨v, rfl, ho, hb⟩; have HO := Lib.hid ho; have HB := Lib.hid hb; clear ho hb)
  go_ret
  exact ⟨_, rfl, HO.out, HB.out⟩

set_option maxRecDepth 100000 in
set_option maxHeartbeats 1000000 in
theorem refKeyword_any (s : ByteArray) (w : World) : Calls Tryz.prog 50 #[.string s] w fun e w' => e = .returned (.int .i64 (kwOf s.data.toList)) ∧ Below w.heap.size w w' := by
  go_enter Tryz.func50, Tryz.ntmps50
  go_wp2_with (go_at_call 70; refine (refWords_any _).mono ?_; rintro e w1 ⟨v, rfl, ho, hb⟩; obtain ⟨g, cap, rfl, hcell⟩ := ho.shape (by decide); rw [words_length] at hcell; rw [words_length]; have HC := Lib.hid hcell; have HB := Lib.hid hb; clear ho hb hcell)
  go_loop [7] (fun i => ∃ k : Nat, k ≤ 21 ∧ (∀ j, j < k → words.getD j [] ≠ s.data.toList) ∧ i = .int .i64 k) (fun i => 21 - (intOf i).toNat)
  case atStart => exact ⟨0, by omega, fun j hj => by omega, rfl⟩
  case round =>
    obtain ⟨k, hk, hbef, rfl⟩ := hrel
    have HF := Lib.hid hbef
    clear hbef
    by_cases hlt : k < 21
    · have hcell := HC.out k hlt
      obtain ⟨x, hx⟩ : ∃ x, B (words.getD k []) = x := ⟨_, rfl⟩
      rw [hx] at hcell
      have hxl : x.toList = words.getD k [] := by rw [← hx, blist]
      have HX := Lib.hid hxl
      clear hx hxl
      by_cases he : x.toList = s.toList
      · have he' : (x.toList == s.toList) = true := by simpa using he
        have HE : Hid (words.getD k [] = s.data.toList) := Lib.hid (by rw [← HX.out, he, Lib.toList_data])
        clear he
        go_wp2_with fail
        go_ret
        refine ⟨?_, HB.out⟩
        have := idx_here (l := words) (by rw [words_length]; exact hlt) HE.out HF.out
        unfold kwOf
        rw [this, if_pos hlt]
        rfl
      · have he' : (x.toList == s.toList) = false := by simpa using he
        have HE : Hid (words.getD k [] ≠ s.data.toList) := Lib.hid (by rw [← HX.out, ← Lib.toList_data]; exact he)
        clear he
        go_wp2_with fail
        go_round
        case rel => exact ⟨k + 1, by omega, fun j hj => by by_cases e : j = k; · subst e; exact HE.out
                                                           · exact HF.out j (by omega), by go_num⟩
        case measure => simp [intOf]; omega
    · go_wp2_with fail
      go_ret
      refine ⟨?_, HB.out⟩
      have := idx_none (l := words) (s := s.data.toList) (fun j hj => HF.out j (by rw [words_length] at hj; omega))
      unfold kwOf
      rw [this, words_length, if_neg (by omega)]
      rfl
end Go.Proofs.YtjbamlmdeopcaaaGreatDoor.tok
end

section
/-
  The reference's Operator, Name.
-/
namespace Go.Proofs.YtjbamlmdeopcaaaGreatDoor.tok
open Go.RowKit

theorem semi_yes {s : ByteArray} (h : 0 < s.size) (hc : s[0] = 59) : Lib.hasPrefix s.data.toList [59] = true := by
  have h' : 0 < s.data.toList.length := by rw [sdata]; exact h
  cases hl : s.data.toList with
  | nil => rw [hl] at h'; simp at h'
  | cons a t =>
    have : s.data.toList[0]'h' = 59 := (at_data h).trans hc
    simp only [hl, List.getElem_cons_zero] at this
    subst this
    simp [Lib.hasPrefix]
theorem semi_no {s : ByteArray} (h : ∀ h : 0 < s.size, s[0] ≠ 59) : Lib.hasPrefix s.data.toList [59] = false := by
  cases hl : s.data.toList with
  | nil => rfl
  | cons a t =>
    have h' : 0 < s.size := by rw [← sdata, hl]; simp
    have h2 := h h'
    have : s.data.toList[0]'(by rw [sdata]; exact h') = s[0] := at_data h'
    simp only [hl, List.getElem_cons_zero] at this
    rw [← this] at h2
    show ((59 : UInt8) == a && List.isPrefixOf [] t) = false
    rw [show ((59 : UInt8) == a) = false by simpa using Ne.symm h2]
    rfl
def Pair2 (p q : Nat) (w : World) (e : Ending) (w' : World) : Prop := e = .returned (.tuple #[.int .i64 p, .int .i64 q]) ∧ Below w.heap.size w w'

set_option maxRecDepth 100000 in
set_option maxHeartbeats 2000000 in
theorem refOper_no (s : ByteArray) (w : World) (h0 : ∀ h : 0 < s.size, s[0] ≠ 59) : Calls Tryz.prog 75 #[.string s] w (Pair2 (best s.data.toList 46).1 (best s.data.toList 46).2 w) := by
  by_cases h : 0 < s.size
  · have hd : decide ((0 : Int) < (s.size : Int)) = true := decide_eq_true (by omega)
    have h1 := h0 h
    obtain ⟨c, hc'⟩ : ∃ c, s[0]'h = c := ⟨_, rfl⟩
    rw [hc'] at h1
    have hcz : ((c.toNat : Int) == 59) = false := byte_ne (d := 59) h1
    clear h0 h1
    go_enter Tryz.func75, Tryz.ntmps75
    go_wp2_with (go_at_call 92; refine (refSigns_any _).mono ?_; rintro e w1 ⟨v, rfl, ho, hb⟩; obtain ⟨g, cap, rfl, hcell⟩ := ho.shape (by decide); rw [signs_length] at hcell; rw [signs_length]; have HC := Lib.hid hcell; have HB := Lib.hid hb; clear ho hb hcell)
    go_loop [4, 5, 18] (fun p q i => ∃ k : Nat, k ≤ 46 ∧ p = .int .i64 (best s.data.toList k).1 ∧ q = .int .i64 (best s.data.toList k).2 ∧ i = .int .i64 k) (fun _ _ i => 46 - (intOf i).toNat)
    case atStart => exact ⟨0, by omega, rfl, rfl, rfl⟩
    case round =>
      obtain ⟨k, hk, rfl, rfl, rfl⟩ := hrel
      obtain ⟨hb1, hb2⟩ := best_le s.data.toList k
      by_cases hlt : k < 46
      · have hcell := HC.out k hlt
        have hsh := sign_short k
        obtain ⟨x, hx⟩ : ∃ x, B (signs.getD k []) = x := ⟨_, rfl⟩
        rw [hx] at hcell
        have hxd : x.data.toList = signs.getD k [] := by rw [← hx, bdata]
        have hxs : x.size = (signs.getD k []).length := by rw [← hx, bsize]
        have hraw := Lib.hasPrefix_raw s x
        obtain ⟨n, hn⟩ : ∃ n, x.size = n := ⟨_, rfl⟩
        rw [hn] at hraw
        obtain ⟨p, q, hpq⟩ : ∃ p q, best s.data.toList k = (p, q) := ⟨_, _, rfl⟩
        rw [hpq] at hb1 hb2
        have hn3 : n ≤ 3 := by omega
        have HX := Lib.hid hxd
        have HL : Hid ((signs.getD k []).length = n) := Lib.hid (by omega)
        have HP := Lib.hid hpq
        simp only [] at hb1 hb2
        clear hx hxd hxs hsh
        rw [hpq]
        clear hpq
        by_cases c1 : q < n
        · have d1 : decide ((q : Int) < (n : Int)) = true := decide_eq_true (by omega)
          by_cases c2 : n ≤ s.size
          · have d2 : decide ((n : Int) ≤ (s.size : Int)) = true := decide_eq_true (by omega)
            by_cases c3 : (s.extract 0 n).toList = x.toList
            · have d3 : ((s.extract 0 n).toList == x.toList) = true := by simpa using c3
              have HC3 : Hid (Lib.hasPrefix s.data.toList x.data.toList = true) := Lib.hid (by rw [← hraw, d3, decide_eq_true c2]; rfl)
              clear c3 hraw
              go_wp2_with fail
              go_round
              case rel =>
                have e := best_yes (s := s.data.toList) (k := k) (by rw [HP.out, HL.out]; exact c1) (by rw [← HX.out]; exact HC3.out)
                exact ⟨k + 1, by omega, by rw [e]; show _ = Value.int .i64 ((20 + k : Nat) : Int); go_num, by rw [e]; show _ = Value.int .i64 (((signs.getD k []).length : Nat) : Int); rw [HL.out], by go_num⟩
              case measure => simp [intOf]; omega
            · have d3 : ((s.extract 0 n).toList == x.toList) = false := by simpa using c3
              have HC3 : Hid (Lib.hasPrefix s.data.toList x.data.toList = false) := Lib.hid (by rw [← hraw, d3, Bool.and_false])
              clear c3 hraw
              go_wp2_with fail
              go_round
              case rel =>
                have e := best_no (s := s.data.toList) (k := k) (by rw [← HX.out, HC3.out]; simp)
                exact ⟨k + 1, by omega, by rw [e, HP.out], by rw [e, HP.out], by go_num⟩
              case measure => simp [intOf]; omega
          · have d2 : decide ((n : Int) ≤ (s.size : Int)) = false := decide_eq_false (by omega)
            have HC3 : Hid (Lib.hasPrefix s.data.toList x.data.toList = false) := Lib.hid (by rw [← hraw, decide_eq_false c2]; rfl)
            clear hraw
            go_wp2_with fail
            go_round
            case rel =>
              have e := best_no (s := s.data.toList) (k := k) (by rw [← HX.out, HC3.out]; simp)
              exact ⟨k + 1, by omega, by rw [e, HP.out], by rw [e, HP.out], by go_num⟩
            case measure => simp [intOf]; omega
        · have d1 : decide ((q : Int) < (n : Int)) = false := decide_eq_false (by omega)
          clear hraw
          go_wp2_with fail
          go_round
          case rel =>
            have e := best_no (s := s.data.toList) (k := k) (by rw [HP.out, HL.out]; exact fun h => c1 h.1)
            exact ⟨k + 1, by omega, by rw [e, HP.out], by rw [e, HP.out], by go_num⟩
          case measure => simp [intOf]; omega
      · obtain rfl : k = 46 := by omega
        go_wp2_with fail
        go_ret2
        exact ⟨rfl, HB.out⟩
  · have hd : decide ((0 : Int) < (s.size : Int)) = false := decide_eq_false (by omega)
    clear h0
    go_enter Tryz.func75, Tryz.ntmps75
    go_wp2_with (go_at_call 92; refine (refSigns_any _).mono ?_; rintro e w1 ⟨v, rfl, ho, hb⟩; obtain ⟨g, cap, rfl, hcell⟩ := ho.shape (by decide); rw [signs_length] at hcell; rw [signs_length]; have HC := Lib.hid hcell; have HB := Lib.hid hb; clear ho hb hcell)
    go_loop [4, 5, 18] (fun p q i => ∃ k : Nat, k ≤ 46 ∧ p = .int .i64 (best s.data.toList k).1 ∧ q = .int .i64 (best s.data.toList k).2 ∧ i = .int .i64 k) (fun _ _ i => 46 - (intOf i).toNat)
    case atStart => exact ⟨0, by omega, rfl, rfl, rfl⟩
    case round =>
      obtain ⟨k, hk, rfl, rfl, rfl⟩ := hrel
      obtain ⟨hb1, hb2⟩ := best_le s.data.toList k
      by_cases hlt : k < 46
      · have hcell := HC.out k hlt
        have hsh := sign_short k
        obtain ⟨x, hx⟩ : ∃ x, B (signs.getD k []) = x := ⟨_, rfl⟩
        rw [hx] at hcell
        have hxd : x.data.toList = signs.getD k [] := by rw [← hx, bdata]
        have hxs : x.size = (signs.getD k []).length := by rw [← hx, bsize]
        have hraw := Lib.hasPrefix_raw s x
        obtain ⟨n, hn⟩ : ∃ n, x.size = n := ⟨_, rfl⟩
        rw [hn] at hraw
        obtain ⟨p, q, hpq⟩ : ∃ p q, best s.data.toList k = (p, q) := ⟨_, _, rfl⟩
        rw [hpq] at hb1 hb2
        have hn3 : n ≤ 3 := by omega
        have HX := Lib.hid hxd
        have HL : Hid ((signs.getD k []).length = n) := Lib.hid (by omega)
        have HP := Lib.hid hpq
        simp only [] at hb1 hb2
        clear hx hxd hxs hsh
        rw [hpq]
        clear hpq
        by_cases c1 : q < n
        · have d1 : decide ((q : Int) < (n : Int)) = true := decide_eq_true (by omega)
          by_cases c2 : n ≤ s.size
          · exfalso; omega
          · have d2 : decide ((n : Int) ≤ (s.size : Int)) = false := decide_eq_false (by omega)
            have HC3 : Hid (Lib.hasPrefix s.data.toList x.data.toList = false) := Lib.hid (by rw [← hraw, decide_eq_false c2]; rfl)
            clear hraw
            go_wp2_with fail
            go_round
            case rel =>
              have e := best_no (s := s.data.toList) (k := k) (by rw [← HX.out, HC3.out]; simp)
              exact ⟨k + 1, by omega, by rw [e, HP.out], by rw [e, HP.out], by go_num⟩
            case measure => simp [intOf]; omega
        · have d1 : decide ((q : Int) < (n : Int)) = false := decide_eq_false (by omega)
          clear hraw
          go_wp2_with fail
          go_round
          case rel =>
            have e := best_no (s := s.data.toList) (k := k) (by rw [HP.out, HL.out]; exact fun h => c1 h.1)
            exact ⟨k + 1, by omega, by rw [e, HP.out], by rw [e, HP.out], by go_num⟩
          case measure => simp [intOf]; omega
      · obtain rfl : k = 46 := by omega
        go_wp2_with fail
        go_ret2
        exact ⟨rfl, HB.out⟩
set_option maxRecDepth 100000 in
set_option maxHeartbeats 1000000 in
theorem refOper_yes (s : ByteArray) (w : World) (h : 0 < s.size) (hc : s[0] = 59) : Calls Tryz.prog 75 #[.string s] w (Pair2 15 1 w) := by
  have hd : decide ((0 : Int) < (s.size : Int)) = true := decide_eq_true (by omega)
  obtain ⟨c, hc'⟩ : ∃ c, s[0]'h = c := ⟨_, rfl⟩
  rw [hc'] at hc
  have hcz : ((c.toNat : Int) == 59) = true := byte_eq (d := 59) hc
  clear hc
  go_enter Tryz.func75, Tryz.ntmps75
  go_wp2_with fail
  go_ret2
  exact ⟨rfl, Below.refl _ _⟩
theorem refOperator_any (s : ByteArray) (w : World) : Calls Tryz.prog 75 #[.string s] w (Pair2 (opOf s.data.toList).1 (opOf s.data.toList).2 w) := by
  by_cases h : ∃ h : 0 < s.size, s[0] = 59
  · obtain ⟨h, hc⟩ := h
    have e : opOf s.data.toList = (15, 1) := by rw [opOf, if_pos (semi_yes h hc)]
    rw [e]
    exact refOper_yes s w h hc
  · have h' : ∀ h : 0 < s.size, s[0] ≠ 59 := fun a b => h ⟨a, b⟩
    have e : opOf s.data.toList = best s.data.toList 46 := by rw [opOf, if_neg (by rw [semi_no h']; simp)]
    rw [e]
    exact refOper_no s w h'

end Go.Proofs.YtjbamlmdeopcaaaGreatDoor.tok
end

section
/-
  The reference's said and other.
-/
namespace Go.Proofs.YtjbamlmdeopcaaaGreatDoor.lx
open Go.RowKit Go.Proofs.YtjbamlmdeopcaaaGreatDoor.tok

theorem at_drop (s : ByteArray) (i : Nat) : dec.runeAt s i = (decL (s.data.toList.drop i)).1 ∧ dec.wideAt s i = chrOf (s.data.toList.drop i) := by
  have e : Utf8.decode s i = decL (s.data.toList.drop i) := by
    have e := Lib.tail_decode s i 0
    rw [Nat.add_zero] at e
    rw [← e]
    by_cases h : i ≤ s.size
    · have : s.extract i s.size = B (s.data.toList.drop i) := by
        rw [b_extract, List.take_of_length_le (by rw [List.length_drop, sdata]; omega)]
      rw [this, dec_b]
    · have : s.extract i s.size = B (s.data.toList.drop i) := by
        rw [b_extract, List.drop_of_length_le (by rw [sdata]; omega), List.take_nil]
      rw [this, dec_b]
  unfold dec.runeAt dec.wideAt chrOf
  rw [e]
  exact ⟨rfl, rfl⟩
theorem said_at (s : ByteArray) (i : Nat) : saidOf (s.data.toList.drop i) = decide (dec.faultZ (dec.runeAt s i) (dec.wideAt s i) 1 ≠ 0) := by
  rw [(at_drop s i).1, (at_drop s i).2]
  rfl
theorem fault_one {r k p : Int} (h : r ≠ 65279) : dec.faultZ r k p = dec.faultZ r k 1 := by
  unfold dec.faultZ
  rw [if_neg (c := r = 65279 ∧ 0 < p) (by omega), if_neg (c := r = 65279 ∧ 0 < (1 : Int)) (by omega)]
theorem said_bad {s : ByteArray} {i : Nat} (h : dec.widthS s i = 0) : saidOf (s.data.toList.drop i) = true ∧ chrOf (s.data.toList.drop i) = 1 := by
  obtain ⟨a, b⟩ := dec.codeAt_bad h
  refine ⟨?_, by rw [← (at_drop s i).2]; exact b⟩
  rw [said_at]
  unfold dec.codeAt at a
  refine decide_eq_true ?_
  by_cases hr : (dec.runeAt s i : Int) = 65279
  · unfold dec.faultZ at a ⊢
    rw [hr] at a
    split at a
    · omega
    · split at a
      · omega
      · split at a <;> omega
  · rw [← fault_one (p := i) hr, a]; decide
theorem said_nul {s : ByteArray} {i : Nat} (hw : dec.widthS s i ≠ 0) (h : (s.get! i).toNat = 0) : saidOf (s.data.toList.drop i) = true := by
  have a := (dec.code_nul hw h).1
  rw [said_at]
  unfold dec.codeAt at a
  refine decide_eq_true ?_
  by_cases hr : (dec.runeAt s i : Int) = 65279
  · unfold dec.faultZ at a ⊢
    rw [hr] at a
    split at a
    · omega
    · split at a
      · omega
      · split at a <;> omega
  · rw [← fault_one (p := i) hr, a]; decide
theorem said_mark {s : ByteArray} {i : Nat} (h : dec.runeAt s i = 65279) : saidOf (s.data.toList.drop i) = true := by
  rw [said_at, h]
  refine decide_eq_true ?_
  unfold dec.faultZ
  rw [if_neg (by omega), if_neg (by omega), if_pos (by omega)]
  decide
theorem said_none {s : ByteArray} {i : Nat} (hw : dec.widthS s i ≠ 0) (h0 : (s.get! i).toNat ≠ 0) (h : dec.runeAt s i ≠ 65279) : saidOf (s.data.toList.drop i) = false := by
  have a := dec.code_none hw h0 (.inl h)
  unfold dec.codeAt at a
  rw [said_at, ← fault_one (p := i) (by omega), a]
  decide
theorem chr_good {s : ByteArray} {i : Nat} (hw : dec.widthS s i ≠ 0) : chrOf (s.data.toList.drop i) = dec.widthS s i := by
  rw [← (at_drop s i).2]
  exact (dec.wide_good hw).1
theorem chr_max (s : ByteArray) (i : Nat) : max (1 : Int) (dec.widthS s i : Int) = (chrOf (s.data.toList.drop i) : Int) := by
  by_cases h : dec.widthS s i = 0
  · rw [(said_bad h).2, h]; decide
  · rw [chr_good h]; omega
set_option maxRecDepth 100000 in
set_option maxHeartbeats 2000000 in
theorem refSaid_any (s : ByteArray) (i : Nat) (w : World) (hs : s.size ≤ 4194304) (hlt : i < s.size) :
    Calls Tryz.prog 77 #[.string s, .int .i64 (i : Int)] w (Bools (saidOf (s.data.toList.drop i)) w) := by
  by_cases hbad : dec.widthS s i = 0
  · have HW := Lib.hid hbad
    have HF := Lib.hid (said_bad hbad).1
    clear hbad
    go_enter Tryz.func77, Tryz.ntmps77
    go_wp2_with (go_at_call 76; refine (dec.width_is _ (by omega) hlt HW.out rfl).mono ?_; rintro e w' ⟨rfl, rfl⟩)
    go_ret
    exact ⟨by rw [HF.out]; rfl, rfl⟩
  obtain ⟨c, hc⟩ : ∃ c, s[i] = c := ⟨_, rfl⟩
  have hix : ∀ u : World, (Instr.index 9 (.string s) (.int .i64 (i : Int))).run Tryz.prog u = .ok (.int .u8 (c.toNat : Int)) u := fun u => by rw [← hc]; exact index_at s _ i rfl hlt u
  have hg0 : s.get! i = c := (dec.get_lt s i hlt).trans hc
  have hgood := dec.wide_good hbad
  have hwl := dec.wide_le s i hlt
  obtain ⟨n, hn⟩ : ∃ n, dec.widthS s i = n := ⟨_, rfl⟩
  have HW := Lib.hid hn
  have bn : ((n : Int) == 0) = false := beq_eq_false_iff_ne.2 (by omega)
  by_cases hz : (c.toNat : Int) = 0
  · have bz : ((c.toNat : Int) == 0) = true := beq_iff_eq.2 hz
    have HF := Lib.hid (said_nul hbad (by rw [hg0]; omega))
    clear hz hbad hg0 hgood hwl hn hc
    go_enter Tryz.func77, Tryz.ntmps77
    go_wp2_with (go_at_call 76; refine (dec.width_is _ (by omega) hlt HW.out rfl).mono ?_; rintro e w' ⟨rfl, rfl⟩)
    go_ret
    exact ⟨by rw [HF.out]; rfl, rfl⟩
  have bz : ((c.toNat : Int) == 0) = false := beq_eq_false_iff_ne.2 hz
  have hle : i + n ≤ s.size := by rw [← hn, ← hgood.1]; exact hwl
  have hsl := piece_mid s i (i + n) (i : Int) ((i : Int) + (n : Int)) rfl (by omega) (by omega) hle
  by_cases hm : dec.runeAt s i = 65279
  · have HF := Lib.hid (said_mark hm)
    have hx0 := dec.mark_yes hbad hm
    rw [hn, b_extract] at hx0
    obtain ⟨x, hx⟩ : ∃ x, B ((s.data.toList.drop i).take (i + n - i)) = x := ⟨_, rfl⟩
    rw [hx] at hx0 hsl
    clear hz hbad hg0 hgood hwl hn hc hx hm
    go_enter Tryz.func77, Tryz.ntmps77
    go_wp2_with (go_at_call 76; refine (dec.width_is _ (by omega) hlt HW.out rfl).mono ?_; rintro e w' ⟨rfl, rfl⟩)
    go_ret
    exact ⟨by rw [HF.out]; rfl, rfl⟩
  · have HF := Lib.hid (said_none hbad (by rw [hg0]; omega) hm)
    have hx0 := dec.mark_no hlt hbad hm
    rw [hn, b_extract] at hx0
    obtain ⟨x, hx⟩ : ∃ x, B ((s.data.toList.drop i).take (i + n - i)) = x := ⟨_, rfl⟩
    rw [hx] at hx0 hsl
    clear hz hbad hg0 hgood hwl hn hc hx hm
    go_enter Tryz.func77, Tryz.ntmps77
    go_wp2_with (go_at_call 76; refine (dec.width_is _ (by omega) hlt HW.out rfl).mono ?_; rintro e w' ⟨rfl, rfl⟩)
    go_ret
    exact ⟨by rw [HF.out]; rfl, rfl⟩

theorem six_more {w w1 : World} {b : Nat} (h : Six w1 b) (hb : Below w.heap.size w w1) : ∀ o : Obj, Six (w1.alloc o) b ∧ Below w.heap.size w (w1.alloc o) := fun o =>
  ⟨h.below ((Below.refl w1.heap.size w1).alloc (Nat.le_refl _) o), hb.alloc hb.size o⟩
theorem refSaid_then (s : ByteArray) (i : Nat) (w : World) (hs : s.size ≤ 4194304) (hlt : i < s.size) :
    Calls Tryz.prog 77 #[.string s, .int .i64 (i : Int)] w (fun e w' => e = .returned (.bool (saidOf (s.data.toList.drop i))) ∧ Below w.heap.size w w') := by
  refine (refSaid_any s i w hs hlt).mono ?_
  rintro e w' ⟨rfl, rfl⟩
  exact ⟨rfl, Below.refl _ _⟩
theorem one_then {w1 w3 : World} {x0 x1 x2 : Value} {t : TypeId} (hb : Below (w1.alloc (.cells #[x0, x1, x2] t)).heap.size (w1.alloc (.cells #[x0, x1, x2] t)) w3) :
    w3.cell? ⟨w1.heap.size, 0, none⟩ = some x0 ∧ w3.cell? ⟨w1.heap.size, 1, none⟩ = some x1 ∧ w3.cell? ⟨w1.heap.size, 2, none⟩ = some x2 ∧ w3.frozen? ⟨w1.heap.size, 0, none⟩ = false ∧ w3.frozen? ⟨w1.heap.size, 1, none⟩ = false ∧ w3.frozen? ⟨w1.heap.size, 2, none⟩ = false := by
  obtain ⟨hc, hf⟩ := bcell hb
  refine ⟨?_, ?_, ?_, ?_, ?_, ?_⟩
  all_goals first
    | (rw [hc _ _ (by simp)]; simp)
    | (rw [hf _ _ (by simp)]; simp)
theorem best_zero (s : List UInt8) (k : Nat) : (best s k).2 = 0 → (best s k).1 = 0 := by
  induction k with
  | zero => intro _; rfl
  | succ k ih =>
    rw [best]
    split
    · rename_i h
      intro e
      simp only at e
      omega
    · exact ih
theorem op_zero (s : List UInt8) : ¬ 0 < (opOf s).2 → (opOf s).1 = 0 := by
  unfold opOf
  split
  · intro h; exact absurd (by decide) h
  · intro h; exact best_zero s 46 (by omega)
theorem op_pos (s : List UInt8) : 0 < (opOf s).2 → (opOf s).1 ≠ 0 := by
  intro h
  have := (lang.op_kind s h).1
  have e : lang.op s = opOf s := rfl
  rw [e] at this
  omega
set_option maxRecDepth 100000 in
set_option maxHeartbeats 4000000 in
theorem refOther_any (s : ByteArray) (i : Nat) (w : World) (hs : s.size ≤ 4194304) (hlt : i < s.size) :
    Calls Tryz.prog 53 #[.string s, .int .i64 (i : Int)] w (Told (signL lang (s.data.toList.drop i)) i w) := by
  have hld : (s.data.toList.drop i).length = s.size - i := by rw [List.length_drop, sdata]
  have hne : s.data.toList.drop i ≠ [] := by intro h; have := congrArg List.length h; rw [hld, List.length_nil] at this; omega
  have HO := Lib.hid (fun u => refOperator_any (B (s.data.toList.drop i)) u)
  rw [bdata] at HO
  have hol := lang.op_len (s.data.toList.drop i)
  rw [hld] at hol
  have HW : Hid (signL lang (s.data.toList.drop i) = if 0 < (opOf (s.data.toList.drop i)).2 then right (opOf (s.data.toList.drop i)).1 (opOf (s.data.toList.drop i)).2 else if saidOf (s.data.toList.drop i) = true then right 5 (chrOf (s.data.toList.drop i)) else wrong 5 (chrOf (s.data.toList.drop i)) 104) := Lib.hid rfl
  have hol' : (opOf (s.data.toList.drop i)).2 ≤ s.size - i := hol
  have hz := op_zero (s.data.toList.drop i)
  have hp := op_pos (s.data.toList.drop i)
  obtain ⟨k, n, hk⟩ : ∃ k n, opOf (s.data.toList.drop i) = (k, n) := ⟨_, _, rfl⟩
  rw [hk] at HO HW hol' hz hp
  simp only [] at HW hol' hz hp
  have hsl := slice_from s i (by omega)
  clear hk hol
  by_cases hn : 0 < n
  · rw [if_pos hn] at HW
    have bk : ((k : Int) != 0) = true := bne_iff_ne.2 (by have := hp hn; omega)
    clear hne hz hp
    obtain ⟨x, hx⟩ : ∃ x, B (s.data.toList.drop i) = x := ⟨_, rfl⟩
    rw [hx] at hsl HO
    clear hx hld
    go_enter Tryz.func53, Tryz.ntmps53
    go_wp2_with (go_at_call 75; refine (HO.out _).mono ?_; rintro e w1 ⟨rfl, hb⟩; have S2 := Lib.hid ((six_new w _ _ _ _ _ _ _ _).below hb); obtain ⟨⟨u0, u1, u2, u3, u4, u5, k0, k1, k2, k3, k4, k5⟩, f0, f1, f2, f3, f4, f5⟩ := S2.out; have HB2 := Lib.hid (below2_then hb); clear hb)
    exact bodyPost_ret (results_two Tryz.results53 _ S2.out (.int .i64 (k : Int)) (.int .i64 (i : Int)) (.int .i64 ((i : Int) + (n : Int))) (.int .i64 0) (.int .i64 0) (.int .i64 0) rfl rfl) rfl (Told.mk' (x := 0) (y := 0) (by rw [HW.out]; rfl) (by rw [HW.out]; exact fun h => absurd rfl h) (below_put6 HB2.out (Nat.le_refl _) _ _ _ _ _ _))
  · rw [if_neg hn] at HW
    have hk0 := hz hn
    subst hk0
    have bk : ((0 : Int) != 0) = false := by decide
    have hcl : chrOf (s.data.toList.drop i) ≤ s.size - i := by have := lang.chr_len _ hne; rwa [hld] at this
    have HM := Lib.hid (chr_max s i)
    have HS := Lib.hid (fun u => refSaid_then s i u hs hlt)
    obtain ⟨m, hm⟩ : ∃ m, chrOf (s.data.toList.drop i) = m := ⟨_, rfl⟩
    obtain ⟨b, hb⟩ : ∃ b, saidOf (s.data.toList.drop i) = b := ⟨_, rfl⟩
    obtain ⟨z, hz⟩ : ∃ z, dec.widthS s i = z := ⟨_, rfl⟩
    rw [hm] at HW hcl HM
    rw [hb] at HW HS
    rw [hz] at HM
    have HZ := Lib.hid hz
    have hmx := HM.out
    obtain ⟨x, hx⟩ : ∃ x, B (s.data.toList.drop i) = x := ⟨_, rfl⟩
    rw [hx] at hsl HO
    clear hx hld hm hb hz hne hp HM hn
    cases b
    · simp only [Bool.false_eq_true, if_false] at HW
      go_enter Tryz.func53, Tryz.ntmps53
      go_wp2_with (first | (go_at_call 75; refine (HO.out _).mono ?_; rintro e w1 ⟨rfl, hb⟩; have S1 := Lib.hid ((six_new w _ _ _ _ _ _ _ _).below hb); have HA := Lib.hid (six_more S1.out (below2_then hb)); have hsz := hb.size; simp at hsz; have hz : w.heap.size + 1 < w1.heap.size := (by omega); have hz0 : w.heap.size < w1.heap.size := (by omega); clear hb) | (go_at_call 76; refine (dec.width_is _ (by omega) hlt HZ.out rfl).mono ?_; rintro e w' ⟨rfl, rfl⟩) | (go_at_call 77; refine (HS.out _).mono ?_; rintro e w3 ⟨rfl, hb3⟩; obtain ⟨j0, j1, j2, g0, g1, g2⟩ := one_then hb3; have S3 := Lib.hid ((HA.out _).1.below hb3); have HB3 := Lib.hid ((HA.out _).2.trans (hb3.mono (HA.out _).2.size)); obtain ⟨⟨u0, u1, u2, u3, u4, u5, k0, k1, k2, k3, k4, k5⟩, f0, f1, f2, f3, f4, f5⟩ := S3.out; clear hb3))
      go_region
      go_wp2_with fail
      exact bodyPost_ret (results_drew Tryz.results53 _ S3.out (.int .i64 5) (.int .i64 (i : Int)) (.int .i64 ((i : Int) + (m : Int))) (.int .i64 104) (.int .i64 (i : Int)) (.int .i64 ((i : Int) + (m : Int))) rfl rfl) rfl (Told.mk' (x := (i : Int)) (y := (i : Int) + (m : Int)) (by rw [HW.out]; rfl) (by rw [HW.out]; exact fun _ => ⟨by simp [wrong], by simp [wrong]⟩) (below_put6 HB3.out (Nat.le_refl _) _ _ _ _ _ _).drew)
    · simp only [if_true] at HW
      go_enter Tryz.func53, Tryz.ntmps53
      go_wp2_with (first | (go_at_call 75; refine (HO.out _).mono ?_; rintro e w1 ⟨rfl, hb⟩; have S1 := Lib.hid ((six_new w _ _ _ _ _ _ _ _).below hb); have HA := Lib.hid (six_more S1.out (below2_then hb)); have hsz := hb.size; simp at hsz; have hz : w.heap.size + 1 < w1.heap.size := (by omega); have hz0 : w.heap.size < w1.heap.size := (by omega); clear hb) | (go_at_call 76; refine (dec.width_is _ (by omega) hlt HZ.out rfl).mono ?_; rintro e w' ⟨rfl, rfl⟩) | (go_at_call 77; refine (HS.out _).mono ?_; rintro e w3 ⟨rfl, hb3⟩; obtain ⟨j0, j1, j2, g0, g1, g2⟩ := one_then hb3; have S3 := Lib.hid ((HA.out _).1.below hb3); have HB3 := Lib.hid ((HA.out _).2.trans (hb3.mono (HA.out _).2.size)); obtain ⟨⟨u0, u1, u2, u3, u4, u5, k0, k1, k2, k3, k4, k5⟩, f0, f1, f2, f3, f4, f5⟩ := S3.out; clear hb3))
      go_region
      go_wp2_with fail
      exact bodyPost_ret (results_drew Tryz.results53 _ (six_past S3.out (by omega) _) (.int .i64 5) (.int .i64 (i : Int)) (.int .i64 ((i : Int) + (m : Int))) (.int .i64 0) (.int .i64 (i : Int)) (.int .i64 ((i : Int) + (m : Int))) rfl rfl) rfl (Told.mk' (x := (i : Int)) (y := (i : Int) + (m : Int)) (by rw [HW.out]; rfl) (by rw [HW.out]; exact fun h => absurd rfl h) (below_put6 (HB3.out.setCell (by show w.heap.size ≤ w1.heap.size; omega) _) (Nat.le_refl _) _ _ _ _ _ _).drew)
end Go.Proofs.YtjbamlmdeopcaaaGreatDoor.lx
end

section
/-
  The reference's UTF8.
-/
namespace Go.Proofs.YtjbamlmdeopcaaaGreatDoor.tok
open Go.RowKit

theorem i64_and63 (n : Int) : bits .and .i64 n 63 = n % 64 := by
  have h63 : (BitVec.ofInt 64 63).toNat = 2 ^ 6 - 1 := by decide
  have key : (BitVec.ofInt 64 n &&& BitVec.ofInt 64 63).toNat = (n % ((2 ^ 64 : Nat) : Int)).toNat % 2 ^ 6 := by
    rw [BitVec.toNat_and, BitVec.toNat_ofInt, h63, Nat.and_two_pow_sub_one_eq_mod]
  show IntKind.i64.wrap ((BitVec.ofInt 64 n &&& BitVec.ofInt 64 63).toNat : Nat) = n % 64
  rw [key, IntKind.wrap_i64]
  omega
/-- The cells of a list of bytes that was just made. -/
theorem conv_new (zs : List Int) (h : ∀ z ∈ zs, 0 ≤ z ∧ z ≤ 255) (n : Nat) (hn : zs.length = n) (cs : Array Value) (hc : cs = (zs.map (Value.int .u8)).toArray) (N : Nat) (u : World) (hN : N = u.heap.size) :
    (convert 109 9 (.slice (some ⟨N, 0, none⟩) n n)).run Tryz.prog (u.alloc (.cells cs 5)) = .ok (.string (B (zs.map fun z => z.toNat.toUInt8))) (u.alloc (.cells cs 5)) := by
  subst hn hc hN
  have hl : (zs.map fun z => z.toNat.toUInt8).length = zs.length := List.length_map ..
  rw [← hl]
  refine run_convert_bytes_back _ _ _ _ ⟨u.heap.size, 0, none⟩ _ _ Tryz.underlying109 Tryz.underlying5 Tryz.underlying9 (fun j hj => ?_)
  rw [List.length_map] at hj
  rw [Addr.add_lit, Nat.zero_add, cell_of_row _ _ j _ _ (0, 0) (heap_alloc_last u _)]
  have hb := h zs[j] (List.getElem_mem hj)
  have : (zs[j].toNat.toUInt8.toNat : Int) = zs[j] := by
    rw [Nat.toUInt8, UInt8.toNat_ofNat', Nat.mod_eq_of_lt (by omega)]
    omega
  rw [List.getElem_map, this]
  simp [hj]
def OneB (x : List UInt8) (w : World) (e : Ending) (w' : World) : Prop := e = .returned (.string (B x)) ∧ Below w.heap.size w w'

set_option maxRecDepth 100000 in
set_option maxHeartbeats 2000000 in
theorem utf_one (n : Int) (w : World) (h0 : 0 ≤ n) (h1 : n ≤ 127) : Calls Tryz.prog 105 #[.int .i64 n] w (OneB (Lib.encodeRune n) w) := by
  have a1 := i64_and63 n
  have a2 := i64_and63 (n / 64)
  have a3 := i64_and63 (n / 4096)
  have HEN : Hid (Lib.encodeRune n = ([n] : List Int).map fun z => z.toNat.toUInt8) := Lib.hid (by unfold Lib.encodeRune; rw [Lib.encodeRuneZ_one h0 h1])
  have cv : ∀ u : World, (convert 109 9 (.slice (some ⟨u.heap.size, 0, none⟩) 1 1)).run Tryz.prog (u.alloc (.cells #[.int .u8 (n)] 5)) = .ok (.string (B (([n] : List Int).map fun z => z.toNat.toUInt8))) (u.alloc (.cells #[.int .u8 (n)] 5)) := fun u =>
    conv_new [n] (by intro z hz; simp only [List.mem_cons, List.not_mem_nil, or_false] at hz; omega) 1 rfl _ rfl _ u rfl
  rw [← HEN.out] at cv
  go_enter Tryz.func105, Tryz.ntmps105
  go_wp2_with fail
  go_ret
  exact ⟨rfl, (Below.refl _ _).alloc (Nat.le_refl _) _⟩
set_option maxRecDepth 100000 in
set_option maxHeartbeats 2000000 in
theorem utf_two (n : Int) (w : World) (h0 : 128 ≤ n) (h1 : n ≤ 2047) : Calls Tryz.prog 105 #[.int .i64 n] w (OneB (Lib.encodeRune n) w) := by
  have a1 := i64_and63 n
  have a2 := i64_and63 (n / 64)
  have a3 := i64_and63 (n / 4096)
  have HEN : Hid (Lib.encodeRune n = ([192 + n / 64, 128 + n % 64] : List Int).map fun z => z.toNat.toUInt8) := Lib.hid (by unfold Lib.encodeRune; rw [Lib.encodeRuneZ_two h0 h1])
  have cv : ∀ u : World, (convert 109 9 (.slice (some ⟨u.heap.size, 0, none⟩) 2 2)).run Tryz.prog (u.alloc (.cells #[.int .u8 (192 + n / 64), .int .u8 (128 + n % 64)] 5)) = .ok (.string (B (([192 + n / 64, 128 + n % 64] : List Int).map fun z => z.toNat.toUInt8))) (u.alloc (.cells #[.int .u8 (192 + n / 64), .int .u8 (128 + n % 64)] 5)) := fun u =>
    conv_new [192 + n / 64, 128 + n % 64] (by intro z hz; simp only [List.mem_cons, List.not_mem_nil, or_false] at hz; omega) 2 rfl _ rfl _ u rfl
  rw [← HEN.out] at cv
  go_enter Tryz.func105, Tryz.ntmps105
  go_wp2_with fail
  go_ret
  exact ⟨rfl, (Below.refl _ _).alloc (Nat.le_refl _) _⟩
set_option maxRecDepth 100000 in
set_option maxHeartbeats 2000000 in
theorem utf_three (n : Int) (w : World) (h0 : 2048 ≤ n) (h1 : n ≤ 65535) (hv : n < 55296 ∨ 57343 < n) : Calls Tryz.prog 105 #[.int .i64 n] w (OneB (Lib.encodeRune n) w) := by
  have a1 := i64_and63 n
  have a2 := i64_and63 (n / 64)
  have a3 := i64_and63 (n / 4096)
  have HEN : Hid (Lib.encodeRune n = ([224 + n / 4096, 128 + n / 64 % 64, 128 + n % 64] : List Int).map fun z => z.toNat.toUInt8) := Lib.hid (by unfold Lib.encodeRune; rw [Lib.encodeRuneZ_three (by omega)])
  have cv : ∀ u : World, (convert 109 9 (.slice (some ⟨u.heap.size, 0, none⟩) 3 3)).run Tryz.prog (u.alloc (.cells #[.int .u8 (224 + n / 4096), .int .u8 (128 + n / 64 % 64), .int .u8 (128 + n % 64)] 5)) = .ok (.string (B (([224 + n / 4096, 128 + n / 64 % 64, 128 + n % 64] : List Int).map fun z => z.toNat.toUInt8))) (u.alloc (.cells #[.int .u8 (224 + n / 4096), .int .u8 (128 + n / 64 % 64), .int .u8 (128 + n % 64)] 5)) := fun u =>
    conv_new [224 + n / 4096, 128 + n / 64 % 64, 128 + n % 64] (by intro z hz; simp only [List.mem_cons, List.not_mem_nil, or_false] at hz; omega) 3 rfl _ rfl _ u rfl
  rw [← HEN.out] at cv
  go_enter Tryz.func105, Tryz.ntmps105
  go_wp2_with fail
  go_ret
  exact ⟨rfl, (Below.refl _ _).alloc (Nat.le_refl _) _⟩
set_option maxRecDepth 100000 in
set_option maxHeartbeats 2000000 in
theorem utf_four (n : Int) (w : World) (h0 : 65536 ≤ n) (h1 : n ≤ 1114111) : Calls Tryz.prog 105 #[.int .i64 n] w (OneB (Lib.encodeRune n) w) := by
  have a1 := i64_and63 n
  have a2 := i64_and63 (n / 64)
  have a3 := i64_and63 (n / 4096)
  have HEN : Hid (Lib.encodeRune n = ([240 + n / 262144, 128 + n / 4096 % 64, 128 + n / 64 % 64, 128 + n % 64] : List Int).map fun z => z.toNat.toUInt8) := Lib.hid (by unfold Lib.encodeRune; rw [Lib.encodeRuneZ_four h0 h1])
  have cv : ∀ u : World, (convert 109 9 (.slice (some ⟨u.heap.size, 0, none⟩) 4 4)).run Tryz.prog (u.alloc (.cells #[.int .u8 (240 + n / 262144), .int .u8 (128 + n / 4096 % 64), .int .u8 (128 + n / 64 % 64), .int .u8 (128 + n % 64)] 5)) = .ok (.string (B (([240 + n / 262144, 128 + n / 4096 % 64, 128 + n / 64 % 64, 128 + n % 64] : List Int).map fun z => z.toNat.toUInt8))) (u.alloc (.cells #[.int .u8 (240 + n / 262144), .int .u8 (128 + n / 4096 % 64), .int .u8 (128 + n / 64 % 64), .int .u8 (128 + n % 64)] 5)) := fun u =>
    conv_new [240 + n / 262144, 128 + n / 4096 % 64, 128 + n / 64 % 64, 128 + n % 64] (by intro z hz; simp only [List.mem_cons, List.not_mem_nil, or_false] at hz; omega) 4 rfl _ rfl _ u rfl
  rw [← HEN.out] at cv
  go_enter Tryz.func105, Tryz.ntmps105
  go_wp2_with fail
  go_ret
  exact ⟨rfl, (Below.refl _ _).alloc (Nat.le_refl _) _⟩
theorem utf_any (n : Int) (w : World) (h : Lib.validRune n = true) : Calls Tryz.prog 105 #[.int .i64 n] w (OneB (Lib.encodeRune n) w) := by
  unfold Lib.validRune at h
  have := of_decide_eq_true h
  by_cases h1 : n ≤ 127
  · exact utf_one n w (by omega) h1
  by_cases h2 : n ≤ 2047
  · exact utf_two n w (by omega) h2
  by_cases h3 : n ≤ 65535
  · exact utf_three n w (by omega) h3 (by omega)
  · exact utf_four n w (by omega) (by omega)
end Go.Proofs.YtjbamlmdeopcaaaGreatDoor.tok
end

section
/-
  The examples at the head of the laws.
-/
namespace Go.Proofs.YtjbamlmdeopcaaaGreatDoor.tok
open Go.RowKit

def Gives (v : Value) (w : World) (e : Ending) (w' : World) : Prop := e = .returned v ∧ Below w.heap.size w w'
theorem show1 (w : World) : Calls Tryz.prog 62 #[.string { data := #[38, 94, 61, 120] }] w (Gives (.tuple #[.int .i64 41, .int .i64 3]) w) := by
  refine (operator_any ⟨#[38, 94, 61, 120]⟩ w).mono ?_
  rintro e w' ⟨rfl, hb⟩
  have e : opOf (⟨#[38, 94, 61, 120]⟩ : ByteArray).data.toList = (41, 3) := by kernel_rfl
  rw [e]
  exact ⟨rfl, hb⟩
theorem show2 (w : World) : Calls Tryz.prog 59 #[.string { data := #[48, 120, 95, 70, 102] }] w (Gives (.tuple #[.int .i64 16, .string (B [70, 102]), .bool true]) w) := by
  refine (digits_any ⟨#[48, 120, 95, 70, 102]⟩ w (by decide)).mono ?_
  rintro e w' ⟨rfl, hb⟩
  have e : numOf (⟨#[48, 120, 95, 70, 102]⟩ : ByteArray).data.toList = (16, [70, 102], true) := by kernel_rfl
  rw [e]
  exact ⟨rfl, hb⟩
theorem show3 (w : World) (hE : Env w) : Calls Tryz.prog 84 #[.string { data := #[34, 97, 92, 120, 52, 49, 92, 34, 34] }] w (Gives (.tuple #[.string (B [97, 65, 34]), .int .i64 0, .int .i64 0]) w) := by
  refine (unquote_any ⟨#[34, 97, 92, 120, 52, 49, 92, 34, 34]⟩ w hE (by decide)).mono ?_
  rintro e w' ⟨rfl, hb⟩
  have e : unqOf (⟨#[34, 97, 92, 120, 52, 49, 92, 34, 34]⟩ : ByteArray).data.toList = ([97, 65, 34], 0, 0) := by kernel_rfl
  rw [e]
  exact ⟨rfl, hb⟩
theorem show4 (w : World) (hE : Env w) : Calls Tryz.prog 83 #[.string { data := #[39, 92, 110, 39] }] w (Gives (.tuple #[.int .i64 10, .int .i64 0, .int .i64 0]) w) := by
  refine (rune_any ⟨#[39, 92, 110, 39]⟩ w hE (by decide)).mono ?_
  rintro e w' ⟨rfl, hb⟩
  have e : runeOf (⟨#[39, 92, 110, 39]⟩ : ByteArray).data.toList = (10, 0, 0) := by kernel_rfl
  rw [e]
  exact ⟨rfl, hb⟩
theorem show5 (w : World) : Calls Tryz.prog 58 #[.string { data := #[102, 117, 110, 99] }] w (Gives (.int .i64 79) w) := by
  refine (keyword_any ⟨#[102, 117, 110, 99]⟩ w).mono ?_
  rintro e w' ⟨rfl, hb⟩
  have e : kwOf (⟨#[102, 117, 110, 99]⟩ : ByteArray).data.toList = 79 := by kernel_rfl
  rw [e]
  exact ⟨rfl, hb⟩
end Go.Proofs.YtjbamlmdeopcaaaGreatDoor.tok
end

section
/-
  Signs and their names: what follows (plain facts on lists of bytes).
-/
namespace Go.Proofs.YtjbamlmdeopcaaaGreatDoor.tok
open Go.RowKit

theorem prefix_iff {s p : List UInt8} : Lib.hasPrefix s p = true ↔ ∃ t, p ++ t = s := by
  unfold Lib.hasPrefix
  rw [List.isPrefixOf_iff_prefix]
  exact Iff.rfl
theorem prefix_take {s p : List UInt8} (h : Lib.hasPrefix s p = true) : s.take p.length = p := by
  obtain ⟨t, rfl⟩ := prefix_iff.1 h
  simp
theorem prefix_more {s p : List UInt8} (t : List UInt8) (h : Lib.hasPrefix s p = true) : Lib.hasPrefix (s ++ t) p = true := by
  obtain ⟨u, rfl⟩ := prefix_iff.1 h
  exact prefix_iff.2 ⟨u ++ t, by simp⟩
/-- The best of the first k signs is one of them, or there is none. -/
theorem best_is (s : List UInt8) (k : Nat) : best s k = (0, 0) ∨ ∃ j, j < k ∧ best s k = (20 + j, (signs.getD j []).length) ∧ Lib.hasPrefix s (signs.getD j []) = true := by
  induction k with
  | zero => exact .inl rfl
  | succ k ih =>
    by_cases h : (best s k).2 < (signs.getD k []).length ∧ Lib.hasPrefix s (signs.getD k []) = true
    · exact .inr ⟨k, by omega, best_yes h.1 h.2, h.2⟩
    · rw [best_no h]
      rcases ih with e | ⟨j, hj, e, hp⟩
      · exact .inl e
      · exact .inr ⟨j, by omega, e, hp⟩
theorem best_most (s : List UInt8) (k j : Nat) (hj : j < k) (hp : Lib.hasPrefix s (signs.getD j []) = true) : (signs.getD j []).length ≤ (best s k).2 := by
  induction k with
  | zero => omega
  | succ k ih =>
    by_cases h : (best s k).2 < (signs.getD k []).length ∧ Lib.hasPrefix s (signs.getD k []) = true
    · rw [best_yes h.1 h.2]
      by_cases e : j = k
      · subst e; exact Nat.le_refl _
      · exact Nat.le_trans (ih (by omega)) (Nat.le_of_lt h.1)
    · rw [best_no h]
      by_cases e : j = k
      · subst e; exact Nat.le_of_not_lt (fun g => h ⟨g, hp⟩)
      · exact ih (by omega)
theorem no_semi : ∀ j : Fin 46, (signs.getD j.val []).head? ≠ some 59 := by decide
theorem semi_head {s : List UInt8} (h : Lib.hasPrefix s [59] = true) : s.head? = some 59 := by
  obtain ⟨t, rfl⟩ := prefix_iff.1 h
  rfl
theorem sign_ne : ∀ j : Fin 46, signs.getD j.val [] ≠ [] := by decide
theorem name_sign (j : Nat) (hj : j < 46) : nameOf ((20 + j : Nat) : Int) = signs.getD j [] := by
  rw [nameOf, if_neg (by omega), if_pos ⟨by omega, by omega⟩]
  have e : (((20 + j : Nat) : Int) - 20).toNat = j := by omega
  rw [e]
/-- What a text begins with, by its name. -/
theorem op_name (x : List UInt8) (h : 0 < (opOf x).2) : nameOf ((opOf x).1 : Nat) = x.take (opOf x).2 := by
  unfold opOf at h ⊢
  by_cases hs : Lib.hasPrefix x [59] = true
  · rw [if_pos hs] at h ⊢
    have := prefix_take hs
    exact this.symm
  · rw [if_neg hs] at h ⊢
    rcases best_is x 46 with e | ⟨j, hj, e, hp⟩
    · rw [e] at h; simp at h
    · rw [e]
      simp only []
      rw [prefix_take hp, name_sign j hj]
/-- A sign that goes on is that sign, or a longer one. -/
theorem op_more (N t : List UInt8) (h0 : 0 < (opOf N).2) (hl : (opOf N).2 = N.length) : (opOf N).2 ≤ (opOf (N ++ t)).2 := by
  by_cases hs : Lib.hasPrefix N [59] = true
  · have e1 : opOf N = (15, 1) := by rw [opOf, if_pos hs]
    have e2 : opOf (N ++ t) = (15, 1) := by rw [opOf, if_pos (prefix_more t hs)]
    rw [e1, e2]
    exact Nat.le_refl _
  · have e1 : opOf N = best N 46 := by rw [opOf, if_neg hs]
    rw [e1] at h0 hl ⊢
    rcases best_is N 46 with e | ⟨j, hj, e, hp⟩
    · rw [e] at h0; simp at h0
    · rw [e] at hl ⊢
      simp only [] at hl ⊢
      have hN : signs.getD j [] = N := by rw [← prefix_take hp, hl, List.take_length]
      by_cases hs2 : Lib.hasPrefix (N ++ t) [59] = true
      · exfalso
        have h1 := semi_head hs2
        have h2 := no_semi ⟨j, hj⟩
        have h3 := sign_ne ⟨j, hj⟩
        simp only [hN] at h2 h3
        cases N with
        | nil => exact h3 rfl
        | cons a N => exact h2 (by simpa using h1)
      · have e2 : opOf (N ++ t) = best (N ++ t) 46 := by rw [opOf, if_neg hs2]
        rw [e2]
        exact best_most (N ++ t) 46 j hj (prefix_more t hp)
theorem op_le (x : List UInt8) : (opOf x).2 ≤ x.length := by
  unfold opOf
  split
  · next h => obtain ⟨t, rfl⟩ := prefix_iff.1 h; simp
  · rcases best_is x 46 with e | ⟨j, hj, e, hp⟩
    · rw [e]; exact Nat.zero_le _
    · rw [e]; obtain ⟨t, ht⟩ := prefix_iff.1 hp
      simp only []
      conv => rhs; rw [← ht]
      simp
/-- What a name is, as a word and as a sign. -/
def nameFine (z : Int) : Bool :=
  (kwOf (nameOf z) == 0 || kwOf (nameOf z) == z) && !(decide ((opOf (nameOf z)).2 = (nameOf z).length) && decide (0 < (opOf (nameOf z)).2) && (((opOf (nameOf z)).1 : Int) != z)) && (kwOf (nameOf z) == 0 || (opOf (nameOf z)).2 == 0)
    && (plainOf z == 0 || (nameOf (plainOf z) ++ [61] == nameOf z && decide (3 < precOf (plainOf z)) && precOf z == 0)) && decide ((nameOf z).length ≤ 11) && decide ((opOf (nameOf z)).1 = 0 ↔ (opOf (nameOf z)).2 = 0)
theorem fine_few : ∀ k : Fin 91, nameFine k.val = true := by decide +kernel
theorem name_past (z : Int) (h : ¬ (0 ≤ z ∧ z ≤ 90)) : nameOf z = [] := by
  unfold nameOf otherOf
  repeat rw [if_neg (by omega)]
theorem plain_past (z : Int) (h : ¬ (0 ≤ z ∧ z ≤ 90)) : plainOf z = 0 := by
  unfold plainOf
  rw [if_neg (by omega)]
theorem fine_any (z : Int) : nameFine z = true := by
  by_cases h : 0 ≤ z ∧ z ≤ 90
  · obtain ⟨k, rfl⟩ : ∃ k : Nat, z = (k : Int) := ⟨z.toNat, by omega⟩
    exact fine_few ⟨k, by omega⟩
  · unfold nameFine
    rw [name_past z h, plain_past z h]
    have e1 : kwOf [] = 0 := by kernel_rfl
    have e2 : opOf [] = (0, 0) := by kernel_rfl
    rw [e1, e2]
    simp
structure Fine (z : Int) : Prop where
  word : kwOf (nameOf z) = 0 ∨ kwOf (nameOf z) = z
  sign : (opOf (nameOf z)).2 = (nameOf z).length → 0 < (opOf (nameOf z)).2 → ((opOf (nameOf z)).1 : Int) = z
  apart : kwOf (nameOf z) = 0 ∨ (opOf (nameOf z)).2 = 0
  plain : plainOf z = 0 ∨ (nameOf (plainOf z) ++ [61] = nameOf z ∧ 3 < precOf (plainOf z) ∧ precOf z = 0)
  short : (nameOf z).length ≤ 11
  zero : (opOf (nameOf z)).1 = 0 ↔ (opOf (nameOf z)).2 = 0
theorem fine (z : Int) : Fine z := by
  have h := fine_any z
  unfold nameFine at h
  simp only [Bool.and_eq_true, Bool.or_eq_true, beq_iff_eq, decide_eq_true_eq, Bool.not_eq_true', Bool.and_eq_false_iff, decide_eq_false_iff_not, bne_eq_false_iff_eq] at h
  obtain ⟨⟨⟨⟨⟨h1, h2⟩, h3⟩, h4⟩, h5⟩, h6⟩ := h
  refine ⟨h1, fun a b => ?_, h3, ?_, h5, h6⟩
  · rcases h2 with (h2 | h2) | h2
    · exact absurd a h2
    · exact absurd b h2
    · exact h2
  · rcases h4 with h4 | ⟨⟨a, b⟩, c⟩
    · exact .inl h4
    · exact .inr ⟨a, b, c⟩
end Go.Proofs.YtjbamlmdeopcaaaGreatDoor.tok
end

section
/-
  The law TokenBack: what its ways ask.
-/
namespace Go.Proofs.YtjbamlmdeopcaaaGreatDoor.tok
open Go.RowKit

theorem cat_eq {x y : List UInt8} (h : x.length + y.length ≤ 9223372036854775807) : Op.stringOp .add (B x) (B y) = pure (.string (B (x ++ y))) := by
  unfold Op.stringOp
  simp only []
  rw [if_neg (by rw [bsize, bsize]; show ¬ ((_ : Nat) : Int) > 9223372036854775807; omega), b_append]
end Go.Proofs.YtjbamlmdeopcaaaGreatDoor.tok
end

section
/-
  The reference's Escape: the quote, the end.
-/
namespace Go.Proofs.YtjbamlmdeopcaaaGreatDoor.tok
open Go.RowKit

/-- What the reference tells of an escape. -/
def escT (v : Esc) : List UInt8 := if v.2.2 = 0 then [] else escB v
def RefEsc (v : Esc) (w : World) (e : Ending) (w' : World) : Prop := e = .returned (.tuple #[.int .i64 v.1, .string (B (escT v)), .int .i64 v.2.2]) ∧ Below w.heap.size w w'
theorem RefEsc.mk {v : Esc} {w w' : World} {e : Ending} {n : Int} {r : Bool} {k : Nat} {bs : List UInt8} (hv : v = (n, r, k)) (ht : escT (n, r, k) = bs) (he : e = .returned (.tuple #[.int .i64 n, .string (B bs), .int .i64 (k : Nat)])) (hb : Below w.heap.size w w') : RefEsc v w e w' := by
  subst hv ht
  exact ⟨he, hb⟩
def saySigns : List UInt8 := [97, 98, 102, 110, 114, 116, 118, 92]
def saySays : List Int := [7, 8, 12, 10, 13, 9, 11, 92]
theorem sign_hit (q : UInt8) : ∀ k, k < 8 → signE (saySigns.getD k 0) q = (saySays.getD k 0, false, 2) := by
  intro k hk
  match k, hk with
  | 0, _ => rfl
  | 1, _ => rfl
  | 2, _ => rfl
  | 3, _ => rfl
  | 4, _ => rfl
  | 5, _ => rfl
  | 6, _ => rfl
  | 7, _ => unfold signE; rfl
theorem sign_plain (k : Nat) (hk : k < 8) : saySigns.getD k 0 ≠ 120 ∧ saySigns.getD k 0 ≠ 117 ∧ saySigns.getD k 0 ≠ 85 ∧ ¬ (saySigns.getD k 0 = 48 ∨ saySigns.getD k 0 = 49 ∨ saySigns.getD k 0 = 50 ∨ saySigns.getD k 0 = 51 ∨ saySigns.getD k 0 = 52 ∨ saySigns.getD k 0 = 53 ∨ saySigns.getD k 0 = 54 ∨ saySigns.getD k 0 = 55) := by
  have all : ∀ j : Fin 8, saySigns.getD j.val 0 ≠ 120 ∧ saySigns.getD j.val 0 ≠ 117 ∧ saySigns.getD j.val 0 ≠ 85 ∧ ¬ (saySigns.getD j.val 0 = 48 ∨ saySigns.getD j.val 0 = 49 ∨ saySigns.getD j.val 0 = 50 ∨ saySigns.getD j.val 0 = 51 ∨ saySigns.getD j.val 0 = 52 ∨ saySigns.getD j.val 0 = 53 ∨ saySigns.getD j.val 0 = 54 ∨ saySigns.getD j.val 0 = 55) := by decide
  exact all ⟨k, hk⟩
theorem says_bounds (k : Nat) (hk : k < 8) : 0 ≤ saySays.getD k 0 ∧ saySays.getD k 0 ≤ 255 := by
  have all : ∀ j : Fin 8, 0 ≤ saySays.getD j.val 0 ∧ saySays.getD j.val 0 ≤ 255 := by decide
  exact all ⟨k, hk⟩
theorem conv_byte (z : Int) (h0 : 0 ≤ z) (h1 : z ≤ 255) (u : World) : (convert 109 9 (.slice (some ⟨u.heap.size, 0, none⟩) 1 1)).run Tryz.prog (u.alloc (.cells #[.int .u8 z] 5)) = .ok (.string (B [z.toNat.toUInt8])) (u.alloc (.cells #[.int .u8 z] 5)) :=
  conv_new [z] (by intro x hx; simp only [List.mem_cons, List.not_mem_nil, or_false] at hx; omega) 1 rfl _ rfl _ u rfl
theorem conv_byte_drew (z : Int) (h0 : 0 ≤ z) (h1 : z ≤ 255) (u : World) : (convert 109 9 (.slice (some ⟨u.heap.size, 0, none⟩) 1 1)).run Tryz.prog (u.alloc (.cells #[.int .u8 z] 5)).drew = .ok (.string (B [z.toNat.toUInt8])) (u.alloc (.cells #[.int .u8 z] 5)).drew := by
  refine run_convert_bytes_back _ _ _ _ ⟨u.heap.size, 0, none⟩ 1 [z.toNat.toUInt8] Tryz.underlying109 Tryz.underlying5 Tryz.underlying9 (fun j hj => ?_)
  match j, hj with
  | 0, _ =>
    have : (z.toNat.toUInt8.toNat : Int) = z := by
      rw [Nat.toUInt8, UInt8.toNat_ofNat', Nat.mod_eq_of_lt (by omega)]
      omega
    simp only [List.getElem_cons_zero, this]
    simp [Addr.add]
theorem escT_byte (n : Int) (k : Nat) (h : k ≠ 0) : escT (n, false, k) = [n.toNat.toUInt8] := by
  unfold escT
  rw [if_neg h]
  rfl
theorem escT_none : escT (0, false, 0) = [] := rfl
set_option maxRecDepth 100000 in
set_option maxHeartbeats 4000000 in
theorem refEsc_end (s : ByteArray) (i : Nat) (q : UInt8) (w : World) (hs : s.size ≤ 140737488355328) (hin : s.size ≤ i + 1) (hi : i < s.size) :
    Calls Tryz.prog 90 #[.string s, .int .i64 i, .int .u8 (q.toNat : Int)] w (RefEsc (escV s.data.toList i q) w) := by
  have hd : decide ((s.size : Int) ≤ (i : Int) + 1) = true := decide_eq_true (by omega)
  have HE := Lib.hid (escV_none (l := s.data.toList) (i := i) (q := q) (by rw [sdata]; exact hin))
  go_enter Tryz.func90, Tryz.ntmps90
  go_wp2_with fail
  go_ret3
  exact RefEsc.mk HE.out escT_none rfl (Below.refl _ _)
set_option maxRecDepth 100000 in
set_option maxHeartbeats 4000000 in
theorem refEsc_quote (s : ByteArray) (i : Nat) (q : UInt8) (w : World) (hs : s.size ≤ 140737488355328) (hin : i + 1 < s.size) (hc : s[i + 1] = q) (hq : q = 34 ∨ q = 39) :
    Calls Tryz.prog 90 #[.string s, .int .i64 i, .int .u8 (q.toNat : Int)] w (RefEsc (escV s.data.toList i q) w) := by
  have hd : decide ((s.size : Int) ≤ (i : Int) + 1) = false := decide_eq_false (by omega)
  have HE : Hid (escV s.data.toList i q = ((q.toNat : Int), false, 2)) := Lib.hid (by
    rw [escV_some (c := q) (by rw [List.getElem?_eq_getElem (by rw [sdata]; exact hin), at_data hin, hc])]
    rcases hq with rfl | rfl
    · rw [if_neg (by decide), if_neg (by decide), if_neg (by decide), if_neg (by decide)]; decide
    · rw [if_neg (by decide), if_neg (by decide), if_neg (by decide), if_neg (by decide)]; decide)
  have hix : ∀ u : World, (Instr.index 9 (.string s) (.int .i64 ((i : Int) + 1))).run Tryz.prog u = .ok (.int .u8 (q.toNat : Int)) u := fun u => by
    rw [← hc]; exact index_at s _ (i + 1) (by omega) hin u
  have hc0 : (0 : Int) ≤ (q.toNat : Int) := by omega
  have hc1 : (q.toNat : Int) ≤ 255 := by have := UInt8.toNat_lt q; omega
  have cv := conv_byte (q.toNat : Int) hc0 hc1
  have cvd := conv_byte_drew (q.toNat : Int) hc0 hc1
  have wq : IntKind.i64.wrap (q.toNat : Int) = (q.toNat : Int) := IntWalk.i64_in _ (by omega)
  clear hc hq
  go_enter Tryz.func90, Tryz.ntmps90
  go_wp2_with fail
  go_region
  all_goals (try go_wp2_with fail)
  all_goals go_ret3
  all_goals exact RefEsc.mk HE.out (by rw [escT_byte _ _ (by decide)]; simp) rfl ((Below.refl _ _).alloc (Nat.le_refl _) _).drew
end Go.Proofs.YtjbamlmdeopcaaaGreatDoor.tok
end

section
/-
  The reference's Escape: a sign.
-/
namespace Go.Proofs.YtjbamlmdeopcaaaGreatDoor.tok
open Go.RowKit

set_option maxRecDepth 100000 in
set_option maxHeartbeats 4000000 in
theorem refEsc_sign (s : ByteArray) (i : Nat) (c q : UInt8) (w : World) (hs : s.size ≤ 140737488355328) (hin : i + 1 < s.size) (hc : s[i + 1] = c) (hcq : c ≠ q) (k0 : Nat) (hk0 : k0 < 8) (hck : saySigns.getD k0 0 = c) :
    Calls Tryz.prog 90 #[.string s, .int .i64 i, .int .u8 (q.toNat : Int)] w (RefEsc (escV s.data.toList i q) w) := by
  have hd : decide ((s.size : Int) ≤ (i : Int) + 1) = false := decide_eq_false (by omega)
  have hix : ∀ u : World, (Instr.index 9 (.string s) (.int .i64 ((i : Int) + 1))).run Tryz.prog u = .ok (.int .u8 (c.toNat : Int)) u := fun u => by
    rw [← hc]; exact index_at s _ (i + 1) (by omega) hin u
  have hc0 : (0 : Int) ≤ (c.toNat : Int) := by omega
  have hc1 : (c.toNat : Int) ≤ 255 := by have := UInt8.toNat_lt c; omega
  have zq : ((c.toNat : Int) == (q.toNat : Int)) = false := byte_ne hcq
  have HE : Hid (∀ k, k < 8 → saySigns.getD k 0 = c → escV s.data.toList i q = (saySays.getD k 0, false, 2)) := Lib.hid (fun k hk e => by
    obtain ⟨n1, n2, n3, n4⟩ := sign_plain k hk
    rw [escV_some (c := c) (by rw [List.getElem?_eq_getElem (by rw [sdata]; exact hin), at_data hin, hc]), ← e, if_neg n1, if_neg n2, if_neg n3, if_neg n4, sign_hit q k hk])
  have HK0 : Hid (∀ k, (∀ j, j < k → saySigns.getD j 0 ≠ c) → k ≤ k0) := Lib.hid (fun k h => Nat.le_of_not_lt (fun g => h k0 g hck))
  clear hc hcq hck
  go_enter Tryz.func90, Tryz.ntmps90
  go_wp2_with fail
  go_loop [12] (fun x => ∃ k : Nat, k ≤ 8 ∧ x = .int .i64 k ∧ ∀ j, j < k → saySigns.getD j 0 ≠ c) (fun x => 8 - (intOf x).toNat)
  case atStart => exact ⟨0, by omega, rfl, fun j hj => by omega⟩
  case round =>
    obtain ⟨k, hk, rfl, hbef⟩ := hrel
    have HBF := Lib.hid hbef
    clear hbef
    have hkk := HK0.out k HBF.out
    have hlt : k < 8 := by omega
    obtain ⟨y, hy⟩ : ∃ y, saySigns.getD k 0 = y := ⟨_, rfl⟩
    have hik : ∀ u : World, (Instr.index 9 (.string { data := #[97, 98, 102, 110, 114, 116, 118, 92] }) (.int .i64 (k : Int))).run Tryz.prog u = .ok (.int .u8 (y.toNat : Int)) u := fun u => by
      rw [← hy]
      have := index_at (B saySigns) (k : Int) k rfl (by rw [bsize]; exact hlt) u
      have e : (B saySigns)[k]'(by rw [bsize]; exact hlt) = saySigns.getD k 0 := by
        have e1 := at_data (s := B saySigns) (i := k) (by rw [bsize]; exact hlt)
        rw [← e1]
        simp [bdata, List.getD, show k < saySigns.length from hlt]
      rw [e] at this
      exact this
    by_cases hyc : c = y
    · have zy : ((c.toNat : Int) == (y.toNat : Int)) = true := byte_eq hyc
      have HV := Lib.hid (HE.out k hlt (by rw [hy, hyc]))
      obtain ⟨b0, b1⟩ := says_bounds k hlt
      have hcell : ∀ u : World, (u.alloc (.cells #[.int .i64 7, .int .i64 8, .int .i64 12, .int .i64 10, .int .i64 13, .int .i64 9, .int .i64 11, .int .i64 92] 3)).cell? ⟨u.heap.size, k, none⟩ = some (.int .i64 (saySays.getD k 0)) := fun u => by
        rw [cell_of_row _ _ k _ _ (0, 0) (heap_alloc_last u _)]
        match k, hlt with
        | 0, _ => rfl
        | 1, _ => rfl
        | 2, _ => rfl
        | 3, _ => rfl
        | 4, _ => rfl
        | 5, _ => rfl
        | 6, _ => rfl
        | 7, _ => rfl
      have hget : ∀ h, ([.int .i64 7, .int .i64 8, .int .i64 12, .int .i64 10, .int .i64 13, .int .i64 9, .int .i64 11, .int .i64 92] : List Value)[k]'h = .int .i64 (saySays.getD k 0) := fun h => by
        match k, hlt with
        | 0, _ => rfl
        | 1, _ => rfl
        | 2, _ => rfl
        | 3, _ => rfl
        | 4, _ => rfl
        | 5, _ => rfl
        | 6, _ => rfl
        | 7, _ => rfl
      obtain ⟨x, hx⟩ : ∃ x, saySays.getD k 0 = x := ⟨_, rfl⟩
      rw [hx] at HV b0 b1 hcell hget
      have cv := conv_byte x b0 b1
      have cvd := conv_byte_drew x b0 b1
      have wq : x % 256 = x := by omega
      clear hy hyc hx
      have cvd2 := conv_byte_drew x b0 b1 (w.alloc (.cells #[.int .i64 7, .int .i64 8, .int .i64 12, .int .i64 10, .int .i64 13, .int .i64 9, .int .i64 11, .int .i64 92] 3))
      have cv2 := conv_byte x b0 b1 (w.alloc (.cells #[.int .i64 7, .int .i64 8, .int .i64 12, .int .i64 10, .int .i64 13, .int .i64 9, .int .i64 11, .int .i64 92] 3))
      rw [World.size_alloc] at cvd2 cv2
      go_wp2_with fail
      go_region
      all_goals (try go_wp2_with fail)
      all_goals (try simp only [hget])
      all_goals go_ret3
      all_goals exact RefEsc.mk HV.out (escT_byte _ _ (by decide)) rfl (((Below.refl _ _).alloc (Nat.le_refl _) _).alloc (by rw [World.size_alloc]; exact Nat.le_succ _) _).drew
    · have zy : ((c.toNat : Int) == (y.toNat : Int)) = false := byte_ne hyc
      have HN : Hid (∀ j, j < k + 1 → saySigns.getD j 0 ≠ c) := Lib.hid (fun j hj => by
        by_cases e : j = k
        · subst e; rw [hy]; exact fun g => hyc g.symm
        · exact HBF.out j (by omega))
      clear hyc
      go_wp2_with fail
      go_round
      case rel => exact ⟨k + 1, by omega, by go_num, HN.out⟩
      case measure => simp [intOf]; omega
end Go.Proofs.YtjbamlmdeopcaaaGreatDoor.tok
end

section
/-
  The reference's Escape: behind the signs.
-/
namespace Go.Proofs.YtjbamlmdeopcaaaGreatDoor.tok
open Go.RowKit

theorem refNumber_8z (s : ByteArray) (z m : Int) (i count : Nat) (w : World) (hz : z = (i : Int)) (hm : m = (count : Int)) (hs : s.size ≤ 140737488355328) (hi : i ≤ 140737488355338) (hc : count ≤ 8) :
    Calls Tryz.prog 104 #[.string s, .int .i64 z, .int .i64 m, .int .i64 8] w (NumMPost (numAt s.data.toList i count 8) w) := by
  subst hz hm
  exact refNumber_8 s i count w hs hi hc
theorem refNumber_16z (s : ByteArray) (z m : Int) (i count : Nat) (w : World) (hz : z = (i : Int)) (hm : m = (count : Int)) (hs : s.size ≤ 140737488355328) (hi : i ≤ 140737488355338) (hc : count ≤ 8) :
    Calls Tryz.prog 104 #[.string s, .int .i64 z, .int .i64 m, .int .i64 16] w (NumMPost (numAt s.data.toList i count 16) w) := by
  subst hz hm
  exact refNumber_16 s i count w hs hi hc
theorem escT_rune (n : Int) (k : Nat) (h : k ≠ 0) : escT (n, true, k) = Lib.encodeRune n := by
  unfold escT
  rw [if_neg h]
  rfl
set_option maxRecDepth 100000 in
set_option maxHeartbeats 4000000 in
theorem refEsc_x_none (s : ByteArray) (i : Nat) (c q : UInt8) (w : World) (hs : s.size ≤ 140737488355328) (hin : i + 1 < s.size) (hc : s[i + 1] = c) (hcq : c ≠ q) (e120 : c = 120) (hev : escV s.data.toList i q = byteE s.data.toList i 2 2 16) (ho : numAt s.data.toList (i + 2) 2 16 = none) (hns : ∀ k, k < 8 → saySigns.getD k 0 ≠ c) :
    Calls Tryz.prog 90 #[.string s, .int .i64 i, .int .u8 (q.toNat : Int)] w (RefEsc (escV s.data.toList i q) w) := by
  have HE : Hid (escV s.data.toList i q = (0, false, 0)) := Lib.hid (by rw [hev, byteE, ho])
  have HO := Lib.hid ho
  clear ho hev
  have hd : decide ((s.size : Int) ≤ (i : Int) + 1) = false := decide_eq_false (by omega)
  have hix : ∀ u : World, (Instr.index 9 (.string s) (.int .i64 ((i : Int) + 1))).run Tryz.prog u = .ok (.int .u8 (c.toNat : Int)) u := fun u => by
    rw [← hc]; exact index_at s _ (i + 1) (by omega) hin u
  have hc0 : (0 : Int) ≤ (c.toNat : Int) := by omega
  have hc1 : (c.toNat : Int) ≤ 255 := by have := UInt8.toNat_lt c; omega
  have zq : ((c.toNat : Int) == (q.toNat : Int)) = false := byte_ne hcq
  have z120 : ((c.toNat : Int) == 120) = true := byte_eq (d := 120) e120
  have HNS := Lib.hid hns
  clear hc hcq hns
  go_enter Tryz.func90, Tryz.ntmps90
  go_wp2_with fail
  go_loop [12] (fun x => ∃ k : Nat, k ≤ 8 ∧ x = .int .i64 k ∧ ∀ j, j < k → saySigns.getD j 0 ≠ c) (fun x => 8 - (intOf x).toNat)
  case atStart => exact ⟨0, by omega, rfl, fun j hj => by omega⟩
  case round =>
    obtain ⟨k, hk, rfl, hbef⟩ := hrel
    have HBF := Lib.hid hbef
    clear hbef
    by_cases hlt : k < 8
    · obtain ⟨y, hy⟩ : ∃ y, saySigns.getD k 0 = y := ⟨_, rfl⟩
      have hik : ∀ u : World, (Instr.index 9 (.string { data := #[97, 98, 102, 110, 114, 116, 118, 92] }) (.int .i64 (k : Int))).run Tryz.prog u = .ok (.int .u8 (y.toNat : Int)) u := fun u => by
        rw [← hy]
        have := index_at (B saySigns) (k : Int) k rfl (by rw [bsize]; exact hlt) u
        have e : (B saySigns)[k]'(by rw [bsize]; exact hlt) = saySigns.getD k 0 := by
          have e1 := at_data (s := B saySigns) (i := k) (by rw [bsize]; exact hlt)
          rw [← e1]
          simp [bdata, List.getD, show k < saySigns.length from hlt]
        rw [e] at this
        exact this
      have hyc : c ≠ y := fun g => HNS.out k hlt (by rw [hy]; exact g.symm)
      have zy : ((c.toNat : Int) == (y.toNat : Int)) = false := byte_ne hyc
      have HN : Hid (∀ j, j < k + 1 → saySigns.getD j 0 ≠ c) := Lib.hid (fun j hj => HNS.out j (by omega))
      clear hyc
      go_wp2_with fail
      go_round
      case rel => exact ⟨k + 1, by omega, by go_num, HN.out⟩
      case measure => simp [intOf]; omega
    · obtain rfl : k = 8 := by omega
      go_wp2_with (go_at_call 104; refine (refNumber_16z s _ _ (i + 2) 2 _ (by omega) rfl hs (by omega) (by omega)).mono ?_; rintro e w' ⟨rfl, rfl⟩; rw [HO.out]; simp only [numM])
      go_ret3
      exact RefEsc.mk HE.out escT_none rfl ((Below.refl _ _).alloc (Nat.le_refl _) _)
set_option maxRecDepth 100000 in
set_option maxHeartbeats 4000000 in
theorem refEsc_x_good (s : ByteArray) (i : Nat) (c q : UInt8) (w : World) (hs : s.size ≤ 140737488355328) (hin : i + 1 < s.size) (hc : s[i + 1] = c) (hcq : c ≠ q) (e120 : c = 120) (hev : escV s.data.toList i q = byteE s.data.toList i 2 2 16) (n : Int) (ho : numAt s.data.toList (i + 2) 2 16 = some n) (hn : n ≤ 255) (hns : ∀ k, k < 8 → saySigns.getD k 0 ≠ c) :
    Calls Tryz.prog 90 #[.string s, .int .i64 i, .int .u8 (q.toNat : Int)] w (RefEsc (escV s.data.toList i q) w) := by
  have HE : Hid (escV s.data.toList i q = (n, false, 4)) := Lib.hid (by rw [hev, byteE, ho]; exact if_neg (by omega))
  obtain ⟨_, hn0, hn1⟩ := numAt_bound (by omega) (by omega) ho
  have hp := pow_le8 2 (by omega)
  have hn2 : n ≤ 4294967296 := by omega
  clear hp hn1
  have d0 : decide (n < 0) = false := decide_eq_false (by omega)
  have d1 : decide (255 < n) = false := decide_eq_false (by omega)
  have d2 : decide (1114111 < n) = false := decide_eq_false (by omega)
  have wq : n % 256 = n := by omega
  have cv := conv_byte n hn0 hn
  have cvd := conv_byte_drew n hn0 hn
  have cv2 := conv_byte n hn0 hn (w.alloc (.cells #[.int .i64 7, .int .i64 8, .int .i64 12, .int .i64 10, .int .i64 13, .int .i64 9, .int .i64 11, .int .i64 92] 3))
  have cvd2 := conv_byte_drew n hn0 hn (w.alloc (.cells #[.int .i64 7, .int .i64 8, .int .i64 12, .int .i64 10, .int .i64 13, .int .i64 9, .int .i64 11, .int .i64 92] 3))
  rw [World.size_alloc] at cvd2 cv2
  have HO := Lib.hid ho
  clear ho hev
  have hd : decide ((s.size : Int) ≤ (i : Int) + 1) = false := decide_eq_false (by omega)
  have hix : ∀ u : World, (Instr.index 9 (.string s) (.int .i64 ((i : Int) + 1))).run Tryz.prog u = .ok (.int .u8 (c.toNat : Int)) u := fun u => by
    rw [← hc]; exact index_at s _ (i + 1) (by omega) hin u
  have hc0 : (0 : Int) ≤ (c.toNat : Int) := by omega
  have hc1 : (c.toNat : Int) ≤ 255 := by have := UInt8.toNat_lt c; omega
  have zq : ((c.toNat : Int) == (q.toNat : Int)) = false := byte_ne hcq
  have z120 : ((c.toNat : Int) == 120) = true := byte_eq (d := 120) e120
  have HNS := Lib.hid hns
  clear hc hcq hns
  go_enter Tryz.func90, Tryz.ntmps90
  go_wp2_with fail
  go_loop [12] (fun x => ∃ k : Nat, k ≤ 8 ∧ x = .int .i64 k ∧ ∀ j, j < k → saySigns.getD j 0 ≠ c) (fun x => 8 - (intOf x).toNat)
  case atStart => exact ⟨0, by omega, rfl, fun j hj => by omega⟩
  case round =>
    obtain ⟨k, hk, rfl, hbef⟩ := hrel
    have HBF := Lib.hid hbef
    clear hbef
    by_cases hlt : k < 8
    · obtain ⟨y, hy⟩ : ∃ y, saySigns.getD k 0 = y := ⟨_, rfl⟩
      have hik : ∀ u : World, (Instr.index 9 (.string { data := #[97, 98, 102, 110, 114, 116, 118, 92] }) (.int .i64 (k : Int))).run Tryz.prog u = .ok (.int .u8 (y.toNat : Int)) u := fun u => by
        rw [← hy]
        have := index_at (B saySigns) (k : Int) k rfl (by rw [bsize]; exact hlt) u
        have e : (B saySigns)[k]'(by rw [bsize]; exact hlt) = saySigns.getD k 0 := by
          have e1 := at_data (s := B saySigns) (i := k) (by rw [bsize]; exact hlt)
          rw [← e1]
          simp [bdata, List.getD, show k < saySigns.length from hlt]
        rw [e] at this
        exact this
      have hyc : c ≠ y := fun g => HNS.out k hlt (by rw [hy]; exact g.symm)
      have zy : ((c.toNat : Int) == (y.toNat : Int)) = false := byte_ne hyc
      have HN : Hid (∀ j, j < k + 1 → saySigns.getD j 0 ≠ c) := Lib.hid (fun j hj => HNS.out j (by omega))
      clear hyc
      go_wp2_with fail
      go_round
      case rel => exact ⟨k + 1, by omega, by go_num, HN.out⟩
      case measure => simp [intOf]; omega
    · obtain rfl : k = 8 := by omega
      go_wp2_with (go_at_call 104; refine (refNumber_16z s _ _ (i + 2) 2 _ (by omega) rfl hs (by omega) (by omega)).mono ?_; rintro e w' ⟨rfl, rfl⟩; rw [HO.out]; simp only [numM])
      all_goals (try go_region)
      all_goals (try go_wp2_with fail)
      all_goals (try go_ret3)
      all_goals exact RefEsc.mk HE.out (escT_byte _ _ (by decide)) rfl (((Below.refl _ _).alloc (Nat.le_refl _) _).alloc (by rw [World.size_alloc]; exact Nat.le_succ _) _).drew
set_option maxRecDepth 100000 in
set_option maxHeartbeats 4000000 in
theorem refEsc_d_none (s : ByteArray) (i : Nat) (c q : UInt8) (w : World) (hs : s.size ≤ 140737488355328) (hin : i + 1 < s.size) (hc : s[i + 1] = c) (hcq : c ≠ q) (n120 : c ≠ 120) (n117 : c ≠ 117) (n85 : c ≠ 85) (hev : escV s.data.toList i q = byteE s.data.toList i 1 3 8) (ho : numAt s.data.toList (i + 1) 3 8 = none) (hns : ∀ k, k < 8 → saySigns.getD k 0 ≠ c) :
    Calls Tryz.prog 90 #[.string s, .int .i64 i, .int .u8 (q.toNat : Int)] w (RefEsc (escV s.data.toList i q) w) := by
  have HE : Hid (escV s.data.toList i q = (0, false, 0)) := Lib.hid (by rw [hev, byteE, ho])
  have HO := Lib.hid ho
  clear ho hev
  have hd : decide ((s.size : Int) ≤ (i : Int) + 1) = false := decide_eq_false (by omega)
  have hix : ∀ u : World, (Instr.index 9 (.string s) (.int .i64 ((i : Int) + 1))).run Tryz.prog u = .ok (.int .u8 (c.toNat : Int)) u := fun u => by
    rw [← hc]; exact index_at s _ (i + 1) (by omega) hin u
  have hc0 : (0 : Int) ≤ (c.toNat : Int) := by omega
  have hc1 : (c.toNat : Int) ≤ 255 := by have := UInt8.toNat_lt c; omega
  have zq : ((c.toNat : Int) == (q.toNat : Int)) = false := byte_ne hcq
  have z120 : ((c.toNat : Int) == 120) = false := byte_ne (d := 120) n120
  have z117 : ((c.toNat : Int) == 117) = false := byte_ne (d := 117) n117
  have z85 : ((c.toNat : Int) == 85) = false := byte_ne (d := 85) n85
  have HNS := Lib.hid hns
  clear hc hcq hns
  go_enter Tryz.func90, Tryz.ntmps90
  go_wp2_with fail
  go_loop [12] (fun x => ∃ k : Nat, k ≤ 8 ∧ x = .int .i64 k ∧ ∀ j, j < k → saySigns.getD j 0 ≠ c) (fun x => 8 - (intOf x).toNat)
  case atStart => exact ⟨0, by omega, rfl, fun j hj => by omega⟩
  case round =>
    obtain ⟨k, hk, rfl, hbef⟩ := hrel
    have HBF := Lib.hid hbef
    clear hbef
    by_cases hlt : k < 8
    · obtain ⟨y, hy⟩ : ∃ y, saySigns.getD k 0 = y := ⟨_, rfl⟩
      have hik : ∀ u : World, (Instr.index 9 (.string { data := #[97, 98, 102, 110, 114, 116, 118, 92] }) (.int .i64 (k : Int))).run Tryz.prog u = .ok (.int .u8 (y.toNat : Int)) u := fun u => by
        rw [← hy]
        have := index_at (B saySigns) (k : Int) k rfl (by rw [bsize]; exact hlt) u
        have e : (B saySigns)[k]'(by rw [bsize]; exact hlt) = saySigns.getD k 0 := by
          have e1 := at_data (s := B saySigns) (i := k) (by rw [bsize]; exact hlt)
          rw [← e1]
          simp [bdata, List.getD, show k < saySigns.length from hlt]
        rw [e] at this
        exact this
      have hyc : c ≠ y := fun g => HNS.out k hlt (by rw [hy]; exact g.symm)
      have zy : ((c.toNat : Int) == (y.toNat : Int)) = false := byte_ne hyc
      have HN : Hid (∀ j, j < k + 1 → saySigns.getD j 0 ≠ c) := Lib.hid (fun j hj => HNS.out j (by omega))
      clear hyc
      go_wp2_with fail
      go_round
      case rel => exact ⟨k + 1, by omega, by go_num, HN.out⟩
      case measure => simp [intOf]; omega
    · obtain rfl : k = 8 := by omega
      go_wp2_with (go_at_call 104; refine (refNumber_8z s _ _ (i + 1) 3 _ (by omega) rfl hs (by omega) (by omega)).mono ?_; rintro e w' ⟨rfl, rfl⟩; rw [HO.out]; simp only [numM])
      go_ret3
      exact RefEsc.mk HE.out escT_none rfl ((Below.refl _ _).alloc (Nat.le_refl _) _)
end Go.Proofs.YtjbamlmdeopcaaaGreatDoor.tok
end
