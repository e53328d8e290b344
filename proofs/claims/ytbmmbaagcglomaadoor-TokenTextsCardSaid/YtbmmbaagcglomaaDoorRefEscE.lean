/-
  The reference's Escape: behind the signs.
-/
import Derived.Test.YtbmmbaagcglomaaDoorRefEscC
namespace Go.Proofs.YtbmmbaagcglomaaDoor.tok
open Go.RowKit

set_option maxRecDepth 100000 in
set_option maxHeartbeats 4000000 in
theorem refEsc_U_none (s : ByteArray) (i : Nat) (c q : UInt8) (w : World) (hs : s.size ≤ 140737488355328) (hin : i + 1 < s.size) (hc : s[i + 1] = c) (hcq : c ≠ q) (n120 : c ≠ 120) (n117 : c ≠ 117) (e85 : c = 85) (hev : escV s.data.toList i q = runeE s.data.toList i 8) (ho : numAt s.data.toList (i + 2) 8 16 = none) (hns : ∀ k, k < 8 → saySigns.getD k 0 ≠ c) :
    Calls Tryd.prog 44 #[.string s, .int .i64 i, .int .u8 (q.toNat : Int)] w (RefEsc (escV s.data.toList i q) w) := by
  have HE : Hid (escV s.data.toList i q = (0, false, 0)) := Lib.hid (by rw [hev, runeE, ho])
  have HO := Lib.hid ho
  clear ho hev
  have hd : decide ((s.size : Int) ≤ (i : Int) + 1) = false := decide_eq_false (by omega)
  have hix : ∀ u : World, (Instr.index 9 (.string s) (.int .i64 ((i : Int) + 1))).run Tryd.prog u = .ok (.int .u8 (c.toNat : Int)) u := fun u => by
    rw [← hc]; exact index_at s _ (i + 1) (by omega) hin u
  have hc0 : (0 : Int) ≤ (c.toNat : Int) := by omega
  have hc1 : (c.toNat : Int) ≤ 255 := by have := UInt8.toNat_lt c; omega
  have zq : ((c.toNat : Int) == (q.toNat : Int)) = false := byte_ne hcq
  have z120 : ((c.toNat : Int) == 120) = false := byte_ne (d := 120) n120
  have z117 : ((c.toNat : Int) == 117) = false := byte_ne (d := 117) n117
  have z85 : ((c.toNat : Int) == 85) = true := byte_eq (d := 85) e85
  have HNS := Lib.hid hns
  clear hc hcq hns
  go_enter Tryd.func44, Tryd.ntmps44
  go_wp2_with fail
  go_loop [12] (fun x => ∃ k : Nat, k ≤ 8 ∧ x = .int .i64 k ∧ ∀ j, j < k → saySigns.getD j 0 ≠ c) (fun x => 8 - (intOf x).toNat)
  case atStart => exact ⟨0, by omega, rfl, fun j hj => by omega⟩
  case round =>
    obtain ⟨k, hk, rfl, hbef⟩ := hrel
    have HBF := Lib.hid hbef
    clear hbef
    by_cases hlt : k < 8
    · obtain ⟨y, hy⟩ : ∃ y, saySigns.getD k 0 = y := ⟨_, rfl⟩
      have hik : ∀ u : World, (Instr.index 9 (.string { data := #[97, 98, 102, 110, 114, 116, 118, 92] }) (.int .i64 (k : Int))).run Tryd.prog u = .ok (.int .u8 (y.toNat : Int)) u := fun u => by
        rw [← hy]
        have := index_at (B saySigns) (k : Int) k rfl (by rw [bsize]; exact hlt) u
        have e : (B saySigns)[k]'(by rw [bsize]; exact hlt) = saySigns.getD k 0 := by
          have e1 := at_data (s := B saySigns) (i := k) (by rw [bsize]; exact hlt)
          rw [← e1]
          simp [bdata, List.getD, show k < saySigns.length from hlt]
        rw [e] at this
        exact this
      have hyc : c ≠ y := fun g => HNS.out k hlt (by rw [hy]; exact g.symm)
      have zy : ((c.toNat : Int) == (y.toNat : Int)) = false := byte_ne hyc
      have HN : Hid (∀ j, j < k + 1 → saySigns.getD j 0 ≠ c) := Lib.hid (fun j hj => HNS.out j (by omega))
      clear hyc
      go_wp2_with fail
      go_round
      case rel => exact ⟨k + 1, by omega, by go_num, HN.out⟩
      case measure => simp [intOf]; omega
    · obtain rfl : k = 8 := by omega
      go_wp2_with (go_at_call 55; refine (refNumber_16z s _ _ (i + 2) 8 _ (by omega) rfl hs (by omega) (by omega)).mono ?_; rintro e w' ⟨rfl, rfl⟩; rw [HO.out]; simp only [numM])
      go_ret3
      exact RefEsc.mk HE.out escT_none rfl ((Below.refl _ _).alloc (Nat.le_refl _) _)
set_option maxRecDepth 100000 in
set_option maxHeartbeats 4000000 in
theorem refEsc_U_big (s : ByteArray) (i : Nat) (c q : UInt8) (w : World) (hs : s.size ≤ 140737488355328) (hin : i + 1 < s.size) (hc : s[i + 1] = c) (hcq : c ≠ q) (n120 : c ≠ 120) (n117 : c ≠ 117) (e85 : c = 85) (hev : escV s.data.toList i q = runeE s.data.toList i 8) (n : Int) (ho : numAt s.data.toList (i + 2) 8 16 = some n) (hn : 1114111 < n) (hns : ∀ k, k < 8 → saySigns.getD k 0 ≠ c) :
    Calls Tryd.prog 44 #[.string s, .int .i64 i, .int .u8 (q.toNat : Int)] w (RefEsc (escV s.data.toList i q) w) := by
  have HE : Hid (escV s.data.toList i q = (0, false, 0)) := Lib.hid (by rw [hev, runeE, ho]; exact if_pos hn)
  obtain ⟨_, hn0, hn1⟩ := numAt_bound (by omega) (by omega) ho
  have hp := pow_le8 8 (by omega)
  have hn2 : n ≤ 4294967296 := by omega
  clear hp hn1
  have d0 : decide (n < 0) = false := decide_eq_false (by omega)
  have d2 : decide (1114111 < n) = true := decide_eq_true (by omega)
  have HO := Lib.hid ho
  clear ho hev
  have hd : decide ((s.size : Int) ≤ (i : Int) + 1) = false := decide_eq_false (by omega)
  have hix : ∀ u : World, (Instr.index 9 (.string s) (.int .i64 ((i : Int) + 1))).run Tryd.prog u = .ok (.int .u8 (c.toNat : Int)) u := fun u => by
    rw [← hc]; exact index_at s _ (i + 1) (by omega) hin u
  have hc0 : (0 : Int) ≤ (c.toNat : Int) := by omega
  have hc1 : (c.toNat : Int) ≤ 255 := by have := UInt8.toNat_lt c; omega
  have zq : ((c.toNat : Int) == (q.toNat : Int)) = false := byte_ne hcq
  have z120 : ((c.toNat : Int) == 120) = false := byte_ne (d := 120) n120
  have z117 : ((c.toNat : Int) == 117) = false := byte_ne (d := 117) n117
  have z85 : ((c.toNat : Int) == 85) = true := byte_eq (d := 85) e85
  have HNS := Lib.hid hns
  clear hc hcq hns
  go_enter Tryd.func44, Tryd.ntmps44
  go_wp2_with fail
  go_loop [12] (fun x => ∃ k : Nat, k ≤ 8 ∧ x = .int .i64 k ∧ ∀ j, j < k → saySigns.getD j 0 ≠ c) (fun x => 8 - (intOf x).toNat)
  case atStart => exact ⟨0, by omega, rfl, fun j hj => by omega⟩
  case round =>
    obtain ⟨k, hk, rfl, hbef⟩ := hrel
    have HBF := Lib.hid hbef
    clear hbef
    by_cases hlt : k < 8
    · obtain ⟨y, hy⟩ : ∃ y, saySigns.getD k 0 = y := ⟨_, rfl⟩
      have hik : ∀ u : World, (Instr.index 9 (.string { data := #[97, 98, 102, 110, 114, 116, 118, 92] }) (.int .i64 (k : Int))).run Tryd.prog u = .ok (.int .u8 (y.toNat : Int)) u := fun u => by
        rw [← hy]
        have := index_at (B saySigns) (k : Int) k rfl (by rw [bsize]; exact hlt) u
        have e : (B saySigns)[k]'(by rw [bsize]; exact hlt) = saySigns.getD k 0 := by
          have e1 := at_data (s := B saySigns) (i := k) (by rw [bsize]; exact hlt)
          rw [← e1]
          simp [bdata, List.getD, show k < saySigns.length from hlt]
        rw [e] at this
        exact this
      have hyc : c ≠ y := fun g => HNS.out k hlt (by rw [hy]; exact g.symm)
      have zy : ((c.toNat : Int) == (y.toNat : Int)) = false := byte_ne hyc
      have HN : Hid (∀ j, j < k + 1 → saySigns.getD j 0 ≠ c) := Lib.hid (fun j hj => HNS.out j (by omega))
      clear hyc
      go_wp2_with fail
      go_round
      case rel => exact ⟨k + 1, by omega, by go_num, HN.out⟩
      case measure => simp [intOf]; omega
    · obtain rfl : k = 8 := by omega
      go_wp2_with (go_at_call 55; refine (refNumber_16z s _ _ (i + 2) 8 _ (by omega) rfl hs (by omega) (by omega)).mono ?_; rintro e w' ⟨rfl, rfl⟩; rw [HO.out]; simp only [numM])
      go_ret3
      exact RefEsc.mk HE.out escT_none rfl ((Below.refl _ _).alloc (Nat.le_refl _) _)
set_option maxRecDepth 100000 in
set_option maxHeartbeats 4000000 in
theorem refEsc_U_bad (s : ByteArray) (i : Nat) (c q : UInt8) (w : World) (hs : s.size ≤ 140737488355328) (hin : i + 1 < s.size) (hc : s[i + 1] = c) (hcq : c ≠ q) (n120 : c ≠ 120) (n117 : c ≠ 117) (e85 : c = 85) (hev : escV s.data.toList i q = runeE s.data.toList i 8) (n : Int) (ho : numAt s.data.toList (i + 2) 8 16 = some n) (hn : n ≤ 1114111) (hbad : 55296 ≤ n ∧ n ≤ 57343) (hns : ∀ k, k < 8 → saySigns.getD k 0 ≠ c) :
    Calls Tryd.prog 44 #[.string s, .int .i64 i, .int .u8 (q.toNat : Int)] w (RefEsc (escV s.data.toList i q) w) := by
  have hv : Lib.validRune n = false := by unfold Lib.validRune; exact decide_eq_false (by omega)
  have HE : Hid (escV s.data.toList i q = (0, false, 0)) := Lib.hid (by rw [hev, runeE, ho]; show (if 1114111 < n then _ else if Lib.validRune n = true then _ else _) = _; rw [if_neg (by omega), if_neg (by rw [hv]; decide)])
  clear hv
  obtain ⟨_, hn0, hn1⟩ := numAt_bound (by omega) (by omega) ho
  have hp := pow_le8 8 (by omega)
  have hn2 : n ≤ 4294967296 := by omega
  clear hp hn1
  have d0 : decide (n < 0) = false := decide_eq_false (by omega)
  have d2 : decide (1114111 < n) = false := decide_eq_false (by omega)
  have d3 : decide (55296 ≤ n) = true := decide_eq_true (by omega)
  have d4 : decide (n ≤ 57343) = true := decide_eq_true (by omega)
  have HO := Lib.hid ho
  clear ho hev
  have hd : decide ((s.size : Int) ≤ (i : Int) + 1) = false := decide_eq_false (by omega)
  have hix : ∀ u : World, (Instr.index 9 (.string s) (.int .i64 ((i : Int) + 1))).run Tryd.prog u = .ok (.int .u8 (c.toNat : Int)) u := fun u => by
    rw [← hc]; exact index_at s _ (i + 1) (by omega) hin u
  have hc0 : (0 : Int) ≤ (c.toNat : Int) := by omega
  have hc1 : (c.toNat : Int) ≤ 255 := by have := UInt8.toNat_lt c; omega
  have zq : ((c.toNat : Int) == (q.toNat : Int)) = false := byte_ne hcq
  have z120 : ((c.toNat : Int) == 120) = false := byte_ne (d := 120) n120
  have z117 : ((c.toNat : Int) == 117) = false := byte_ne (d := 117) n117
  have z85 : ((c.toNat : Int) == 85) = true := byte_eq (d := 85) e85
  have HNS := Lib.hid hns
  clear hc hcq hns
  go_enter Tryd.func44, Tryd.ntmps44
  go_wp2_with fail
  go_loop [12] (fun x => ∃ k : Nat, k ≤ 8 ∧ x = .int .i64 k ∧ ∀ j, j < k → saySigns.getD j 0 ≠ c) (fun x => 8 - (intOf x).toNat)
  case atStart => exact ⟨0, by omega, rfl, fun j hj => by omega⟩
  case round =>
    obtain ⟨k, hk, rfl, hbef⟩ := hrel
    have HBF := Lib.hid hbef
    clear hbef
    by_cases hlt : k < 8
    · obtain ⟨y, hy⟩ : ∃ y, saySigns.getD k 0 = y := ⟨_, rfl⟩
      have hik : ∀ u : World, (Instr.index 9 (.string { data := #[97, 98, 102, 110, 114, 116, 118, 92] }) (.int .i64 (k : Int))).run Tryd.prog u = .ok (.int .u8 (y.toNat : Int)) u := fun u => by
        rw [← hy]
        have := index_at (B saySigns) (k : Int) k rfl (by rw [bsize]; exact hlt) u
        have e : (B saySigns)[k]'(by rw [bsize]; exact hlt) = saySigns.getD k 0 := by
          have e1 := at_data (s := B saySigns) (i := k) (by rw [bsize]; exact hlt)
          rw [← e1]
          simp [bdata, List.getD, show k < saySigns.length from hlt]
        rw [e] at this
        exact this
      have hyc : c ≠ y := fun g => HNS.out k hlt (by rw [hy]; exact g.symm)
      have zy : ((c.toNat : Int) == (y.toNat : Int)) = false := byte_ne hyc
      have HN : Hid (∀ j, j < k + 1 → saySigns.getD j 0 ≠ c) := Lib.hid (fun j hj => HNS.out j (by omega))
      clear hyc
      go_wp2_with fail
      go_round
      case rel => exact ⟨k + 1, by omega, by go_num, HN.out⟩
      case measure => simp [intOf]; omega
    · obtain rfl : k = 8 := by omega
      go_wp2_with (go_at_call 55; refine (refNumber_16z s _ _ (i + 2) 8 _ (by omega) rfl hs (by omega) (by omega)).mono ?_; rintro e w' ⟨rfl, rfl⟩; rw [HO.out]; simp only [numM])
      go_ret3
      exact RefEsc.mk HE.out escT_none rfl ((Below.refl _ _).alloc (Nat.le_refl _) _)
set_option maxRecDepth 100000 in
set_option maxHeartbeats 4000000 in
theorem refEsc_U_lo (s : ByteArray) (i : Nat) (c q : UInt8) (w : World) (hs : s.size ≤ 140737488355328) (hin : i + 1 < s.size) (hc : s[i + 1] = c) (hcq : c ≠ q) (n120 : c ≠ 120) (n117 : c ≠ 117) (e85 : c = 85) (hev : escV s.data.toList i q = runeE s.data.toList i 8) (n : Int) (ho : numAt s.data.toList (i + 2) 8 16 = some n) (hgood : n < 55296) (hns : ∀ k, k < 8 → saySigns.getD k 0 ≠ c) :
    Calls Tryd.prog 44 #[.string s, .int .i64 i, .int .u8 (q.toNat : Int)] w (RefEsc (escV s.data.toList i q) w) := by
  have hb := numAt_bound (by omega) (by omega) ho
  have hv : Lib.validRune n = true := by unfold Lib.validRune; exact decide_eq_true (by omega)
  have HE : Hid (escV s.data.toList i q = (n, true, 10)) := Lib.hid (by rw [hev, runeE, ho]; show (if 1114111 < n then _ else if Lib.validRune n = true then _ else _) = _; rw [if_neg (by omega), if_pos hv])
  have HV := Lib.hid hv
  clear hv hb
  obtain ⟨_, hn0, hn1⟩ := numAt_bound (by omega) (by omega) ho
  have hp := pow_le8 8 (by omega)
  have hn2 : n ≤ 4294967296 := by omega
  clear hp hn1
  have d0 : decide (n < 0) = false := decide_eq_false (by omega)
  have d2 : decide (1114111 < n) = false := decide_eq_false (by omega)
  have d3 : decide (55296 ≤ n) = false := decide_eq_false (by omega)
  have HO := Lib.hid ho
  clear ho hev
  have hd : decide ((s.size : Int) ≤ (i : Int) + 1) = false := decide_eq_false (by omega)
  have hix : ∀ u : World, (Instr.index 9 (.string s) (.int .i64 ((i : Int) + 1))).run Tryd.prog u = .ok (.int .u8 (c.toNat : Int)) u := fun u => by
    rw [← hc]; exact index_at s _ (i + 1) (by omega) hin u
  have hc0 : (0 : Int) ≤ (c.toNat : Int) := by omega
  have hc1 : (c.toNat : Int) ≤ 255 := by have := UInt8.toNat_lt c; omega
  have zq : ((c.toNat : Int) == (q.toNat : Int)) = false := byte_ne hcq
  have z120 : ((c.toNat : Int) == 120) = false := byte_ne (d := 120) n120
  have z117 : ((c.toNat : Int) == 117) = false := byte_ne (d := 117) n117
  have z85 : ((c.toNat : Int) == 85) = true := byte_eq (d := 85) e85
  have HNS := Lib.hid hns
  clear hc hcq hns
  go_enter Tryd.func44, Tryd.ntmps44
  go_wp2_with fail
  go_loop [12] (fun x => ∃ k : Nat, k ≤ 8 ∧ x = .int .i64 k ∧ ∀ j, j < k → saySigns.getD j 0 ≠ c) (fun x => 8 - (intOf x).toNat)
  case atStart => exact ⟨0, by omega, rfl, fun j hj => by omega⟩
  case round =>
    obtain ⟨k, hk, rfl, hbef⟩ := hrel
    have HBF := Lib.hid hbef
    clear hbef
    by_cases hlt : k < 8
    · obtain ⟨y, hy⟩ : ∃ y, saySigns.getD k 0 = y := ⟨_, rfl⟩
      have hik : ∀ u : World, (Instr.index 9 (.string { data := #[97, 98, 102, 110, 114, 116, 118, 92] }) (.int .i64 (k : Int))).run Tryd.prog u = .ok (.int .u8 (y.toNat : Int)) u := fun u => by
        rw [← hy]
        have := index_at (B saySigns) (k : Int) k rfl (by rw [bsize]; exact hlt) u
        have e : (B saySigns)[k]'(by rw [bsize]; exact hlt) = saySigns.getD k 0 := by
          have e1 := at_data (s := B saySigns) (i := k) (by rw [bsize]; exact hlt)
          rw [← e1]
          simp [bdata, List.getD, show k < saySigns.length from hlt]
        rw [e] at this
        exact this
      have hyc : c ≠ y := fun g => HNS.out k hlt (by rw [hy]; exact g.symm)
      have zy : ((c.toNat : Int) == (y.toNat : Int)) = false := byte_ne hyc
      have HN : Hid (∀ j, j < k + 1 → saySigns.getD j 0 ≠ c) := Lib.hid (fun j hj => HNS.out j (by omega))
      clear hyc
      go_wp2_with fail
      go_round
      case rel => exact ⟨k + 1, by omega, by go_num, HN.out⟩
      case measure => simp [intOf]; omega
    · obtain rfl : k = 8 := by omega
      go_wp2_with (first | (go_at_call 55; refine (refNumber_16z s _ _ (i + 2) 8 _ (by omega) rfl hs (by omega) (by omega)).mono ?_; rintro e w' ⟨rfl, rfl⟩; rw [HO.out]; simp only [numM]) | (go_at_call 56; refine (utf_any n _ HV.out).mono ?_; rintro e w' ⟨rfl, hb⟩))
      go_ret3
      exact RefEsc.mk HE.out (escT_rune _ _ (by decide)) rfl (((Below.refl _ _).alloc (Nat.le_refl _) _).trans (hb.mono (by rw [World.size_alloc]; exact Nat.le_succ _)))
set_option maxRecDepth 100000 in
set_option maxHeartbeats 4000000 in
theorem refEsc_U_hi (s : ByteArray) (i : Nat) (c q : UInt8) (w : World) (hs : s.size ≤ 140737488355328) (hin : i + 1 < s.size) (hc : s[i + 1] = c) (hcq : c ≠ q) (n120 : c ≠ 120) (n117 : c ≠ 117) (e85 : c = 85) (hev : escV s.data.toList i q = runeE s.data.toList i 8) (n : Int) (ho : numAt s.data.toList (i + 2) 8 16 = some n) (hn : n ≤ 1114111) (hgood : 57343 < n) (hns : ∀ k, k < 8 → saySigns.getD k 0 ≠ c) :
    Calls Tryd.prog 44 #[.string s, .int .i64 i, .int .u8 (q.toNat : Int)] w (RefEsc (escV s.data.toList i q) w) := by
  have hb := numAt_bound (by omega) (by omega) ho
  have hv : Lib.validRune n = true := by unfold Lib.validRune; exact decide_eq_true (by omega)
  have HE : Hid (escV s.data.toList i q = (n, true, 10)) := Lib.hid (by rw [hev, runeE, ho]; show (if 1114111 < n then _ else if Lib.validRune n = true then _ else _) = _; rw [if_neg (by omega), if_pos hv])
  have HV := Lib.hid hv
  clear hv hb
  obtain ⟨_, hn0, hn1⟩ := numAt_bound (by omega) (by omega) ho
  have hp := pow_le8 8 (by omega)
  have hn2 : n ≤ 4294967296 := by omega
  clear hp hn1
  have d0 : decide (n < 0) = false := decide_eq_false (by omega)
  have d2 : decide (1114111 < n) = false := decide_eq_false (by omega)
  have d3 : decide (55296 ≤ n) = true := decide_eq_true (by omega)
  have d4 : decide (n ≤ 57343) = false := decide_eq_false (by omega)
  have HO := Lib.hid ho
  clear ho hev
  have hd : decide ((s.size : Int) ≤ (i : Int) + 1) = false := decide_eq_false (by omega)
  have hix : ∀ u : World, (Instr.index 9 (.string s) (.int .i64 ((i : Int) + 1))).run Tryd.prog u = .ok (.int .u8 (c.toNat : Int)) u := fun u => by
    rw [← hc]; exact index_at s _ (i + 1) (by omega) hin u
  have hc0 : (0 : Int) ≤ (c.toNat : Int) := by omega
  have hc1 : (c.toNat : Int) ≤ 255 := by have := UInt8.toNat_lt c; omega
  have zq : ((c.toNat : Int) == (q.toNat : Int)) = false := byte_ne hcq
  have z120 : ((c.toNat : Int) == 120) = false := byte_ne (d := 120) n120
  have z117 : ((c.toNat : Int) == 117) = false := byte_ne (d := 117) n117
  have z85 : ((c.toNat : Int) == 85) = true := byte_eq (d := 85) e85
  have HNS := Lib.hid hns
  clear hc hcq hns
  go_enter Tryd.func44, Tryd.ntmps44
  go_wp2_with fail
  go_loop [12] (fun x => ∃ k : Nat, k ≤ 8 ∧ x = .int .i64 k ∧ ∀ j, j < k → saySigns.getD j 0 ≠ c) (fun x => 8 - (intOf x).toNat)
  case atStart => exact ⟨0, by omega, rfl, fun j hj => by omega⟩
  case round =>
    obtain ⟨k, hk, rfl, hbef⟩ := hrel
    have HBF := Lib.hid hbef
    clear hbef
    by_cases hlt : k < 8
    · obtain ⟨y, hy⟩ : ∃ y, saySigns.getD k 0 = y := ⟨_, rfl⟩
      have hik : ∀ u : World, (Instr.index 9 (.string { data := #[97, 98, 102, 110, 114, 116, 118, 92] }) (.int .i64 (k : Int))).run Tryd.prog u = .ok (.int .u8 (y.toNat : Int)) u := fun u => by
        rw [← hy]
        have := index_at (B saySigns) (k : Int) k rfl (by rw [bsize]; exact hlt) u
        have e : (B saySigns)[k]'(by rw [bsize]; exact hlt) = saySigns.getD k 0 := by
          have e1 := at_data (s := B saySigns) (i := k) (by rw [bsize]; exact hlt)
          rw [← e1]
          simp [bdata, List.getD, show k < saySigns.length from hlt]
        rw [e] at this
        exact this
      have hyc : c ≠ y := fun g => HNS.out k hlt (by rw [hy]; exact g.symm)
      have zy : ((c.toNat : Int) == (y.toNat : Int)) = false := byte_ne hyc
      have HN : Hid (∀ j, j < k + 1 → saySigns.getD j 0 ≠ c) := Lib.hid (fun j hj => HNS.out j (by omega))
      clear hyc
      go_wp2_with fail
      go_round
      case rel => exact ⟨k + 1, by omega, by go_num, HN.out⟩
      case measure => simp [intOf]; omega
    · obtain rfl : k = 8 := by omega
      go_wp2_with (first | (go_at_call 55; refine (refNumber_16z s _ _ (i + 2) 8 _ (by omega) rfl hs (by omega) (by omega)).mono ?_; rintro e w' ⟨rfl, rfl⟩; rw [HO.out]; simp only [numM]) | (go_at_call 56; refine (utf_any n _ HV.out).mono ?_; rintro e w' ⟨rfl, hb⟩))
      go_ret3
      exact RefEsc.mk HE.out (escT_rune _ _ (by decide)) rfl (((Below.refl _ _).alloc (Nat.le_refl _) _).trans (hb.mono (by rw [World.size_alloc]; exact Nat.le_succ _)))
end Go.Proofs.YtbmmbaagcglomaaDoor.tok
