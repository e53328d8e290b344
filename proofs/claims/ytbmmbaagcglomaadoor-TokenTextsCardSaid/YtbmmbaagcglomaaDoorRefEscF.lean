/-
  The reference's Escape: behind the signs.
-/
import Derived.Test.YtbmmbaagcglomaaDoorRefEscC
namespace Go.Proofs.YtbmmbaagcglomaaDoor.tok
open Go.RowKit

set_option maxRecDepth 100000 in
set_option maxHeartbeats 4000000 in
theorem refEsc_d_big (s : ByteArray) (i : Nat) (c q : UInt8) (w : World) (hs : s.size ≤ 140737488355328) (hin : i + 1 < s.size) (hc : s[i + 1] = c) (hcq : c ≠ q) (n120 : c ≠ 120) (n117 : c ≠ 117) (n85 : c ≠ 85) (hev : escV s.data.toList i q = byteE s.data.toList i 1 3 8) (n : Int) (ho : numAt s.data.toList (i + 1) 3 8 = some n) (hn : 255 < n) (hns : ∀ k, k < 8 → saySigns.getD k 0 ≠ c) :
    Calls Tryd.prog 44 #[.string s, .int .i64 i, .int .u8 (q.toNat : Int)] w (RefEsc (escV s.data.toList i q) w) := by
  have HE : Hid (escV s.data.toList i q = (0, false, 0)) := Lib.hid (by rw [hev, byteE, ho]; exact if_pos hn)
  obtain ⟨_, hn0, hn1⟩ := numAt_bound (by omega) (by omega) ho
  have hp := pow_le8 3 (by omega)
  have hn2 : n ≤ 4294967296 := by omega
  clear hp hn1
  have d0 : decide (n < 0) = false := decide_eq_false (by omega)
  have d1 : decide (255 < n) = true := decide_eq_true (by omega)
  have HO := Lib.hid ho
  clear ho hev
  have hd : decide ((s.size : Int) ≤ (i : Int) + 1) = false := decide_eq_false (by omega)
  have hix : ∀ u : World, (Instr.index 9 (.string s) (.int .i64 ((i : Int) + 1))).run Tryd.prog u = .ok (.int .u8 (c.toNat : Int)) u := fun u => by
    rw [← hc]; exact index_at s _ (i + 1) (by omega) hin u
  have hc0 : (0 : Int) ≤ (c.toNat : Int) := by omega
  have hc1 : (c.toNat : Int) ≤ 255 := by have := UInt8.toNat_lt c; omega
  have zq : ((c.toNat : Int) == (q.toNat : Int)) = false := byte_ne hcq
  have z120 : ((c.toNat : Int) == 120) = false := byte_ne (d := 120) n120
  have z117 : ((c.toNat : Int) == 117) = false := byte_ne (d := 117) n117
  have z85 : ((c.toNat : Int) == 85) = false := byte_ne (d := 85) n85
  have HNS := Lib.hid hns
  clear hc hcq hns
  go_enter Tryd.func44, Tryd.ntmps44
  go_wp2_with fail
  go_loop [12] (fun x => ∃ k : Nat, k ≤ 8 ∧ x = .int .i64 k ∧ ∀ j, j < k → saySigns.getD j 0 ≠ c) (fun x => 8 - (intOf x).toNat)
  case atStart => exact ⟨0, by omega, rfl, fun j hj => by omega⟩
  case round =>
    obtain ⟨k, hk, rfl, hbef⟩ := hrel
    have HBF := Lib.hid hbef
    clear hbef
    by_cases hlt : k < 8
    · obtain ⟨y, hy⟩ : ∃ y, saySigns.getD k 0 = y := ⟨_, rfl⟩
      have hik : ∀ u : World, (Instr.index 9 (.string { data := #[97, 98, 102, 110, 114, 116, 118, 92] }) (.int .i64 (k : Int))).run Tryd.prog u = .ok (.int .u8 (y.toNat : Int)) u := fun u => by
        rw [← hy]
        have := index_at (B saySigns) (k : Int) k rfl (by rw [bsize]; exact hlt) u
        have e : (B saySigns)[k]'(by rw [bsize]; exact hlt) = saySigns.getD k 0 := by
          have e1 := at_data (s := B saySigns) (i := k) (by rw [bsize]; exact hlt)
          rw [← e1]
          simp [bdata, List.getD, show k < saySigns.length from hlt]
        rw [e] at this
        exact this
      have hyc : c ≠ y := fun g => HNS.out k hlt (by rw [hy]; exact g.symm)
      have zy : ((c.toNat : Int) == (y.toNat : Int)) = false := byte_ne hyc
      have HN : Hid (∀ j, j < k + 1 → saySigns.getD j 0 ≠ c) := Lib.hid (fun j hj => HNS.out j (by omega))
      clear hyc
      go_wp2_with fail
      go_round
      case rel => exact ⟨k + 1, by omega, by go_num, HN.out⟩
      case measure => simp [intOf]; omega
    · obtain rfl : k = 8 := by omega
      go_wp2_with (go_at_call 55; refine (refNumber_8z s _ _ (i + 1) 3 _ (by omega) rfl hs (by omega) (by omega)).mono ?_; rintro e w' ⟨rfl, rfl⟩; rw [HO.out]; simp only [numM])
      go_ret3
      exact RefEsc.mk HE.out escT_none rfl ((Below.refl _ _).alloc (Nat.le_refl _) _)
set_option maxRecDepth 100000 in
set_option maxHeartbeats 4000000 in
theorem refEsc_d_good (s : ByteArray) (i : Nat) (c q : UInt8) (w : World) (hs : s.size ≤ 140737488355328) (hin : i + 1 < s.size) (hc : s[i + 1] = c) (hcq : c ≠ q) (n120 : c ≠ 120) (n117 : c ≠ 117) (n85 : c ≠ 85) (hev : escV s.data.toList i q = byteE s.data.toList i 1 3 8) (n : Int) (ho : numAt s.data.toList (i + 1) 3 8 = some n) (hn : n ≤ 255) (hns : ∀ k, k < 8 → saySigns.getD k 0 ≠ c) :
    Calls Tryd.prog 44 #[.string s, .int .i64 i, .int .u8 (q.toNat : Int)] w (RefEsc (escV s.data.toList i q) w) := by
  have HE : Hid (escV s.data.toList i q = (n, false, 4)) := Lib.hid (by rw [hev, byteE, ho]; exact if_neg (by omega))
  obtain ⟨_, hn0, hn1⟩ := numAt_bound (by omega) (by omega) ho
  have hp := pow_le8 3 (by omega)
  have hn2 : n ≤ 4294967296 := by omega
  clear hp hn1
  have d0 : decide (n < 0) = false := decide_eq_false (by omega)
  have d1 : decide (255 < n) = false := decide_eq_false (by omega)
  have d2 : decide (1114111 < n) = false := decide_eq_false (by omega)
  have wq : n % 256 = n := by omega
  have cv := conv_byte n hn0 hn
  have cvd := conv_byte_drew n hn0 hn
  have cv2 := conv_byte n hn0 hn (w.alloc (.cells #[.int .i64 7, .int .i64 8, .int .i64 12, .int .i64 10, .int .i64 13, .int .i64 9, .int .i64 11, .int .i64 92] 3))
  have cvd2 := conv_byte_drew n hn0 hn (w.alloc (.cells #[.int .i64 7, .int .i64 8, .int .i64 12, .int .i64 10, .int .i64 13, .int .i64 9, .int .i64 11, .int .i64 92] 3))
  rw [World.size_alloc] at cvd2 cv2
  have HO := Lib.hid ho
  clear ho hev
  have hd : decide ((s.size : Int) ≤ (i : Int) + 1) = false := decide_eq_false (by omega)
  have hix : ∀ u : World, (Instr.index 9 (.string s) (.int .i64 ((i : Int) + 1))).run Tryd.prog u = .ok (.int .u8 (c.toNat : Int)) u := fun u => by
    rw [← hc]; exact index_at s _ (i + 1) (by omega) hin u
  have hc0 : (0 : Int) ≤ (c.toNat : Int) := by omega
  have hc1 : (c.toNat : Int) ≤ 255 := by have := UInt8.toNat_lt c; omega
  have zq : ((c.toNat : Int) == (q.toNat : Int)) = false := byte_ne hcq
  have z120 : ((c.toNat : Int) == 120) = false := byte_ne (d := 120) n120
  have z117 : ((c.toNat : Int) == 117) = false := byte_ne (d := 117) n117
  have z85 : ((c.toNat : Int) == 85) = false := byte_ne (d := 85) n85
  have HNS := Lib.hid hns
  clear hc hcq hns
  go_enter Tryd.func44, Tryd.ntmps44
  go_wp2_with fail
  go_loop [12] (fun x => ∃ k : Nat, k ≤ 8 ∧ x = .int .i64 k ∧ ∀ j, j < k → saySigns.getD j 0 ≠ c) (fun x => 8 - (intOf x).toNat)
  case atStart => exact ⟨0, by omega, rfl, fun j hj => by omega⟩
  case round =>
    obtain ⟨k, hk, rfl, hbef⟩ := hrel
    have HBF := Lib.hid hbef
    clear hbef
    by_cases hlt : k < 8
    · obtain ⟨y, hy⟩ : ∃ y, saySigns.getD k 0 = y := ⟨_, rfl⟩
      have hik : ∀ u : World, (Instr.index 9 (.string { data := #[97, 98, 102, 110, 114, 116, 118, 92] }) (.int .i64 (k : Int))).run Tryd.prog u = .ok (.int .u8 (y.toNat : Int)) u := fun u => by
        rw [← hy]
        have := index_at (B saySigns) (k : Int) k rfl (by rw [bsize]; exact hlt) u
        have e : (B saySigns)[k]'(by rw [bsize]; exact hlt) = saySigns.getD k 0 := by
          have e1 := at_data (s := B saySigns) (i := k) (by rw [bsize]; exact hlt)
          rw [← e1]
          simp [bdata, List.getD, show k < saySigns.length from hlt]
        rw [e] at this
        exact this
      have hyc : c ≠ y := fun g => HNS.out k hlt (by rw [hy]; exact g.symm)
      have zy : ((c.toNat : Int) == (y.toNat : Int)) = false := byte_ne hyc
      have HN : Hid (∀ j, j < k + 1 → saySigns.getD j 0 ≠ c) := Lib.hid (fun j hj => HNS.out j (by omega))
      clear hyc
      go_wp2_with fail
      go_round
      case rel => exact ⟨k + 1, by omega, by go_num, HN.out⟩
      case measure => simp [intOf]; omega
    · obtain rfl : k = 8 := by omega
      go_wp2_with (go_at_call 55; refine (refNumber_8z s _ _ (i + 1) 3 _ (by omega) rfl hs (by omega) (by omega)).mono ?_; rintro e w' ⟨rfl, rfl⟩; rw [HO.out]; simp only [numM])
      all_goals (try go_region)
      all_goals (try go_wp2_with fail)
      all_goals (try go_ret3)
      all_goals exact RefEsc.mk HE.out (escT_byte _ _ (by decide)) rfl (((Below.refl _ _).alloc (Nat.le_refl _) _).alloc (by rw [World.size_alloc]; exact Nat.le_succ _) _).drew
end Go.Proofs.YtbmmbaagcglomaaDoor.tok
