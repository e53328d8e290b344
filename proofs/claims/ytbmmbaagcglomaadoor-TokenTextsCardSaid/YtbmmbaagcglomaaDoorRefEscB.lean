/-
  The reference's Escape: a sign.
-/
import Derived.Test.YtbmmbaagcglomaaDoorRefEscA
namespace Go.Proofs.YtbmmbaagcglomaaDoor.tok
open Go.RowKit

set_option maxRecDepth 100000 in
set_option maxHeartbeats 4000000 in
theorem refEsc_sign (s : ByteArray) (i : Nat) (c q : UInt8) (w : World) (hs : s.size ≤ 140737488355328) (hin : i + 1 < s.size) (hc : s[i + 1] = c) (hcq : c ≠ q) (k0 : Nat) (hk0 : k0 < 8) (hck : saySigns.getD k0 0 = c) :
    Calls Tryd.prog 44 #[.string s, .int .i64 i, .int .u8 (q.toNat : Int)] w (RefEsc (escV s.data.toList i q) w) := by
  have hd : decide ((s.size : Int) ≤ (i : Int) + 1) = false := decide_eq_false (by omega)
  have hix : ∀ u : World, (Instr.index 9 (.string s) (.int .i64 ((i : Int) + 1))).run Tryd.prog u = .ok (.int .u8 (c.toNat : Int)) u := fun u => by
    rw [← hc]; exact index_at s _ (i + 1) (by omega) hin u
  have hc0 : (0 : Int) ≤ (c.toNat : Int) := by omega
  have hc1 : (c.toNat : Int) ≤ 255 := by have := UInt8.toNat_lt c; omega
  have zq : ((c.toNat : Int) == (q.toNat : Int)) = false := byte_ne hcq
  have HE : Hid (∀ k, k < 8 → saySigns.getD k 0 = c → escV s.data.toList i q = (saySays.getD k 0, false, 2)) := Lib.hid (fun k hk e => by
    obtain ⟨n1, n2, n3, n4⟩ := sign_plain k hk
    rw [escV_some (c := c) (by rw [List.getElem?_eq_getElem (by rw [sdata]; exact hin), at_data hin, hc]), ← e, if_neg n1, if_neg n2, if_neg n3, if_neg n4, sign_hit q k hk])
  have HK0 : Hid (∀ k, (∀ j, j < k → saySigns.getD j 0 ≠ c) → k ≤ k0) := Lib.hid (fun k h => Nat.le_of_not_lt (fun g => h k0 g hck))
  clear hc hcq hck
  go_enter Tryd.func44, Tryd.ntmps44
  go_wp2_with fail
  go_loop [12] (fun x => ∃ k : Nat, k ≤ 8 ∧ x = .int .i64 k ∧ ∀ j, j < k → saySigns.getD j 0 ≠ c) (fun x => 8 - (intOf x).toNat)
  case atStart => exact ⟨0, by omega, rfl, fun j hj => by omega⟩
  case round =>
    obtain ⟨k, hk, rfl, hbef⟩ := hrel
    have HBF := Lib.hid hbef
    clear hbef
    have hkk := HK0.out k HBF.out
    have hlt : k < 8 := by omega
    obtain ⟨y, hy⟩ : ∃ y, saySigns.getD k 0 = y := ⟨_, rfl⟩
    have hik : ∀ u : World, (Instr.index 9 (.string { data := #[97, 98, 102, 110, 114, 116, 118, 92] }) (.int .i64 (k : Int))).run Tryd.prog u = .ok (.int .u8 (y.toNat : Int)) u := fun u => by
      rw [← hy]
      have := index_at (B saySigns) (k : Int) k rfl (by rw [bsize]; exact hlt) u
      have e : (B saySigns)[k]'(by rw [bsize]; exact hlt) = saySigns.getD k 0 := by
        have e1 := at_data (s := B saySigns) (i := k) (by rw [bsize]; exact hlt)
        rw [← e1]
        simp [bdata, List.getD, show k < saySigns.length from hlt]
      rw [e] at this
      exact this
    by_cases hyc : c = y
    · have zy : ((c.toNat : Int) == (y.toNat : Int)) = true := byte_eq hyc
      have HV := Lib.hid (HE.out k hlt (by rw [hy, hyc]))
      obtain ⟨b0, b1⟩ := says_bounds k hlt
      have hcell : ∀ u : World, (u.alloc (.cells #[.int .i64 7, .int .i64 8, .int .i64 12, .int .i64 10, .int .i64 13, .int .i64 9, .int .i64 11, .int .i64 92] 3)).cell? ⟨u.heap.size, k, none⟩ = some (.int .i64 (saySays.getD k 0)) := fun u => by
        rw [cell_of_row _ _ k _ _ (0, 0) (heap_alloc_last u _)]
        match k, hlt with
        | 0, _ => rfl
        | 1, _ => rfl
        | 2, _ => rfl
        | 3, _ => rfl
        | 4, _ => rfl
        | 5, _ => rfl
        | 6, _ => rfl
        | 7, _ => rfl
      have hget : ∀ h, ([.int .i64 7, .int .i64 8, .int .i64 12, .int .i64 10, .int .i64 13, .int .i64 9, .int .i64 11, .int .i64 92] : List Value)[k]'h = .int .i64 (saySays.getD k 0) := fun h => by
        match k, hlt with
        | 0, _ => rfl
        | 1, _ => rfl
        | 2, _ => rfl
        | 3, _ => rfl
        | 4, _ => rfl
        | 5, _ => rfl
        | 6, _ => rfl
        | 7, _ => rfl
      obtain ⟨x, hx⟩ : ∃ x, saySays.getD k 0 = x := ⟨_, rfl⟩
      rw [hx] at HV b0 b1 hcell hget
      have cv := conv_byte x b0 b1
      have cvd := conv_byte_drew x b0 b1
      have wq : x % 256 = x := by omega
      clear hy hyc hx
      have cvd2 := conv_byte_drew x b0 b1 (w.alloc (.cells #[.int .i64 7, .int .i64 8, .int .i64 12, .int .i64 10, .int .i64 13, .int .i64 9, .int .i64 11, .int .i64 92] 3))
      have cv2 := conv_byte x b0 b1 (w.alloc (.cells #[.int .i64 7, .int .i64 8, .int .i64 12, .int .i64 10, .int .i64 13, .int .i64 9, .int .i64 11, .int .i64 92] 3))
      rw [World.size_alloc] at cvd2 cv2
      go_wp2_with fail
      go_region
      all_goals (try go_wp2_with fail)
      all_goals (try simp only [hget])
      all_goals go_ret3
      all_goals exact RefEsc.mk HV.out (escT_byte _ _ (by decide)) rfl (((Below.refl _ _).alloc (Nat.le_refl _) _).alloc (by rw [World.size_alloc]; exact Nat.le_succ _) _).drew
    · have zy : ((c.toNat : Int) == (y.toNat : Int)) = false := byte_ne hyc
      have HN : Hid (∀ j, j < k + 1 → saySigns.getD j 0 ≠ c) := Lib.hid (fun j hj => by
        by_cases e : j = k
        · subst e; rw [hy]; exact fun g => hyc g.symm
        · exact HBF.out j (by omega))
      clear hyc
      go_wp2_with fail
      go_round
      case rel => exact ⟨k + 1, by omega, by go_num, HN.out⟩
      case measure => simp [intOf]; omega
end Go.Proofs.YtbmmbaagcglomaaDoor.tok
