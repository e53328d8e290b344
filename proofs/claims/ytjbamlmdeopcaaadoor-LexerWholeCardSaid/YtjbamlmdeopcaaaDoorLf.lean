/-
  lexer.literal, lexer.said, lexer.sign.
-/
import Derived.Test.YtjbamlmdeopcaaaDoorLd
import Derived.Test.YtjbamlmdeopcaaaDoorCheck
import Derived.WalkMore
namespace Go.Proofs.YtjbamlmdeopcaaaDoor.lx
open Go.RowKit Go.Proofs.YtjbamlmdeopcaaaDoor.tok

theorem lit_end (q : UInt8) : lit q [] = (0, false) := rfl
theorem lit_quote {q c : UInt8} {r : List UInt8} (h : c = q) : lit q (c :: r) = (1, true) := by
  cases r with
  | nil => rw [lit, if_pos h]
  | cons d r => rw [lit, if_pos h]
theorem lit_feed1 {q c : UInt8} {r : List UInt8} (h : c ≠ q) (h2 : c = 10) : lit q (c :: r) = (0, false) := by
  cases r with
  | nil => rw [lit, if_neg h, if_pos h2]
  | cons d r => rw [lit, if_neg h, if_pos h2]
theorem lit_esc_end {q c : UInt8} (h : c ≠ q) (h2 : c ≠ 10) : lit q [c] = (1, false) := by rw [lit, if_neg h, if_neg h2]
theorem lit_esc_feed {q c d : UInt8} {r : List UInt8} (h : c ≠ q) (h2 : c ≠ 10) (h3 : c = 92) (h4 : d = 10) : lit q (c :: d :: r) = (1, false) := by rw [lit, if_neg h, if_neg h2, if_pos h3, if_pos h4]
theorem lit_esc {q c d : UInt8} {r : List UInt8} (h : c ≠ q) (h2 : c ≠ 10) (h3 : c = 92) (h4 : d ≠ 10) : lit q (c :: d :: r) = ((lit q r).1 + 2, (lit q r).2) := by rw [lit, if_neg h, if_neg h2, if_pos h3, if_neg h4]
theorem lit_other {q c : UInt8} {r : List UInt8} (h : c ≠ q) (h2 : c ≠ 10) (h3 : c ≠ 92) : lit q (c :: r) = ((lit q r).1 + 1, (lit q r).2) := by
  cases r with
  | nil => rw [lit_esc_end h h2]; rfl
  | cons d r => rw [lit, if_neg h, if_neg h2, if_neg h3]

def LitPost (n : Nat) (b : Bool) (w : World) (e : Ending) (w' : World) : Prop := e = .returned (.tuple #[.int .i64 n, .bool b]) ∧ w = w'
set_option maxRecDepth 100000 in
set_option maxHeartbeats 2000000 in
theorem literal_any (s : ByteArray) (q : UInt8) (w : World) (hs : s.size ≤ 4194304) (h1 : 0 < s.size) (hq : s[0] = q) :
    Calls Tryd.prog 31 #[.string s] w (LitPost (1 + (lit q (s.data.toList.drop 1)).1) (lit q (s.data.toList.drop 1)).2 w) := by
  have hix0 : ∀ u : World, (Instr.index 9 (.string s) (.int .i64 0)).run Tryd.prog u = .ok (.int .u8 (q.toNat : Int)) u := fun u => by rw [← hq]; exact index_at s _ 0 rfl h1 u
  obtain ⟨N, b, hN⟩ : ∃ N b, 1 + (lit q (s.data.toList.drop 1)).1 = N ∧ (lit q (s.data.toList.drop 1)).2 = b := ⟨_, _, rfl, rfl⟩
  rw [hN.1, hN.2]
  have HN := Lib.hid hN
  clear hN hq
  go_enter Tryd.func31, Tryd.ntmps31
  go_wp2
  go_step3
  go_wp2
  go_step3
  go_wp2
  go_loop [5] (fun i => ∃ k : Nat, 1 ≤ k ∧ k ≤ s.size ∧ i = .int .i64 k ∧ N = k + (lit q (s.data.toList.drop k)).1 ∧ b = (lit q (s.data.toList.drop k)).2) (fun i => s.size - (intOf i).toNat)
  case atStart => exact ⟨1, Nat.le_refl _, h1, rfl, HN.out.1.symm, HN.out.2.symm⟩
  case round =>
    obtain ⟨k, hk1, hk2, rfl, hN1, hN2⟩ := hrel
    have HP := Lib.hid (And.intro hN1 hN2)
    clear hN1 hN2 HN
    by_cases hlt : k < s.size
    · obtain ⟨c, hc⟩ : ∃ c, s[k]'hlt = c := ⟨_, rfl⟩
      have hix : ∀ u : World, (Instr.index 9 (.string s) (.int .i64 (k : Int))).run Tryd.prog u = .ok (.int .u8 (c.toNat : Int)) u := fun u => by rw [← hc]; exact index_at s _ k rfl hlt u
      have hd : decide ((k : Int) < (s.size : Int)) = true := decide_eq_true (by omega)
      have HD : Hid (s.data.toList.drop k = c :: s.data.toList.drop (k + 1)) := Lib.hid (by rw [← hc]; exact List.drop_eq_getElem_cons (by rw [sdata]; exact hlt))
      rw [HD.out] at HP
      clear hc
      by_cases cq : c = q
      · have bq : ((c.toNat : Int) == (q.toNat : Int)) = true := byte_eq cq
        have HF := Lib.hid (And.intro HP.out.1 HP.out.2)
        rw [lit_quote cq] at HF
        clear cq HP
        go_wp2_with fail
        try rw [Exit.noGoto_ret]
        go_ret2
        exact ⟨by rw [HF.out.1, HF.out.2]; simp, rfl⟩
      have bq : ((c.toNat : Int) == (q.toNat : Int)) = false := byte_ne cq
      by_cases c10 : c = 10
      · have b10 : ((c.toNat : Int) == 10) = true := byte_eq (d := 10) c10
        rw [lit_feed1 cq c10] at HP
        clear cq c10
        go_wp2_with fail
        try rw [Exit.noGoto_ret]
        go_ret2
        exact ⟨by rw [HP.out.1, HP.out.2]; simp, rfl⟩
      have b10 : ((c.toNat : Int) == 10) = false := byte_ne (d := 10) c10
      by_cases c92 : c = 92
      · have b92 : ((c.toNat : Int) == 92) = true := byte_eq (d := 92) c92
        by_cases hl2 : k + 1 < s.size
        · obtain ⟨d, hd2⟩ : ∃ d, s[k + 1]'hl2 = d := ⟨_, rfl⟩
          have hix2 : ∀ u : World, (Instr.index 9 (.string s) (.int .i64 ((k : Int) + 1))).run Tryd.prog u = .ok (.int .u8 (d.toNat : Int)) u := fun u => by rw [← hd2]; exact index_at s _ (k + 1) (by omega) hl2 u
          have he : ((k : Int) + 1 == (s.size : Int)) = false := beq_eq_false_iff_ne.2 (by omega)
          have HD2 : Hid (s.data.toList.drop (k + 1) = d :: s.data.toList.drop (k + 2)) := Lib.hid (by rw [← hd2]; exact List.drop_eq_getElem_cons (by rw [sdata]; exact hl2))
          rw [HD2.out] at HP
          clear hd2
          by_cases d10 : d = 10
          · have bd : ((d.toNat : Int) == 10) = true := byte_eq (d := 10) d10
            rw [lit_esc_feed cq c10 c92 d10] at HP
            clear cq c10 c92 d10
            go_wp2_with fail
            try rw [Exit.noGoto_ret]
            go_ret2
            exact ⟨by rw [HP.out.1, HP.out.2]; simp, rfl⟩
          · have bd : ((d.toNat : Int) == 10) = false := byte_ne (d := 10) d10
            rw [lit_esc cq c10 c92 d10] at HP
            clear cq c10 c92 d10
            go_wp2_with fail
            go_round
            case rel => exact ⟨k + 2, by omega, by omega, by go_num, by rw [HP.out.1]; simp only; omega, HP.out.2⟩
            case measure => simp [intOf]; omega
        · have he : ((k : Int) + 1 == (s.size : Int)) = true := beq_iff_eq.2 (by omega)
          have HD2 : Hid (s.data.toList.drop (k + 1) = []) := Lib.hid (List.drop_of_length_le (by rw [sdata]; omega))
          rw [HD2.out, lit_esc_end cq c10] at HP
          clear cq c10 c92
          go_wp2_with fail
          try rw [Exit.noGoto_ret]
          go_ret2
          exact ⟨by rw [HP.out.1, HP.out.2]; simp, rfl⟩
      · have b92 : ((c.toNat : Int) == 92) = false := byte_ne (d := 92) c92
        rw [lit_other cq c10 c92] at HP
        clear cq c10 c92
        go_wp2_with fail
        go_round
        case rel => exact ⟨k + 1, by omega, by omega, by go_num, by rw [HP.out.1]; simp only; omega, HP.out.2⟩
        case measure => simp [intOf]; omega
    · have hd : decide ((k : Int) < (s.size : Int)) = false := decide_eq_false (by omega)
      have HD2 : Hid (s.data.toList.drop k = []) := Lib.hid (List.drop_of_length_le (by rw [sdata]; omega))
      rw [HD2.out, lit_end] at HP
      go_wp2_with fail
      try rw [Exit.noGoto_ret]
      go_ret2
      exact ⟨by rw [HP.out.1, HP.out.2]; simp; try omega, rfl⟩
end Go.Proofs.YtjbamlmdeopcaaaDoor.lx
