/-
  A digit; how a number begins.
-/
import Derived.Test.YtjbamlmdeopcaaaDoorCuts
import Derived.Laws.IdiomStrings
namespace Go.Proofs.YtjbamlmdeopcaaaDoor.tok
open Go.RowKit

theorem ret_int {k : IntKind} {a b : Int} (h : a = b) : Ending.returned (.int k a) = .returned (.int k b) := by rw [h]
/-- What a digit says to the base 16; of any other byte the number none. -/
def digZ (c none : Int) : Int := if 48 ≤ c ∧ c ≤ 57 then c - 48 else if 97 ≤ c ∧ c ≤ 102 then c - 87 else if 65 ≤ c ∧ c ≤ 70 then c - 55 else none
theorem digZ_bounds (c n : Int) (h : 16 ≤ n) : 0 ≤ digZ c n ∧ (digZ c n ≤ 15 ∨ digZ c n = n) := by
  unfold digZ
  split
  · omega
  · split
    · omega
    · split <;> omega
theorem digZ_lt (c n m b : Int) (hn : 16 ≤ n) (hm : 16 ≤ m) (hb : b ≤ 16) : (digZ c n < b ↔ digZ c m < b) := by
  unfold digZ
  split
  · exact Iff.rfl
  · split
    · exact Iff.rfl
    · split
      · exact Iff.rfl
      · omega
theorem digZ_same (c n m : Int) (h : digZ c n < 16) (hn : 16 ≤ n) : digZ c n = digZ c m := by
  unfold digZ at h ⊢
  split
  · rfl
  · split
    · rfl
    · split
      · rfl
      · rename_i a b d
        rw [if_neg a, if_neg b, if_neg d] at h
        omega
theorem side' (z a b : Int) (h : ¬ (a ≤ z ∧ z ≤ b)) : decide (a ≤ z) = false ∨ (decide (a ≤ z) = true ∧ decide (z ≤ b) = false) := (two_bounds z a b).resolve_left h

set_option maxRecDepth 100000 in
set_option maxHeartbeats 2000000 in
theorem digit_any (c : Int) (w : World) (h0 : 0 ≤ c) (h255 : c ≤ 255) : Calls Tryd.prog 49 #[.int .u8 c] w fun e w' => e = .returned (.int .i64 (digZ c 16)) ∧ w = w' := by
  by_cases h1 : 48 ≤ c ∧ c ≤ 57
  · have HE : Hid (digZ c 16 = c - 48) := Lib.hid (by rw [digZ, if_pos h1])
    obtain ⟨a, b⟩ := h1
    go_enter Tryd.func49, Tryd.ntmps49
    go_wp2_with fail
    go_ret
    exact ⟨by rw [HE.out]; rfl, rfl⟩
  by_cases h2 : 97 ≤ c ∧ c ≤ 102
  · have HE : Hid (digZ c 16 = c - 97 + 10) := Lib.hid (by rw [digZ, if_neg h1, if_pos h2]; omega)
    obtain ⟨a, b⟩ := h2
    rcases side' c 48 57 h1 with h1 | ⟨h1, h1'⟩
    all_goals
      go_enter Tryd.func49, Tryd.ntmps49
      go_wp2_with fail
      go_ret
      exact ⟨by rw [HE.out]; rfl, rfl⟩
  by_cases h3 : 65 ≤ c ∧ c ≤ 70
  · have HE : Hid (digZ c 16 = c - 65 + 10) := Lib.hid (by rw [digZ, if_neg h1, if_neg h2, if_pos h3]; omega)
    obtain ⟨a, b⟩ := h3
    rcases side' c 48 57 h1 with h1 | ⟨h1, h1'⟩ <;> rcases side' c 97 102 h2 with h2 | ⟨h2, h2'⟩
    all_goals
      go_enter Tryd.func49, Tryd.ntmps49
      go_wp2_with fail
      go_ret
      exact ⟨by rw [HE.out]; rfl, rfl⟩
  have HE : Hid (digZ c 16 = 16) := Lib.hid (by rw [digZ, if_neg h1, if_neg h2, if_neg h3])
  rcases side' c 48 57 h1 with h1 | ⟨h1, h1'⟩ <;> rcases side' c 97 102 h2 with h2 | ⟨h2, h2'⟩ <;> rcases side' c 65 70 h3 with h3 | ⟨h3, h3'⟩
  all_goals
    go_enter Tryd.func49, Tryd.ntmps49
    go_wp2_with fail
    go_ret
    exact ⟨by rw [HE.out]; rfl, rfl⟩
/-- How a number begins: its base, and how many bytes tell it. -/
def prefixOf : List UInt8 → Nat × Nat
  | a :: c :: _ => if a = 48 then (if c = 98 ∨ c = 66 then (2, 2) else if c = 111 ∨ c = 79 then (8, 2) else if c = 120 ∨ c = 88 then (16, 2) else (8, 1)) else (10, 0)
  | _ => (10, 0)
theorem prefix_short {l : List UInt8} (h : l.length < 2) : prefixOf l = (10, 0) := by
  match l, h with
  | [], _ => rfl
  | [_], _ => rfl
theorem prefix_long {l : List UInt8} (h : 1 < l.length) : prefixOf l = if l[0] = 48 then (if l[1] = 98 ∨ l[1] = 66 then (2, 2) else if l[1] = 111 ∨ l[1] = 79 then (8, 2) else if l[1] = 120 ∨ l[1] = 88 then (16, 2) else (8, 1)) else (10, 0) := by
  match l, h with
  | a :: c :: _, _ => rfl
theorem prefix_le (l : List UInt8) : (prefixOf l).2 ≤ l.length ∧ (prefixOf l).1 ≤ 16 := by
  by_cases h : l.length < 2
  · rw [prefix_short h]; simp
  · rw [prefix_long (by omega)]
    split
    · split
      · simp; omega
      · split
        · simp; omega
        · split <;> (simp; omega)
    · simp

set_option maxRecDepth 100000 in
set_option maxHeartbeats 2000000 in
theorem prefix_any (s : ByteArray) (w : World) : Calls Tryd.prog 38 #[.string s] w fun e w' => e = .returned (.tuple #[.int .i64 (prefixOf s.data.toList).1, .int .i64 (prefixOf s.data.toList).2]) ∧ w = w' := by
  by_cases h : s.size < 2
  · have e := prefix_short (l := s.data.toList) (by rw [sdata]; exact h)
    rw [e]
    clear e
    have hd : decide ((s.size : Int) < 2) = true := decide_eq_true (by omega)
    go_enter Tryd.func38, Tryd.ntmps38
    go_wp2_with fail
    go_ret2
    exact ⟨rfl, rfl⟩
  · have hd : decide ((s.size : Int) < 2) = false := decide_eq_false (by omega)
    have h0 : 0 < s.size := by omega
    have h1 : 1 < s.size := by omega
    have e := prefix_long (l := s.data.toList) (by rw [sdata]; exact h1)
    rw [at_data h0, at_data h1] at e
    obtain ⟨a, ha⟩ : ∃ a, s[0]'h0 = a := ⟨_, rfl⟩
    obtain ⟨c, hc⟩ : ∃ c, s[1]'h1 = c := ⟨_, rfl⟩
    rw [ha, hc] at e
    obtain ⟨r, hr⟩ : ∃ r, prefixOf s.data.toList = r := ⟨_, rfl⟩
    rw [hr] at e ⊢
    clear hr
    by_cases ca : a = 48
    · have haz : ((a.toNat : Int) != 48) = false := byte_eq' (d := 48) ca
      rw [if_pos ca] at e
      clear ca
      have table : ∀ d : UInt8, (c = d ∧ ((c.toNat : Int) == (d.toNat : Int)) = true) ∨ (c ≠ d ∧ ((c.toNat : Int) == (d.toNat : Int)) = false) := fun d => by
        by_cases g : c = d
        · exact .inl ⟨g, byte_eq g⟩
        · exact .inr ⟨g, byte_ne g⟩
      have t1 : (c = 98 ∧ ((c.toNat : Int) == 98) = true) ∨ (c ≠ 98 ∧ ((c.toNat : Int) == 98) = false) := table 98
      have t2 : (c = 66 ∧ ((c.toNat : Int) == 66) = true) ∨ (c ≠ 66 ∧ ((c.toNat : Int) == 66) = false) := table 66
      have t3 : (c = 111 ∧ ((c.toNat : Int) == 111) = true) ∨ (c ≠ 111 ∧ ((c.toNat : Int) == 111) = false) := table 111
      have t4 : (c = 79 ∧ ((c.toNat : Int) == 79) = true) ∨ (c ≠ 79 ∧ ((c.toNat : Int) == 79) = false) := table 79
      have t5 : (c = 120 ∧ ((c.toNat : Int) == 120) = true) ∨ (c ≠ 120 ∧ ((c.toNat : Int) == 120) = false) := table 120
      have t6 : (c = 88 ∧ ((c.toNat : Int) == 88) = true) ∨ (c ≠ 88 ∧ ((c.toNat : Int) == 88) = false) := table 88
      clear table
      rcases t1 with ⟨g1, t1⟩ | ⟨g1, t1⟩
      · rw [if_pos (.inl g1)] at e; subst e; clear g1 t2 t3 t4 t5 t6
        go_enter Tryd.func38, Tryd.ntmps38
        go_wp2_with fail
        go_ret2
        exact ⟨rfl, rfl⟩
      rcases t2 with ⟨g2, t2⟩ | ⟨g2, t2⟩
      · rw [if_pos (.inr g2)] at e; subst e; clear g1 g2 t3 t4 t5 t6
        go_enter Tryd.func38, Tryd.ntmps38
        go_wp2_with fail
        go_ret2
        exact ⟨rfl, rfl⟩
      rw [if_neg (fun g => g.elim g1 g2)] at e
      clear g1 g2
      rcases t3 with ⟨g1, t3⟩ | ⟨g1, t3⟩
      · rw [if_pos (.inl g1)] at e; subst e; clear g1 t4 t5 t6
        go_enter Tryd.func38, Tryd.ntmps38
        go_wp2_with fail
        go_ret2
        exact ⟨rfl, rfl⟩
      rcases t4 with ⟨g2, t4⟩ | ⟨g2, t4⟩
      · rw [if_pos (.inr g2)] at e; subst e; clear g1 g2 t5 t6
        go_enter Tryd.func38, Tryd.ntmps38
        go_wp2_with fail
        go_ret2
        exact ⟨rfl, rfl⟩
      rw [if_neg (fun g => g.elim g1 g2)] at e
      clear g1 g2
      rcases t5 with ⟨g1, t5⟩ | ⟨g1, t5⟩
      · rw [if_pos (.inl g1)] at e; subst e; clear g1 t6
        go_enter Tryd.func38, Tryd.ntmps38
        go_wp2_with fail
        go_ret2
        exact ⟨rfl, rfl⟩
      rcases t6 with ⟨g2, t6⟩ | ⟨g2, t6⟩
      · rw [if_pos (.inr g2)] at e; subst e; clear g1 g2
        go_enter Tryd.func38, Tryd.ntmps38
        go_wp2_with fail
        go_ret2
        exact ⟨rfl, rfl⟩
      rw [if_neg (fun g => g.elim g1 g2)] at e
      subst e
      clear g1 g2
      go_enter Tryd.func38, Tryd.ntmps38
      go_wp2_with fail
      go_ret2
      exact ⟨rfl, rfl⟩
    · have haz : ((a.toNat : Int) != 48) = true := byte_ne' (d := 48) ca
      rw [if_neg ca] at e
      subst e
      clear ca
      go_enter Tryd.func38, Tryd.ntmps38
      go_wp2_with fail
      go_ret2
      exact ⟨rfl, rfl⟩
end Go.Proofs.YtjbamlmdeopcaaaDoor.tok
