/-
  Texts put together: La, Digit, Join, Digits, Lb, Le, Num, Esc, EscAt, Append.
-/
import Derived.Test.YtjbamlmdeopcaaaGreatDoorPa1
import Derived.Test.YtjbamlmdeopcaaaGreatDoorPa2
import Derived.Laws.IdiomStrings
import Derived.Laws.BytesString
import Derived.RegionTactic
import Derived.ChangeAlike
import Derived.Deep.RegionHeld3
section
/-
  lexer: which byte is what; how many bytes have a property; a token that is right or wrong.
-/
namespace Go.Proofs.YtjbamlmdeopcaaaGreatDoor.lx
open Go.RowKit Go.Proofs.YtjbamlmdeopcaaaGreatDoor.tok

theorem u8_is (c d : UInt8) : c = d ↔ (c.toNat : Int) = (d.toNat : Int) := ⟨fun h => by rw [h], fun h => UInt8.toNat_inj.1 (by omega)⟩
theorem isBl_z (c : UInt8) : isBl c = true ↔ ((c.toNat : Int) = 32 ∨ (c.toNat : Int) = 9 ∨ (c.toNat : Int) = 13) := by
  unfold isBl
  simp only [Bool.or_eq_true, beq_iff_eq, u8_is, or_assoc]
  exact Iff.rfl
theorem noFeed_z (c : UInt8) : noFeed c = true ↔ (c.toNat : Int) ≠ 10 := by
  unfold noFeed
  rw [bne_iff_ne, ne_eq, u8_is]
  exact Iff.rfl
theorem isLt_z (c : UInt8) : isLt c = true ↔ (65 ≤ (c.toNat : Int) ∧ (c.toNat : Int) ≤ 90 ∨ 97 ≤ (c.toNat : Int) ∧ (c.toNat : Int) ≤ 122 ∨ (c.toNat : Int) = 95) := by
  unfold isLt
  simp only [Bool.or_eq_true, Bool.and_eq_true, decide_eq_true_iff, beq_iff_eq, u8_is, or_assoc, UInt8.le_iff_toNat_le]
  have e1 : (65 : UInt8).toNat = 65 := rfl
  have e2 : (90 : UInt8).toNat = 90 := rfl
  have e3 : (97 : UInt8).toNat = 97 := rfl
  have e4 : (122 : UInt8).toNat = 122 := rfl
  have e5 : (95 : UInt8).toNat = 95 := rfl
  rw [e1, e2, e3, e4, e5]
  omega
theorem isDg_z (c : UInt8) : isDg c = true ↔ (48 ≤ (c.toNat : Int) ∧ (c.toNat : Int) ≤ 57) := by
  unfold isDg
  simp only [Bool.and_eq_true, decide_eq_true_iff, UInt8.le_iff_toNat_le]
  have e1 : (48 : UInt8).toNat = 48 := rfl
  have e2 : (57 : UInt8).toNat = 57 := rfl
  rw [e1, e2]
  omega
theorem isWd_z (c : UInt8) : isWd c = true ↔ (isLt c = true ∨ isDg c = true) := by unfold isWd; rw [Bool.or_eq_true]
theorem bool_of {b : Bool} {p : Prop} (h : b = true ↔ p) : (p → Ending.returned (.bool true) = Ending.returned (.bool b)) ∧ (¬ p → Ending.returned (.bool false) = Ending.returned (.bool b)) :=
  ⟨fun hp => by rw [h.2 hp], fun hp => by cases b with | false => rfl | true => exact absurd (h.1 rfl) hp⟩

def Says (b : Bool) (w : World) (e : Ending) (w' : World) : Prop := e = .returned (.bool b) ∧ w = w'
theorem isBlank_any (c : UInt8) (w : World) : Calls Tryz.prog 28 #[.int .u8 (c.toNat : Int)] w (Says (isBl c) w) := by
  have hz := isBl_z c
  generalize (c.toNat : Int) = z at *
  obtain ⟨h1, h2⟩ := bool_of hz
  have HA := Lib.hid h1
  have HB := Lib.hid h2
  clear hz h1 h2
  by_cases c1 : z = 32
  · have b1 : (z == 32) = true := beq_iff_eq.2 c1
    have HC := Lib.hid (HA.out (.inl c1))
    clear c1 HA HB
    go_enter Tryz.func28, Tryz.ntmps28
    go_wp2_with fail
    go_ret
    exact ⟨HC.out, rfl⟩
  have b1 : (z == 32) = false := beq_eq_false_iff_ne.2 c1
  by_cases c2 : z = 9
  · have b2 : (z == 9) = true := beq_iff_eq.2 c2
    have HC := Lib.hid (HA.out (.inr (.inl c2)))
    clear c1 c2 HA HB
    go_enter Tryz.func28, Tryz.ntmps28
    go_wp2_with fail
    go_ret
    exact ⟨HC.out, rfl⟩
  have b2 : (z == 9) = false := beq_eq_false_iff_ne.2 c2
  by_cases c3 : z = 13
  · have b3 : (z == 13) = true := beq_iff_eq.2 c3
    have HC := Lib.hid (HA.out (.inr (.inr c3)))
    clear c1 c2 c3 HA HB
    go_enter Tryz.func28, Tryz.ntmps28
    go_wp2_with fail
    go_ret
    exact ⟨HC.out, rfl⟩
  have b3 : (z == 13) = false := beq_eq_false_iff_ne.2 c3
  have HC := Lib.hid (HB.out (by omega))
  clear c1 c2 c3 HA HB
  go_enter Tryz.func28, Tryz.ntmps28
  go_wp2_with fail
  go_ret
  exact ⟨HC.out, rfl⟩
theorem isNoFeed_any (c : UInt8) (w : World) : Calls Tryz.prog 30 #[.int .u8 (c.toNat : Int)] w (Says (noFeed c) w) := by
  have hz := noFeed_z c
  generalize (c.toNat : Int) = z at *
  obtain ⟨h1, h2⟩ := bool_of hz
  by_cases c1 : z = 10
  · have b1 : (z != 10) = false := by rw [c1]; rfl
    have HC := Lib.hid (h2 (fun h => h c1))
    clear c1 h1 h2 hz
    go_enter Tryz.func30, Tryz.ntmps30
    go_wp2_with fail
    go_ret
    exact ⟨HC.out, rfl⟩
  · have b1 : (z != 10) = true := bne_iff_ne.2 c1
    have HC := Lib.hid (h1 c1)
    clear c1 h1 h2 hz
    go_enter Tryz.func30, Tryz.ntmps30
    go_wp2_with fail
    go_ret
    exact ⟨HC.out, rfl⟩
theorem isLetter_any (c : UInt8) (w : World) : Calls Tryz.prog 32 #[.int .u8 (c.toNat : Int)] w (Says (isLt c) w) := by
  have hz := isLt_z c
  generalize (c.toNat : Int) = z at *
  obtain ⟨h1, h2⟩ := bool_of hz
  have HA := Lib.hid h1
  have HB := Lib.hid h2
  clear hz h1 h2
  by_cases c1 : 65 ≤ z ∧ z ≤ 90
  · obtain ⟨c1, c2⟩ := c1
    have d1 : decide (65 ≤ z) = true := decide_eq_true c1
    have d2 : decide (z ≤ 90) = true := decide_eq_true c2
    have HC := Lib.hid (HA.out (.inl ⟨c1, c2⟩))
    clear HA HB c1 c2
    go_enter Tryz.func32, Tryz.ntmps32
    go_wp2_with fail
    go_ret
    exact ⟨HC.out, rfl⟩
  by_cases c2 : 97 ≤ z ∧ z ≤ 122
  · obtain ⟨c3, c4⟩ := c2
    have d1 : decide (65 ≤ z) = true := decide_eq_true (by omega)
    have d2 : decide (z ≤ 90) = false := decide_eq_false (by omega)
    have d3 : decide (97 ≤ z) = true := decide_eq_true c3
    have d4 : decide (z ≤ 122) = true := decide_eq_true c4
    have HC := Lib.hid (HA.out (.inr (.inl ⟨c3, c4⟩)))
    clear HA HB c1 c3 c4
    go_enter Tryz.func32, Tryz.ntmps32
    go_wp2_with fail
    go_ret
    exact ⟨HC.out, rfl⟩
  have both : ∀ (b : Bool), (z == 95) = b → Ending.returned (.bool b) = Ending.returned (.bool (isLt c)) := by
    intro b hb
    cases b with
    | true => exact HA.out (.inr (.inr (beq_iff_eq.1 hb)))
    | false => exact HB.out (by have := beq_eq_false_iff_ne.1 hb; omega)
  obtain ⟨b, hb⟩ : ∃ b, (z == 95) = b := ⟨_, rfl⟩
  have HC := Lib.hid (both b hb)
  clear HA HB both
  by_cases c3 : z < 65
  · have d1 : decide (65 ≤ z) = false := decide_eq_false (by omega)
    have d3 : decide (97 ≤ z) = false := decide_eq_false (by omega)
    clear c1 c2 c3
    go_enter Tryz.func32, Tryz.ntmps32
    go_wp2_with fail
    go_ret
    exact ⟨HC.out, rfl⟩
  have d1 : decide (65 ≤ z) = true := decide_eq_true (by omega)
  have d2 : decide (z ≤ 90) = false := decide_eq_false (by omega)
  by_cases c4 : z < 97
  · have d3 : decide (97 ≤ z) = false := decide_eq_false (by omega)
    clear c1 c2 c3 c4
    go_enter Tryz.func32, Tryz.ntmps32
    go_wp2_with fail
    go_ret
    exact ⟨HC.out, rfl⟩
  have d3 : decide (97 ≤ z) = true := decide_eq_true (by omega)
  have d4 : decide (z ≤ 122) = false := decide_eq_false (by omega)
  clear c1 c2 c3 c4
  go_enter Tryz.func32, Tryz.ntmps32
  go_wp2_with fail
  go_ret
  exact ⟨HC.out, rfl⟩
theorem isDigit_any (c : UInt8) (w : World) : Calls Tryz.prog 34 #[.int .u8 (c.toNat : Int)] w (Says (isDg c) w) := by
  have hz := isDg_z c
  generalize (c.toNat : Int) = z at *
  obtain ⟨h1, h2⟩ := bool_of hz
  have HA := Lib.hid h1
  have HB := Lib.hid h2
  clear hz h1 h2
  by_cases c1 : 48 ≤ z
  · have d1 : decide (48 ≤ z) = true := decide_eq_true c1
    by_cases c2 : z ≤ 57
    · have d2 : decide (z ≤ 57) = true := decide_eq_true c2
      have HC := Lib.hid (HA.out ⟨c1, c2⟩)
      clear HA HB c1 c2
      go_enter Tryz.func34, Tryz.ntmps34
      go_wp2_with fail
      go_ret
      exact ⟨HC.out, rfl⟩
    · have d2 : decide (z ≤ 57) = false := decide_eq_false c2
      have HC := Lib.hid (HB.out (fun h => c2 h.2))
      clear HA HB c1 c2
      go_enter Tryz.func34, Tryz.ntmps34
      go_wp2_with fail
      go_ret
      exact ⟨HC.out, rfl⟩
  · have d1 : decide (48 ≤ z) = false := decide_eq_false c1
    have HC := Lib.hid (HB.out (fun h => c1 h.1))
    clear HA HB c1
    go_enter Tryz.func34, Tryz.ntmps34
    go_wp2_with fail
    go_ret
    exact ⟨HC.out, rfl⟩
theorem isWord_any (c : UInt8) (w : World) : Calls Tryz.prog 57 #[.int .u8 (c.toNat : Int)] w (Says (isWd c) w) := by
  have h0 : isWd c = (isLt c || isDg c) := rfl
  obtain ⟨a, ha⟩ : ∃ a, isLt c = a := ⟨_, rfl⟩
  obtain ⟨b, hb⟩ : ∃ b, isDg c = b := ⟨_, rfl⟩
  have H1 := Lib.hid (isLetter_any c)
  have H2 := Lib.hid (isDigit_any c)
  rw [h0]
  rw [ha] at H1 ⊢
  rw [hb] at H2 ⊢
  clear ha hb h0
  cases a
  all_goals
    go_enter Tryz.func57, Tryz.ntmps57
    go_wp2_with (first | (go_at_call 32; refine (H1.out _).mono ?_; rintro e w' ⟨rfl, rfl⟩) | (go_at_call 34; refine (H2.out _).mono ?_; rintro e w' ⟨rfl, rfl⟩))
    go_ret
    exact ⟨by cases b <;> rfl, rfl⟩
/-- What is asked of a function that is handed in: of each byte it says whether it has a property. -/
def Asked (k : Nat) (p : UInt8 → Bool) : Prop := ∀ (c : UInt8) (w : World), Calls Tryz.prog k #[.int .u8 (c.toNat : Int)] w (Says (p c) w)
theorem runL_more {p : UInt8 → Bool} {l : List UInt8} : ∀ {k : Nat}, k < l.length → (∀ j, j < k → ∀ h : j < l.length, p l[j] = true) → (h : k < l.length) → p l[k] = false → runL p l = k := by
  induction l with
  | nil => intro k h; simp at h
  | cons c l ih =>
    intro k hk hb h hf
    cases k with
    | zero => simp only [List.getElem_cons_zero] at hf; simp [runL, hf]
    | succ k =>
      have h0 : p c = true := hb 0 (by omega) (by simp)
      have := ih (k := k) (by simpa using hk) (fun j hj h' => by have := hb (j + 1) (by omega) (by simpa using h'); simpa using this) (by simpa using h) (by simpa using hf)
      simp [runL, h0, this]
theorem runL_all {p : UInt8 → Bool} {l : List UInt8} (h : ∀ j, ∀ h : j < l.length, p l[j] = true) : runL p l = l.length := by
  induction l with
  | nil => rfl
  | cons c l ih =>
    have h0 : p c = true := h 0 (by simp)
    have := ih (fun j hj => by have := h (j + 1) (by simpa using hj); simpa using this)
    simp [runL, h0, this]
end Go.Proofs.YtjbamlmdeopcaaaGreatDoor.lx
end

section
/-
  A digit; how a number begins.
-/
namespace Go.Proofs.YtjbamlmdeopcaaaGreatDoor.tok
open Go.RowKit

theorem ret_int {k : IntKind} {a b : Int} (h : a = b) : Ending.returned (.int k a) = .returned (.int k b) := by rw [h]
/-- What a digit says to the base 16; of any other byte the number none. -/
def digZ (c none : Int) : Int := if 48 ≤ c ∧ c ≤ 57 then c - 48 else if 97 ≤ c ∧ c ≤ 102 then c - 87 else if 65 ≤ c ∧ c ≤ 70 then c - 55 else none
theorem digZ_bounds (c n : Int) (h : 16 ≤ n) : 0 ≤ digZ c n ∧ (digZ c n ≤ 15 ∨ digZ c n = n) := by
  unfold digZ
  split
  · omega
  · split
    · omega
    · split <;> omega
theorem digZ_lt (c n m b : Int) (hn : 16 ≤ n) (hm : 16 ≤ m) (hb : b ≤ 16) : (digZ c n < b ↔ digZ c m < b) := by
  unfold digZ
  split
  · exact Iff.rfl
  · split
    · exact Iff.rfl
    · split
      · exact Iff.rfl
      · omega
theorem digZ_same (c n m : Int) (h : digZ c n < 16) (hn : 16 ≤ n) : digZ c n = digZ c m := by
  unfold digZ at h ⊢
  split
  · rfl
  · split
    · rfl
    · split
      · rfl
      · rename_i a b d
        rw [if_neg a, if_neg b, if_neg d] at h
        omega
theorem side' (z a b : Int) (h : ¬ (a ≤ z ∧ z ≤ b)) : decide (a ≤ z) = false ∨ (decide (a ≤ z) = true ∧ decide (z ≤ b) = false) := (two_bounds z a b).resolve_left h

set_option maxRecDepth 100000 in
set_option maxHeartbeats 2000000 in
theorem digit_any (c : Int) (w : World) (h0 : 0 ≤ c) (h255 : c ≤ 255) : Calls Tryz.prog 99 #[.int .u8 c] w fun e w' => e = .returned (.int .i64 (digZ c 16)) ∧ w = w' := by
  by_cases h1 : 48 ≤ c ∧ c ≤ 57
  · have HE : Hid (digZ c 16 = c - 48) := Lib.hid (by rw [digZ, if_pos h1])
    obtain ⟨a, b⟩ := h1
    go_enter Tryz.func99, Tryz.ntmps99
    go_wp2_with fail
    go_ret
    exact ⟨by rw [HE.out]; rfl, rfl⟩
  by_cases h2 : 97 ≤ c ∧ c ≤ 102
  · have HE : Hid (digZ c 16 = c - 97 + 10) := Lib.hid (by rw [digZ, if_neg h1, if_pos h2]; omega)
    obtain ⟨a, b⟩ := h2
    rcases side' c 48 57 h1 with h1 | ⟨h1, h1'⟩
    all_goals
      go_enter Tryz.func99, Tryz.ntmps99
      go_wp2_with fail
      go_ret
      exact ⟨by rw [HE.out]; rfl, rfl⟩
  by_cases h3 : 65 ≤ c ∧ c ≤ 70
  · have HE : Hid (digZ c 16 = c - 65 + 10) := Lib.hid (by rw [digZ, if_neg h1, if_neg h2, if_pos h3]; omega)
    obtain ⟨a, b⟩ := h3
    rcases side' c 48 57 h1 with h1 | ⟨h1, h1'⟩ <;> rcases side' c 97 102 h2 with h2 | ⟨h2, h2'⟩
    all_goals
      go_enter Tryz.func99, Tryz.ntmps99
      go_wp2_with fail
      go_ret
      exact ⟨by rw [HE.out]; rfl, rfl⟩
  have HE : Hid (digZ c 16 = 16) := Lib.hid (by rw [digZ, if_neg h1, if_neg h2, if_neg h3])
  rcases side' c 48 57 h1 with h1 | ⟨h1, h1'⟩ <;> rcases side' c 97 102 h2 with h2 | ⟨h2, h2'⟩ <;> rcases side' c 65 70 h3 with h3 | ⟨h3, h3'⟩
  all_goals
    go_enter Tryz.func99, Tryz.ntmps99
    go_wp2_with fail
    go_ret
    exact ⟨by rw [HE.out]; rfl, rfl⟩
set_option maxRecDepth 100000 in
set_option maxHeartbeats 2000000 in
theorem refDigit_any (c : Int) (w : World) (h0 : 0 ≤ c) (h255 : c ≤ 255) : Calls Tryz.prog 89 #[.int .u8 c] w fun e w' => e = .returned (.int .i64 (digZ c 99)) ∧ w = w' := by
  by_cases h1 : 48 ≤ c ∧ c ≤ 57
  · have HE : Hid (digZ c 99 = c - 48) := Lib.hid (by rw [digZ, if_pos h1])
    obtain ⟨a, b⟩ := h1
    go_enter Tryz.func89, Tryz.ntmps89
    go_wp2_with fail
    go_ret
    exact ⟨by rw [HE.out]; rfl, rfl⟩
  by_cases h2 : 97 ≤ c ∧ c ≤ 102
  · have HE : Hid (digZ c 99 = c - 97 + 10) := Lib.hid (by rw [digZ, if_neg h1, if_pos h2]; omega)
    obtain ⟨a, b⟩ := h2
    rcases side' c 48 57 h1 with h1 | ⟨h1, h1'⟩
    all_goals
      go_enter Tryz.func89, Tryz.ntmps89
      go_wp2_with fail
      go_ret
      exact ⟨by rw [HE.out]; rfl, rfl⟩
  by_cases h3 : 65 ≤ c ∧ c ≤ 70
  · have HE : Hid (digZ c 99 = c - 65 + 10) := Lib.hid (by rw [digZ, if_neg h1, if_neg h2, if_pos h3]; omega)
    obtain ⟨a, b⟩ := h3
    rcases side' c 48 57 h1 with h1 | ⟨h1, h1'⟩ <;> rcases side' c 97 102 h2 with h2 | ⟨h2, h2'⟩
    all_goals
      go_enter Tryz.func89, Tryz.ntmps89
      go_wp2_with fail
      go_ret
      exact ⟨by rw [HE.out]; rfl, rfl⟩
  have HE : Hid (digZ c 99 = 99) := Lib.hid (by rw [digZ, if_neg h1, if_neg h2, if_neg h3])
  rcases side' c 48 57 h1 with h1 | ⟨h1, h1'⟩ <;> rcases side' c 97 102 h2 with h2 | ⟨h2, h2'⟩ <;> rcases side' c 65 70 h3 with h3 | ⟨h3, h3'⟩
  all_goals
    go_enter Tryz.func89, Tryz.ntmps89
    go_wp2_with fail
    go_ret
    exact ⟨by rw [HE.out]; rfl, rfl⟩

/-- How a number begins: its base, and how many bytes tell it. -/
def prefixOf : List UInt8 → Nat × Nat
  | a :: c :: _ => if a = 48 then (if c = 98 ∨ c = 66 then (2, 2) else if c = 111 ∨ c = 79 then (8, 2) else if c = 120 ∨ c = 88 then (16, 2) else (8, 1)) else (10, 0)
  | _ => (10, 0)
theorem prefix_short {l : List UInt8} (h : l.length < 2) : prefixOf l = (10, 0) := by
  match l, h with
  | [], _ => rfl
  | [_], _ => rfl
theorem prefix_long {l : List UInt8} (h : 1 < l.length) : prefixOf l = if l[0] = 48 then (if l[1] = 98 ∨ l[1] = 66 then (2, 2) else if l[1] = 111 ∨ l[1] = 79 then (8, 2) else if l[1] = 120 ∨ l[1] = 88 then (16, 2) else (8, 1)) else (10, 0) := by
  match l, h with
  | a :: c :: _, _ => rfl
theorem prefix_le (l : List UInt8) : (prefixOf l).2 ≤ l.length ∧ (prefixOf l).1 ≤ 16 := by
  by_cases h : l.length < 2
  · rw [prefix_short h]; simp
  · rw [prefix_long (by omega)]
    split
    · split
      · simp; omega
      · split
        · simp; omega
        · split <;> (simp; omega)
    · simp

set_option maxRecDepth 100000 in
set_option maxHeartbeats 2000000 in
theorem prefix_any (s : ByteArray) (w : World) : Calls Tryz.prog 80 #[.string s] w fun e w' => e = .returned (.tuple #[.int .i64 (prefixOf s.data.toList).1, .int .i64 (prefixOf s.data.toList).2]) ∧ w = w' := by
  by_cases h : s.size < 2
  · have e := prefix_short (l := s.data.toList) (by rw [sdata]; exact h)
    rw [e]
    clear e
    have hd : decide ((s.size : Int) < 2) = true := decide_eq_true (by omega)
    go_enter Tryz.func80, Tryz.ntmps80
    go_wp2_with fail
    go_ret2
    exact ⟨rfl, rfl⟩
  · have hd : decide ((s.size : Int) < 2) = false := decide_eq_false (by omega)
    have h0 : 0 < s.size := by omega
    have h1 : 1 < s.size := by omega
    have e := prefix_long (l := s.data.toList) (by rw [sdata]; exact h1)
    rw [at_data h0, at_data h1] at e
    obtain ⟨a, ha⟩ : ∃ a, s[0]'h0 = a := ⟨_, rfl⟩
    obtain ⟨c, hc⟩ : ∃ c, s[1]'h1 = c := ⟨_, rfl⟩
    rw [ha, hc] at e
    obtain ⟨r, hr⟩ : ∃ r, prefixOf s.data.toList = r := ⟨_, rfl⟩
    rw [hr] at e ⊢
    clear hr
    by_cases ca : a = 48
    · have haz : ((a.toNat : Int) != 48) = false := byte_eq' (d := 48) ca
      rw [if_pos ca] at e
      clear ca
      have table : ∀ d : UInt8, (c = d ∧ ((c.toNat : Int) == (d.toNat : Int)) = true) ∨ (c ≠ d ∧ ((c.toNat : Int) == (d.toNat : Int)) = false) := fun d => by
        by_cases g : c = d
        · exact .inl ⟨g, byte_eq g⟩
        · exact .inr ⟨g, byte_ne g⟩
      have t1 : (c = 98 ∧ ((c.toNat : Int) == 98) = true) ∨ (c ≠ 98 ∧ ((c.toNat : Int) == 98) = false) := table 98
      have t2 : (c = 66 ∧ ((c.toNat : Int) == 66) = true) ∨ (c ≠ 66 ∧ ((c.toNat : Int) == 66) = false) := table 66
      have t3 : (c = 111 ∧ ((c.toNat : Int) == 111) = true) ∨ (c ≠ 111 ∧ ((c.toNat : Int) == 111) = false) := table 111
      have t4 : (c = 79 ∧ ((c.toNat : Int) == 79) = true) ∨ (c ≠ 79 ∧ ((c.toNat : Int) == 79) = false) := table 79
      have t5 : (c = 120 ∧ ((c.toNat : Int) == 120) = true) ∨ (c ≠ 120 ∧ ((c.toNat : Int) == 120) = false) := table 120
      have t6 : (c = 88 ∧ ((c.toNat : Int) == 88) = true) ∨ (c ≠ 88 ∧ ((c.toNat : Int) == 88) = false) := table 88
      clear table
      rcases t1 with ⟨g1, t1⟩ | ⟨g1, t1⟩
      · rw [if_pos (.inl g1)] at e; subst e; clear g1 t2 t3 t4 t5 t6
        go_enter Tryz.func80, Tryz.ntmps80
        go_wp2_with fail
        go_ret2
        exact ⟨rfl, rfl⟩
      rcases t2 with ⟨g2, t2⟩ | ⟨g2, t2⟩
      · rw [if_pos (.inr g2)] at e; subst e; clear g1 g2 t3 t4 t5 t6
        go_enter Tryz.func80, Tryz.ntmps80
        go_wp2_with fail
        go_ret2
        exact ⟨rfl, rfl⟩
      rw [if_neg (fun g => g.elim g1 g2)] at e
      clear g1 g2
      rcases t3 with ⟨g1, t3⟩ | ⟨g1, t3⟩
      · rw [if_pos (.inl g1)] at e; subst e; clear g1 t4 t5 t6
        go_enter Tryz.func80, Tryz.ntmps80
        go_wp2_with fail
        go_ret2
        exact ⟨rfl, rfl⟩
      rcases t4 with ⟨g2, t4⟩ | ⟨g2, t4⟩
      · rw [if_pos (.inr g2)] at e; subst e; clear g1 g2 t5 t6
        go_enter Tryz.func80, Tryz.ntmps80
        go_wp2_with fail
        go_ret2
        exact ⟨rfl, rfl⟩
      rw [if_neg (fun g => g.elim g1 g2)] at e
      clear g1 g2
      rcases t5 with ⟨g1, t5⟩ | ⟨g1, t5⟩
      · rw [if_pos (.inl g1)] at e; subst e; clear g1 t6
        go_enter Tryz.func80, Tryz.ntmps80
        go_wp2_with fail
        go_ret2
        exact ⟨rfl, rfl⟩
      rcases t6 with ⟨g2, t6⟩ | ⟨g2, t6⟩
      · rw [if_pos (.inr g2)] at e; subst e; clear g1 g2
        go_enter Tryz.func80, Tryz.ntmps80
        go_wp2_with fail
        go_ret2
        exact ⟨rfl, rfl⟩
      rw [if_neg (fun g => g.elim g1 g2)] at e
      subst e
      clear g1 g2
      go_enter Tryz.func80, Tryz.ntmps80
      go_wp2_with fail
      go_ret2
      exact ⟨rfl, rfl⟩
    · have haz : ((a.toNat : Int) != 48) = true := byte_ne' (d := 48) ca
      rw [if_neg ca] at e
      subst e
      clear ca
      go_enter Tryz.func80, Tryz.ntmps80
      go_wp2_with fail
      go_ret2
      exact ⟨rfl, rfl⟩
end Go.Proofs.YtjbamlmdeopcaaaGreatDoor.tok
end

section
/-
  token.joinDigits; rows of bytes of the call's own.
-/
namespace Go.Proofs.YtjbamlmdeopcaaaGreatDoor.tok
open Go.RowKit

/-- A row of bytes of the call's own. -/
def Bytes (w : World) (B0 : Nat) (v : Value) (l : List UInt8) : Prop := w.ownsRow B0 5 1 v l.length (Lib.byteCells l)
theorem infoB : (Tryz.prog.info? 5).map (fun i => (i.zero, i.size, i.bytes)) = some (some (.int .u8 0), 1, 1) := by kernel_rfl
theorem Bytes.nil (w : World) (B0 : Nat) : Bytes w B0 (.slice none 0 0) [] := World.ownsRow_nil _ _ _ _
theorem Bytes.string {w : World} {B0 : Nat} {v : Value} {l : List UInt8} (h : Bytes w B0 v l) : (convert 109 9 v).run Tryz.prog w = .ok (.string (B l)) w := by
  rcases h.2 with ⟨rfl, b⟩ | ⟨g, cap, cur, rfl, hB, hg, hc, _⟩
  · have : l = [] := List.eq_nil_of_length_eq_zero b
    subst this
    rw [run_convert_bytes_string w _ _ _ _ _ _ Tryz.underlying109 Tryz.underlying5 Tryz.underlying9]
    simp [Conv.bytesToString]
    rfl
  · refine run_convert_bytes_back w _ _ _ ⟨g, 0, none⟩ cap l Tryz.underlying109 Tryz.underlying5 Tryz.underlying9 (fun j hj => ?_)
    exact World.ownsRow.cells h (g := g) rfl j _ (by simp [Lib.byteCells, hj])
theorem Bytes.more {w wr w2 : World} {o : Obj} {v v' : Value} {l : List UInt8} {c : UInt8} (hb : Below w.heap.size w wr) (hown : Bytes wr w.heap.size v l)
    (hown2 : w2.ownsRow w.heap.size 5 1 v' (l.length + 1) (Lib.byteCells l ++ [.int .u8 (c.toNat : Int)])) (hg : (wr.alloc o).grownBy w2 v.ownBlock) :
    Bytes w2 w.heap.size v' (l ++ [c]) ∧ Below w.heap.size w w2 := by
  have hlt := World.ownsRow.lt hown
  refine ⟨?_, (hb.alloc hb.size o).grown hg (by simp; have := hb.size; omega) (fun k hk => (hlt k hk).1)⟩
  unfold Bytes
  rw [List.length_append]
  have e : Lib.byteCells (l ++ [c]) = Lib.byteCells l ++ [.int .u8 (c.toNat : Int)] := by simp [Lib.byteCells]
  rw [e]
  exact hown2

def isDig (base : Int) (c : UInt8) : Bool := decide (digZ (c.toNat : Int) 16 < base)
def jStep (base : Int) : Option (List UInt8 × Bool) → UInt8 → Option (List UInt8 × Bool)
  | none, _ => none
  | some (d, a), c => if isDig base c then some (d ++ [c], false) else if c = 95 ∧ a = false then some (d, true) else none
def jTo (base : Int) (l : List UInt8) (k : Nat) : Option (List UInt8 × Bool) := (l.take k).foldl (jStep base) (some ([], true))
theorem jTo_succ {base : Int} {l : List UInt8} {k : Nat} (h : k < l.length) : jTo base l (k + 1) = jStep base (jTo base l k) l[k] := by
  unfold jTo
  rw [List.take_succ_eq_append_getElem h, List.foldl_append]
  rfl
theorem jTo_none {base : Int} {l : List UInt8} {k : Nat} (h : jTo base l k = none) : ∀ n, k + n ≤ l.length → jTo base l (k + n) = none := by
  intro n
  induction n with
  | zero => intro _; exact h
  | succ n ih =>
    intro hn
    rw [← Nat.add_assoc, jTo_succ (by omega), ih (by omega)]
    rfl
theorem jTo_end {base : Int} {l : List UInt8} {k : Nat} (hk : k ≤ l.length) (h : jTo base l k = none) : jTo base l l.length = none := by
  have := jTo_none h (l.length - k) (by omega)
  rwa [show k + (l.length - k) = l.length by omega] at this
theorem jTo_few {base : Int} {l : List UInt8} (k : Nat) : ∀ d a, k ≤ l.length → jTo base l k = some (d, a) → d.length ≤ k := by
  induction k with
  | zero => intro d a _ h; simp [jTo] at h; simp [← h.1]
  | succ k ih =>
    intro d a hk h
    rw [jTo_succ (by omega)] at h
    cases hp : jTo base l k with
    | none => rw [hp] at h; simp [jStep] at h
    | some p =>
      obtain ⟨d', a'⟩ := p
      have := ih d' a' (by omega) hp
      rw [hp] at h
      simp only [jStep] at h
      split at h
      · simp at h; rw [← h.1]; simp; omega
      · split at h
        · simp at h; rw [← h.1]; omega
        · simp at h
/-- What joinDigits answers. -/
def joined (base : Int) (l : List UInt8) : List UInt8 × Bool := match jTo base l l.length with
  | none => ([], false)
  | some (d, a) => (d, !a)
def Joined (x : List UInt8) (b : Bool) (w : World) (e : Ending) (w' : World) : Prop := e = .returned (.tuple #[.string (B x), .bool b]) ∧ Below w.heap.size w w'

set_option maxRecDepth 100000 in
set_option maxHeartbeats 2000000 in
theorem join_any (s : ByteArray) (base : Int) (w : World) (hs : s.size ≤ 16777216) :
    Calls Tryz.prog 82 #[.string s, .int .i64 base] w (Joined (joined base s.data.toList).1 (joined base s.data.toList).2 w) := by
  obtain ⟨i0, hi, hz0, hz1, hz2⟩ := info_parts infoB
  go_enter Tryz.func82, Tryz.ntmps82
  go_wp2
  go_loopw [6, 7, 11] (fun v ap i wr => ∃ (k : Nat) (d : List UInt8) (a : Bool), k ≤ s.size ∧ i = .int .i64 k ∧ ap = .bool a ∧ jTo base s.data.toList k = some (d, a) ∧ Bytes wr w.heap.size v d ∧ Below w.heap.size w wr) (fun _ _ i _ => s.size - (intOf i).toNat)
  case atStart => exact ⟨0, [], true, Nat.zero_le _, rfl, rfl, rfl, Bytes.nil _ _, Below.refl _ _⟩
  case round =>
    obtain ⟨k, d, a, hk, rfl, rfl, hj, hown, hbel⟩ := hrel
    have hsd := sdata s
    have hf := jTo_few k d a (by omega) hj
    have hsz := hbel.size
    have HO := Lib.hid hown
    have HB := Lib.hid hbel
    have HJ := Lib.hid hj
    clear hown hbel hj
    by_cases hlt : k < s.size
    · have HN := Lib.hid (jTo_succ (base := base) (l := s.data.toList) (k := k) (by omega))
      obtain ⟨c, hc⟩ : ∃ c, s[k]'hlt = c := ⟨_, rfl⟩
      rw [at_data hlt, hc, HJ.out] at HN
      have hc0 : (0 : Int) ≤ (c.toNat : Int) := by omega
      have hc1 : (c.toNat : Int) ≤ 255 := by have := UInt8.toNat_lt c; omega
      obtain ⟨z, hz⟩ : ∃ z, digZ (c.toNat : Int) 16 = z := ⟨_, rfl⟩
      have HZ := Lib.hid hz
      have hz16 := digZ_bounds (c.toNat : Int) 16 (by omega)
      rw [hz] at hz16
      clear hz
      have hz17 : z ≤ 16 := by omega
      have hz0' : 0 ≤ z := hz16.1
      have HD := Lib.hid hsd
      clear hsd hz16
      by_cases hdig : z < base
      · have hdd : decide (z < base) = true := decide_eq_true hdig
        have HR0 : Hid (jTo base s.data.toList (k + 1) = some (d ++ [c], false)) := Lib.hid (by rw [HN.out, jStep, if_pos (by rw [isDig, HZ.out]; exact hdd)])
        clear HN
        go_wp2_with (first | (go_at_call 99; refine (digit_any _ _ hc0 hc1).mono ?_; rintro e w' ⟨rfl, rfl⟩; rw [HZ.out]) | (at_builtin; refine wpList_append_own _ rfl _ _ 109 rfl w.heap.size 5 i0 (.int .u8 0) 1 1 Tryz.underlying109 hi hz0 hz1 hz2 rfl (by decide) _ _ _ rfl (World.ownsRow.alloc HO.out _) ⟨wr.heap.size, 0, none⟩ 1 1 [.int .u8 (c.toNat : Int)] rfl rfl ?c1 ?c2 ?c3 ?c4 ?c5 ?_))
        case c1 => exact one_new wr _ _
        case c2 => intro u hu; simp only [List.mem_cons, List.not_mem_nil, or_false] at hu; subst hu; rfl
        case c3 => unfold maxLen; omega
        case c4 => omega
        case c5 => simp; omega
        intro v' w2 hown2 hg _
        have HR := Lib.hid (Bytes.more HB.out HO.out hown2 hg)
        clear hown2 hg HO HB
        go_wp2
        go_roundw
        case rel => exact ⟨k + 1, d ++ [c], false, by omega, by go_num, rfl, HR0.out, HR.out.1, HR.out.2⟩
        case measure => simp [intOf]; omega
      · have hdd : decide (z < base) = false := decide_eq_false hdig
        by_cases h95 : c = 95
        · have hcz : ((c.toNat : Int) == 95) = true := byte_eq (d := 95) h95
          cases a with
          | false =>
            have HR0 : Hid (jTo base s.data.toList (k + 1) = some (d, true)) := Lib.hid (by rw [HN.out, jStep, if_neg (by rw [isDig, HZ.out, hdd]; simp), if_pos ⟨h95, rfl⟩])
            clear HN h95
            go_wp2_with (go_at_call 99; refine (digit_any _ _ hc0 hc1).mono ?_; rintro e w' ⟨rfl, rfl⟩; rw [HZ.out])
            go_roundw
            case rel => exact ⟨k + 1, d, true, by omega, by go_num, rfl, HR0.out, HO.out, HB.out⟩
            case measure => simp [intOf]; omega
          | true =>
            have HR0 : Hid (joined base s.data.toList = ([], false)) := Lib.hid (by
              have e1 : jTo base s.data.toList (k + 1) = none := by rw [HN.out, jStep, if_neg (by rw [isDig, HZ.out, hdd]; simp), if_neg (by simp)]
              have e2 := jTo_end (by have := HD.out; omega) e1
              rw [joined, e2])
            clear HN h95
            go_wp2_with (go_at_call 99; refine (digit_any _ _ hc0 hc1).mono ?_; rintro e w' ⟨rfl, rfl⟩; rw [HZ.out])
            go_ret2
            exact ⟨by rw [HR0.out]; rfl, HB.out⟩
        · have hcz : ((c.toNat : Int) == 95) = false := byte_ne (d := 95) h95
          have HR0 : Hid (joined base s.data.toList = ([], false)) := Lib.hid (by
            have e1 : jTo base s.data.toList (k + 1) = none := by rw [HN.out, jStep, if_neg (by rw [isDig, HZ.out, hdd]; simp), if_neg (fun g => h95 g.1)]
            have e2 := jTo_end (by have := HD.out; omega) e1
            rw [joined, e2])
          clear HN h95
          go_wp2_with (go_at_call 99; refine (digit_any _ _ hc0 hc1).mono ?_; rintro e w' ⟨rfl, rfl⟩; rw [HZ.out])
          go_ret2
          exact ⟨by rw [HR0.out]; rfl, HB.out⟩
    · obtain rfl : k = s.size := by omega
      have HR0 : Hid (joined base s.data.toList = (d, !a)) := Lib.hid (by rw [joined, hsd, HJ.out])
      have hcv := Bytes.string HO.out
      clear hsd
      go_wp2_with fail
      go_ret2
      exact ⟨by rw [HR0.out]; rfl, HB.out⟩
end Go.Proofs.YtjbamlmdeopcaaaGreatDoor.tok
end

section
/-
  token.Digits; the reference's row and Digits.
-/
namespace Go.Proofs.YtjbamlmdeopcaaaGreatDoor.tok
open Go.RowKit

theorem slice_from (s : ByteArray) (n : Nat) (h : n ≤ s.size) (u : World) :
    (Instr.slice 9 (.string s) (some (.int .i64 (n : Int))) none none).run Tryz.prog u = .ok (.string (B (s.data.toList.drop n))) u := by
  have e : s.extract n s.size = B (s.data.toList.drop n) := by
    rw [b_extract, List.take_of_length_le (by rw [List.length_drop, sdata]; omega)]
  rw [← e]
  exact run_slice_string_l (P := Tryz.prog) (w := u) (t := 9) (s := s) (ht := Tryz.underlying9) .i64 (n : Int) (by omega) (by omega)
theorem index_at (s : ByteArray) (z : Int) (k : Nat) (hz : z = (k : Int)) (h : k < s.size) (u : World) : (Instr.index 9 (.string s) (.int .i64 z)).run Tryz.prog u = .ok (.int .u8 (s[k].toNat : Int)) u := by
  subst hz
  simp [Instr.index, asIntOf, run_underlying Tryz.underlying9, h]

/-- A number's digits, what stands ahead of them taken away. -/
def restOf (l : List UInt8) : List UInt8 := if 0 < (prefixOf l).2 then Lib.trimPrefix (l.drop (prefixOf l).2) [95] else l.drop (prefixOf l).2
def numOf (l : List UInt8) : Nat × List UInt8 × Bool :=
  match jTo (prefixOf l).1 (restOf l) (restOf l).length with
  | some (d, false) => ((prefixOf l).1, d, true)
  | _ => (0, [], false)
theorem trim_le (x p : List UInt8) : (Lib.trimPrefix x p).length ≤ x.length := by
  unfold Lib.trimPrefix
  split
  · rw [List.length_drop]; omega
  · exact Nat.le_refl _
def Triple (b : Nat) (d : List UInt8) (ok : Bool) (w : World) (e : Ending) (w' : World) : Prop := e = .returned (.tuple #[.int .i64 b, .string (B d), .bool ok]) ∧ Below w.heap.size w w'
theorem trim_any (x : List UInt8) (w : World) : Calls Tryz.prog 81 #[.string (B x), .string { data := #[95] }] w fun e w' => e = .returned (.string (B (Lib.trimPrefix x [95]))) ∧ w = w' := by
  refine (Tryz.strings_TrimPrefix (B x) ⟨#[95]⟩ w).mono ?_
  rintro e w' ⟨rfl, rfl⟩
  rw [bdata]
  exact ⟨rfl, rfl⟩
theorem join_b (x : List UInt8) (base : Int) (w : World) (hs : x.length ≤ 16777216) :
    Calls Tryz.prog 82 #[.string (B x), .int .i64 base] w (Joined (joined base x).1 (joined base x).2 w) := by
  have := join_any (B x) base w (by rw [bsize]; exact hs)
  rwa [bdata] at this

set_option maxRecDepth 100000 in
set_option maxHeartbeats 2000000 in
theorem digits_any (s : ByteArray) (w : World) (hs : s.size ≤ 16777216) : Calls Tryz.prog 59 #[.string s] w (Triple (numOf s.data.toList).1 (numOf s.data.toList).2.1 (numOf s.data.toList).2.2 w) := by
  have hp := (prefix_le s.data.toList).1
  rw [sdata] at hp
  have HP := Lib.hid (prefix_any s)
  have HN : Hid (numOf s.data.toList = match jTo (prefixOf s.data.toList).1 (restOf s.data.toList) (restOf s.data.toList).length with | some (d, false) => ((prefixOf s.data.toList).1, d, true) | _ => (0, [], false)) := Lib.hid rfl
  have HR : Hid (restOf s.data.toList = if 0 < (prefixOf s.data.toList).2 then Lib.trimPrefix (s.data.toList.drop (prefixOf s.data.toList).2) [95] else s.data.toList.drop (prefixOf s.data.toList).2) := Lib.hid rfl
  obtain ⟨b, n, hbn⟩ : ∃ b n, prefixOf s.data.toList = (b, n) := ⟨_, _, rfl⟩
  rw [hbn] at hp HP HN HR
  obtain ⟨r, hr⟩ : ∃ r, numOf s.data.toList = r := ⟨_, rfl⟩
  obtain ⟨y, hy⟩ : ∃ y, restOf s.data.toList = y := ⟨_, rfl⟩
  rw [hr] at HN ⊢
  rw [hy] at HN HR
  clear hbn hr hy
  simp only [] at hp HP HR
  have hsl := slice_from s n hp
  obtain ⟨x, hx⟩ : ∃ x, s.data.toList.drop n = x := ⟨_, rfl⟩
  rw [hx] at hsl HR
  have hxl : x.length ≤ 16777216 := by rw [← hx, List.length_drop, sdata]; omega
  have hyl : y.length ≤ 16777216 := by rw [HR.out]; split; exact Nat.le_trans (trim_le _ _) hxl; exact hxl
  clear hx
  obtain ⟨jd, jb, hj⟩ : ∃ jd jb, joined (b : Int) y = (jd, jb) := ⟨_, _, rfl⟩
  have HJ := Lib.hid hj
  have HV : Hid (r = if jb then (b, jd, true) else (0, [], false)) := Lib.hid (by
    rw [HN.out]
    unfold joined at hj
    revert hj
    show _ → (match jTo (b : Int) y y.length with | some (d, false) => (b, d, true) | _ => ((0 : Nat), ([] : List UInt8), false)) = _
    cases jTo (b : Int) y y.length with
    | none => rintro ⟨⟩; rfl
    | some p =>
      obtain ⟨d, a⟩ := p
      cases a with
      | false => rintro ⟨⟩; rfl
      | true => rintro ⟨⟩; rfl)
  clear HN hj
  by_cases h0 : 0 < n
  · have hd : decide ((0 : Int) < (n : Int)) = true := decide_eq_true (by omega)
    have HY : Hid (Lib.trimPrefix x [95] = y) := Lib.hid (by rw [HR.out, if_pos h0])
    clear HR
    cases jb with
    | true =>
      have HE : Hid (r = (b, jd, true)) := Lib.hid (by rw [HV.out, if_pos rfl])
      clear HV
      go_enter Tryz.func59, Tryz.ntmps59
      go_wp2_with (first | (go_at_call 80; refine (HP.out _).mono ?_; rintro e w' ⟨rfl, rfl⟩) | (go_at_call 81; refine (trim_any _ _).mono ?_; rintro e w' ⟨rfl, rfl⟩; rw [HY.out]) | (go_at_call 82; refine (join_b _ _ _ hyl).mono ?_; rintro e w1 ⟨rfl, hb⟩; rw [HJ.out]; have HB := Lib.hid hb; clear hb))
      go_ret3
      exact ⟨by rw [HE.out]; rfl, HB.out⟩
    | false =>
      have HE : Hid (r = (0, [], false)) := Lib.hid (by rw [HV.out, if_neg (by simp)])
      clear HV
      go_enter Tryz.func59, Tryz.ntmps59
      go_wp2_with (first | (go_at_call 80; refine (HP.out _).mono ?_; rintro e w' ⟨rfl, rfl⟩) | (go_at_call 81; refine (trim_any _ _).mono ?_; rintro e w' ⟨rfl, rfl⟩; rw [HY.out]) | (go_at_call 82; refine (join_b _ _ _ hyl).mono ?_; rintro e w1 ⟨rfl, hb⟩; rw [HJ.out]; have HB := Lib.hid hb; clear hb))
      go_ret3
      exact ⟨by rw [HE.out]; rfl, HB.out⟩
  · obtain rfl : n = 0 := by omega
    have HP0 : Hid (∀ w : World, Calls Tryz.prog 80 #[.string s] w fun e w' => e = .returned (.tuple #[.int .i64 b, .int .i64 0]) ∧ w = w') := HP
    have hsl0 : ∀ u : World, (Instr.slice 9 (.string s) (some (.int .i64 0)) none none).run Tryz.prog u = .ok (.string (B x)) u := hsl
    clear hsl HP
    have HY : Hid (x = y) := Lib.hid (by rw [HR.out, if_neg h0])
    clear HR
    rw [HY.out] at hsl0
    clear h0
    cases jb with
    | true =>
      have HE : Hid (r = (b, jd, true)) := Lib.hid (by rw [HV.out, if_pos rfl])
      clear HV
      go_enter Tryz.func59, Tryz.ntmps59
      go_wp2_with (first | (go_at_call 80; refine (HP0.out _).mono ?_; rintro e w' ⟨rfl, rfl⟩) | (go_at_call 82; refine (join_b _ _ _ hyl).mono ?_; rintro e w1 ⟨rfl, hb⟩; rw [HJ.out]; have HB := Lib.hid hb; clear hb))
      go_ret3
      exact ⟨by rw [HE.out]; rfl, HB.out⟩
    | false =>
      have HE : Hid (r = (0, [], false)) := Lib.hid (by rw [HV.out, if_neg (by simp)])
      clear HV
      go_enter Tryz.func59, Tryz.ntmps59
      go_wp2_with (first | (go_at_call 80; refine (HP0.out _).mono ?_; rintro e w' ⟨rfl, rfl⟩) | (go_at_call 82; refine (join_b _ _ _ hyl).mono ?_; rintro e w1 ⟨rfl, hb⟩; rw [HJ.out]; have HB := Lib.hid hb; clear hb))
      go_ret3
      exact ⟨by rw [HE.out]; rfl, HB.out⟩
end Go.Proofs.YtjbamlmdeopcaaaGreatDoor.tok
end

section
/-
  lexer.run, lexer.right, lexer.wrong.
-/
namespace Go.Proofs.YtjbamlmdeopcaaaGreatDoor.lx
open Go.RowKit Go.Proofs.YtjbamlmdeopcaaaGreatDoor.tok

set_option maxRecDepth 100000 in
set_option maxHeartbeats 2000000 in
theorem run_any (k : Nat) (p : UInt8 → Bool) (hk : Asked k p) (ek : Enters Tryz.prog k) (s : ByteArray) (w : World) (hs : s.size ≤ 9223372036854775807) :
    Calls Tryz.prog 29 #[.string s, .func (.func k) #[] #[]] w fun e w' => e = .returned (.int .i64 (runL p s.data.toList)) ∧ w = w' := by
  unfold Enters at ek
  have HK := Lib.hid hk
  clear hk
  go_enter Tryz.func29, Tryz.ntmps29
  go_wp2
  go_loop [5] (fun i => ∃ n : Nat, n ≤ s.size ∧ i = .int .i64 n ∧ ∀ j, j < n → ∀ h : j < s.data.toList.length, p s.data.toList[j] = true) (fun i => s.size - (intOf i).toNat)
  case atStart => exact ⟨0, Nat.zero_le _, rfl, fun j hj => by omega⟩
  case round =>
    obtain ⟨n, hn, rfl, hb⟩ := hrel
    have HB := Lib.hid hb
    clear hb
    have hsd := sdata s
    have HD := Lib.hid hsd
    clear hsd
    by_cases hlt : n < s.size
    · obtain ⟨c, hc⟩ : ∃ c, s[n]'hlt = c := ⟨_, rfl⟩
      have hix : ∀ u : World, (Instr.index 9 (.string s) (.int .i64 (n : Int))).run Tryz.prog u = .ok (.int .u8 (c.toNat : Int)) u := fun u => by rw [← hc]; exact index_at s _ n rfl hlt u
      have HC : Hid (∀ h : n < s.data.toList.length, s.data.toList[n] = c) := Lib.hid (fun _ => by rw [← hc]; rfl)
      have hd : decide ((n : Int) < (s.size : Int)) = true := decide_eq_true (by omega)
      clear hc
      cases hp : p c with
      | true =>
        have HP := Lib.hid hp
        clear hp
        go_wp2_with (go_at_fn k; refine (HK.out c _).mono ?_; rintro e w' ⟨rfl, rfl⟩; rw [HP.out])
        go_round
        case rel => exact ⟨n + 1, by omega, by go_num, fun j hj h => by
                      by_cases e : j = n
                      · subst e; rw [HC.out h]; exact HP.out
                      · exact HB.out j (by omega) h⟩
        case measure => simp [intOf]; omega
      | false =>
        have HP := Lib.hid hp
        clear hp
        go_wp2_with (go_at_fn k; refine (HK.out c _).mono ?_; rintro e w' ⟨rfl, rfl⟩; rw [HP.out])
        go_ret
        have hl : n < s.data.toList.length := by rw [HD.out]; exact hlt
        exact ⟨by rw [runL_more hl HB.out hl (by rw [HC.out hl]; exact HP.out)]; rfl, rfl⟩
    · have hd : decide ((n : Int) < (s.size : Int)) = false := decide_eq_false (by omega)
      go_wp2_with fail
      go_ret
      exact ⟨by rw [runL_all (fun j h => HB.out j (by rw [HD.out] at h; omega) h), HD.out, show n = s.size by omega]; rfl, rfl⟩

/-- A token and what is said of it, at a place. -/
def Told (n : Nx) (at_ : Nat) (w : World) (e : Ending) (w' : World) : Prop :=
  ∃ x y : Int, e = .returned (.tuple #[.agg #[.int .i64 n.kind, .int .i64 (at_ : Int), .int .i64 ((at_ : Int) + (n.width : Int))], .agg #[.int .i64 n.code, .int .i64 x, .int .i64 y]]) ∧
    (n.code ≠ 0 → x = (at_ : Int) + (n.off : Int) ∧ y = (at_ : Int) + (n.off : Int) + (n.dw : Int)) ∧ Below w.heap.size w w'
set_option maxRecDepth 100000 in
set_option maxHeartbeats 1000000 in
theorem right_any (kind : Int) (at_ n : Nat) (w : World) (ha : at_ ≤ 4294967296) (hn : n ≤ 4294967296) :
    Calls Tryz.prog 27 #[.int .i64 kind, .int .i64 (at_ : Int), .int .i64 (n : Int)] w (Told (right kind n) at_ w) := by
  go_enter Tryz.func27, Tryz.ntmps27
  go_wp2
  refine bodyPost_ret (v := .tuple #[.agg #[.int .i64 kind, .int .i64 (at_ : Int), .int .i64 ((at_ : Int) + (n : Int))], .agg #[.int .i64 0, .int .i64 0, .int .i64 0]]) (by simp [results, Tryz.results27, go_sem]) rfl ⟨0, 0, rfl, fun h => absurd rfl h, ?_⟩
  exact ((Below.refl _ _).alloc (Nat.le_refl _) _).alloc (by simp) _
theorem bcell {W w1 : World} (hb : Below W.heap.size W w1) : (∀ b o, b < W.heap.size → w1.cell? ⟨b, o, none⟩ = W.cell? ⟨b, o, none⟩) ∧ (∀ b o, b < W.heap.size → w1.frozen? ⟨b, o, none⟩ = W.frozen? ⟨b, o, none⟩) :=
  ⟨fun b o h => hb.cell (p := ⟨b, o, none⟩) h, fun b o h => hb.frozen (p := ⟨b, o, none⟩) h⟩
set_option maxRecDepth 100000 in
set_option maxHeartbeats 1000000 in
theorem wrong_any (kind code : Int) (at_ n : Nat) (w : World) (ha : at_ ≤ 4294967296) (hn : n ≤ 4294967296) :
    Calls Tryz.prog 56 #[.int .i64 kind, .int .i64 code, .int .i64 (at_ : Int), .int .i64 (n : Int)] w (Told (wrong kind n code) at_ w) := by
  go_enter Tryz.func56, Tryz.ntmps56
  go_wp2
  go_region
  go_wp2_with fail
  refine bodyPost_ret (v := .tuple #[.agg #[.int .i64 kind, .int .i64 (at_ : Int), .int .i64 ((at_ : Int) + (n : Int))], .agg #[.int .i64 code, .int .i64 (at_ : Int), .int .i64 ((at_ : Int) + (n : Int))]]) (by simp [results, Tryz.results56, go_sem]) rfl ⟨at_, (at_ : Int) + (n : Int), rfl, fun _ => ⟨?_, ?_⟩, ?_⟩
  · simp [wrong]
  · simp [wrong]
  · repeat (first | exact Below.refl _ _ | refine Below.drew ?_ | refine Below.alloc ?_ (by simp; try omega) _)
end Go.Proofs.YtjbamlmdeopcaaaGreatDoor.lx
end

section
/-
  Two results that lie in memory, of three numbers each: what stands there, and what is handed on.
-/
namespace Go.Proofs.YtjbamlmdeopcaaaGreatDoor.lx
open Go.RowKit Go.Proofs.YtjbamlmdeopcaaaGreatDoor.tok

theorem below2 (w : World) (o p : Obj) : Below w.heap.size w ((w.alloc o).alloc p) := ((Below.refl w.heap.size w).alloc (Nat.le_refl _) o).alloc (by simp) p
theorem below2_then {w w' : World} {o p : Obj} (hb : Below ((w.alloc o).alloc p).heap.size ((w.alloc o).alloc p) w') : Below w.heap.size w w' := (below2 w o p).trans (hb.mono (below2 w o p).size)
/-- The two boxes of a call's results. -/
def Six (w : World) (b : Nat) : Prop := (∃ u0 u1 u2 u3 u4 u5 : Value, w.cell? ⟨b, 0, none⟩ = some u0 ∧ w.cell? ⟨b, 1, none⟩ = some u1 ∧ w.cell? ⟨b, 2, none⟩ = some u2 ∧ w.cell? ⟨b + 1, 0, none⟩ = some u3 ∧ w.cell? ⟨b + 1, 1, none⟩ = some u4 ∧ w.cell? ⟨b + 1, 2, none⟩ = some u5) ∧ w.frozen? ⟨b, 0, none⟩ = false ∧ w.frozen? ⟨b, 1, none⟩ = false ∧ w.frozen? ⟨b, 2, none⟩ = false ∧ w.frozen? ⟨b + 1, 0, none⟩ = false ∧ w.frozen? ⟨b + 1, 1, none⟩ = false ∧ w.frozen? ⟨b + 1, 2, none⟩ = false
theorem six_new (w : World) (x0 x1 x2 y0 y1 y2 : Value) (t u : TypeId) : Six ((w.alloc (.cells #[x0, x1, x2] t)).alloc (.cells #[y0, y1, y2] u)) w.heap.size := by
  refine ⟨⟨x0, x1, x2, y0, y1, y2, ?_, ?_, ?_, ?_, ?_, ?_⟩, ?_, ?_, ?_, ?_, ?_, ?_⟩ <;> simp
theorem Six.below {w w' : World} {b : Nat} (h : Six w b) (hb : Below w.heap.size w w') : Six w' b := by
  obtain ⟨⟨u0, u1, u2, u3, u4, u5, k0, k1, k2, k3, k4, k5⟩, f0, f1, f2, f3, f4, f5⟩ := h
  have l0 := World.block_lt_of_cell? _ _ k0
  have l1 := World.block_lt_of_cell? _ _ k3
  have c : ∀ (q o : Nat) (v : Value), q < w.heap.size → w.cell? ⟨q, o, none⟩ = some v → w'.cell? ⟨q, o, none⟩ = some v := fun q o v hq hv => (hb.cell (p := ⟨q, o, none⟩) hq).trans hv
  have f : ∀ (q o : Nat), q < w.heap.size → w.frozen? ⟨q, o, none⟩ = false → w'.frozen? ⟨q, o, none⟩ = false := fun q o hq hv => (hb.frozen (p := ⟨q, o, none⟩) hq).trans hv
  exact ⟨⟨u0, u1, u2, u3, u4, u5, c _ _ _ l0 k0, c _ _ _ l0 k1, c _ _ _ l0 k2, c _ _ _ l1 k3, c _ _ _ l1 k4, c _ _ _ l1 k5⟩, f _ _ l0 f0, f _ _ l0 f1, f _ _ l0 f2, f _ _ l1 f3, f _ _ l1 f4, f _ _ l1 f5⟩
def put6 (w : World) (b : Nat) (a0 a1 a2 a3 a4 a5 : Value) : World := ((((((w.setCell ⟨b, 0, none⟩ a0).setCell ⟨b, 1, none⟩ a1).setCell ⟨b, 2, none⟩ a2).setCell ⟨b + 1, 0, none⟩ a3).setCell ⟨b + 1, 1, none⟩ a4).setCell ⟨b + 1, 2, none⟩ a5)
theorem put6_reads {w : World} {b : Nat} (h : Six w b) (a0 a1 a2 a3 a4 a5 : Value) : (put6 w b a0 a1 a2 a3 a4 a5).cell? ⟨b, 0, none⟩ = some a0 ∧ (put6 w b a0 a1 a2 a3 a4 a5).cell? ⟨b, 1, none⟩ = some a1 ∧ (put6 w b a0 a1 a2 a3 a4 a5).cell? ⟨b, 2, none⟩ = some a2 ∧ (put6 w b a0 a1 a2 a3 a4 a5).cell? ⟨b + 1, 0, none⟩ = some a3 ∧ (put6 w b a0 a1 a2 a3 a4 a5).cell? ⟨b + 1, 1, none⟩ = some a4 ∧ (put6 w b a0 a1 a2 a3 a4 a5).cell? ⟨b + 1, 2, none⟩ = some a5 := by
  obtain ⟨⟨u0, u1, u2, u3, u4, u5, k0, k1, k2, k3, k4, k5⟩, _⟩ := h
  unfold put6
  simp [World.cell?_setCell_other, World.cell?_setCell_same', k0, k1, k2, k3, k4, k5]
theorem below_put6 {B0 : Nat} {a w : World} {b : Nat} (h : Below B0 a w) (hB : B0 ≤ b) (a0 a1 a2 a3 a4 a5 : Value) : Below B0 a (put6 w b a0 a1 a2 a3 a4 a5) := by
  unfold put6
  exact (((((h.setCell (p := ⟨b, 0, none⟩) hB _).setCell (p := ⟨b, 1, none⟩) hB _).setCell (p := ⟨b, 2, none⟩) hB _).setCell (p := ⟨b + 1, 0, none⟩) (Nat.le_succ_of_le hB) _).setCell (p := ⟨b + 1, 1, none⟩) (Nat.le_succ_of_le hB) _).setCell (p := ⟨b + 1, 2, none⟩) (Nat.le_succ_of_le hB) _
set_option maxRecDepth 100000 in
theorem results_two {fn : Func} {i j : Tmp} (h : fn.results = #[.cell i 29, .cell j 27]) (tmps : Array Value) {w : World} {b : Nat} (hs : Six w b) (a0 a1 a2 a3 a4 a5 : Value)
    (hi : tmps.getD i undef = .pointer (some ⟨b, 0, none⟩)) (hj : tmps.getD j undef = .pointer (some ⟨b + 1, 0, none⟩)) :
    (results fn tmps).run Tryz.prog (put6 w b a0 a1 a2 a3 a4 a5) = .ok (.tuple #[.agg #[a0, a1, a2], .agg #[a3, a4, a5]]) (put6 w b a0 a1 a2 a3 a4 a5) := by
  obtain ⟨r0, r1, r2, r3, r4, r5⟩ := put6_reads hs a0 a1 a2 a3 a4 a5
  generalize put6 w b a0 a1 a2 a3 a4 a5 = W at *
  have hi' : tmps[i]?.getD undef = .pointer (some ⟨b, 0, none⟩) := by simpa using hi
  have hj' : tmps[j]?.getD undef = .pointer (some ⟨b + 1, 0, none⟩) := by simpa using hj
  simp [results, h, hi', hj', r0, r1, r2, r3, r4, r5, go_sem]
/-- The end of a call that hands on what another one told. -/
theorem Told.same {n m : Nx} {at_ : Nat} {w w' : World} {x y : Int} (hn : m = n) (hxy : n.code ≠ 0 → x = (at_ : Int) + (n.off : Int) ∧ y = (at_ : Int) + (n.off : Int) + (n.dw : Int)) (hb : Below w.heap.size w w') :
    Told m at_ w (.returned (.tuple #[.agg #[.int .i64 n.kind, .int .i64 (at_ : Int), .int .i64 ((at_ : Int) + (n.width : Int))], .agg #[.int .i64 n.code, .int .i64 x, .int .i64 y]])) w' := by
  subst hn
  exact ⟨x, y, rfl, hxy, hb⟩
end Go.Proofs.YtjbamlmdeopcaaaGreatDoor.lx
end

section
/-
  What so many digits say: token.number and the reference's.
-/
namespace Go.Proofs.YtjbamlmdeopcaaaGreatDoor.tok
open Go.RowKit

def nStep (base : Int) : Option Int → UInt8 → Option Int
  | none, _ => none
  | some n, c => if isDig base c then some (n * base + digZ (c.toNat : Int) 16) else none
def nTo (base : Int) (l : List UInt8) (k : Nat) : Option Int := (l.take k).foldl (nStep base) (some 0)
/-- What count digits of a base say that stand from a place on, if they stand there. -/
def numAt (l : List UInt8) (i count : Nat) (base : Int) : Option Int := if i + count ≤ l.length then nTo base (l.drop i) count else none
theorem nTo_succ {base : Int} {l : List UInt8} {i k : Nat} (h : i + k < l.length) : nTo base (l.drop i) (k + 1) = nStep base (nTo base (l.drop i) k) l[i + k] := by
  unfold nTo
  rw [List.take_succ_eq_append_getElem (by rw [List.length_drop]; omega), List.foldl_append, List.getElem_drop]
  rfl
theorem nTo_none {base : Int} {l : List UInt8} {i k count : Nat} (hc : i + count ≤ l.length) (hk : k ≤ count) (h : nTo base (l.drop i) k = none) : nTo base (l.drop i) count = none := by
  have all : ∀ n, k + n ≤ count → nTo base (l.drop i) (k + n) = none := by
    intro n
    induction n with
    | zero => intro _; exact h
    | succ n ih =>
      intro hn
      rw [← Nat.add_assoc, nTo_succ (by omega), ih (by omega)]
      rfl
  have := all (count - k) (by omega)
  rwa [show k + (count - k) = count by omega] at this
theorem isDig_bounds {base : Int} {c : UInt8} (h : isDig base c = true) : 0 ≤ digZ (c.toNat : Int) 16 ∧ digZ (c.toNat : Int) 16 < base := ⟨(digZ_bounds _ 16 (by omega)).1, of_decide_eq_true h⟩
theorem nTo_bound {base : Int} (hb0 : 0 ≤ base) (hb : base ≤ 16) {l : List UInt8} {i : Nat} : ∀ k n, i + k ≤ l.length → nTo base (l.drop i) k = some n → 0 ≤ n ∧ n < 16 ^ k := by
  intro k
  induction k with
  | zero => intro n _ h; simp [nTo] at h; omega
  | succ k ih =>
    intro n hk h
    rw [nTo_succ (by omega)] at h
    cases hp : nTo base (l.drop i) k with
    | none => rw [hp] at h; cases h
    | some p =>
      have hi := ih p (by omega) hp
      rw [hp] at h
      simp only [nStep] at h
      split at h
      · next g =>
        have hd := isDig_bounds g
        have e := Option.some.inj h
        have h1 : 0 ≤ p * base := Int.mul_nonneg hi.1 hb0
        have h2 : p * base ≤ p * 16 := Int.mul_le_mul_of_nonneg_left hb hi.1
        rw [Int.pow_succ]
        omega
      · cases h
theorem pow_le8 (k : Nat) (h : k ≤ 8) : (16 : Int) ^ k ≤ 4294967296 := by
  have : ∀ j : Fin 9, (16 : Int) ^ j.val ≤ 4294967296 := by decide
  exact this ⟨k, by omega⟩
def numR (o : Option Int) : Int × Bool := match o with
  | some v => (v, true)
  | none => (0, false)
def numM (o : Option Int) : Int := match o with
  | some v => v
  | none => -1
def NumPost (o : Option Int) (w : World) (e : Ending) (w' : World) : Prop := e = .returned (.tuple #[.int .i64 (numR o).1, .bool (numR o).2]) ∧ w = w'
def NumMPost (o : Option Int) (w : World) (e : Ending) (w' : World) : Prop := e = .returned (.int .i64 (numM o)) ∧ w = w'

set_option maxRecDepth 100000 in
set_option maxHeartbeats 2000000 in
theorem number_8 (s : ByteArray) (i count : Nat) (w : World) (hs : s.size ≤ 140737488355328) (hi : i ≤ 140737488355338) (hc : count ≤ 8) :
    Calls Tryz.prog 114 #[.string s, .int .i64 i, .int .i64 count, .int .i64 8] w (NumPost (numAt s.data.toList i count 8) w) := by
  have hsd := sdata s
  by_cases hin : i + count ≤ s.size
  · have hd0 : decide ((s.size : Int) - (i : Int) < (count : Int)) = false := decide_eq_false (by omega)
    have HA : Hid (numAt s.data.toList i count 8 = nTo 8 (s.data.toList.drop i) count) := Lib.hid (by rw [numAt, if_pos (by omega)])
    have HD := Lib.hid hsd
    clear hsd
    go_enter Tryz.func114, Tryz.ntmps114
    go_wp2_with fail
    go_loop [10, 20] (fun n j => ∃ (k : Nat) (v : Int), k ≤ count ∧ j = .int .i64 k ∧ n = .int .i64 v ∧ nTo 8 (s.data.toList.drop i) k = some v) (fun _ j => count - (intOf j).toNat)
    case atStart => exact ⟨0, 0, by omega, rfl, rfl, rfl⟩
    case round =>
      obtain ⟨k, v, hk, rfl, rfl, hv⟩ := hrel
      have hvb := nTo_bound (base := 8) (by omega) (by omega) k v (by have := HD.out; omega) hv
      have hp8 := pow_le8 k (by omega)
      have hv0 : 0 ≤ v := hvb.1
      have hv1 : v < 4294967296 := by omega
      have HV := Lib.hid hv
      clear hv hvb hp8
      by_cases hlt : k < count
      · have hik : i + k < s.size := by omega
        have HN := Lib.hid (nTo_succ (base := 8) (l := s.data.toList) (i := i) (k := k) (by have := HD.out; omega))
        obtain ⟨c, hc'⟩ : ∃ c, s[i + k]'hik = c := ⟨_, rfl⟩
        have hix : ∀ u : World, (Instr.index 9 (.string s) (.int .i64 ((i : Int) + (k : Int)))).run Tryz.prog u = .ok (.int .u8 (c.toNat : Int)) u := fun u => by
          rw [← hc']; exact index_at s _ (i + k) (by omega) hik u
        rw [at_data hik, hc', HV.out] at HN
        have hc0 : (0 : Int) ≤ (c.toNat : Int) := by omega
        have hc1 : (c.toNat : Int) ≤ 255 := by have := UInt8.toNat_lt c; omega
        obtain ⟨z, hz⟩ : ∃ z, digZ (c.toNat : Int) 16 = z := ⟨_, rfl⟩
        have hzb := digZ_bounds (c.toNat : Int) 16 (by omega)
        have HZ := Lib.hid hz
        rw [hz] at hzb
        have hz0 : 0 ≤ z := hzb.1
        have hz1 : z ≤ 16 := by omega
        clear hz hzb hc'
        by_cases hdig : z < 8
        · have hdd : decide ((8 : Int) ≤ z) = false := decide_eq_false (by omega)
          have HR : Hid (nTo 8 (s.data.toList.drop i) (k + 1) = some (v * 8 + z)) := Lib.hid (by rw [HN.out, nStep, if_pos (by rw [isDig, HZ.out]; exact decide_eq_true hdig), HZ.out])
          clear HN
          go_wp2_with (go_at_call 99; refine (digit_any _ _ hc0 hc1).mono ?_; rintro e w' ⟨rfl, rfl⟩; rw [HZ.out])
          go_round
          case rel => exact ⟨k + 1, _, by omega, by go_num, rfl, HR.out⟩
          case measure => simp [intOf]; omega
        · have hdd : decide ((8 : Int) ≤ z) = true := decide_eq_true (by omega)
          have HR : Hid (numAt s.data.toList i count 8 = none) := Lib.hid (by
            rw [HA.out]
            exact nTo_none (by have := HD.out; omega) (show k + 1 ≤ count by omega) (by rw [HN.out, nStep, if_neg (by rw [isDig, HZ.out]; simpa using hdig)]))
          clear HN
          go_wp2_with (go_at_call 99; refine (digit_any _ _ hc0 hc1).mono ?_; rintro e w' ⟨rfl, rfl⟩; rw [HZ.out])
          go_ret2
          exact ⟨by rw [HR.out]; rfl, rfl⟩
      · obtain rfl : k = count := by omega
        have HR : Hid (numAt s.data.toList i k 8 = some v) := Lib.hid (by rw [HA.out, HV.out])
        go_wp2_with fail
        go_ret2
        exact ⟨by rw [HR.out]; rfl, rfl⟩
  · have hd0 : decide ((s.size : Int) - (i : Int) < (count : Int)) = true := decide_eq_true (by omega)
    have HA : Hid (numAt s.data.toList i count 8 = none) := Lib.hid (by rw [numAt, if_neg (by omega)])
    clear hsd
    go_enter Tryz.func114, Tryz.ntmps114
    go_wp2_with fail
    go_ret2
    exact ⟨by rw [HA.out]; rfl, rfl⟩
set_option maxRecDepth 100000 in
set_option maxHeartbeats 2000000 in
theorem refNumber_8 (s : ByteArray) (i count : Nat) (w : World) (hs : s.size ≤ 140737488355328) (hi : i ≤ 140737488355338) (hc : count ≤ 8) :
    Calls Tryz.prog 104 #[.string s, .int .i64 i, .int .i64 count, .int .i64 8] w (NumMPost (numAt s.data.toList i count 8) w) := by
  have hsd := sdata s
  by_cases hin : i + count ≤ s.size
  · have hd0 : decide ((s.size : Int) < (i : Int) + (count : Int)) = false := decide_eq_false (by omega)
    have HA : Hid (numAt s.data.toList i count 8 = nTo 8 (s.data.toList.drop i) count) := Lib.hid (by rw [numAt, if_pos (by omega)])
    have HD := Lib.hid hsd
    clear hsd
    go_enter Tryz.func104, Tryz.ntmps104
    go_wp2_with fail
    go_loop [9, 10] (fun n j => ∃ (k : Nat) (v : Int), k ≤ count ∧ j = .int .i64 ((i + k : Nat) : Int) ∧ n = .int .i64 v ∧ nTo 8 (s.data.toList.drop i) k = some v) (fun _ j => i + count - (intOf j).toNat)
    case atStart => exact ⟨0, 0, by omega, rfl, rfl, rfl⟩
    case round =>
      obtain ⟨k, v, hk, rfl, rfl, hv⟩ := hrel
      have hvb := nTo_bound (base := 8) (by omega) (by omega) k v (by have := HD.out; omega) hv
      have hp8 := pow_le8 k (by omega)
      have hv0 : 0 ≤ v := hvb.1
      have hv1 : v < 4294967296 := by omega
      have HV := Lib.hid hv
      clear hv hvb hp8
      by_cases hlt : k < count
      · have hik : i + k < s.size := by omega
        have HN := Lib.hid (nTo_succ (base := 8) (l := s.data.toList) (i := i) (k := k) (by have := HD.out; omega))
        obtain ⟨j, hj⟩ : ∃ j, i + k = j := ⟨_, rfl⟩
        obtain ⟨c, hc'⟩ : ∃ c, s[i + k]'hik = c := ⟨_, rfl⟩
        rw [at_data hik, hc', HV.out] at HN
        have hix : ∀ u : World, (Instr.index 9 (.string s) (.int .i64 (j : Int))).run Tryz.prog u = .ok (.int .u8 (c.toNat : Int)) u := fun u => by
          rw [← hc']; exact index_at s _ (i + k) (by omega) hik u
        rw [hj]
        have hj1 : j < i + count := by omega
        have hj2 : j < s.size := by omega
        have HJ := Lib.hid hj
        have hd1 : decide ((j : Int) < (i : Int) + (count : Int)) = true := decide_eq_true (by omega)
        clear hj
        have hc0 : (0 : Int) ≤ (c.toNat : Int) := by omega
        have hc1 : (c.toNat : Int) ≤ 255 := by have := UInt8.toNat_lt c; omega
        obtain ⟨z, hz⟩ : ∃ z, digZ (c.toNat : Int) 99 = z := ⟨_, rfl⟩
        have hzb := digZ_bounds (c.toNat : Int) 99 (by omega)
        have HZ := Lib.hid hz
        have HI : Hid (isDig 8 c = decide (z < 8)) := Lib.hid (by rw [isDig, ← hz]; exact decide_eq_decide.2 (digZ_lt _ 16 99 8 (by omega) (by omega) (by omega)))
        have HS : Hid (z < 16 → digZ (c.toNat : Int) 16 = z) := Lib.hid (fun g => by rw [← hz] at g ⊢; exact (digZ_same _ 99 16 g (by omega)).symm)
        rw [hz] at hzb
        have hz0 : 0 ≤ z := hzb.1
        have hz1 : z ≤ 99 := by omega
        clear hz hzb hc'
        by_cases hdig : z < 8
        · have hdd : decide ((8 : Int) ≤ z) = false := decide_eq_false (by omega)
          have HR : Hid (nTo 8 (s.data.toList.drop i) (k + 1) = some (v * 8 + z)) := Lib.hid (by rw [HN.out, nStep, if_pos (by rw [HI.out]; exact decide_eq_true hdig), HS.out (by omega)])
          clear HN
          go_wp2_with (go_at_call 89; refine (refDigit_any _ _ hc0 hc1).mono ?_; rintro e w' ⟨rfl, rfl⟩; rw [HZ.out])
          go_round
          case rel => exact ⟨k + 1, _, by omega, by rw [show i + (k + 1) = j + 1 by have := HJ.out; omega]; go_num, rfl, HR.out⟩
          case measure => simp [intOf]; omega
        · have hdd : decide ((8 : Int) ≤ z) = true := decide_eq_true (by omega)
          have HR : Hid (numAt s.data.toList i count 8 = none) := Lib.hid (by
            rw [HA.out]
            exact nTo_none (by have := HD.out; omega) (show k + 1 ≤ count by omega) (by rw [HN.out, nStep, if_neg (by rw [HI.out]; simpa using hdig)]))
          clear HN
          go_wp2_with (go_at_call 89; refine (refDigit_any _ _ hc0 hc1).mono ?_; rintro e w' ⟨rfl, rfl⟩; rw [HZ.out])
          go_ret
          exact ⟨by rw [HR.out]; rfl, rfl⟩
      · obtain rfl : k = count := by omega
        have HR : Hid (numAt s.data.toList i k 8 = some v) := Lib.hid (by rw [HA.out, HV.out])
        have hd1 : decide (((i + k : Nat) : Int) < (i : Int) + (k : Int)) = false := decide_eq_false (by omega)
        go_wp2_with fail
        go_ret
        exact ⟨by rw [HR.out]; rfl, rfl⟩
  · have hd0 : decide ((s.size : Int) < (i : Int) + (count : Int)) = true := decide_eq_true (by omega)
    have HA : Hid (numAt s.data.toList i count 8 = none) := Lib.hid (by rw [numAt, if_neg (by omega)])
    clear hsd
    go_enter Tryz.func104, Tryz.ntmps104
    go_wp2_with fail
    go_ret
    exact ⟨by rw [HA.out]; rfl, rfl⟩
set_option maxRecDepth 100000 in
set_option maxHeartbeats 2000000 in
theorem number_16 (s : ByteArray) (i count : Nat) (w : World) (hs : s.size ≤ 140737488355328) (hi : i ≤ 140737488355338) (hc : count ≤ 8) :
    Calls Tryz.prog 114 #[.string s, .int .i64 i, .int .i64 count, .int .i64 16] w (NumPost (numAt s.data.toList i count 16) w) := by
  have hsd := sdata s
  by_cases hin : i + count ≤ s.size
  · have hd0 : decide ((s.size : Int) - (i : Int) < (count : Int)) = false := decide_eq_false (by omega)
    have HA : Hid (numAt s.data.toList i count 16 = nTo 16 (s.data.toList.drop i) count) := Lib.hid (by rw [numAt, if_pos (by omega)])
    have HD := Lib.hid hsd
    clear hsd
    go_enter Tryz.func114, Tryz.ntmps114
    go_wp2_with fail
    go_loop [10, 20] (fun n j => ∃ (k : Nat) (v : Int), k ≤ count ∧ j = .int .i64 k ∧ n = .int .i64 v ∧ nTo 16 (s.data.toList.drop i) k = some v) (fun _ j => count - (intOf j).toNat)
    case atStart => exact ⟨0, 0, by omega, rfl, rfl, rfl⟩
    case round =>
      obtain ⟨k, v, hk, rfl, rfl, hv⟩ := hrel
      have hvb := nTo_bound (base := 16) (by omega) (by omega) k v (by have := HD.out; omega) hv
      have hp8 := pow_le8 k (by omega)
      have hv0 : 0 ≤ v := hvb.1
      have hv1 : v < 4294967296 := by omega
      have HV := Lib.hid hv
      clear hv hvb hp8
      by_cases hlt : k < count
      · have hik : i + k < s.size := by omega
        have HN := Lib.hid (nTo_succ (base := 16) (l := s.data.toList) (i := i) (k := k) (by have := HD.out; omega))
        obtain ⟨c, hc'⟩ : ∃ c, s[i + k]'hik = c := ⟨_, rfl⟩
        have hix : ∀ u : World, (Instr.index 9 (.string s) (.int .i64 ((i : Int) + (k : Int)))).run Tryz.prog u = .ok (.int .u8 (c.toNat : Int)) u := fun u => by
          rw [← hc']; exact index_at s _ (i + k) (by omega) hik u
        rw [at_data hik, hc', HV.out] at HN
        have hc0 : (0 : Int) ≤ (c.toNat : Int) := by omega
        have hc1 : (c.toNat : Int) ≤ 255 := by have := UInt8.toNat_lt c; omega
        obtain ⟨z, hz⟩ : ∃ z, digZ (c.toNat : Int) 16 = z := ⟨_, rfl⟩
        have hzb := digZ_bounds (c.toNat : Int) 16 (by omega)
        have HZ := Lib.hid hz
        rw [hz] at hzb
        have hz0 : 0 ≤ z := hzb.1
        have hz1 : z ≤ 16 := by omega
        clear hz hzb hc'
        by_cases hdig : z < 16
        · have hdd : decide ((16 : Int) ≤ z) = false := decide_eq_false (by omega)
          have HR : Hid (nTo 16 (s.data.toList.drop i) (k + 1) = some (v * 16 + z)) := Lib.hid (by rw [HN.out, nStep, if_pos (by rw [isDig, HZ.out]; exact decide_eq_true hdig), HZ.out])
          clear HN
          go_wp2_with (go_at_call 99; refine (digit_any _ _ hc0 hc1).mono ?_; rintro e w' ⟨rfl, rfl⟩; rw [HZ.out])
          go_round
          case rel => exact ⟨k + 1, _, by omega, by go_num, rfl, HR.out⟩
          case measure => simp [intOf]; omega
        · have hdd : decide ((16 : Int) ≤ z) = true := decide_eq_true (by omega)
          have HR : Hid (numAt s.data.toList i count 16 = none) := Lib.hid (by
            rw [HA.out]
            exact nTo_none (by have := HD.out; omega) (show k + 1 ≤ count by omega) (by rw [HN.out, nStep, if_neg (by rw [isDig, HZ.out]; simpa using hdig)]))
          clear HN
          go_wp2_with (go_at_call 99; refine (digit_any _ _ hc0 hc1).mono ?_; rintro e w' ⟨rfl, rfl⟩; rw [HZ.out])
          go_ret2
          exact ⟨by rw [HR.out]; rfl, rfl⟩
      · obtain rfl : k = count := by omega
        have HR : Hid (numAt s.data.toList i k 16 = some v) := Lib.hid (by rw [HA.out, HV.out])
        go_wp2_with fail
        go_ret2
        exact ⟨by rw [HR.out]; rfl, rfl⟩
  · have hd0 : decide ((s.size : Int) - (i : Int) < (count : Int)) = true := decide_eq_true (by omega)
    have HA : Hid (numAt s.data.toList i count 16 = none) := Lib.hid (by rw [numAt, if_neg (by omega)])
    clear hsd
    go_enter Tryz.func114, Tryz.ntmps114
    go_wp2_with fail
    go_ret2
    exact ⟨by rw [HA.out]; rfl, rfl⟩
set_option maxRecDepth 100000 in
set_option maxHeartbeats 2000000 in
theorem refNumber_16 (s : ByteArray) (i count : Nat) (w : World) (hs : s.size ≤ 140737488355328) (hi : i ≤ 140737488355338) (hc : count ≤ 8) :
    Calls Tryz.prog 104 #[.string s, .int .i64 i, .int .i64 count, .int .i64 16] w (NumMPost (numAt s.data.toList i count 16) w) := by
  have hsd := sdata s
  by_cases hin : i + count ≤ s.size
  · have hd0 : decide ((s.size : Int) < (i : Int) + (count : Int)) = false := decide_eq_false (by omega)
    have HA : Hid (numAt s.data.toList i count 16 = nTo 16 (s.data.toList.drop i) count) := Lib.hid (by rw [numAt, if_pos (by omega)])
    have HD := Lib.hid hsd
    clear hsd
    go_enter Tryz.func104, Tryz.ntmps104
    go_wp2_with fail
    go_loop [9, 10] (fun n j => ∃ (k : Nat) (v : Int), k ≤ count ∧ j = .int .i64 ((i + k : Nat) : Int) ∧ n = .int .i64 v ∧ nTo 16 (s.data.toList.drop i) k = some v) (fun _ j => i + count - (intOf j).toNat)
    case atStart => exact ⟨0, 0, by omega, rfl, rfl, rfl⟩
    case round =>
      obtain ⟨k, v, hk, rfl, rfl, hv⟩ := hrel
      have hvb := nTo_bound (base := 16) (by omega) (by omega) k v (by have := HD.out; omega) hv
      have hp8 := pow_le8 k (by omega)
      have hv0 : 0 ≤ v := hvb.1
      have hv1 : v < 4294967296 := by omega
      have HV := Lib.hid hv
      clear hv hvb hp8
      by_cases hlt : k < count
      · have hik : i + k < s.size := by omega
        have HN := Lib.hid (nTo_succ (base := 16) (l := s.data.toList) (i := i) (k := k) (by have := HD.out; omega))
        obtain ⟨j, hj⟩ : ∃ j, i + k = j := ⟨_, rfl⟩
        obtain ⟨c, hc'⟩ : ∃ c, s[i + k]'hik = c := ⟨_, rfl⟩
        rw [at_data hik, hc', HV.out] at HN
        have hix : ∀ u : World, (Instr.index 9 (.string s) (.int .i64 (j : Int))).run Tryz.prog u = .ok (.int .u8 (c.toNat : Int)) u := fun u => by
          rw [← hc']; exact index_at s _ (i + k) (by omega) hik u
        rw [hj]
        have hj1 : j < i + count := by omega
        have hj2 : j < s.size := by omega
        have HJ := Lib.hid hj
        have hd1 : decide ((j : Int) < (i : Int) + (count : Int)) = true := decide_eq_true (by omega)
        clear hj
        have hc0 : (0 : Int) ≤ (c.toNat : Int) := by omega
        have hc1 : (c.toNat : Int) ≤ 255 := by have := UInt8.toNat_lt c; omega
        obtain ⟨z, hz⟩ : ∃ z, digZ (c.toNat : Int) 99 = z := ⟨_, rfl⟩
        have hzb := digZ_bounds (c.toNat : Int) 99 (by omega)
        have HZ := Lib.hid hz
        have HI : Hid (isDig 16 c = decide (z < 16)) := Lib.hid (by rw [isDig, ← hz]; exact decide_eq_decide.2 (digZ_lt _ 16 99 16 (by omega) (by omega) (by omega)))
        have HS : Hid (z < 16 → digZ (c.toNat : Int) 16 = z) := Lib.hid (fun g => by rw [← hz] at g ⊢; exact (digZ_same _ 99 16 g (by omega)).symm)
        rw [hz] at hzb
        have hz0 : 0 ≤ z := hzb.1
        have hz1 : z ≤ 99 := by omega
        clear hz hzb hc'
        by_cases hdig : z < 16
        · have hdd : decide ((16 : Int) ≤ z) = false := decide_eq_false (by omega)
          have HR : Hid (nTo 16 (s.data.toList.drop i) (k + 1) = some (v * 16 + z)) := Lib.hid (by rw [HN.out, nStep, if_pos (by rw [HI.out]; exact decide_eq_true hdig), HS.out (by omega)])
          clear HN
          go_wp2_with (go_at_call 89; refine (refDigit_any _ _ hc0 hc1).mono ?_; rintro e w' ⟨rfl, rfl⟩; rw [HZ.out])
          go_round
          case rel => exact ⟨k + 1, _, by omega, by rw [show i + (k + 1) = j + 1 by have := HJ.out; omega]; go_num, rfl, HR.out⟩
          case measure => simp [intOf]; omega
        · have hdd : decide ((16 : Int) ≤ z) = true := decide_eq_true (by omega)
          have HR : Hid (numAt s.data.toList i count 16 = none) := Lib.hid (by
            rw [HA.out]
            exact nTo_none (by have := HD.out; omega) (show k + 1 ≤ count by omega) (by rw [HN.out, nStep, if_neg (by rw [HI.out]; simpa using hdig)]))
          clear HN
          go_wp2_with (go_at_call 89; refine (refDigit_any _ _ hc0 hc1).mono ?_; rintro e w' ⟨rfl, rfl⟩; rw [HZ.out])
          go_ret
          exact ⟨by rw [HR.out]; rfl, rfl⟩
      · obtain rfl : k = count := by omega
        have HR : Hid (numAt s.data.toList i k 16 = some v) := Lib.hid (by rw [HA.out, HV.out])
        have hd1 : decide (((i + k : Nat) : Int) < (i : Int) + (k : Int)) = false := decide_eq_false (by omega)
        go_wp2_with fail
        go_ret
        exact ⟨by rw [HR.out]; rfl, rfl⟩
  · have hd0 : decide ((s.size : Int) < (i : Int) + (count : Int)) = true := decide_eq_true (by omega)
    have HA : Hid (numAt s.data.toList i count 16 = none) := Lib.hid (by rw [numAt, if_neg (by omega)])
    clear hsd
    go_enter Tryz.func104, Tryz.ntmps104
    go_wp2_with fail
    go_ret
    exact ⟨by rw [HA.out]; rfl, rfl⟩
end Go.Proofs.YtjbamlmdeopcaaaGreatDoor.tok
end

section
/-
  Escapes: token's.
-/
namespace Go.Proofs.YtjbamlmdeopcaaaGreatDoor.tok
open Go.RowKit

/-- An escape: its number, whether that is a rune's, its width (0: there is none). -/
abbrev Esc := Int × Bool × Nat
def EscPost (v : Esc) (w : World) (e : Ending) (w' : World) : Prop := e = .returned (.agg #[.int .i64 v.1, .bool v.2.1, .int .i64 v.2.2]) ∧ Below w.heap.size w w'
def byteE (l : List UInt8) (i ahead count : Nat) (base : Int) : Esc := match numAt l (i + ahead) count base with
  | some n => if 255 < n then (0, false, 0) else (n, false, ahead + count)
  | none => (0, false, 0)
def runeE (l : List UInt8) (i count : Nat) : Esc := match numAt l (i + 2) count 16 with
  | some n => if 1114111 < n then (0, false, 0) else if Lib.validRune n then (n, true, 2 + count) else (0, false, 0)
  | none => (0, false, 0)
def signE (c q : UInt8) : Esc :=
  if c = 97 then (7, false, 2) else if c = 98 then (8, false, 2) else if c = 102 then (12, false, 2) else if c = 110 then (10, false, 2) else if c = 114 then (13, false, 2)
  else if c = 116 then (9, false, 2) else if c = 118 then (11, false, 2) else if c = 92 ∨ c = q then (c.toNat, false, 2) else (0, false, 0)
/-- The escape whose backslash stands at a place. -/
def escV (l : List UInt8) (i : Nat) (q : UInt8) : Esc := match l[i + 1]? with
  | none => (0, false, 0)
  | some c => if c = 120 then byteE l i 2 2 16 else if c = 117 then runeE l i 4 else if c = 85 then runeE l i 8
    else if c = 48 ∨ c = 49 ∨ c = 50 ∨ c = 51 ∨ c = 52 ∨ c = 53 ∨ c = 54 ∨ c = 55 then byteE l i 1 3 8 else signE c q

theorem numAt_bound {l : List UInt8} {i count : Nat} {base n : Int} (hb0 : 0 ≤ base) (hb : base ≤ 16) (h : numAt l i count base = some n) : i + count ≤ l.length ∧ 0 ≤ n ∧ n < 16 ^ count := by
  unfold numAt at h
  split at h
  · next g => exact ⟨g, nTo_bound hb0 hb _ _ g h⟩
  · cases h
theorem number_8z (s : ByteArray) (z m : Int) (i count : Nat) (w : World) (hz : z = (i : Int)) (hm : m = (count : Int)) (hs : s.size ≤ 140737488355328) (hi : i ≤ 140737488355338) (hc : count ≤ 8) :
    Calls Tryz.prog 114 #[.string s, .int .i64 z, .int .i64 m, .int .i64 8] w (NumPost (numAt s.data.toList i count 8) w) := by
  subst hz hm
  exact number_8 s i count w hs hi hc
theorem number_16z (s : ByteArray) (z m : Int) (i count : Nat) (w : World) (hz : z = (i : Int)) (hm : m = (count : Int)) (hs : s.size ≤ 140737488355328) (hi : i ≤ 140737488355338) (hc : count ≤ 8) :
    Calls Tryz.prog 114 #[.string s, .int .i64 z, .int .i64 m, .int .i64 16] w (NumPost (numAt s.data.toList i count 16) w) := by
  subst hz hm
  exact number_16 s i count w hs hi hc
set_option maxRecDepth 100000 in
set_option maxHeartbeats 1000000 in
theorem byteEsc_16 (s : ByteArray) (i : Nat) (w : World) (hs : s.size ≤ 140737488355328) (hi : i < s.size) :
    Calls Tryz.prog 108 #[.string s, .int .i64 i, .int .i64 2, .int .i64 2, .int .i64 16] w (EscPost (byteE s.data.toList i 2 2 16) w) := by
  obtain ⟨o, ho⟩ : ∃ o, numAt s.data.toList (i + 2) 2 16 = o := ⟨_, rfl⟩
  have HO := Lib.hid ho
  cases o with
  | none =>
    have HE : Hid (byteE s.data.toList i 2 2 16 = (0, false, 0)) := Lib.hid (by rw [byteE, ho])
    clear ho
    go_enter Tryz.func108, Tryz.ntmps108
    go_wp2_with (go_at_call 114; refine (number_16z s _ _ (i + 2) 2 _ (by omega) rfl hs (by omega) (by omega)).mono ?_; rintro e w' ⟨rfl, rfl⟩; rw [HO.out]; simp only [numR])
    refine bodyPost_ret (v := .agg #[.int .i64 0, .bool false, .int .i64 0]) (by simp [results, Tryz.results108, go_sem]) rfl ⟨by rw [HE.out]; rfl, ?_⟩
    exact (Below.refl _ _).alloc (Nat.le_refl _) _
  | some n =>
    obtain ⟨_, hn0, hn1⟩ := numAt_bound (by omega) (by omega) ho
    have hp := pow_le8 2 (by omega)
    have hn2 : n ≤ 4294967296 := by omega
    clear hp hn1
    by_cases hn : 255 < n
    · have hd : decide ((255 : Int) < n) = true := decide_eq_true hn
      have HE : Hid (byteE s.data.toList i 2 2 16 = (0, false, 0)) := Lib.hid (by rw [byteE, ho]; exact if_pos hn)
      clear ho
      go_enter Tryz.func108, Tryz.ntmps108
      go_wp2_with (go_at_call 114; refine (number_16z s _ _ (i + 2) 2 _ (by omega) rfl hs (by omega) (by omega)).mono ?_; rintro e w' ⟨rfl, rfl⟩; rw [HO.out]; simp only [numR])
      refine bodyPost_ret (v := .agg #[.int .i64 0, .bool false, .int .i64 0]) (by simp [results, Tryz.results108, go_sem]) rfl ⟨by rw [HE.out]; rfl, ?_⟩
      exact (Below.refl _ _).alloc (Nat.le_refl _) _
    · have hd : decide ((255 : Int) < n) = false := decide_eq_false hn
      have HE : Hid (byteE s.data.toList i 2 2 16 = (n, false, 4)) := Lib.hid (by rw [byteE, ho]; exact if_neg hn)
      clear ho
      go_enter Tryz.func108, Tryz.ntmps108
      go_wp2_with (go_at_call 114; refine (number_16z s _ _ (i + 2) 2 _ (by omega) rfl hs (by omega) (by omega)).mono ?_; rintro e w' ⟨rfl, rfl⟩; rw [HO.out]; simp only [numR])
      refine bodyPost_ret (v := .agg #[.int .i64 n, .bool false, .int .i64 4]) (by simp [results, Tryz.results108, go_sem]) rfl ⟨by rw [HE.out]; rfl, ?_⟩
      exact (Below.refl _ _).alloc (Nat.le_refl _) _
set_option maxRecDepth 100000 in
set_option maxHeartbeats 1000000 in
theorem byteEsc_8 (s : ByteArray) (i : Nat) (w : World) (hs : s.size ≤ 140737488355328) (hi : i < s.size) :
    Calls Tryz.prog 108 #[.string s, .int .i64 i, .int .i64 1, .int .i64 3, .int .i64 8] w (EscPost (byteE s.data.toList i 1 3 8) w) := by
  obtain ⟨o, ho⟩ : ∃ o, numAt s.data.toList (i + 1) 3 8 = o := ⟨_, rfl⟩
  have HO := Lib.hid ho
  cases o with
  | none =>
    have HE : Hid (byteE s.data.toList i 1 3 8 = (0, false, 0)) := Lib.hid (by rw [byteE, ho])
    clear ho
    go_enter Tryz.func108, Tryz.ntmps108
    go_wp2_with (go_at_call 114; refine (number_8z s _ _ (i + 1) 3 _ (by omega) rfl hs (by omega) (by omega)).mono ?_; rintro e w' ⟨rfl, rfl⟩; rw [HO.out]; simp only [numR])
    refine bodyPost_ret (v := .agg #[.int .i64 0, .bool false, .int .i64 0]) (by simp [results, Tryz.results108, go_sem]) rfl ⟨by rw [HE.out]; rfl, ?_⟩
    exact (Below.refl _ _).alloc (Nat.le_refl _) _
  | some n =>
    obtain ⟨_, hn0, hn1⟩ := numAt_bound (by omega) (by omega) ho
    have hp := pow_le8 3 (by omega)
    have hn2 : n ≤ 4294967296 := by omega
    clear hp hn1
    by_cases hn : 255 < n
    · have hd : decide ((255 : Int) < n) = true := decide_eq_true hn
      have HE : Hid (byteE s.data.toList i 1 3 8 = (0, false, 0)) := Lib.hid (by rw [byteE, ho]; exact if_pos hn)
      clear ho
      go_enter Tryz.func108, Tryz.ntmps108
      go_wp2_with (go_at_call 114; refine (number_8z s _ _ (i + 1) 3 _ (by omega) rfl hs (by omega) (by omega)).mono ?_; rintro e w' ⟨rfl, rfl⟩; rw [HO.out]; simp only [numR])
      refine bodyPost_ret (v := .agg #[.int .i64 0, .bool false, .int .i64 0]) (by simp [results, Tryz.results108, go_sem]) rfl ⟨by rw [HE.out]; rfl, ?_⟩
      exact (Below.refl _ _).alloc (Nat.le_refl _) _
    · have hd : decide ((255 : Int) < n) = false := decide_eq_false hn
      have HE : Hid (byteE s.data.toList i 1 3 8 = (n, false, 4)) := Lib.hid (by rw [byteE, ho]; exact if_neg hn)
      clear ho
      go_enter Tryz.func108, Tryz.ntmps108
      go_wp2_with (go_at_call 114; refine (number_8z s _ _ (i + 1) 3 _ (by omega) rfl hs (by omega) (by omega)).mono ?_; rintro e w' ⟨rfl, rfl⟩; rw [HO.out]; simp only [numR])
      refine bodyPost_ret (v := .agg #[.int .i64 n, .bool false, .int .i64 4]) (by simp [results, Tryz.results108, go_sem]) rfl ⟨by rw [HE.out]; rfl, ?_⟩
      exact (Below.refl _ _).alloc (Nat.le_refl _) _
set_option maxRecDepth 100000 in
set_option maxHeartbeats 1000000 in
theorem runeEsc_any (s : ByteArray) (i count : Nat) (w : World) (hs : s.size ≤ 140737488355328) (hi : i < s.size) (hc : count ≤ 8) :
    Calls Tryz.prog 109 #[.string s, .int .i64 i, .int .i64 count] w (EscPost (runeE s.data.toList i count) w) := by
  obtain ⟨o, ho⟩ : ∃ o, numAt s.data.toList (i + 2) count 16 = o := ⟨_, rfl⟩
  have HO := Lib.hid ho
  cases o with
  | none =>
    have HE : Hid (runeE s.data.toList i count = (0, false, 0)) := Lib.hid (by rw [runeE, ho])
    clear ho
    go_enter Tryz.func109, Tryz.ntmps109
    go_wp2_with (go_at_call 114; refine (number_16z s _ _ (i + 2) count _ (by omega) rfl hs (by omega) (by omega)).mono ?_; rintro e w' ⟨rfl, rfl⟩; rw [HO.out]; simp only [numR])
    refine bodyPost_ret (v := .agg #[.int .i64 0, .bool false, .int .i64 0]) (by simp [results, Tryz.results109, go_sem]) rfl ⟨by rw [HE.out]; rfl, ?_⟩
    exact (Below.refl _ _).alloc (Nat.le_refl _) _
  | some n =>
    obtain ⟨_, hn0, hn1⟩ := numAt_bound (by omega) (by omega) ho
    have hp := pow_le8 count (by omega)
    have hn2 : n ≤ 4294967296 := by omega
    clear hp hn1
    by_cases hn : 1114111 < n
    · have hd : decide ((1114111 : Int) < n) = true := decide_eq_true hn
      have HE : Hid (runeE s.data.toList i count = (0, false, 0)) := Lib.hid (by rw [runeE, ho]; exact if_pos hn)
      clear ho
      go_enter Tryz.func109, Tryz.ntmps109
      go_wp2_with (go_at_call 114; refine (number_16z s _ _ (i + 2) count _ (by omega) rfl hs (by omega) (by omega)).mono ?_; rintro e w' ⟨rfl, rfl⟩; rw [HO.out]; simp only [numR])
      refine bodyPost_ret (v := .agg #[.int .i64 0, .bool false, .int .i64 0]) (by simp [results, Tryz.results109, go_sem]) rfl ⟨by rw [HE.out]; rfl, ?_⟩
      exact (Below.refl _ _).alloc (Nat.le_refl _) _
    · have hd : decide ((1114111 : Int) < n) = false := decide_eq_false hn
      obtain ⟨b, hb⟩ : ∃ b, Lib.validRune n = b := ⟨_, rfl⟩
      have HB := Lib.hid hb
      cases b with
      | true =>
        have HE : Hid (runeE s.data.toList i count = (n, true, 2 + count)) := Lib.hid (by rw [runeE, ho]; simp only []; rw [if_neg hn, hb]; rfl)
        clear ho hb
        go_enter Tryz.func109, Tryz.ntmps109
        go_wp2_with (first | (go_at_call 114; refine (number_16z s _ _ (i + 2) count _ (by omega) rfl hs (by omega) (by omega)).mono ?_; rintro e w' ⟨rfl, rfl⟩; rw [HO.out]; simp only [numR]) | (go_at_call 115; refine (Tryz.utf8_ValidRune _ _).mono ?_; rintro e w' ⟨rfl, rfl⟩; rw [HB.out]))
        refine bodyPost_ret (v := .agg #[.int .i64 n, .bool true, .int .i64 (2 + (count : Int))]) (by simp [results, Tryz.results109, go_sem]) rfl ⟨by rw [HE.out]; show Ending.returned _ = Ending.returned (.agg #[.int .i64 n, .bool true, .int .i64 ((2 + count : Nat) : Int)]); rw [Int.natCast_add]; rfl, ?_⟩
        exact (Below.refl _ _).alloc (Nat.le_refl _) _
      | false =>
        have HE : Hid (runeE s.data.toList i count = (0, false, 0)) := Lib.hid (by rw [runeE, ho]; simp only []; rw [if_neg hn, hb]; rfl)
        clear ho hb
        go_enter Tryz.func109, Tryz.ntmps109
        go_wp2_with (first | (go_at_call 114; refine (number_16z s _ _ (i + 2) count _ (by omega) rfl hs (by omega) (by omega)).mono ?_; rintro e w' ⟨rfl, rfl⟩; rw [HO.out]; simp only [numR]) | (go_at_call 115; refine (Tryz.utf8_ValidRune _ _).mono ?_; rintro e w' ⟨rfl, rfl⟩; rw [HB.out]))
        refine bodyPost_ret (v := .agg #[.int .i64 0, .bool false, .int .i64 0]) (by simp [results, Tryz.results109, go_sem]) rfl ⟨by rw [HE.out]; rfl, ?_⟩
        exact (Below.refl _ _).alloc (Nat.le_refl _) _
end Go.Proofs.YtjbamlmdeopcaaaGreatDoor.tok
end

section
/-
  Escapes: a sign; an escape at a place.
-/
namespace Go.Proofs.YtjbamlmdeopcaaaGreatDoor.tok
open Go.RowKit

set_option maxRecDepth 100000 in
set_option maxHeartbeats 4000000 in
theorem signEsc_any (c q : UInt8) (w : World) : Calls Tryz.prog 110 #[.int .u8 (c.toNat : Int), .int .u8 (q.toNat : Int)] w (EscPost (signE c q) w) := by
  have hc0 : (0 : Int) ≤ (c.toNat : Int) := by omega
  have hc1 : (c.toNat : Int) ≤ 255 := by have := UInt8.toNat_lt c; omega
  have hE : signE c q = signE c q := rfl
  conv at hE => rhs; rw [signE]
  by_cases g97 : c = 97
  · rw [if_pos g97] at hE
    have hz : ((c.toNat : Int) == 97) = true := byte_eq (d := 97) g97
    have HE := Lib.hid hE
    clear g97
    clear hE
    go_enter Tryz.func110, Tryz.ntmps110
    go_wp2_with fail
    refine bodyPost_ret (v := .agg #[.int .i64 7, .bool false, .int .i64 2]) (by simp [results, Tryz.results110, go_sem]) rfl ⟨by rw [HE.out]; rfl, ?_⟩
    exact (Below.refl _ _).alloc (Nat.le_refl _) _
  rw [if_neg g97] at hE
  have z97 : ((c.toNat : Int) == 97) = false := byte_ne (d := 97) g97
  clear g97
  by_cases g98 : c = 98
  · rw [if_pos g98] at hE
    have hz : ((c.toNat : Int) == 98) = true := byte_eq (d := 98) g98
    have HE := Lib.hid hE
    clear g98
    clear hE
    go_enter Tryz.func110, Tryz.ntmps110
    go_wp2_with fail
    refine bodyPost_ret (v := .agg #[.int .i64 8, .bool false, .int .i64 2]) (by simp [results, Tryz.results110, go_sem]) rfl ⟨by rw [HE.out]; rfl, ?_⟩
    exact (Below.refl _ _).alloc (Nat.le_refl _) _
  rw [if_neg g98] at hE
  have z98 : ((c.toNat : Int) == 98) = false := byte_ne (d := 98) g98
  clear g98
  by_cases g102 : c = 102
  · rw [if_pos g102] at hE
    have hz : ((c.toNat : Int) == 102) = true := byte_eq (d := 102) g102
    have HE := Lib.hid hE
    clear g102
    clear hE
    go_enter Tryz.func110, Tryz.ntmps110
    go_wp2_with fail
    refine bodyPost_ret (v := .agg #[.int .i64 12, .bool false, .int .i64 2]) (by simp [results, Tryz.results110, go_sem]) rfl ⟨by rw [HE.out]; rfl, ?_⟩
    exact (Below.refl _ _).alloc (Nat.le_refl _) _
  rw [if_neg g102] at hE
  have z102 : ((c.toNat : Int) == 102) = false := byte_ne (d := 102) g102
  clear g102
  by_cases g110 : c = 110
  · rw [if_pos g110] at hE
    have hz : ((c.toNat : Int) == 110) = true := byte_eq (d := 110) g110
    have HE := Lib.hid hE
    clear g110
    clear hE
    go_enter Tryz.func110, Tryz.ntmps110
    go_wp2_with fail
    refine bodyPost_ret (v := .agg #[.int .i64 10, .bool false, .int .i64 2]) (by simp [results, Tryz.results110, go_sem]) rfl ⟨by rw [HE.out]; rfl, ?_⟩
    exact (Below.refl _ _).alloc (Nat.le_refl _) _
  rw [if_neg g110] at hE
  have z110 : ((c.toNat : Int) == 110) = false := byte_ne (d := 110) g110
  clear g110
  by_cases g114 : c = 114
  · rw [if_pos g114] at hE
    have hz : ((c.toNat : Int) == 114) = true := byte_eq (d := 114) g114
    have HE := Lib.hid hE
    clear g114
    clear hE
    go_enter Tryz.func110, Tryz.ntmps110
    go_wp2_with fail
    refine bodyPost_ret (v := .agg #[.int .i64 13, .bool false, .int .i64 2]) (by simp [results, Tryz.results110, go_sem]) rfl ⟨by rw [HE.out]; rfl, ?_⟩
    exact (Below.refl _ _).alloc (Nat.le_refl _) _
  rw [if_neg g114] at hE
  have z114 : ((c.toNat : Int) == 114) = false := byte_ne (d := 114) g114
  clear g114
  by_cases g116 : c = 116
  · rw [if_pos g116] at hE
    have hz : ((c.toNat : Int) == 116) = true := byte_eq (d := 116) g116
    have HE := Lib.hid hE
    clear g116
    clear hE
    go_enter Tryz.func110, Tryz.ntmps110
    go_wp2_with fail
    refine bodyPost_ret (v := .agg #[.int .i64 9, .bool false, .int .i64 2]) (by simp [results, Tryz.results110, go_sem]) rfl ⟨by rw [HE.out]; rfl, ?_⟩
    exact (Below.refl _ _).alloc (Nat.le_refl _) _
  rw [if_neg g116] at hE
  have z116 : ((c.toNat : Int) == 116) = false := byte_ne (d := 116) g116
  clear g116
  by_cases g118 : c = 118
  · rw [if_pos g118] at hE
    have hz : ((c.toNat : Int) == 118) = true := byte_eq (d := 118) g118
    have HE := Lib.hid hE
    clear g118
    clear hE
    go_enter Tryz.func110, Tryz.ntmps110
    go_wp2_with fail
    refine bodyPost_ret (v := .agg #[.int .i64 11, .bool false, .int .i64 2]) (by simp [results, Tryz.results110, go_sem]) rfl ⟨by rw [HE.out]; rfl, ?_⟩
    exact (Below.refl _ _).alloc (Nat.le_refl _) _
  rw [if_neg g118] at hE
  have z118 : ((c.toNat : Int) == 118) = false := byte_ne (d := 118) g118
  clear g118
  by_cases g92 : c = 92
  · rw [if_pos (.inl g92)] at hE
    have hz : ((c.toNat : Int) == 92) = true := byte_eq (d := 92) g92
    have HE := Lib.hid hE
    clear g92
    clear hE
    go_enter Tryz.func110, Tryz.ntmps110
    go_wp2_with fail
    refine bodyPost_ret (v := .agg #[.int .i64 (c.toNat : Int), .bool false, .int .i64 2]) (by simp [results, Tryz.results110, go_sem]) rfl ⟨by rw [HE.out]; rfl, ?_⟩
    exact (Below.refl _ _).alloc (Nat.le_refl _) _
  have z92 : ((c.toNat : Int) == 92) = false := byte_ne (d := 92) g92
  by_cases gq : c = q
  · rw [if_pos (.inr gq)] at hE
    have hz : ((c.toNat : Int) == (q.toNat : Int)) = true := byte_eq gq
    have HE := Lib.hid hE
    clear gq g92
    clear hE
    go_enter Tryz.func110, Tryz.ntmps110
    go_wp2_with fail
    refine bodyPost_ret (v := .agg #[.int .i64 (c.toNat : Int), .bool false, .int .i64 2]) (by simp [results, Tryz.results110, go_sem]) rfl ⟨by rw [HE.out]; rfl, ?_⟩
    exact (Below.refl _ _).alloc (Nat.le_refl _) _
  have zq : ((c.toNat : Int) == (q.toNat : Int)) = false := byte_ne gq
  rw [if_neg (fun g => g.elim g92 gq)] at hE
  have HE := Lib.hid hE
  clear gq g92
  clear hE
  go_enter Tryz.func110, Tryz.ntmps110
  go_wp2_with fail
  refine bodyPost_ret (v := .agg #[.int .i64 0, .bool false, .int .i64 0]) (by simp [results, Tryz.results110, go_sem]) rfl ⟨by rw [HE.out]; rfl, ?_⟩
  exact (Below.refl _ _).alloc (Nat.le_refl _) _

theorem bcell {W w1 : World} (hb : Below W.heap.size W w1) : (∀ b o, b < W.heap.size → w1.cell? ⟨b, o, none⟩ = W.cell? ⟨b, o, none⟩) ∧ (∀ b o, b < W.heap.size → w1.frozen? ⟨b, o, none⟩ = W.frozen? ⟨b, o, none⟩) :=
  ⟨fun b o h => hb.cell (p := ⟨b, o, none⟩) h, fun b o h => hb.frozen (p := ⟨b, o, none⟩) h⟩
theorem escV_none {l : List UInt8} {i : Nat} {q : UInt8} (h : l.length ≤ i + 1) : escV l i q = (0, false, 0) := by
  unfold escV
  rw [List.getElem?_eq_none h]
theorem escV_some {l : List UInt8} {i : Nat} {q c : UInt8} (h : l[i + 1]? = some c) : escV l i q = if c = 120 then byteE l i 2 2 16 else if c = 117 then runeE l i 4 else if c = 85 then runeE l i 8
    else if c = 48 ∨ c = 49 ∨ c = 50 ∨ c = 51 ∨ c = 52 ∨ c = 53 ∨ c = 54 ∨ c = 55 then byteE l i 1 3 8 else signE c q := by
  unfold escV
  rw [h]

set_option maxRecDepth 100000 in
set_option maxHeartbeats 4000000 in
theorem escapeAt_any (s : ByteArray) (i : Nat) (q : UInt8) (w : World) (hs : s.size ≤ 140737488355328) (hi : i < s.size) :
    Calls Tryz.prog 100 #[.string s, .int .i64 i, .int .u8 (q.toNat : Int)] w (EscPost (escV s.data.toList i q) w) := by
  by_cases hin : s.size ≤ i + 1
  · have hd : decide ((s.size : Int) ≤ (i : Int) + 1) = true := decide_eq_true (by omega)
    have HE := Lib.hid (escV_none (l := s.data.toList) (i := i) (q := q) (by rw [sdata]; exact hin))
    go_enter Tryz.func100, Tryz.ntmps100
    go_wp2_with fail
    refine bodyPost_ret (v := .agg #[.int .i64 0, .bool false, .int .i64 0]) (by simp [results, Tryz.results100, go_sem]) rfl ⟨by rw [HE.out]; rfl, ?_⟩
    exact (Below.refl _ _).alloc (Nat.le_refl _) _
  have hin' : i + 1 < s.size := by omega
  have hd : decide ((s.size : Int) ≤ (i : Int) + 1) = false := decide_eq_false (by omega)
  obtain ⟨c, hc⟩ : ∃ c, s[i + 1]'hin' = c := ⟨_, rfl⟩
  have hix : ∀ u : World, (Instr.index 9 (.string s) (.int .i64 ((i : Int) + 1))).run Tryz.prog u = .ok (.int .u8 (c.toNat : Int)) u := fun u => by
    rw [← hc]; exact index_at s _ (i + 1) (by omega) hin' u
  have hE := escV_some (q := q) (show s.data.toList[i + 1]? = some c by rw [List.getElem?_eq_getElem (by rw [sdata]; exact hin'), at_data hin', hc])
  clear hc hin hin'
  by_cases g120 : c = 120
  · rw [if_pos g120] at hE
    have hz : ((c.toNat : Int) == 120) = true := byte_eq (d := 120) g120
    have HE := Lib.hid hE
    obtain ⟨n, r, wd, hv⟩ : ∃ n r wd, byteE s.data.toList i 2 2 16 = (n, r, wd) := ⟨_, _, _, rfl⟩
    have HV := Lib.hid hv
    clear g120 hE hv
    go_enter Tryz.func100, Tryz.ntmps100
    go_wp2_with (go_at_call 108; refine (byteEsc_16 s i _ hs hi).mono ?_; rintro e w1 ⟨rfl, hb⟩; rw [HV.out]; have HB := Lib.hid hb; obtain ⟨hbc, hbf⟩ := bcell hb; have hbz := hb.size; simp at hbz; clear hb)
    refine bodyPost_ret (v := .agg #[.int .i64 n, .bool r, .int .i64 wd]) (by simp [results, Tryz.results100, hbc, go_sem]) rfl ⟨by rw [HE.out, HV.out], ?_⟩
    exact ((((Below.refl _ _).alloc (Nat.le_refl _) _).trans (HB.out.mono (by simp))).setCell (by simp) _).setCell (by simp) _ |>.setCell (by simp) _
  rw [if_neg g120] at hE
  have z120 : ((c.toNat : Int) == 120) = false := byte_ne (d := 120) g120
  clear g120
  by_cases g117 : c = 117
  · rw [if_pos g117] at hE
    have hz : ((c.toNat : Int) == 117) = true := byte_eq (d := 117) g117
    have HE := Lib.hid hE
    obtain ⟨n, r, wd, hv⟩ : ∃ n r wd, runeE s.data.toList i 4 = (n, r, wd) := ⟨_, _, _, rfl⟩
    have HV := Lib.hid hv
    clear g117 hE hv
    go_enter Tryz.func100, Tryz.ntmps100
    go_wp2_with (go_at_call 109; refine (runeEsc_any s i 4 _ hs hi (by omega)).mono ?_; rintro e w1 ⟨rfl, hb⟩; rw [HV.out]; have HB := Lib.hid hb; obtain ⟨hbc, hbf⟩ := bcell hb; have hbz := hb.size; simp at hbz; clear hb)
    refine bodyPost_ret (v := .agg #[.int .i64 n, .bool r, .int .i64 wd]) (by simp [results, Tryz.results100, hbc, go_sem]) rfl ⟨by rw [HE.out, HV.out], ?_⟩
    exact ((((Below.refl _ _).alloc (Nat.le_refl _) _).trans (HB.out.mono (by simp))).setCell (by simp) _).setCell (by simp) _ |>.setCell (by simp) _
  rw [if_neg g117] at hE
  have z117 : ((c.toNat : Int) == 117) = false := byte_ne (d := 117) g117
  clear g117
  by_cases g85 : c = 85
  · rw [if_pos g85] at hE
    have hz : ((c.toNat : Int) == 85) = true := byte_eq (d := 85) g85
    have HE := Lib.hid hE
    obtain ⟨n, r, wd, hv⟩ : ∃ n r wd, runeE s.data.toList i 8 = (n, r, wd) := ⟨_, _, _, rfl⟩
    have HV := Lib.hid hv
    clear g85 hE hv
    go_enter Tryz.func100, Tryz.ntmps100
    go_wp2_with (go_at_call 109; refine (runeEsc_any s i 8 _ hs hi (by omega)).mono ?_; rintro e w1 ⟨rfl, hb⟩; rw [HV.out]; have HB := Lib.hid hb; obtain ⟨hbc, hbf⟩ := bcell hb; have hbz := hb.size; simp at hbz; clear hb)
    refine bodyPost_ret (v := .agg #[.int .i64 n, .bool r, .int .i64 wd]) (by simp [results, Tryz.results100, hbc, go_sem]) rfl ⟨by rw [HE.out, HV.out], ?_⟩
    exact ((((Below.refl _ _).alloc (Nat.le_refl _) _).trans (HB.out.mono (by simp))).setCell (by simp) _).setCell (by simp) _ |>.setCell (by simp) _
  rw [if_neg g85] at hE
  have z85 : ((c.toNat : Int) == 85) = false := byte_ne (d := 85) g85
  clear g85
  by_cases g48 : c = 48
  · rw [if_pos (.inl g48)] at hE
    have hz : ((c.toNat : Int) == 48) = true := byte_eq (d := 48) g48
    have HE := Lib.hid hE
    obtain ⟨n, r, wd, hv⟩ : ∃ n r wd, byteE s.data.toList i 1 3 8 = (n, r, wd) := ⟨_, _, _, rfl⟩
    have HV := Lib.hid hv
    clear hE hv g48
    go_enter Tryz.func100, Tryz.ntmps100
    go_wp2_with (go_at_call 108; refine (byteEsc_8 s i _ hs hi).mono ?_; rintro e w1 ⟨rfl, hb⟩; rw [HV.out]; have HB := Lib.hid hb; obtain ⟨hbc, hbf⟩ := bcell hb; have hbz := hb.size; simp at hbz; clear hb)
    refine bodyPost_ret (v := .agg #[.int .i64 n, .bool r, .int .i64 wd]) (by simp [results, Tryz.results100, hbc, go_sem]) rfl ⟨by rw [HE.out, HV.out], ?_⟩
    exact ((((Below.refl _ _).alloc (Nat.le_refl _) _).trans (HB.out.mono (by simp))).setCell (by simp) _).setCell (by simp) _ |>.setCell (by simp) _
  have z48 : ((c.toNat : Int) == 48) = false := byte_ne (d := 48) g48
  by_cases g49 : c = 49
  · rw [if_pos (.inr (.inl g49))] at hE
    have hz : ((c.toNat : Int) == 49) = true := byte_eq (d := 49) g49
    have HE := Lib.hid hE
    obtain ⟨n, r, wd, hv⟩ : ∃ n r wd, byteE s.data.toList i 1 3 8 = (n, r, wd) := ⟨_, _, _, rfl⟩
    have HV := Lib.hid hv
    clear hE hv g48 g49
    go_enter Tryz.func100, Tryz.ntmps100
    go_wp2_with (go_at_call 108; refine (byteEsc_8 s i _ hs hi).mono ?_; rintro e w1 ⟨rfl, hb⟩; rw [HV.out]; have HB := Lib.hid hb; obtain ⟨hbc, hbf⟩ := bcell hb; have hbz := hb.size; simp at hbz; clear hb)
    refine bodyPost_ret (v := .agg #[.int .i64 n, .bool r, .int .i64 wd]) (by simp [results, Tryz.results100, hbc, go_sem]) rfl ⟨by rw [HE.out, HV.out], ?_⟩
    exact ((((Below.refl _ _).alloc (Nat.le_refl _) _).trans (HB.out.mono (by simp))).setCell (by simp) _).setCell (by simp) _ |>.setCell (by simp) _
  have z49 : ((c.toNat : Int) == 49) = false := byte_ne (d := 49) g49
  by_cases g50 : c = 50
  · rw [if_pos (.inr (.inr (.inl g50)))] at hE
    have hz : ((c.toNat : Int) == 50) = true := byte_eq (d := 50) g50
    have HE := Lib.hid hE
    obtain ⟨n, r, wd, hv⟩ : ∃ n r wd, byteE s.data.toList i 1 3 8 = (n, r, wd) := ⟨_, _, _, rfl⟩
    have HV := Lib.hid hv
    clear hE hv g48 g49 g50
    go_enter Tryz.func100, Tryz.ntmps100
    go_wp2_with (go_at_call 108; refine (byteEsc_8 s i _ hs hi).mono ?_; rintro e w1 ⟨rfl, hb⟩; rw [HV.out]; have HB := Lib.hid hb; obtain ⟨hbc, hbf⟩ := bcell hb; have hbz := hb.size; simp at hbz; clear hb)
    refine bodyPost_ret (v := .agg #[.int .i64 n, .bool r, .int .i64 wd]) (by simp [results, Tryz.results100, hbc, go_sem]) rfl ⟨by rw [HE.out, HV.out], ?_⟩
    exact ((((Below.refl _ _).alloc (Nat.le_refl _) _).trans (HB.out.mono (by simp))).setCell (by simp) _).setCell (by simp) _ |>.setCell (by simp) _
  have z50 : ((c.toNat : Int) == 50) = false := byte_ne (d := 50) g50
  by_cases g51 : c = 51
  · rw [if_pos (.inr (.inr (.inr (.inl g51))))] at hE
    have hz : ((c.toNat : Int) == 51) = true := byte_eq (d := 51) g51
    have HE := Lib.hid hE
    obtain ⟨n, r, wd, hv⟩ : ∃ n r wd, byteE s.data.toList i 1 3 8 = (n, r, wd) := ⟨_, _, _, rfl⟩
    have HV := Lib.hid hv
    clear hE hv g48 g49 g50 g51
    go_enter Tryz.func100, Tryz.ntmps100
    go_wp2_with (go_at_call 108; refine (byteEsc_8 s i _ hs hi).mono ?_; rintro e w1 ⟨rfl, hb⟩; rw [HV.out]; have HB := Lib.hid hb; obtain ⟨hbc, hbf⟩ := bcell hb; have hbz := hb.size; simp at hbz; clear hb)
    refine bodyPost_ret (v := .agg #[.int .i64 n, .bool r, .int .i64 wd]) (by simp [results, Tryz.results100, hbc, go_sem]) rfl ⟨by rw [HE.out, HV.out], ?_⟩
    exact ((((Below.refl _ _).alloc (Nat.le_refl _) _).trans (HB.out.mono (by simp))).setCell (by simp) _).setCell (by simp) _ |>.setCell (by simp) _
  have z51 : ((c.toNat : Int) == 51) = false := byte_ne (d := 51) g51
  by_cases g52 : c = 52
  · rw [if_pos (.inr (.inr (.inr (.inr (.inl g52)))))] at hE
    have hz : ((c.toNat : Int) == 52) = true := byte_eq (d := 52) g52
    have HE := Lib.hid hE
    obtain ⟨n, r, wd, hv⟩ : ∃ n r wd, byteE s.data.toList i 1 3 8 = (n, r, wd) := ⟨_, _, _, rfl⟩
    have HV := Lib.hid hv
    clear hE hv g48 g49 g50 g51 g52
    go_enter Tryz.func100, Tryz.ntmps100
    go_wp2_with (go_at_call 108; refine (byteEsc_8 s i _ hs hi).mono ?_; rintro e w1 ⟨rfl, hb⟩; rw [HV.out]; have HB := Lib.hid hb; obtain ⟨hbc, hbf⟩ := bcell hb; have hbz := hb.size; simp at hbz; clear hb)
    refine bodyPost_ret (v := .agg #[.int .i64 n, .bool r, .int .i64 wd]) (by simp [results, Tryz.results100, hbc, go_sem]) rfl ⟨by rw [HE.out, HV.out], ?_⟩
    exact ((((Below.refl _ _).alloc (Nat.le_refl _) _).trans (HB.out.mono (by simp))).setCell (by simp) _).setCell (by simp) _ |>.setCell (by simp) _
  have z52 : ((c.toNat : Int) == 52) = false := byte_ne (d := 52) g52
  by_cases g53 : c = 53
  · rw [if_pos (.inr (.inr (.inr (.inr (.inr (.inl g53))))))] at hE
    have hz : ((c.toNat : Int) == 53) = true := byte_eq (d := 53) g53
    have HE := Lib.hid hE
    obtain ⟨n, r, wd, hv⟩ : ∃ n r wd, byteE s.data.toList i 1 3 8 = (n, r, wd) := ⟨_, _, _, rfl⟩
    have HV := Lib.hid hv
    clear hE hv g48 g49 g50 g51 g52 g53
    go_enter Tryz.func100, Tryz.ntmps100
    go_wp2_with (go_at_call 108; refine (byteEsc_8 s i _ hs hi).mono ?_; rintro e w1 ⟨rfl, hb⟩; rw [HV.out]; have HB := Lib.hid hb; obtain ⟨hbc, hbf⟩ := bcell hb; have hbz := hb.size; simp at hbz; clear hb)
    refine bodyPost_ret (v := .agg #[.int .i64 n, .bool r, .int .i64 wd]) (by simp [results, Tryz.results100, hbc, go_sem]) rfl ⟨by rw [HE.out, HV.out], ?_⟩
    exact ((((Below.refl _ _).alloc (Nat.le_refl _) _).trans (HB.out.mono (by simp))).setCell (by simp) _).setCell (by simp) _ |>.setCell (by simp) _
  have z53 : ((c.toNat : Int) == 53) = false := byte_ne (d := 53) g53
  by_cases g54 : c = 54
  · rw [if_pos (.inr (.inr (.inr (.inr (.inr (.inr (.inl g54)))))))] at hE
    have hz : ((c.toNat : Int) == 54) = true := byte_eq (d := 54) g54
    have HE := Lib.hid hE
    obtain ⟨n, r, wd, hv⟩ : ∃ n r wd, byteE s.data.toList i 1 3 8 = (n, r, wd) := ⟨_, _, _, rfl⟩
    have HV := Lib.hid hv
    clear hE hv g48 g49 g50 g51 g52 g53 g54
    go_enter Tryz.func100, Tryz.ntmps100
    go_wp2_with (go_at_call 108; refine (byteEsc_8 s i _ hs hi).mono ?_; rintro e w1 ⟨rfl, hb⟩; rw [HV.out]; have HB := Lib.hid hb; obtain ⟨hbc, hbf⟩ := bcell hb; have hbz := hb.size; simp at hbz; clear hb)
    refine bodyPost_ret (v := .agg #[.int .i64 n, .bool r, .int .i64 wd]) (by simp [results, Tryz.results100, hbc, go_sem]) rfl ⟨by rw [HE.out, HV.out], ?_⟩
    exact ((((Below.refl _ _).alloc (Nat.le_refl _) _).trans (HB.out.mono (by simp))).setCell (by simp) _).setCell (by simp) _ |>.setCell (by simp) _
  have z54 : ((c.toNat : Int) == 54) = false := byte_ne (d := 54) g54
  by_cases g55 : c = 55
  · rw [if_pos (.inr (.inr (.inr (.inr (.inr (.inr (.inr (g55))))))))] at hE
    have hz : ((c.toNat : Int) == 55) = true := byte_eq (d := 55) g55
    have HE := Lib.hid hE
    obtain ⟨n, r, wd, hv⟩ : ∃ n r wd, byteE s.data.toList i 1 3 8 = (n, r, wd) := ⟨_, _, _, rfl⟩
    have HV := Lib.hid hv
    clear hE hv g48 g49 g50 g51 g52 g53 g54 g55
    go_enter Tryz.func100, Tryz.ntmps100
    go_wp2_with (go_at_call 108; refine (byteEsc_8 s i _ hs hi).mono ?_; rintro e w1 ⟨rfl, hb⟩; rw [HV.out]; have HB := Lib.hid hb; obtain ⟨hbc, hbf⟩ := bcell hb; have hbz := hb.size; simp at hbz; clear hb)
    refine bodyPost_ret (v := .agg #[.int .i64 n, .bool r, .int .i64 wd]) (by simp [results, Tryz.results100, hbc, go_sem]) rfl ⟨by rw [HE.out, HV.out], ?_⟩
    exact ((((Below.refl _ _).alloc (Nat.le_refl _) _).trans (HB.out.mono (by simp))).setCell (by simp) _).setCell (by simp) _ |>.setCell (by simp) _
  have z55 : ((c.toNat : Int) == 55) = false := byte_ne (d := 55) g55
  rw [if_neg (by simp only [not_or]; exact ⟨g48, g49, g50, g51, g52, g53, g54, g55⟩)] at hE
  have HE := Lib.hid hE
  obtain ⟨n, r, wd, hv⟩ : ∃ n r wd, signE c q = (n, r, wd) := ⟨_, _, _, rfl⟩
  have HV := Lib.hid hv
  clear hE hv g48 g49 g50 g51 g52 g53 g54 g55
  go_enter Tryz.func100, Tryz.ntmps100
  go_wp2_with (go_at_call 110; refine (signEsc_any c q _).mono ?_; rintro e w1 ⟨rfl, hb⟩; rw [HV.out]; have HB := Lib.hid hb; obtain ⟨hbc, hbf⟩ := bcell hb; have hbz := hb.size; simp at hbz; clear hb)
  refine bodyPost_ret (v := .agg #[.int .i64 n, .bool r, .int .i64 wd]) (by simp [results, Tryz.results100, hbc, go_sem]) rfl ⟨by rw [HE.out, HV.out], ?_⟩
  exact ((((Below.refl _ _).alloc (Nat.le_refl _) _).trans (HB.out.mono (by simp))).setCell (by simp) _).setCell (by simp) _ |>.setCell (by simp) _
end Go.Proofs.YtjbamlmdeopcaaaGreatDoor.tok
end

section
/-
  (escape).appendTo.
-/
namespace Go.Proofs.YtjbamlmdeopcaaaGreatDoor.tok
open Go.RowKit

/-- The bytes that an escape says. -/
def escB (v : Esc) : List UInt8 := if v.2.1 then Lib.encodeRune v.1 else [v.1.toNat.toUInt8]
/-- What an escape's number may be. -/
def EscOk (v : Esc) : Prop := (v.2.1 = true → 0 ≤ v.1 ∧ v.1 ≤ 1114111) ∧ (v.2.1 = false → 0 ≤ v.1 ∧ v.1 ≤ 255)
def Grew (B0 : Nat) (x : Value) (l : List UInt8) (w : World) (e : Ending) (w' : World) : Prop :=
  ∃ v', e = .returned v' ∧ Bytes w' B0 v' l ∧ Below B0 w w' ∧ ∀ k, k < w.heap.size → x.ownBlock ≠ some k → w'.heap[k]? = w.heap[k]?
theorem kept_blocks {w w' : World} {o o' : Obj} {x : Value} (hg : ((w.alloc o).alloc o').grownBy w' x.ownBlock) : ∀ k, k < w.heap.size → x.ownBlock ≠ some k → w'.heap[k]? = w.heap[k]? := fun k hk hne => by
  rw [hg.block k (by simp; omega) (fun e => hne e.symm)]
  exact (((Below.refl w.heap.size w).alloc (Nat.le_refl _) o).alloc (by simp) o').block k hk
theorem byte_cell {n : Int} (h0 : 0 ≤ n) (h1 : n ≤ 255) : Lib.byteCells [n.toNat.toUInt8] = [.int .u8 n] := by
  have : (n.toNat.toUInt8.toNat : Int) = n := by
    rw [Nat.toUInt8, UInt8.toNat_ofNat', Nat.mod_eq_of_lt (by omega)]
    omega
  simp only [Lib.byteCells, List.map_cons, List.map_nil, this]

set_option maxRecDepth 100000 in
set_option maxHeartbeats 1000000 in
theorem appendTo_any (v : Esc) (x : Value) (l : List UInt8) (B0 : Nat) (w : World) (hv : EscOk v) (hown : Bytes w B0 x l) (hB : B0 ≤ w.heap.size) (hl : l.length + 4 ≤ 140737488355328) :
    Calls Tryz.prog 113 #[.agg #[.int .i64 v.1, .bool v.2.1, .int .i64 v.2.2], x] w (Grew B0 x (l ++ escB v) w) := by
  obtain ⟨n, r, wd⟩ := v
  obtain ⟨i0, hi, hz0, hz1, hz2⟩ := info_parts infoB
  simp only []
  have HO := Lib.hid hown
  have hlt := World.ownsRow.lt hown
  have HL := Lib.hid hlt
  clear hown hlt
  cases r with
  | true =>
    have hn := hv.1 rfl
    simp only [] at hn
    obtain ⟨hn0, hn1⟩ := hn
    have HE : Hid (escB (n, true, wd) = Lib.encodeRune n) := Lib.hid rfl
    clear hv
    go_enter Tryz.func113, Tryz.ntmps113
    go_wp2_with (go_at_call 117; refine (Tryz.utf8_AppendRune_plain B0 x l.length (Lib.byteCells l) n (by omega) (by omega) _ (World.ownsRow.alloc HO.out _) hl (by simp; omega)).mono ?_; rintro e w1 ⟨v', rfl, ho, o, hg⟩; have HR := Lib.hid ho; have HG := Lib.hid hg; clear ho hg)
    go_ret
    refine ⟨v', rfl, ?_, ?_, kept_blocks HG.out⟩
    · rw [HE.out]
      have := HR.out
      unfold Bytes
      rw [List.length_append]
      have e2 : Lib.byteCells (l ++ Lib.encodeRune n) = Lib.byteCells l ++ Lib.runeCells n := by rw [← Lib.byteCells_encodeRune]; simp [Lib.byteCells]
      rw [e2, ← Lib.runeCells_length]
      exact this
    · exact (((Below.refl _ _).alloc hB _).alloc (by simp; omega) _).grown HG.out (by simp; omega) (fun k hk => (HL.out k hk).1)
  | false =>
    have hn := hv.2 rfl
    simp only [] at hn
    obtain ⟨hn0, hn1⟩ := hn
    have HE : Hid (escB (n, false, wd) = [n.toNat.toUInt8]) := Lib.hid rfl
    clear hv
    go_enter Tryz.func113, Tryz.ntmps113
    go_wp2_with (at_builtin; refine wpList_append_own _ rfl _ _ 109 rfl B0 5 i0 (.int .u8 0) 1 1 Tryz.underlying109 hi hz0 hz1 hz2 rfl (by decide) _ _ _ rfl (World.ownsRow.alloc (World.ownsRow.alloc HO.out _) _) ⟨w.heap.size + 1, 0, none⟩ 1 1 [.int .u8 n] rfl rfl ?c1 ?c2 ?c3 ?c4 ?c5 ?_)
    case c1 =>
      intro j u hj
      match j, hj with
      | 0, hj => simp at hj; subst hj; simp [Addr.add]
      | (j + 1), hj => simp at hj
    case c2 => intro u hu; simp only [List.mem_cons, List.not_mem_nil, or_false] at hu; subst hu; rfl
    case c3 => unfold maxLen; omega
    case c4 => omega
    case c5 => simp; omega
    intro v' w2 hown2 hg _
    have HR := Lib.hid hown2
    have HG := Lib.hid hg
    clear hown2 hg
    go_wp2
    go_ret
    refine ⟨v', rfl, ?_, ?_, kept_blocks HG.out⟩
    · rw [HE.out]
      have := HR.out
      unfold Bytes
      rw [List.length_append]
      have e2 : Lib.byteCells (l ++ [n.toNat.toUInt8]) = Lib.byteCells l ++ [.int .u8 n] := by rw [← byte_cell hn0 hn1]; simp [Lib.byteCells]
      rw [e2]
      exact this
    · exact (((Below.refl _ _).alloc hB _).alloc (by simp; omega) _).grown HG.out (by simp; omega) (fun k hk => (HL.out k hk).1)
end Go.Proofs.YtjbamlmdeopcaaaGreatDoor.tok
end
