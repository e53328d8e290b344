/-
  lexer: which byte is what; how many bytes have a property; a token that is right or wrong.
-/
import Derived.Test.YtjbamlmdeopcaaaDoorLz
import Derived.Test.YtjbamlmdeopcaaaDoorCuts
namespace Go.Proofs.YtjbamlmdeopcaaaDoor.lx
open Go.RowKit Go.Proofs.YtjbamlmdeopcaaaDoor.tok

theorem u8_is (c d : UInt8) : c = d ↔ (c.toNat : Int) = (d.toNat : Int) := ⟨fun h => by rw [h], fun h => UInt8.toNat_inj.1 (by omega)⟩
theorem isBl_z (c : UInt8) : isBl c = true ↔ ((c.toNat : Int) = 32 ∨ (c.toNat : Int) = 9 ∨ (c.toNat : Int) = 13) := by
  unfold isBl
  simp only [Bool.or_eq_true, beq_iff_eq, u8_is, or_assoc]
  exact Iff.rfl
theorem noFeed_z (c : UInt8) : noFeed c = true ↔ (c.toNat : Int) ≠ 10 := by
  unfold noFeed
  rw [bne_iff_ne, ne_eq, u8_is]
  exact Iff.rfl
theorem isLt_z (c : UInt8) : isLt c = true ↔ (65 ≤ (c.toNat : Int) ∧ (c.toNat : Int) ≤ 90 ∨ 97 ≤ (c.toNat : Int) ∧ (c.toNat : Int) ≤ 122 ∨ (c.toNat : Int) = 95) := by
  unfold isLt
  simp only [Bool.or_eq_true, Bool.and_eq_true, decide_eq_true_iff, beq_iff_eq, u8_is, or_assoc, UInt8.le_iff_toNat_le]
  have e1 : (65 : UInt8).toNat = 65 := rfl
  have e2 : (90 : UInt8).toNat = 90 := rfl
  have e3 : (97 : UInt8).toNat = 97 := rfl
  have e4 : (122 : UInt8).toNat = 122 := rfl
  have e5 : (95 : UInt8).toNat = 95 := rfl
  rw [e1, e2, e3, e4, e5]
  omega
theorem isDg_z (c : UInt8) : isDg c = true ↔ (48 ≤ (c.toNat : Int) ∧ (c.toNat : Int) ≤ 57) := by
  unfold isDg
  simp only [Bool.and_eq_true, decide_eq_true_iff, UInt8.le_iff_toNat_le]
  have e1 : (48 : UInt8).toNat = 48 := rfl
  have e2 : (57 : UInt8).toNat = 57 := rfl
  rw [e1, e2]
  omega
theorem isWd_z (c : UInt8) : isWd c = true ↔ (isLt c = true ∨ isDg c = true) := by unfold isWd; rw [Bool.or_eq_true]
theorem bool_of {b : Bool} {p : Prop} (h : b = true ↔ p) : (p → Ending.returned (.bool true) = Ending.returned (.bool b)) ∧ (¬ p → Ending.returned (.bool false) = Ending.returned (.bool b)) :=
  ⟨fun hp => by rw [h.2 hp], fun hp => by cases b with | false => rfl | true => exact absurd (h.1 rfl) hp⟩

def Says (b : Bool) (w : World) (e : Ending) (w' : World) : Prop := e = .returned (.bool b) ∧ w = w'
theorem isBlank_any (c : UInt8) (w : World) : Calls Tryd.prog 13 #[.int .u8 (c.toNat : Int)] w (Says (isBl c) w) := by
  have hz := isBl_z c
  generalize (c.toNat : Int) = z at *
  obtain ⟨h1, h2⟩ := bool_of hz
  have HA := Lib.hid h1
  have HB := Lib.hid h2
  clear hz h1 h2
  by_cases c1 : z = 32
  · have b1 : (z == 32) = true := beq_iff_eq.2 c1
    have HC := Lib.hid (HA.out (.inl c1))
    clear c1 HA HB
    go_enter Tryd.func13, Tryd.ntmps13
    go_wp2_with fail
    go_ret
    exact ⟨HC.out, rfl⟩
  have b1 : (z == 32) = false := beq_eq_false_iff_ne.2 c1
  by_cases c2 : z = 9
  · have b2 : (z == 9) = true := beq_iff_eq.2 c2
    have HC := Lib.hid (HA.out (.inr (.inl c2)))
    clear c1 c2 HA HB
    go_enter Tryd.func13, Tryd.ntmps13
    go_wp2_with fail
    go_ret
    exact ⟨HC.out, rfl⟩
  have b2 : (z == 9) = false := beq_eq_false_iff_ne.2 c2
  by_cases c3 : z = 13
  · have b3 : (z == 13) = true := beq_iff_eq.2 c3
    have HC := Lib.hid (HA.out (.inr (.inr c3)))
    clear c1 c2 c3 HA HB
    go_enter Tryd.func13, Tryd.ntmps13
    go_wp2_with fail
    go_ret
    exact ⟨HC.out, rfl⟩
  have b3 : (z == 13) = false := beq_eq_false_iff_ne.2 c3
  have HC := Lib.hid (HB.out (by omega))
  clear c1 c2 c3 HA HB
  go_enter Tryd.func13, Tryd.ntmps13
  go_wp2_with fail
  go_ret
  exact ⟨HC.out, rfl⟩
theorem isNoFeed_any (c : UInt8) (w : World) : Calls Tryd.prog 15 #[.int .u8 (c.toNat : Int)] w (Says (noFeed c) w) := by
  have hz := noFeed_z c
  generalize (c.toNat : Int) = z at *
  obtain ⟨h1, h2⟩ := bool_of hz
  by_cases c1 : z = 10
  · have b1 : (z != 10) = false := by rw [c1]; rfl
    have HC := Lib.hid (h2 (fun h => h c1))
    clear c1 h1 h2 hz
    go_enter Tryd.func15, Tryd.ntmps15
    go_wp2_with fail
    go_ret
    exact ⟨HC.out, rfl⟩
  · have b1 : (z != 10) = true := bne_iff_ne.2 c1
    have HC := Lib.hid (h1 c1)
    clear c1 h1 h2 hz
    go_enter Tryd.func15, Tryd.ntmps15
    go_wp2_with fail
    go_ret
    exact ⟨HC.out, rfl⟩
theorem isLetter_any (c : UInt8) (w : World) : Calls Tryd.prog 17 #[.int .u8 (c.toNat : Int)] w (Says (isLt c) w) := by
  have hz := isLt_z c
  generalize (c.toNat : Int) = z at *
  obtain ⟨h1, h2⟩ := bool_of hz
  have HA := Lib.hid h1
  have HB := Lib.hid h2
  clear hz h1 h2
  by_cases c1 : 65 ≤ z ∧ z ≤ 90
  · obtain ⟨c1, c2⟩ := c1
    have d1 : decide (65 ≤ z) = true := decide_eq_true c1
    have d2 : decide (z ≤ 90) = true := decide_eq_true c2
    have HC := Lib.hid (HA.out (.inl ⟨c1, c2⟩))
    clear HA HB c1 c2
    go_enter Tryd.func17, Tryd.ntmps17
    go_wp2_with fail
    go_ret
    exact ⟨HC.out, rfl⟩
  by_cases c2 : 97 ≤ z ∧ z ≤ 122
  · obtain ⟨c3, c4⟩ := c2
    have d1 : decide (65 ≤ z) = true := decide_eq_true (by omega)
    have d2 : decide (z ≤ 90) = false := decide_eq_false (by omega)
    have d3 : decide (97 ≤ z) = true := decide_eq_true c3
    have d4 : decide (z ≤ 122) = true := decide_eq_true c4
    have HC := Lib.hid (HA.out (.inr (.inl ⟨c3, c4⟩)))
    clear HA HB c1 c3 c4
    go_enter Tryd.func17, Tryd.ntmps17
    go_wp2_with fail
    go_ret
    exact ⟨HC.out, rfl⟩
  have both : ∀ (b : Bool), (z == 95) = b → Ending.returned (.bool b) = Ending.returned (.bool (isLt c)) := by
    intro b hb
    cases b with
    | true => exact HA.out (.inr (.inr (beq_iff_eq.1 hb)))
    | false => exact HB.out (by have := beq_eq_false_iff_ne.1 hb; omega)
  obtain ⟨b, hb⟩ : ∃ b, (z == 95) = b := ⟨_, rfl⟩
  have HC := Lib.hid (both b hb)
  clear HA HB both
  by_cases c3 : z < 65
  · have d1 : decide (65 ≤ z) = false := decide_eq_false (by omega)
    have d3 : decide (97 ≤ z) = false := decide_eq_false (by omega)
    clear c1 c2 c3
    go_enter Tryd.func17, Tryd.ntmps17
    go_wp2_with fail
    go_ret
    exact ⟨HC.out, rfl⟩
  have d1 : decide (65 ≤ z) = true := decide_eq_true (by omega)
  have d2 : decide (z ≤ 90) = false := decide_eq_false (by omega)
  by_cases c4 : z < 97
  · have d3 : decide (97 ≤ z) = false := decide_eq_false (by omega)
    clear c1 c2 c3 c4
    go_enter Tryd.func17, Tryd.ntmps17
    go_wp2_with fail
    go_ret
    exact ⟨HC.out, rfl⟩
  have d3 : decide (97 ≤ z) = true := decide_eq_true (by omega)
  have d4 : decide (z ≤ 122) = false := decide_eq_false (by omega)
  clear c1 c2 c3 c4
  go_enter Tryd.func17, Tryd.ntmps17
  go_wp2_with fail
  go_ret
  exact ⟨HC.out, rfl⟩
theorem isDigit_any (c : UInt8) (w : World) : Calls Tryd.prog 19 #[.int .u8 (c.toNat : Int)] w (Says (isDg c) w) := by
  have hz := isDg_z c
  generalize (c.toNat : Int) = z at *
  obtain ⟨h1, h2⟩ := bool_of hz
  have HA := Lib.hid h1
  have HB := Lib.hid h2
  clear hz h1 h2
  by_cases c1 : 48 ≤ z
  · have d1 : decide (48 ≤ z) = true := decide_eq_true c1
    by_cases c2 : z ≤ 57
    · have d2 : decide (z ≤ 57) = true := decide_eq_true c2
      have HC := Lib.hid (HA.out ⟨c1, c2⟩)
      clear HA HB c1 c2
      go_enter Tryd.func19, Tryd.ntmps19
      go_wp2_with fail
      go_ret
      exact ⟨HC.out, rfl⟩
    · have d2 : decide (z ≤ 57) = false := decide_eq_false c2
      have HC := Lib.hid (HB.out (fun h => c2 h.2))
      clear HA HB c1 c2
      go_enter Tryd.func19, Tryd.ntmps19
      go_wp2_with fail
      go_ret
      exact ⟨HC.out, rfl⟩
  · have d1 : decide (48 ≤ z) = false := decide_eq_false c1
    have HC := Lib.hid (HB.out (fun h => c1 h.1))
    clear HA HB c1
    go_enter Tryd.func19, Tryd.ntmps19
    go_wp2_with fail
    go_ret
    exact ⟨HC.out, rfl⟩
theorem isWord_any (c : UInt8) (w : World) : Calls Tryd.prog 28 #[.int .u8 (c.toNat : Int)] w (Says (isWd c) w) := by
  have h0 : isWd c = (isLt c || isDg c) := rfl
  obtain ⟨a, ha⟩ : ∃ a, isLt c = a := ⟨_, rfl⟩
  obtain ⟨b, hb⟩ : ∃ b, isDg c = b := ⟨_, rfl⟩
  have H1 := Lib.hid (isLetter_any c)
  have H2 := Lib.hid (isDigit_any c)
  rw [h0]
  rw [ha] at H1 ⊢
  rw [hb] at H2 ⊢
  clear ha hb h0
  cases a
  all_goals
    go_enter Tryd.func28, Tryd.ntmps28
    go_wp2_with (first | (go_at_call 17; refine (H1.out _).mono ?_; rintro e w' ⟨rfl, rfl⟩) | (go_at_call 19; refine (H2.out _).mono ?_; rintro e w' ⟨rfl, rfl⟩))
    go_ret
    exact ⟨by cases b <;> rfl, rfl⟩
/-- What is asked of a function that is handed in: of each byte it says whether it has a property. -/
def Asked (k : Nat) (p : UInt8 → Bool) : Prop := ∀ (c : UInt8) (w : World), Calls Tryd.prog k #[.int .u8 (c.toNat : Int)] w (Says (p c) w)
theorem runL_more {p : UInt8 → Bool} {l : List UInt8} : ∀ {k : Nat}, k < l.length → (∀ j, j < k → ∀ h : j < l.length, p l[j] = true) → (h : k < l.length) → p l[k] = false → runL p l = k := by
  induction l with
  | nil => intro k h; simp at h
  | cons c l ih =>
    intro k hk hb h hf
    cases k with
    | zero => simp only [List.getElem_cons_zero] at hf; simp [runL, hf]
    | succ k =>
      have h0 : p c = true := hb 0 (by omega) (by simp)
      have := ih (k := k) (by simpa using hk) (fun j hj h' => by have := hb (j + 1) (by omega) (by simpa using h'); simpa using this) (by simpa using h) (by simpa using hf)
      simp [runL, h0, this]
theorem runL_all {p : UInt8 → Bool} {l : List UInt8} (h : ∀ j, ∀ h : j < l.length, p l[j] = true) : runL p l = l.length := by
  induction l with
  | nil => rfl
  | cons c l ih =>
    have h0 : p c = true := h 0 (by simp)
    have := ih (fun j hj => by have := h (j + 1) (by simpa using hj); simpa using this)
    simp [runL, h0, this]
end Go.Proofs.YtjbamlmdeopcaaaDoor.lx
