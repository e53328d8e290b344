/-
  Layer 8: the laws' digits.
-/
import Derived.Test.YtnnffcfdokejbaaNs
namespace Go.Proofs.Ytnnffcfdokejbaa.rd
open Go.RowKit

/-- A number in digits. -/
def digN (n : Nat) : List UInt8 := if n < 10 then [48 + UInt8.ofNat n] else digN (n / 10) ++ [48 + UInt8.ofNat (n % 10)]
termination_by n
decreasing_by omega
def digI (z : Int) : List UInt8 := if z < 0 then [45] else digN z.toNat
theorem digN_len (n : Nat) : ∀ k, n < 10 ^ k → (digN n).length ≤ max 1 k := by
  induction n using Nat.strongRecOn with
  | _ n ih =>
  intro k hk
  rw [digN]
  split
  · simp
    omega
  · rename_i h
    cases k with
    | zero => simp at hk; omega
    | succ k =>
      have := ih (n / 10) (by omega) k (by rw [Nat.pow_succ] at hk; omega)
      have hk0 : k ≠ 0 := by rintro rfl; simp at hk; omega
      rw [List.length_append]
      simp
      omega
theorem dig_few {m : Nat} (h : (m : Int) < 9223372036854775808) : (digN m).length ≤ 19 := by
  have := digN_len m 19 (by have : (10 : Nat) ^ 19 = 10000000000000000000 := by decide
                            omega)
  omega
theorem digI_few {z : Int} (h : In64 z) : (digI z).length ≤ 19 := by
  unfold In64 at h
  unfold digI
  split
  · simp
  · exact dig_few (by omega)
theorem dig_byte : ∀ m : Nat, m < 10 → (⟨#[48, 49, 50, 51, 52, 53, 54, 55, 56, 57]⟩ : ByteArray)[m]? = some (48 + UInt8.ofNat m) := by decide
theorem dig_one (m : Nat) (h : m < 10) (z : Int) (hz : z = (m : Int)) (y : Int) (hy : y = (m : Int) + 1) : ∀ u, (Instr.slice 9 (.string ⟨#[48, 49, 50, 51, 52, 53, 54, 55, 56, 57]⟩) (some (.int .i64 z)) (some (.int .i64 y)) none).run Try.prog u = .ok (.string (B [48 + UInt8.ofNat m])) u := by
  subst hz hy
  intro u
  have hb := dig_byte m h
  have hs : m < (⟨#[48, 49, 50, 51, 52, 53, 54, 55, 56, 57]⟩ : ByteArray).size := h
  exact slice_one _ m hs _ (by rw [getElem?_pos _ m hs] at hb; exact Option.some.inj hb) u
set_option maxRecDepth 100000 in
set_option maxHeartbeats 4000000 in
theorem digits_nat : ∀ (n m : Nat), m < n → ∀ (w : World), (m : Int) < 9223372036854775808 → Calls Try.prog 47 #[.int .i64 (m : Int)] w fun e w' => e = .returned (.string (B (digN m))) ∧ Below w.heap.size w w' := by
  intro n
  induction n with
  | zero => intro m h; omega
  | succ n ih =>
  intro m hm w hlt
  have d0 : decide ((m : Int) < 0) = false := decide_eq_false (by omega)
  by_cases h10 : m < 10
  · have d1 : decide ((m : Int) < 10) = true := decide_eq_true (by omega)
    have hs := dig_one m h10 _ rfl _ rfl
    have hq0 : (0 : Int) ≤ (m : Int) := by omega
    have hww : (m : Int) + 1 ≤ 11 := by omega
    have hr : digN m = [48 + UInt8.ofNat m] := by rw [digN, if_pos h10]
    rw [hr]
    clear hr
    go_enter Try.func47, Try.ntmps47
    go_wp2_with fail
    go_ret
    exact ⟨rfl, Below.refl _ _⟩
  · have d1 : decide ((m : Int) < 10) = false := decide_eq_false (by omega)
    have hq0 : (0 : Int) ≤ (m : Int) := by omega
    have hr : digN m = digN (m / 10) ++ [48 + UInt8.ofNat (m % 10)] := by rw [digN, if_neg h10]
    have HR := Lib.hid hr
    have hdv : (m : Int) / 10 = ((m / 10 : Nat) : Int) := by omega
    have hmd : (m : Int) % 10 = ((m % 10 : Nat) : Int) := by omega
    have hw1 : wrap64 ((m : Int) / 10) = (m : Int) / 10 := IntWalk.wrap64_in _ (by omega)
    have hw2 : IntKind.i64.wrap ((m : Int) / 10) = (m : Int) / 10 := by rw [IntWalk.i64_left]; exact hw1
    have ht : (m : Int).tmod 10 = (m : Int) % 10 := Int.tmod_eq_emod_of_nonneg (by omega)
    have hw3 : wrap64 ((m : Int) % 10 + 1) = (m : Int) % 10 + 1 := IntWalk.wrap64_in _ (by omega)
    have hw4 : IntKind.i64.wrap ((m : Int) % 10 + 1) = (m : Int) % 10 + 1 := by rw [IntWalk.i64_left]; exact hw3
    have hs := dig_one (m % 10) (Nat.mod_lt _ (by decide)) _ hmd ((m : Int) % 10 + 1) (by omega)
    have hcat := cat_eq (x := digN (m / 10)) (y := [48 + UInt8.ofNat (m % 10)]) (by have := dig_few (m := m / 10) (by omega); simp; omega)
    have HC : Hid (∀ u : World, Calls Try.prog 47 #[.int .i64 ((m : Int) / 10)] u fun e w' => e = .returned (.string (B (digN (m / 10)))) ∧ Below u.heap.size u w') := Lib.hid (fun u => by rw [hdv]; exact ih (m / 10) (by omega) u (by omega))
    clear hdv hmd
    clear hr
    go_enter Try.func47, Try.ntmps47
    go_wp2_with fail
    go_region_law (go_simp; go_at_call 47; refine (HC.out _).mono ?_; rintro e w9 ⟨rfl, hb9⟩; have HB9 : Hid (Below w.heap.size w w9) := Lib.hid (by first | exact (Below.refl _ _).drew.trans hb9 | exact hb9); clear hb9; dsimp only)
    all_goals (try go_wp2_with fail)
    all_goals go_ret
    all_goals exact ⟨by rw [HR.out]; rfl, HB9.out⟩
set_option maxRecDepth 100000 in
theorem digits_any (z : Int) (w : World) (hz : z < 9223372036854775808) : Calls Try.prog 47 #[.int .i64 z] w fun e w' => e = .returned (.string (B (digI z))) ∧ Below w.heap.size w w' := by
  by_cases h : z < 0
  · have d0 : decide (z < 0) = true := decide_eq_true h
    have hr : digI z = [45] := by unfold digI; rw [if_pos h]
    rw [hr]
    clear hr
    go_enter Try.func47, Try.ntmps47
    go_wp2_with fail
    go_ret
    exact ⟨rfl, Below.refl _ _⟩
  · have hr : digI z = digN z.toNat := by unfold digI; rw [if_neg h]
    have hz' : z = ((z.toNat : Nat) : Int) := by omega
    rw [hr]
    have := digits_nat (z.toNat + 1) z.toNat (by omega) w (by omega)
    rw [← hz'] at this
    exact this
end Go.Proofs.Ytnnffcfdokejbaa.rd
