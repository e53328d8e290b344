/-
  token.Operator.
-/
import Derived.Test.YtjbamlmdeopcaaaDoorKey
namespace Go.Proofs.YtjbamlmdeopcaaaDoor.tok
open Go.RowKit

/-- The longest of the first k signs that a text begins with: its kind and its width. -/
def best (s : List UInt8) : Nat → Nat × Nat
  | 0 => (0, 0)
  | k + 1 => if (best s k).2 < (signs.getD k []).length ∧ Lib.hasPrefix s (signs.getD k []) = true then (20 + k, (signs.getD k []).length) else best s k
def opOf (s : List UInt8) : Nat × Nat := if Lib.hasPrefix s [59] = true then (15, 1) else best s 46
theorem sign_short (k : Nat) : (signs.getD k []).length ≤ 3 := by
  by_cases h : k < 46
  · have : ∀ j : Fin 46, (signs.getD j.val []).length ≤ 3 := by decide
    exact this ⟨k, h⟩
  · rw [List.getD_eq_getElem?_getD, List.getElem?_eq_none (by rw [signs_length]; omega)]; simp
theorem best_le (s : List UInt8) (k : Nat) : (best s k).1 ≤ 20 + k ∧ (best s k).2 ≤ 3 := by
  induction k with
  | zero => simp [best]
  | succ k ih =>
    have := sign_short k
    unfold best
    split
    · exact ⟨by simp, this⟩
    · omega
theorem best_yes {s : List UInt8} {k : Nat} (h : (best s k).2 < (signs.getD k []).length) (h' : Lib.hasPrefix s (signs.getD k []) = true) : best s (k + 1) = (20 + k, (signs.getD k []).length) := by
  rw [best, if_pos ⟨h, h'⟩]
theorem best_no {s : List UInt8} {k : Nat} (h : ¬ ((best s k).2 < (signs.getD k []).length ∧ Lib.hasPrefix s (signs.getD k []) = true)) : best s (k + 1) = best s k := by
  rw [best, if_neg h]

set_option maxRecDepth 100000 in
set_option maxHeartbeats 1000000 in
theorem operator_any (s : ByteArray) (w : World) : Calls Tryd.prog 33 #[.string s] w fun e w' => e = .returned (.tuple #[.int .i64 (opOf s.data.toList).1, .int .i64 (opOf s.data.toList).2]) ∧ Below w.heap.size w w' := by
  by_cases h0 : Lib.hasPrefix s.data.toList [59] = true
  · have e : opOf s.data.toList = (15, 1) := by rw [opOf, if_pos h0]
    rw [e]
    have H0 := Lib.hid h0
    clear h0 e
    go_enter Tryd.func33, Tryd.ntmps33
    go_wp2_with (go_at_call 11; refine (Tryd.strings_HasPrefix _ _ _).mono ?_; rintro e w' ⟨rfl, rfl⟩; rw [H0.out])
    go_ret2
    exact ⟨rfl, Below.refl _ _⟩
  · have h0' : Lib.hasPrefix s.data.toList [59] = false := by simpa using h0
    have e : opOf s.data.toList = best s.data.toList 46 := by rw [opOf, if_neg h0]
    rw [e]
    have H0 := Lib.hid h0'
    clear h0 h0' e
    go_enter Tryd.func33, Tryd.ntmps33
    go_wp2_with (first | (go_at_call 11; refine (Tryd.strings_HasPrefix _ _ _).mono ?_; rintro e w' ⟨rfl, rfl⟩; rw [H0.out]) | (go_at_call 43; refine (signs_any _).mono ?_; rintro e w1 ⟨rfl, hb⟩; have HB := Lib.hid hb; clear hb))
    go_loop [4, 5, 11] (fun p q i => ∃ k : Nat, k ≤ 46 ∧ p = .int .i64 (best s.data.toList k).1 ∧ q = .int .i64 (best s.data.toList k).2 ∧ i = .int .i64 k) (fun _ _ i => 46 - (intOf i).toNat)
    case atStart => exact ⟨0, by omega, rfl, rfl, rfl⟩
    case round =>
      obtain ⟨k, hk, rfl, rfl, rfl⟩ := hrel
      obtain ⟨hb1, hb2⟩ := best_le s.data.toList k
      by_cases hlt : k < 46
      · have hix := index_sign k hlt
        have hsh := sign_short k
        obtain ⟨x, hx⟩ : ∃ x, B (signs.getD k []) = x := ⟨_, rfl⟩
        rw [hx] at hix
        have hxd : x.data.toList = signs.getD k [] := by rw [← hx, bdata]
        have hxs : x.size = (signs.getD k []).length := by rw [← hx, bsize]
        obtain ⟨n, hn⟩ : ∃ n, x.size = n := ⟨_, rfl⟩
        obtain ⟨p, q, hpq⟩ : ∃ p q, best s.data.toList k = (p, q) := ⟨_, _, rfl⟩
        rw [hpq] at hb1 hb2
        have hn3 : n ≤ 3 := by omega
        have HX := Lib.hid hxd
        have HN := Lib.hid hn
        have HL : Hid ((signs.getD k []).length = n) := Lib.hid (by omega)
        have HP := Lib.hid hpq
        simp only [] at hb1 hb2
        clear hx hxd hxs hsh
        rw [hpq]
        clear hpq
        by_cases c1 : q < n
        · have d1 : decide ((q : Int) < (n : Int)) = true := decide_eq_true (by omega)
          by_cases c2 : Lib.hasPrefix s.data.toList x.data.toList = true
          · have HC := Lib.hid c2
            clear c2
            go_wp2_with (go_at_call 11; refine (Tryd.strings_HasPrefix _ _ _).mono ?_; rintro e w' ⟨rfl, rfl⟩; rw [HC.out])
            go_round
            case rel =>
              have e := best_yes (s := s.data.toList) (k := k) (by rw [HP.out, HL.out]; exact c1) (by rw [← HX.out]; exact HC.out)
              exact ⟨k + 1, by omega, by rw [e]; show _ = Value.int .i64 ((20 + k : Nat) : Int); go_num, by rw [e]; show _ = Value.int .i64 (((signs.getD k []).length : Nat) : Int); rw [HL.out], by go_num⟩
            case measure => simp [intOf]; omega
          · have c2' : Lib.hasPrefix s.data.toList x.data.toList = false := by simpa using c2
            have HC := Lib.hid c2'
            clear c2 c2'
            go_wp2_with (go_at_call 11; refine (Tryd.strings_HasPrefix _ _ _).mono ?_; rintro e w' ⟨rfl, rfl⟩; rw [HC.out])
            go_round
            case rel =>
              have e := best_no (s := s.data.toList) (k := k) (by rw [← HX.out, HC.out]; simp)
              exact ⟨k + 1, by omega, by rw [e, HP.out], by rw [e, HP.out], by go_num⟩
            case measure => simp [intOf]; omega
        · have d1 : decide ((q : Int) < (n : Int)) = false := decide_eq_false (by omega)
          go_wp2_with fail
          go_round
          case rel =>
            have e := best_no (s := s.data.toList) (k := k) (by rw [HP.out, HL.out]; exact fun h => c1 h.1)
            exact ⟨k + 1, by omega, by rw [e, HP.out], by rw [e, HP.out], by go_num⟩
          case measure => simp [intOf]; omega
      · obtain rfl : k = 46 := by omega
        go_wp2_with fail
        go_ret2
        exact ⟨rfl, HB.out⟩
end Go.Proofs.YtjbamlmdeopcaaaDoor.tok
