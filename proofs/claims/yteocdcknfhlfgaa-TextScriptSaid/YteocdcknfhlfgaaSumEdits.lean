/-
  The contract of edits: at least how many they are.
-/
import Derived.Test.YteocdcknfhlfgaaEdits
namespace Go.Proofs.Yteocdcknfhlfgaa.buf
open Go.RowKit

set_option maxRecDepth 100000 in
set_option maxHeartbeats 2000000 in
theorem sum_row (b o cap : Nat) (l : List Ed) (w : World)
    (hc : ∀ j (hj : j < l.length), w.cell? ⟨b, o + j * 3, none⟩ = some (.int .i64 l[j].a) ∧ w.cell? ⟨b, o + j * 3 + 1, none⟩ = some (.int .i64 l[j].b) ∧ w.cell? ⟨b, o + j * 3 + 2, none⟩ = some (.string l[j].s)) :
    Calls Try.prog 22 #[.slice (some ⟨b, o, none⟩) l.length cap] w fun e w' => (∃ z : Int, e = .returned (.int .i64 z) ∧ (l.length : Int) ≤ z) ∧ w = w' := by
  have HC := Lib.hid hc
  clear hc
  go_enter Try.func22, Try.ntmps22
  go_wp2
  go_loop [3, 4] (fun n i => ∃ (k : Nat) (z : Int), i = .int .i64 k ∧ k ≤ l.length ∧ n = .int .i64 z ∧ (l.length : Int) ≤ z)
    (fun _ i => l.length - (intOf i).toNat)
  case atStart => exact ⟨0, _, rfl, Nat.zero_le _, rfl, Int.le_refl _⟩
  case round =>
    obtain ⟨k, z, rfl, hk, rfl, hz⟩ := hrel
    by_cases hlt : k < l.length
    · by_cases hz2 : z ≤ 1073741824
      · obtain ⟨c0, c1, c2⟩ := HC.out k hlt
        obtain ⟨e, he⟩ : ∃ e, l[k] = e := ⟨_, rfl⟩
        rw [he] at c0 c1 c2
        clear he
        obtain ⟨a, b', x⟩ := e
        simp only at c0 c1 c2
        obtain ⟨m, hm⟩ : ∃ m, min (x.size : Int) 1073741824 = m := ⟨_, rfl⟩
        have hm0 : 0 ≤ m := by omega
        have hm1 : m ≤ 1073741824 := by omega
        have hd : decide (z ≤ 1073741824) = true := decide_eq_true hz2
        go_wp2_with fail
        go_round
        case rel => exact ⟨k + 1, z + m, by go_num, hlt, rfl, by omega⟩
        case measure => simp [intOf]; omega
      · have hd : decide (z ≤ 1073741824) = false := decide_eq_false hz2
        go_wp2_with fail
        go_ret
        exact ⟨⟨z, rfl, hz⟩, rfl⟩
    · have hd : decide ((k : Int) < (l.length : Int)) = false := decide_eq_false (by omega)
      go_wp2_with fail
      go_ret
      exact ⟨⟨z, rfl, hz⟩, rfl⟩

set_option maxRecDepth 100000 in
set_option maxHeartbeats 1000000 in
theorem sum_none (cap : Nat) (oa : Option Addr) (w : World) :
    Calls Try.prog 22 #[.slice oa 0 cap] w fun e w' => (∃ z : Int, e = .returned (.int .i64 z) ∧ 0 ≤ z) ∧ w = w' := by
  go_enter Try.func22, Try.ntmps22
  go_wp2
  go_rounds 1
  go_ret
  exact ⟨⟨0, rfl, Int.le_refl _⟩, rfl⟩

theorem sum_any (v : Value) (l : List Ed) (w : World) (he : EdsAt w v l) :
    Calls Try.prog 22 #[v] w fun e w' => (∃ z : Int, e = .returned (.int .i64 z) ∧ (l.length : Int) ≤ z) ∧ w = w' := by
  rcases he with ⟨rfl, oa, cap, rfl⟩ | ⟨b, o, cap, rfl, hb, hc⟩
  · exact sum_none cap oa w
  · exact sum_row b o cap l w hc
end Go.Proofs.Yteocdcknfhlfgaa.buf
