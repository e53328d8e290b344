/-
  token.Keyword, token.Operator.
-/
import Derived.Test.YtjbamlmdeopcaaaDoorLists
import Derived.Test.YtjbamlmdeopcaaaDoorShelf
import Derived.BigQuiet
import Derived.Deep.QuietTactic
namespace Go.Proofs.YtjbamlmdeopcaaaDoor.tok
open Go.RowKit

theorem run_index_agg {P : Program} {T e : TypeId} {n : Nat} {cells : Array Value} {k : Nat} {v : Value} (hu : P.underlying T = some (.array n e))
    (ha : ∀ u, (isAgg e).run P u = .ok false u) (hz : ∀ u, (sizeOf e).run P u = .ok 1 u) (hk : k < n) (hv : cells[k]? = some v) (w : World) :
    (Instr.index T (.agg cells) (.int .i64 (k : Int))).run P w = .ok v w := by
  have h1 : (0 : Int) ≤ (k : Int) ∧ (k : Int) < (n : Int) := ⟨by omega, by omega⟩
  simp only [Instr.index, asIntOf, Sem.run_bind, Sem.run_pure, Result.andThen_ok, run_underlying hu, if_pos h1, hz, part, ha, Int.toNat_natCast, Nat.mul_one, hv]
  rfl

theorem bdata (l : List UInt8) : (B l).data.toList = l := by simp [B]
theorem blist (l : List UInt8) : (B l).toList = l := by rw [Lib.toList_data, bdata]
theorem bsize (l : List UInt8) : (B l).size = l.length := by simp [B, ByteArray.size]
theorem bof (s : ByteArray) : B s.data.toList = s := by cases s; simp [B]
theorem sdata (s : ByteArray) : s.data.toList.length = s.size := by rw [Array.length_toList]; rfl

def kwOf (l : List UInt8) : Int := if words.idxOf l < 21 then 70 + (words.idxOf l : Nat) else 0
theorem idx_here {l : List (List UInt8)} {s : List UInt8} : ∀ {k : Nat}, k < l.length → l.getD k [] = s → (∀ j, j < k → l.getD j [] ≠ s) → l.idxOf s = k := by
  induction l with
  | nil => intro k h; simp at h
  | cons a l ih =>
    intro k h hk hb
    cases k with
    | zero => simp at hk; simp [hk]
    | succ k =>
      have h0 := hb 0 (by omega)
      simp at h0
      rw [List.idxOf_cons, show (a == s) = false by simpa using h0, cond_false]
      rw [ih (k := k) (by simpa using h) (by simpa using hk) (fun j hj => by have := hb (j + 1) (by omega); simpa using this)]
theorem idx_none {l : List (List UInt8)} {s : List UInt8} (hb : ∀ j, j < l.length → l.getD j [] ≠ s) : l.idxOf s = l.length := by
  induction l with
  | nil => rfl
  | cons a l ih =>
    have h0 := hb 0 (by simp)
    simp at h0
    rw [List.idxOf_cons, show (a == s) = false by simpa using h0, cond_false]
    rw [ih (fun j hj => by have := hb (j + 1) (by simpa using hj); simpa using this)]
    rfl
theorem words_length : words.length = 21 := by decide
theorem signs_length : signs.length = 46 := by decide
theorem word_at (k : Nat) (hk : k < 21) : wordA[k]? = some (.string (B (words.getD k []))) := by
  have : k < words.length := by rw [words_length]; exact hk
  simp [wordA, this]
theorem sign_at (k : Nat) (hk : k < 46) : signA[k]? = some (.string (B (signs.getD k []))) := by
  have : k < signs.length := by rw [signs_length]; exact hk
  simp [signA, this]
theorem index_word (k : Nat) (hk : k < 21) (w : World) : (Instr.index 61 (.agg wordA) (.int .i64 (k : Int))).run Tryd.prog w = .ok (.string (B (words.getD k []))) w :=
  run_index_agg (n := 21) (e := 9) (by kernel_rfl) (fun _ => by kernel_rfl) (fun _ => by kernel_rfl) hk (word_at k hk) w
theorem index_sign (k : Nat) (hk : k < 46) (w : World) : (Instr.index 70 (.agg signA) (.int .i64 (k : Int))).run Tryd.prog w = .ok (.string (B (signs.getD k []))) w :=
  run_index_agg (n := 46) (e := 9) (by kernel_rfl) (fun _ => by kernel_rfl) (fun _ => by kernel_rfl) hk (sign_at k hk) w

set_option maxRecDepth 100000 in
set_option maxHeartbeats 1000000 in
theorem keyword_any (s : ByteArray) (w : World) : Calls Tryd.prog 29 #[.string s] w fun e w' => e = .returned (.int .i64 (kwOf s.data.toList)) ∧ Below w.heap.size w w' := by
  go_enter Tryd.func29, Tryd.ntmps29
  go_wp2_with (go_at_call 37; refine (keywords_any _).mono ?_; rintro e w1 ⟨rfl, hb⟩)
  have HB := Lib.hid hb
  clear hb
  go_loop [6] (fun i => ∃ k : Nat, k ≤ 21 ∧ (∀ j, j < k → words.getD j [] ≠ s.data.toList) ∧ i = .int .i64 k) (fun i => 21 - (intOf i).toNat)
  case atStart => exact ⟨0, by omega, fun j hj => by omega, rfl⟩
  case round =>
    obtain ⟨k, hk, hbef, rfl⟩ := hrel
    have HF := Lib.hid hbef
    clear hbef
    by_cases hlt : k < 21
    · have hix := index_word k hlt
      obtain ⟨x, hx⟩ : ∃ x, B (words.getD k []) = x := ⟨_, rfl⟩
      rw [hx] at hix
      have hxl : x.toList = words.getD k [] := by rw [← hx, blist]
      have HX := Lib.hid hxl
      clear hx hxl
      by_cases he : x.toList = s.toList
      · have he' : (x.toList == s.toList) = true := by simpa using he
        have HE : Hid (words.getD k [] = s.data.toList) := Lib.hid (by rw [← HX.out, he, Lib.toList_data])
        clear he
        go_wp2_with fail
        go_ret
        refine ⟨?_, HB.out⟩
        have := idx_here (l := words) (by rw [words_length]; exact hlt) HE.out HF.out
        unfold kwOf
        rw [this, if_pos hlt]
        rfl
      · have he' : (x.toList == s.toList) = false := by simpa using he
        have HE : Hid (words.getD k [] ≠ s.data.toList) := Lib.hid (by rw [← HX.out, ← Lib.toList_data]; exact he)
        clear he
        go_wp2_with fail
        go_round
        case rel => exact ⟨k + 1, by omega, fun j hj => by by_cases e : j = k; · subst e; exact HE.out
                                                           · exact HF.out j (by omega), by go_num⟩
        case measure => simp [intOf]; omega
    · go_wp2_with fail
      go_ret
      refine ⟨?_, HB.out⟩
      have := idx_none (l := words) (s := s.data.toList) (fun j hj => HF.out j (by rw [words_length] at hj; omega))
      unfold kwOf
      rw [this, words_length, if_neg (by omega)]
      rfl
end Go.Proofs.YtjbamlmdeopcaaaDoor.tok
