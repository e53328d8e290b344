/-
  The reference's UTF8.
-/
import Derived.Test.YtbmmbaagcglomaaDoorAppend
import Derived.Laws.Bits128
namespace Go.Proofs.YtbmmbaagcglomaaDoor.tok
open Go.RowKit

theorem i64_and63 (n : Int) : bits .and .i64 n 63 = n % 64 := by
  have h63 : (BitVec.ofInt 64 63).toNat = 2 ^ 6 - 1 := by decide
  have key : (BitVec.ofInt 64 n &&& BitVec.ofInt 64 63).toNat = (n % ((2 ^ 64 : Nat) : Int)).toNat % 2 ^ 6 := by
    rw [BitVec.toNat_and, BitVec.toNat_ofInt, h63, Nat.and_two_pow_sub_one_eq_mod]
  show IntKind.i64.wrap ((BitVec.ofInt 64 n &&& BitVec.ofInt 64 63).toNat : Nat) = n % 64
  rw [key, IntKind.wrap_i64]
  omega
/-- The cells of a list of bytes that was just made. -/
theorem conv_new (zs : List Int) (h : ∀ z ∈ zs, 0 ≤ z ∧ z ≤ 255) (n : Nat) (hn : zs.length = n) (cs : Array Value) (hc : cs = (zs.map (Value.int .u8)).toArray) (N : Nat) (u : World) (hN : N = u.heap.size) :
    (convert 38 9 (.slice (some ⟨N, 0, none⟩) n n)).run Tryd.prog (u.alloc (.cells cs 5)) = .ok (.string (B (zs.map fun z => z.toNat.toUInt8))) (u.alloc (.cells cs 5)) := by
  subst hn hc hN
  have hl : (zs.map fun z => z.toNat.toUInt8).length = zs.length := List.length_map ..
  rw [← hl]
  refine run_convert_bytes_back _ _ _ _ ⟨u.heap.size, 0, none⟩ _ _ Tryd.underlying38 Tryd.underlying5 Tryd.underlying9 (fun j hj => ?_)
  rw [List.length_map] at hj
  rw [Addr.add_lit, Nat.zero_add, cell_of_row _ _ j _ _ (0, 0) (heap_alloc_last u _)]
  have hb := h zs[j] (List.getElem_mem hj)
  have : (zs[j].toNat.toUInt8.toNat : Int) = zs[j] := by
    rw [Nat.toUInt8, UInt8.toNat_ofNat', Nat.mod_eq_of_lt (by omega)]
    omega
  rw [List.getElem_map, this]
  simp [hj]
def OneB (x : List UInt8) (w : World) (e : Ending) (w' : World) : Prop := e = .returned (.string (B x)) ∧ Below w.heap.size w w'

set_option maxRecDepth 100000 in
set_option maxHeartbeats 2000000 in
theorem utf_one (n : Int) (w : World) (h0 : 0 ≤ n) (h1 : n ≤ 127) : Calls Tryd.prog 56 #[.int .i64 n] w (OneB (Lib.encodeRune n) w) := by
  have a1 := i64_and63 n
  have a2 := i64_and63 (n / 64)
  have a3 := i64_and63 (n / 4096)
  have HEN : Hid (Lib.encodeRune n = ([n] : List Int).map fun z => z.toNat.toUInt8) := Lib.hid (by unfold Lib.encodeRune; rw [Lib.encodeRuneZ_one h0 h1])
  have cv : ∀ u : World, (convert 38 9 (.slice (some ⟨u.heap.size, 0, none⟩) 1 1)).run Tryd.prog (u.alloc (.cells #[.int .u8 (n)] 5)) = .ok (.string (B (([n] : List Int).map fun z => z.toNat.toUInt8))) (u.alloc (.cells #[.int .u8 (n)] 5)) := fun u =>
    conv_new [n] (by intro z hz; simp only [List.mem_cons, List.not_mem_nil, or_false] at hz; omega) 1 rfl _ rfl _ u rfl
  rw [← HEN.out] at cv
  go_enter Tryd.func56, Tryd.ntmps56
  go_wp2_with fail
  go_ret
  exact ⟨rfl, (Below.refl _ _).alloc (Nat.le_refl _) _⟩
set_option maxRecDepth 100000 in
set_option maxHeartbeats 2000000 in
theorem utf_two (n : Int) (w : World) (h0 : 128 ≤ n) (h1 : n ≤ 2047) : Calls Tryd.prog 56 #[.int .i64 n] w (OneB (Lib.encodeRune n) w) := by
  have a1 := i64_and63 n
  have a2 := i64_and63 (n / 64)
  have a3 := i64_and63 (n / 4096)
  have HEN : Hid (Lib.encodeRune n = ([192 + n / 64, 128 + n % 64] : List Int).map fun z => z.toNat.toUInt8) := Lib.hid (by unfold Lib.encodeRune; rw [Lib.encodeRuneZ_two h0 h1])
  have cv : ∀ u : World, (convert 38 9 (.slice (some ⟨u.heap.size, 0, none⟩) 2 2)).run Tryd.prog (u.alloc (.cells #[.int .u8 (192 + n / 64), .int .u8 (128 + n % 64)] 5)) = .ok (.string (B (([192 + n / 64, 128 + n % 64] : List Int).map fun z => z.toNat.toUInt8))) (u.alloc (.cells #[.int .u8 (192 + n / 64), .int .u8 (128 + n % 64)] 5)) := fun u =>
    conv_new [192 + n / 64, 128 + n % 64] (by intro z hz; simp only [List.mem_cons, List.not_mem_nil, or_false] at hz; omega) 2 rfl _ rfl _ u rfl
  rw [← HEN.out] at cv
  go_enter Tryd.func56, Tryd.ntmps56
  go_wp2_with fail
  go_ret
  exact ⟨rfl, (Below.refl _ _).alloc (Nat.le_refl _) _⟩
set_option maxRecDepth 100000 in
set_option maxHeartbeats 2000000 in
theorem utf_three (n : Int) (w : World) (h0 : 2048 ≤ n) (h1 : n ≤ 65535) (hv : n < 55296 ∨ 57343 < n) : Calls Tryd.prog 56 #[.int .i64 n] w (OneB (Lib.encodeRune n) w) := by
  have a1 := i64_and63 n
  have a2 := i64_and63 (n / 64)
  have a3 := i64_and63 (n / 4096)
  have HEN : Hid (Lib.encodeRune n = ([224 + n / 4096, 128 + n / 64 % 64, 128 + n % 64] : List Int).map fun z => z.toNat.toUInt8) := Lib.hid (by unfold Lib.encodeRune; rw [Lib.encodeRuneZ_three (by omega)])
  have cv : ∀ u : World, (convert 38 9 (.slice (some ⟨u.heap.size, 0, none⟩) 3 3)).run Tryd.prog (u.alloc (.cells #[.int .u8 (224 + n / 4096), .int .u8 (128 + n / 64 % 64), .int .u8 (128 + n % 64)] 5)) = .ok (.string (B (([224 + n / 4096, 128 + n / 64 % 64, 128 + n % 64] : List Int).map fun z => z.toNat.toUInt8))) (u.alloc (.cells #[.int .u8 (224 + n / 4096), .int .u8 (128 + n / 64 % 64), .int .u8 (128 + n % 64)] 5)) := fun u =>
    conv_new [224 + n / 4096, 128 + n / 64 % 64, 128 + n % 64] (by intro z hz; simp only [List.mem_cons, List.not_mem_nil, or_false] at hz; omega) 3 rfl _ rfl _ u rfl
  rw [← HEN.out] at cv
  go_enter Tryd.func56, Tryd.ntmps56
  go_wp2_with fail
  go_ret
  exact ⟨rfl, (Below.refl _ _).alloc (Nat.le_refl _) _⟩
set_option maxRecDepth 100000 in
set_option maxHeartbeats 2000000 in
theorem utf_four (n : Int) (w : World) (h0 : 65536 ≤ n) (h1 : n ≤ 1114111) : Calls Tryd.prog 56 #[.int .i64 n] w (OneB (Lib.encodeRune n) w) := by
  have a1 := i64_and63 n
  have a2 := i64_and63 (n / 64)
  have a3 := i64_and63 (n / 4096)
  have HEN : Hid (Lib.encodeRune n = ([240 + n / 262144, 128 + n / 4096 % 64, 128 + n / 64 % 64, 128 + n % 64] : List Int).map fun z => z.toNat.toUInt8) := Lib.hid (by unfold Lib.encodeRune; rw [Lib.encodeRuneZ_four h0 h1])
  have cv : ∀ u : World, (convert 38 9 (.slice (some ⟨u.heap.size, 0, none⟩) 4 4)).run Tryd.prog (u.alloc (.cells #[.int .u8 (240 + n / 262144), .int .u8 (128 + n / 4096 % 64), .int .u8 (128 + n / 64 % 64), .int .u8 (128 + n % 64)] 5)) = .ok (.string (B (([240 + n / 262144, 128 + n / 4096 % 64, 128 + n / 64 % 64, 128 + n % 64] : List Int).map fun z => z.toNat.toUInt8))) (u.alloc (.cells #[.int .u8 (240 + n / 262144), .int .u8 (128 + n / 4096 % 64), .int .u8 (128 + n / 64 % 64), .int .u8 (128 + n % 64)] 5)) := fun u =>
    conv_new [240 + n / 262144, 128 + n / 4096 % 64, 128 + n / 64 % 64, 128 + n % 64] (by intro z hz; simp only [List.mem_cons, List.not_mem_nil, or_false] at hz; omega) 4 rfl _ rfl _ u rfl
  rw [← HEN.out] at cv
  go_enter Tryd.func56, Tryd.ntmps56
  go_wp2_with fail
  go_ret
  exact ⟨rfl, (Below.refl _ _).alloc (Nat.le_refl _) _⟩
theorem utf_any (n : Int) (w : World) (h : Lib.validRune n = true) : Calls Tryd.prog 56 #[.int .i64 n] w (OneB (Lib.encodeRune n) w) := by
  unfold Lib.validRune at h
  have := of_decide_eq_true h
  by_cases h1 : n ≤ 127
  · exact utf_one n w (by omega) h1
  by_cases h2 : n ≤ 2047
  · exact utf_two n w (by omega) h2
  by_cases h3 : n ≤ 65535
  · exact utf_three n w (by omega) h3 (by omega)
  · exact utf_four n w (by omega) (by omega)
end Go.Proofs.YtbmmbaagcglomaaDoor.tok
