/-
  The contract of the reference's At.
-/
import Derived.Test.YteocdcknfhlfgaaRefAt
namespace Go.Proofs.Yteocdcknfhlfgaa.buf
open Go.RowKit

theorem RefAt.below {w w' : World} {h : Nat} {s : ByteArray} (k : RefAt w h s) (hb : Below w.heap.size w w') : RefAt w' h s := (hb.block h k.lt).trans k

set_option maxRecDepth 100000 in
set_option maxHeartbeats 1000000 in
theorem refAt_out (h : Nat) (s : ByteArray) (n c : Int) (w : World) (hR : RefAt w h s) (hs : s.size ≤ 16384) (hn : n < 0 ∨ ((begins s.data.toList).length : Int) ≤ n) :
    Calls Try.prog 35 #[.pointer (some ⟨h, 0, none⟩), .int .i64 n, .int .i64 c] w fun e w' => e = .returned (.tuple #[.int .i64 0, .int .i64 10]) ∧ Below w.heap.size w w' := by
  have HL := Lib.hid (refLine_out h s n w hR hs hn)
  clear hR hn
  go_enter Try.func35, Try.ntmps35
  go_wp2_with fail
  refine (HL.out).mono ?_
  rintro e w1 ⟨rfl, hb⟩
  have HB := Lib.hid hb
  clear hb
  go_wp2_with fail
  go_ret2
  exact ⟨rfl, HB.out.alloc HB.out.size _⟩

set_option maxRecDepth 100000 in
set_option maxHeartbeats 1000000 in
theorem refAt_ok (h : Nat) (s : ByteArray) (n : Nat) (c : Int) (w : World) (hR : RefAt w h s) (hs : s.size ≤ 16384) (hn : n < (begins s.data.toList).length) :
    Calls Try.prog 35 #[.pointer (some ⟨h, 0, none⟩), .int .i64 n, .int .i64 c] w fun e w' => e = .returned (.tuple (if 0 ≤ c ∧ c ≤ (lineTo s.data.toList n : Int) - ((begins s.data.toList)[n] : Nat) then #[.int .i64 (((begins s.data.toList)[n] : Nat) + c), .int .i64 0] else #[.int .i64 0, .int .i64 10])) ∧ Below w.heap.size w w' := by
  have HL := Lib.hid (refLine_ok h s n w hR hs hn)
  have hge := lineTo_ge s.data.toList n hn
  have hsd := size_data s
  obtain ⟨E, hE⟩ : ∃ E, lineTo s.data.toList n = E := ⟨_, rfl⟩
  obtain ⟨F, hF⟩ : ∃ F, (begins s.data.toList)[n] = F := ⟨_, rfl⟩
  rw [hE, hF] at hge
  rw [hE, hF] at HL
  rw [hE, hF]
  clear hR hn hE hF
  by_cases h0 : c < 0
  · have t1 : decide (c < 0) = true := decide_eq_true h0
    rw [if_neg (by omega)]
    go_enter Try.func35, Try.ntmps35
    go_wp2_with fail
    refine (HL.out).mono ?_
    rintro e w1 ⟨rfl, hb⟩
    have HB := Lib.hid hb
    clear hb
    go_wp2_with fail
    go_ret2
    exact ⟨rfl, HB.out.alloc HB.out.size _⟩
  · have t1 : decide (c < 0) = false := decide_eq_false h0
    by_cases h2 : (E : Int) - (F : Int) < c
    · have t2 : decide ((E : Int) - (F : Int) < c) = true := decide_eq_true h2
      rw [if_neg (by omega)]
      go_enter Try.func35, Try.ntmps35
      go_wp2_with fail
      refine (HL.out).mono ?_
      rintro e w1 ⟨rfl, hb⟩
      have HB := Lib.hid hb
      clear hb
      go_wp2_with fail
      go_ret2
      exact ⟨rfl, HB.out.alloc HB.out.size _⟩
    · have t2 : decide ((E : Int) - (F : Int) < c) = false := decide_eq_false h2
      rw [if_pos (by omega)]
      go_enter Try.func35, Try.ntmps35
      go_wp2_with fail
      refine (HL.out).mono ?_
      rintro e w1 ⟨rfl, hb⟩
      have HB := Lib.hid hb
      clear hb
      go_wp2_with fail
      go_ret2
      exact ⟨rfl, HB.out.alloc HB.out.size _⟩
end Go.Proofs.Yteocdcknfhlfgaa.buf
