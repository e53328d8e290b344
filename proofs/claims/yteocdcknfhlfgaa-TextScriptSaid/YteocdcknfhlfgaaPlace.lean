/-
  The contracts of Place, At, Piece.
-/
import Derived.Test.YteocdcknfhlfgaaLines
namespace Go.Proofs.Yteocdcknfhlfgaa.buf
open Go.RowKit

theorem Still.trans {g : Nat} {T : List UInt8} {a b c : World} (h : Still g T a b) (k : Still g T b c) : Still g T a c := ⟨k.1, h.2.trans (k.2.mono h.2.size)⟩
theorem Still.below {g : Nat} {T : List UInt8} {a b c : World} (h : Still g T a b) (k : Below b.heap.size b c) : Still g T a c := ⟨h.1.below k, h.2.trans (Save.of (k.mono h.2.size))⟩

/-! ### At -/
set_option maxRecDepth 100000 in
set_option maxHeartbeats 1000000 in
theorem at_out (g : Nat) (T : List UInt8) (n c : Int) (w : World) (h : BufAt w g T) (hn : n < 0 ∨ ((begins T).length : Int) ≤ n) :
    Calls Try.prog 21 #[.pointer (some ⟨g, 0, none⟩), .int .i64 n, .int .i64 c] w fun e w' => e = .returned (.tuple #[.int .i64 0, .int .i64 10]) ∧ Still g T w w' := by
  have H := Lib.hid h
  have HN := Lib.hid hn
  clear h hn
  go_enter Try.func21, Try.ntmps21
  go_wp2_with fail
  refine (line_out g T n _ H.out HN.out).mono ?_
  rintro e w1 ⟨rfl, hs⟩
  have HS := Lib.hid hs
  clear hs
  go_wp2_with fail
  go_ret2
  exact ⟨rfl, HS.out.below ((Below.refl _ _).alloc (Nat.le_refl _) _)⟩

set_option maxRecDepth 100000 in
set_option maxHeartbeats 1000000 in
theorem at_col (g : Nat) (T : List UInt8) (n : Nat) (c : Int) (w : World) (h : BufAt w g T) (hn : n < (begins T).length) (hc : c < 0 ∨ (lineTo T n : Int) - ((begins T)[n] : Nat) < c) :
    Calls Try.prog 21 #[.pointer (some ⟨g, 0, none⟩), .int .i64 n, .int .i64 c] w fun e w' => e = .returned (.tuple #[.int .i64 0, .int .i64 10]) ∧ Still g T w w' := by
  have hT := h.short
  have H := Lib.hid h
  have hge := lineTo_ge T n hn
  have HL := Lib.hid (fun u hu => line_ok g T n u hu hn)
  obtain ⟨E, hE⟩ : ∃ E, lineTo T n = E := ⟨_, rfl⟩
  obtain ⟨F, hF⟩ : ∃ F, (begins T)[n] = F := ⟨_, rfl⟩
  rw [hE, hF] at hge hc
  rw [hE, hF] at HL
  clear h hE hF hn
  by_cases h0 : c < 0
  · have t1 : decide (c < 0) = true := decide_eq_true h0
    clear hc
    go_enter Try.func21, Try.ntmps21
    go_wp2_with fail
    refine (HL.out _ H.out).mono ?_
    rintro e w1 ⟨rfl, hs⟩
    have HS := Lib.hid hs
    clear hs
    go_wp2_with fail
    go_ret2
    exact ⟨rfl, HS.out.below ((Below.refl _ _).alloc (Nat.le_refl _) _)⟩
  · have t1 : decide (c < 0) = false := decide_eq_false h0
    have t2 : decide ((E : Int) - (F : Int) < c) = true := decide_eq_true (by omega)
    clear hc
    go_enter Try.func21, Try.ntmps21
    go_wp2_with fail
    refine (HL.out _ H.out).mono ?_
    rintro e w1 ⟨rfl, hs⟩
    have HS := Lib.hid hs
    clear hs
    go_wp2_with fail
    go_ret2
    exact ⟨rfl, HS.out.below ((Below.refl _ _).alloc (Nat.le_refl _) _)⟩

set_option maxRecDepth 100000 in
set_option maxHeartbeats 1000000 in
theorem at_ok (g : Nat) (T : List UInt8) (n : Nat) (c : Int) (w : World) (h : BufAt w g T) (hn : n < (begins T).length) (h0 : 0 ≤ c) (hc : c ≤ (lineTo T n : Int) - ((begins T)[n] : Nat)) :
    Calls Try.prog 21 #[.pointer (some ⟨g, 0, none⟩), .int .i64 n, .int .i64 c] w fun e w' => e = .returned (.tuple #[.int .i64 (((begins T)[n] : Nat) + c), .int .i64 0]) ∧ Still g T w w' := by
  have hT := h.short
  have H := Lib.hid h
  have hge := lineTo_ge T n hn
  have HL := Lib.hid (fun u hu => line_ok g T n u hu hn)
  obtain ⟨E, hE⟩ : ∃ E, lineTo T n = E := ⟨_, rfl⟩
  obtain ⟨F, hF⟩ : ∃ F, (begins T)[n] = F := ⟨_, rfl⟩
  rw [hE, hF] at hge hc
  rw [hE, hF] at HL
  rw [hF]
  clear h hE hF hn
  have t1 : decide (c < 0) = false := decide_eq_false (by omega)
  have t2 : decide ((E : Int) - (F : Int) < c) = false := decide_eq_false (by omega)
  go_enter Try.func21, Try.ntmps21
  go_wp2_with fail
  refine (HL.out _ H.out).mono ?_
  rintro e w1 ⟨rfl, hs⟩
  have HS := Lib.hid hs
  clear hs
  go_wp2_with fail
  go_ret2
  exact ⟨rfl, HS.out.below ((Below.refl _ _).alloc (Nat.le_refl _) _)⟩

/-! ### Piece -/
set_option maxRecDepth 100000 in
set_option maxHeartbeats 1000000 in
theorem piece_out (g : Nat) (T : List UInt8) (a b : Int) (w : World) (h : BufAt w g T) (hi : inB T.length a b = false) :
    Calls Try.prog 8 #[.pointer (some ⟨g, 0, none⟩), .int .i64 a, .int .i64 b] w fun e w' => e = .returned (.tuple #[.string ⟨#[]⟩, .int .i64 10]) ∧ w = w' := by
  have H := Lib.hid h
  have HI := Lib.hid hi
  clear h hi
  go_enter Try.func8, Try.ntmps8
  go_wp2_with fail
  refine (has_any g T a b _ H.out).mono ?_
  rintro e w1 ⟨rfl, rfl⟩
  rw [HI.out]
  go_wp2_with fail
  go_ret2
  exact ⟨rfl, rfl⟩

set_option maxRecDepth 100000 in
set_option maxHeartbeats 1000000 in
theorem piece_ok (g : Nat) (T : List UInt8) (a b : Nat) (w : World) (h : BufAt w g T) (hab : a ≤ b) (hb : b ≤ T.length) :
    Calls Try.prog 8 #[.pointer (some ⟨g, 0, none⟩), .int .i64 a, .int .i64 b] w fun e w' => e = .returned (.tuple #[.string ⟨((T.take b).drop a).toArray⟩, .int .i64 0]) ∧ Below w.heap.size w w' := by
  have hT := h.short
  have H := Lib.hid h
  have HI := Lib.hid (show inB T.length a b = true from decide_eq_true ⟨by omega, by omega, by omega⟩)
  obtain ⟨pv, ps, d, p, h6, hv, hps, hpt, _, _⟩ := h
  obtain ⟨oa, cap, rfl⟩ := hv.slice
  have c0 := h6.cells.1
  have HV := Lib.hid hv
  have HPT := Lib.hid hpt
  clear h6 hv hpt
  go_enter Try.func8, Try.ntmps8
  go_wp2_with fail
  refine (has_any g T a b _ H.out).mono ?_
  rintro e w1 ⟨rfl, rfl⟩
  rw [HI.out]
  go_wp2_with fail
  refine (cut_row w.heap.size _ _ [] ps a b w (Nat.le_refl _) (Strs.nil _ _) (by simp) HV.out (fun k hk => (World.ownsRow.lt HV.out k hk).2) (by omega) hab (by rw [HPT.out]; omega) (by omega)).mono ?_
  rintro e w2 ⟨v2, c2, rfl, s2, t2, l2, m2⟩
  rw [HPT.out] at t2
  have ht2 : textOf c2 = (T.take b).drop a := t2
  obtain ⟨oa2, cap2, rfl⟩ := s2.slice
  have S2 := Lib.hid s2
  have T2 := Lib.hid ht2
  have M2 := Lib.hid m2
  have hl2 : c2.length ≤ 64 := by simp at l2; omega
  clear s2 t2 ht2 m2 l2
  go_wp2_with fail
  refine (concat_any w.heap.size _ c2 _ S2.out (by omega) (by rw [T2.out, List.length_drop, List.length_take]; omega)).mono ?_
  rintro e w3 ⟨rfl, b3⟩
  rw [T2.out]
  have B3 := Lib.hid b3
  clear b3
  go_wp2_with fail
  go_ret2
  exact ⟨rfl, M2.out.below.trans (B3.out.mono M2.out.below.size)⟩
end Go.Proofs.Yteocdcknfhlfgaa.buf
