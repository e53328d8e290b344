/-
  Each question at a buffer and at the reference with the same text: one answer.
-/
import Derived.Test.YteocdcknfhlfgaaPair
import Derived.Test.YteocdcknfhlfgaaPieces
namespace Go.Proofs.Yteocdcknfhlfgaa.buf
open Go.RowKit

/-- One answer of both. -/
def One (g h : Nat) (T : List UInt8) (s : ByteArray) (F G : Nat) (xs : List Value) (v : Value) : Prop :=
  (∀ W, BufAt W g T → Calls Try.prog F (Array.mk (.pointer (some ⟨g, 0, none⟩) :: xs)) W fun e w' => e = .returned v ∧ Still g T W w') ∧
  (∀ W, RefAt W h s → Calls Try.prog G (Array.mk (.pointer (some ⟨h, 0, none⟩) :: xs)) W fun e w' => e = .returned v ∧ Below W.heap.size W w')

theorem still_refl {g : Nat} {T : List UInt8} {W : World} (h : BufAt W g T) : Still g T W W := ⟨h, Save.refl _ _ _⟩

theorem inLine_one {T : List UInt8} {p l l' : Nat} (a : InLine T p l) (b : InLine T p l') : l = l' := by
  obtain ⟨x1, x2, x3⟩ := a
  obtain ⟨y1, y2, y3⟩ := b
  exact line_unique (begins_sorted T) x1 y1 x2 x3 y2 y3

theorem inLine_any (T : List UInt8) (p : Nat) : ∃ l, InLine T p l := ⟨_, (hit_any T p).line⟩

section
variable (g h : Nat) (T : List UInt8) (s : ByteArray) (hs : s.data.toList = T) (hT : T.length ≤ 16384)
include hs hT
theorem both_size : s.size = T.length ∧ s.size ≤ 16384 := by
  have := size_data s
  rw [hs] at this
  omega

theorem both_piece (n m : Int) : ∃ (x : ByteArray) (c : Int), One g h T s 8 32 [.int .i64 n, .int .i64 m] (.tuple #[.string x, .int .i64 c]) := by
  obtain ⟨hsz, hle⟩ := both_size T s hs hT
  cases hi : inB T.length n m with
  | false =>
    refine ⟨⟨#[]⟩, 10, fun W hB => ?_, fun W hR => ?_⟩
    · exact (piece_out g T n m W hB hi).mono fun e w' ⟨a, b⟩ => ⟨a, b ▸ still_refl hB⟩
    · exact (refPiece_out h s n m W hR (by rw [hsz]; exact hi)).mono fun e w' ⟨a, b⟩ => ⟨a, b ▸ Below.refl _ _⟩
  | true =>
    have hh := of_decide_eq_true hi
    obtain ⟨a, rfl⟩ := Int.eq_ofNat_of_zero_le (show 0 ≤ n by omega)
    obtain ⟨b, rfl⟩ := Int.eq_ofNat_of_zero_le (show 0 ≤ m by omega)
    have he : (⟨((T.take b).drop a).toArray⟩ : ByteArray) = s.extract a b := by
      refine same_text ?_
      rw [← hs]
      simp [List.drop_take]
    refine ⟨s.extract a b, 0, fun W hB => ?_, fun W hR => ?_⟩
    · exact (piece_ok g T a b W hB (by omega) (by omega)).mono fun e w' ⟨x, y⟩ => ⟨by rw [x, he], hB.below y, Save.of y⟩
    · exact (refPiece_ok h s a b W hR (by omega) (by omega)).mono fun e w' ⟨x, y⟩ => ⟨x, y ▸ Below.refl _ _⟩

theorem both_line (n : Int) : ∃ a b c : Int, One g h T s 10 33 [.int .i64 n] (.tuple #[.agg #[.int .i64 a, .int .i64 b], .int .i64 c]) := by
  obtain ⟨hsz, hle⟩ := both_size T s hs hT
  by_cases hn : n < 0 ∨ ((begins T).length : Int) ≤ n
  · refine ⟨0, 0, 10, fun W hB => line_out g T n W hB hn, fun W hR => refLine_out h s n W hR hle (by rw [hs]; exact hn)⟩
  · obtain ⟨k, rfl⟩ := Int.eq_ofNat_of_zero_le (show 0 ≤ n by omega)
    have hk : k < (begins T).length := by omega
    subst hs
    exact ⟨_, _, 0, fun W hB => line_ok g _ k W hB hk, fun W hR => refLine_ok h s k W hR hle hk⟩

theorem both_at (n c : Int) : ∃ a b : Int, One g h T s 21 35 [.int .i64 n, .int .i64 c] (.tuple #[.int .i64 a, .int .i64 b]) := by
  obtain ⟨hsz, hle⟩ := both_size T s hs hT
  by_cases hn : n < 0 ∨ ((begins T).length : Int) ≤ n
  · refine ⟨0, 10, fun W hB => at_out g T n c W hB hn, fun W hR => refAt_out h s n c W hR hle (by rw [hs]; exact hn)⟩
  · obtain ⟨k, rfl⟩ := Int.eq_ofNat_of_zero_le (show 0 ≤ n by omega)
    have hk : k < (begins T).length := by omega
    subst hs
    by_cases hc : 0 ≤ c ∧ c ≤ (lineTo s.data.toList k : Int) - ((begins s.data.toList)[k] : Nat)
    · refine ⟨_, 0, fun W hB => at_ok g _ k c W hB hk hc.1 hc.2, fun W hR => ?_⟩
      refine (refAt_ok h s k c W hR hle hk).mono fun e w' ⟨x, y⟩ => ⟨?_, y⟩
      rw [x, if_pos hc]
    · refine ⟨0, 10, fun W hB => at_col g _ k c W hB hk (by omega), fun W hR => ?_⟩
      refine (refAt_ok h s k c W hR hle hk).mono fun e w' ⟨x, y⟩ => ⟨?_, y⟩
      rw [x, if_neg hc]

theorem both_place (n : Int) : ∃ a b c : Int, One g h T s 20 34 [.int .i64 n] (.tuple #[.int .i64 a, .int .i64 b, .int .i64 c]) := by
  obtain ⟨hsz, hle⟩ := both_size T s hs hT
  by_cases hn : n < 0 ∨ (T.length : Int) < n
  · refine ⟨0, 0, 10, fun W hB => ?_, fun W hR => ?_⟩
    · exact (place_out g T n W hB hn).mono fun e w' ⟨a, b⟩ => ⟨a, b ▸ still_refl hB⟩
    · exact (refPlace_out h s n W hR (by rw [hsz]; exact hn)).mono fun e w' ⟨a, b⟩ => ⟨a, b ▸ Below.refl _ _⟩
  · obtain ⟨p, rfl⟩ := Int.eq_ofNat_of_zero_le (show 0 ≤ n by omega)
    obtain ⟨l, hl⟩ := inLine_any T p
    obtain ⟨hlt, _⟩ := id hl
    obtain ⟨F, hF⟩ : ∃ F, (begins T)[l]? = some F := ⟨_, List.getElem?_eq_getElem hlt⟩
    refine ⟨l, (p : Int) - (F : Int), 0, fun W hB => ?_, fun W hR => ?_⟩
    · refine (place_ok g T p W hB (by omega)).mono ?_
      rintro e w' ⟨⟨l2, F2, k1, k2, rfl⟩, k3⟩
      obtain rfl := inLine_one hl k1
      rw [hF] at k2
      cases k2
      exact ⟨rfl, k3⟩
    · refine (refPlace_ok h s p W hR hle (by omega)).mono ?_
      rintro e w' ⟨⟨l2, F2, k1, k2, rfl⟩, rfl⟩
      rw [hs] at k1 k2
      obtain rfl := inLine_one hl k1
      rw [hF] at k2
      cases k2
      exact ⟨rfl, Below.refl _ _⟩
end
end Go.Proofs.Yteocdcknfhlfgaa.buf
