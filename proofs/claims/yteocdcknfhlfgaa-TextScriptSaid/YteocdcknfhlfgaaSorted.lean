/-
  Plain: where lines begin, in order; which line a place stands in.
-/
import Derived.Test.YteocdcknfhlfgaaFeeds
namespace Go.Proofs.Yteocdcknfhlfgaa.buf
open Go.RowKit

theorem feeds_mem (T : List UInt8) : ∀ (i x : Nat), x ∈ feeds T i ↔ i < x ∧ T[x - 1 - i]? = some 10 := by
  induction T with
  | nil => intro i x; simp [feeds]
  | cons c r ih =>
    intro i x
    have key : x ∈ feeds r (i + 1) ↔ i + 1 < x ∧ (c :: r)[x - 1 - i]? = some 10 := by
      rw [ih (i + 1) x]
      constructor
      · rintro ⟨a, b⟩
        refine ⟨a, ?_⟩
        rw [show x - 1 - i = (x - 1 - (i + 1)) + 1 by omega, List.getElem?_cons_succ]
        exact b
      · rintro ⟨a, b⟩
        refine ⟨a, ?_⟩
        rw [show x - 1 - i = (x - 1 - (i + 1)) + 1 by omega, List.getElem?_cons_succ] at b
        exact b
    simp only [feeds]
    by_cases h : c = 10
    · rw [if_pos h, List.mem_cons, key]
      constructor
      · rintro (rfl | ⟨a, b⟩)
        · refine ⟨by omega, ?_⟩
          rw [show i + 1 - 1 - i = 0 by omega]
          simp [h]
        · exact ⟨by omega, b⟩
      · rintro ⟨a, b⟩
        by_cases e : x = i + 1
        · exact .inl e
        · exact .inr ⟨by omega, b⟩
    · rw [if_neg h, key]
      constructor
      · rintro ⟨a, b⟩; exact ⟨by omega, b⟩
      · rintro ⟨a, b⟩
        refine ⟨?_, b⟩
        rcases Nat.lt_or_ge (i + 1) x with g | g
        · exact g
        · rw [show x - 1 - i = 0 by omega] at b
          simp at b
          exact absurd b h
theorem feeds_sorted (T : List UInt8) : ∀ i : Nat, (feeds T i).Pairwise (· < ·) := by
  induction T with
  | nil => intro i; simp [feeds]
  | cons c r ih =>
    intro i
    simp only [feeds]
    split
    · refine List.Pairwise.cons ?_ (ih (i + 1))
      intro x hx
      have := ((feeds_mem r (i + 1) x).1 hx).1
      omega
    · exact ih (i + 1)
theorem begins_sorted (T : List UInt8) : (begins T).Pairwise (· < ·) := by
  refine List.Pairwise.cons ?_ (feeds_sorted T 0)
  intro x hx
  exact ((feeds_mem T 0 x).1 hx).1
theorem begins_mem (T : List UInt8) (x : Nat) : x ∈ begins T ↔ x = 0 ∨ (0 < x ∧ T[x - 1]? = some 10) := by
  unfold begins
  rw [List.mem_cons, feeds_mem]
  simp
theorem begins_le (T : List UInt8) (x : Nat) (h : x ∈ begins T) : x ≤ T.length := by
  rcases (begins_mem T x).1 h with rfl | ⟨a, b⟩
  · omega
  · have := (List.getElem?_eq_some_iff.1 b).1
    omega
theorem begins_pos (T : List UInt8) : 0 < (begins T).length := by simp [begins]
theorem begins_zero (T : List UInt8) : (begins T)[0]'(begins_pos T) = 0 := rfl

section
variable {B : List Nat} (hs : B.Pairwise (· < ·))
include hs
theorem sorted_lt {i j : Nat} (hi : i < B.length) (hj : j < B.length) (h : i < j) : B[i] < B[j] := List.pairwise_iff_getElem.1 hs i j hi hj h
theorem sorted_next {n x : Nat} (hn : n + 1 < B.length) (hx : x ∈ B) (h : B[n] < x) : B[n + 1] ≤ x := by
  obtain ⟨j, hj, rfl⟩ := List.getElem_of_mem hx
  rcases Nat.lt_or_ge j (n + 1) with g | g
  · rcases Nat.lt_or_ge j n with g' | g'
    · have := sorted_lt hs hj (by omega) g'; omega
    · obtain rfl : j = n := by omega
      omega
  · rcases Nat.lt_or_ge (n + 1) j with g' | g'
    · have := sorted_lt hs (by omega) hj g'; omega
    · obtain rfl : j = n + 1 := by omega
      omega
theorem sorted_last {n x : Nat} (hn : n < B.length) (hl : ¬ n + 1 < B.length) (hx : x ∈ B) : x ≤ B[n] := by
  obtain ⟨j, hj, rfl⟩ := List.getElem_of_mem hx
  rcases Nat.lt_or_ge j n with g | g
  · have := sorted_lt hs hj hn g; omega
  · obtain rfl : j = n := by omega
    omega
/-- One place stands in one line. -/
theorem line_unique {i j x : Nat} (hi : i < B.length) (hj : j < B.length) (a : B[i] ≤ x) (b : ∀ h : i + 1 < B.length, x < B[i + 1]) (c : B[j] ≤ x) (d : ∀ h : j + 1 < B.length, x < B[j + 1]) : i = j := by
  rcases Nat.lt_or_ge i j with g | g
  · have h1 := b (by omega)
    rcases Nat.lt_or_ge (i + 1) j with g' | g'
    · have := sorted_lt hs (by omega) hj g'; omega
    · obtain rfl : j = i + 1 := by omega
      omega
  · rcases Nat.lt_or_ge j i with g' | g'
    · have h1 := d (by omega)
      rcases Nat.lt_or_ge (j + 1) i with g'' | g''
      · have := sorted_lt hs (by omega) hi g''; omega
      · obtain rfl : i = j + 1 := by omega
        omega
    · omega
end

/-- How many are below a place: those ahead of it in the order. -/
theorem count_below (x : Nat) : ∀ {B : List Nat}, B.Pairwise (· < ·) → ∀ j (hj : j < B.length), (B[j] < x ↔ j < B.countP (· < x)) := by
  intro B
  induction B with
  | nil => intro _ j hj; simp at hj
  | cons b r ih =>
    intro hs
    obtain ⟨h1, h2⟩ := List.pairwise_cons.1 hs
    intro j hj
    by_cases hb : b < x
    · rw [List.countP_cons_of_pos (by simpa using hb)]
      cases j with
      | zero => simp [hb]
      | succ j =>
        have := ih h2 j (by simpa using hj)
        simp only [List.getElem_cons_succ]
        omega
    · have hz : (b :: r).countP (· < x) = 0 := by
        rw [List.countP_eq_zero]
        intro y hy
        rcases List.mem_cons.1 hy with rfl | hy
        · simpa using hb
        · have := h1 y hy; simp; omega
      rw [hz]
      cases j with
      | zero => simp; omega
      | succ j =>
        have := h1 (r[j]'(by simpa using hj)) (List.getElem_mem _)
        simp only [List.getElem_cons_succ]
        omega

/-- A line's end: ahead of the next line's line feed, or the text's. -/
def lineTo (T : List UInt8) (n : Nat) : Nat := if h : n + 1 < (begins T).length then (begins T)[n + 1] - 1 else T.length
theorem lineTo_ge (T : List UInt8) (n : Nat) (hn : n < (begins T).length) : (begins T)[n] ≤ lineTo T n ∧ lineTo T n ≤ T.length := by
  unfold lineTo
  split
  · next h =>
    have h1 := sorted_lt (begins_sorted T) hn h (by omega)
    have h2 := begins_le T _ (List.getElem_mem h)
    omega
  · exact ⟨begins_le T _ (List.getElem_mem hn), Nat.le_refl _⟩
/-- Within a line stands no line feed. -/
theorem line_clean (T : List UInt8) (n i : Nat) (hn : n < (begins T).length) (h1 : (begins T)[n] ≤ i) (h2 : i < lineTo T n) : T[i]? ≠ some 10 := by
  intro h
  have hm : i + 1 ∈ begins T := (begins_mem T (i + 1)).2 (.inr ⟨by omega, by simpa using h⟩)
  unfold lineTo at h2
  split at h2
  · next g =>
    have := sorted_next (begins_sorted T) g hm (by omega)
    omega
  · next g =>
    have := sorted_last (begins_sorted T) hn g hm
    omega
/-- Behind a line that is not the last one stands its line feed. -/
theorem line_feed (T : List UInt8) (n : Nat) (h : n + 1 < (begins T).length) : T[lineTo T n]? = some 10 ∧ (begins T)[n + 1] = lineTo T n + 1 := by
  unfold lineTo
  rw [dif_pos h]
  rcases (begins_mem T _).1 (List.getElem_mem h) with e | ⟨a, b⟩
  · have := sorted_lt (begins_sorted T) (i := n) (by omega) h (by omega)
    omega
  · exact ⟨b, by omega⟩
theorem line_end (T : List UInt8) (n : Nat) (h : ¬ n + 1 < (begins T).length) : lineTo T n = T.length := by
  unfold lineTo
  rw [dif_neg h]
end Go.Proofs.Yteocdcknfhlfgaa.buf
