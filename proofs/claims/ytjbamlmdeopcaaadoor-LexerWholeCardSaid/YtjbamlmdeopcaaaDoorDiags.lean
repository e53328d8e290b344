/-
  Plain: the list of what is wrong in a text, place by place.
-/
import Derived.Test.YtjbamlmdeopcaaaDoorSmall
import Derived.Lib.RuneCountTail
import Derived.Shelf.Unicode.DecodeSlow
namespace Go.Proofs.YtjbamlmdeopcaaaDoor.dec
open Go.RowKit Go.Lib

def runeAt (s : ByteArray) (i : Nat) : Nat := (Utf8.decode s i).1
def wideAt (s : ByteArray) (i : Nat) : Nat := (Utf8.decode s i).2
def codeAt (s : ByteArray) (i : Nat) : Int := faultZ (runeAt s i) (wideAt s i) i

structure Dg where
  code : Int
  start : Nat
  stop : Nat

def headOf (s : ByteArray) (i : Nat) : List Dg := if codeAt s i = 0 then [] else [⟨codeAt s i, i, i + wideAt s i⟩]
def rest (s : ByteArray) : Nat → Nat → List Dg
  | 0, _ => []
  | f + 1, i => if i < s.size then headOf s i ++ rest s f (i + wideAt s i) else []
def diags (s : ByteArray) (i : Nat) : List Dg := rest s (s.size - i) i

theorem wide_pos (s : ByteArray) (i : Nat) : 1 ≤ wideAt s i := width_pos s i
theorem rest_fuel (s : ByteArray) : ∀ (f g i : Nat), s.size - i ≤ f → s.size - i ≤ g → rest s f i = rest s g i := by
  intro f
  induction f with
  | zero =>
    intro g i h _
    cases g with
    | zero => rfl
    | succ g => simp only [rest]; rw [if_neg (by omega)]
  | succ f ih =>
    intro g i h hg
    cases g with
    | zero => simp only [rest]; rw [if_neg (by omega)]
    | succ g =>
      have := wide_pos s i
      simp only [rest]
      by_cases c : i < s.size
      · rw [if_pos c, if_pos c, ih g (i + wideAt s i) (by omega) (by omega)]
      · rw [if_neg c, if_neg c]
theorem diags_end (s : ByteArray) (i : Nat) (h : ¬ i < s.size) : diags s i = [] := by
  unfold diags
  rw [show s.size - i = 0 by omega]
  rfl
theorem diags_step (s : ByteArray) (i : Nat) (h : i < s.size) : diags s i = headOf s i ++ diags s (i + wideAt s i) := by
  unfold diags
  have := wide_pos s i
  obtain ⟨f, hf⟩ : ∃ f, s.size - i = f + 1 := ⟨s.size - i - 1, by omega⟩
  rw [hf]
  simp only [rest]
  rw [if_pos h, rest_fuel s f (s.size - (i + wideAt s i)) _ (by omega) (by omega)]
theorem wide_le (s : ByteArray) (i : Nat) (h : i < s.size) : i + wideAt s i ≤ s.size := by
  have e : wideAt s i = (decodeN (s.size - i) (s.get! i).toNat (s.get! (i + 1)).toNat (s.get! (i + 2)).toNat (s.get! (i + 3)).toNat).2 := by unfold wideAt; rw [decode_at]
  rw [e]
  unfold decodeN
  repeat' split
  all_goals (simp only; omega)
theorem rune_lt (s : ByteArray) (i : Nat) : runeAt s i ≤ 1114111 := rune_le s i

/-- The cells of such a list. -/
def cellsOf (l : List Dg) : List Value := l.flatMap fun d => [.int .i64 d.code, .int .i64 d.start, .int .i64 d.stop]
theorem cellsOf_append (a b : List Dg) : cellsOf (a ++ b) = cellsOf a ++ cellsOf b := by simp [cellsOf]
theorem cellsOf_length (l : List Dg) : (cellsOf l).length = l.length * 3 := by
  induction l with
  | nil => rfl
  | cons d l ih => simp only [cellsOf, List.flatMap_cons, List.length_append, List.length_cons, List.length_nil] at *; omega

/-- How far a walk through the text has come: what it has told, and what is still to be told. -/
structure Far (s : ByteArray) (i : Nat) (D : List Dg) : Prop where
  le : i ≤ s.size
  told : D ++ diags s i = diags s 0
  few : D.length ≤ i
theorem Far.zero (s : ByteArray) : Far s 0 [] := ⟨Nat.zero_le _, rfl, Nat.le_refl _⟩
theorem Far.none {s : ByteArray} {i : Nat} {D : List Dg} (h : Far s i D) (hi : i < s.size) (hc : codeAt s i = 0) : Far s (i + wideAt s i) D :=
  ⟨wide_le s i hi, by rw [← h.told, diags_step s i hi, headOf, if_pos hc]; rfl, by have := h.few; omega⟩
theorem Far.some {s : ByteArray} {i : Nat} {D : List Dg} (h : Far s i D) (hi : i < s.size) (hc : codeAt s i ≠ 0) : Far s (i + wideAt s i) (D ++ [⟨codeAt s i, i, i + wideAt s i⟩]) :=
  ⟨wide_le s i hi, by rw [← h.told, diags_step s i hi, headOf, if_neg hc]; simp, by have := h.few; have := wide_pos s i; simp; omega⟩
theorem Far.done {s : ByteArray} {i : Nat} {D : List Dg} (h : Far s i D) (hi : ¬ i < s.size) : D = diags s 0 := by
  have := h.told
  rw [diags_end s i hi, List.append_nil] at this
  exact this

theorem codeAt_bad {s : ByteArray} {i : Nat} (h : widthS s i = 0) : codeAt s i = 101 ∧ wideAt s i = 1 := by
  rw [widthS_eq] at h
  by_cases c : Utf8.decode s i = (65533, 1)
  · have h1 : runeAt s i = 65533 := by unfold runeAt; rw [c]
    have h2 : wideAt s i = 1 := by unfold wideAt; rw [c]
    exact ⟨by unfold codeAt faultZ; rw [if_pos (by omega)], h2⟩
  · rw [if_neg c] at h
    have := wide_pos s i
    unfold wideAt at this
    omega
theorem wide_good {s : ByteArray} {i : Nat} (h : widthS s i ≠ 0) : wideAt s i = widthS s i ∧ ¬ (runeAt s i = 65533 ∧ wideAt s i = 1) := by
  rw [widthS_eq] at h ⊢
  by_cases c : Utf8.decode s i = (65533, 1)
  · rw [if_pos c] at h; omega
  · rw [if_neg c] at h ⊢
    exact ⟨rfl, fun ⟨a, b⟩ => c (Prod.ext a b)⟩

/-- the decode at a place, by its bytes -/
theorem decode_bytes (s : ByteArray) (i : Nat) : Utf8.decode s i = decodeN (s.size - i) (s.get! i).toNat (s.get! (i + 1)).toNat (s.get! (i + 2)).toNat (s.get! (i + 3)).toNat := decode_at s i
theorem nul_iff {s : ByteArray} {i : Nat} : runeAt s i = 0 ↔ (s.get! i).toNat = 0 := by
  unfold runeAt
  rw [decode_bytes]
  unfold decodeN
  constructor
  · intro h
    by_cases a : (s.get! i).toNat < 128
    · rw [if_pos a] at h; exact h
    · rw [if_neg a] at h
      exfalso
      revert h
      repeat' split
      all_goals (simp only; omega)
  · intro h
    rw [if_pos (by omega)]
    exact h
theorem mark_iff {s : ByteArray} {i : Nat} : runeAt s i = 65279 ↔ (2 < s.size - i ∧ (s.get! i).toNat = 239 ∧ (s.get! (i + 1)).toNat = 187 ∧ (s.get! (i + 2)).toNat = 191) := by
  unfold runeAt
  rw [decode_bytes]
  have h0 := byte_lt s i
  have h1 := byte_lt s (i + 1)
  have h2 := byte_lt s (i + 2)
  have h3 := byte_lt s (i + 3)
  generalize (s.get! i).toNat = b0 at *
  generalize (s.get! (i + 1)).toNat = b1 at *
  generalize (s.get! (i + 2)).toNat = b2 at *
  generalize (s.get! (i + 3)).toNat = b3 at *
  generalize s.size - i = n at *
  unfold decodeN
  constructor
  · intro h
    revert h
    repeat' split
    all_goals (simp only; omega)
  · rintro ⟨a, b, c, d⟩
    subst b; subst c; subst d
    rw [if_neg (by omega), if_neg (by omega), if_pos (by omega), if_pos (by omega)]
end Go.Proofs.YtjbamlmdeopcaaaDoor.dec
