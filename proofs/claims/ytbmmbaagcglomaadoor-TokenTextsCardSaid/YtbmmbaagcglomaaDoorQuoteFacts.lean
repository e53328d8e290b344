/-
  Bytes written as escapes are said again (plain facts on lists of bytes).
-/
import Derived.Test.YtbmmbaagcglomaaDoorRune
namespace Go.Proofs.YtbmmbaagcglomaaDoor.tok
open Go.RowKit

/-- The sign of a digit. -/
def hx (n : Nat) : UInt8 := if n < 10 then UInt8.ofNat (48 + n) else UInt8.ofNat (87 + n)
/-- A byte as an escape: by three digits of the base 8, or by two of the base 16. -/
def escL (oct : Bool) (c : UInt8) : List UInt8 := if oct then [92, hx (c.toNat / 64), hx (c.toNat / 8 % 8), hx (c.toNat % 8)] else [92, 120, hx (c.toNat / 16), hx (c.toNat % 16)]
theorem escL_length (o : Bool) (c : UInt8) : (escL o c).length = 4 := by cases o <;> rfl
def allB (p : UInt8 → Bool) : Prop := ∀ k : Fin 256, p (UInt8.ofNat k.val) = true
theorem of_all {p : UInt8 → Bool} (h : allB p) (c : UInt8) : p c = true := by
  have := h ⟨c.toNat, UInt8.toNat_lt c⟩
  simpa using this
theorem val_hex (c : UInt8) : [hx (c.toNat / 16), hx (c.toNat % 16)].foldl (nStep 16) (some 0) = some (c.toNat : Int) := by
  have : allB (fun c => [hx (c.toNat / 16), hx (c.toNat % 16)].foldl (nStep 16) (some 0) == some (c.toNat : Int)) := by unfold allB; decide +kernel
  simpa using of_all this c
theorem val_oct (c : UInt8) : [hx (c.toNat / 64), hx (c.toNat / 8 % 8), hx (c.toNat % 8)].foldl (nStep 8) (some 0) = some (c.toNat : Int) := by
  have : allB (fun c => [hx (c.toNat / 64), hx (c.toNat / 8 % 8), hx (c.toNat % 8)].foldl (nStep 8) (some 0) == some (c.toNat : Int)) := by unfold allB; decide +kernel
  simpa using of_all this c
def octs : List UInt8 := [48, 49, 50, 51, 52, 53, 54, 55]
theorem oct_first (c : UInt8) : octs.contains (hx (c.toNat / 64)) = true := by
  have : allB (fun c => octs.contains (hx (c.toNat / 64))) := by unfold allB; decide +kernel
  exact of_all this c
theorem rune_said (o : Bool) (c : UInt8) : runeOf ([39] ++ escL o c ++ [39]) = ((c.toNat : Int), 0, 0) := by
  have : allB (fun c => (runeOf ([39] ++ escL true c ++ [39]) == ((c.toNat : Int), (0 : Int), (0 : Nat))) && (runeOf ([39] ++ escL false c ++ [39]) == ((c.toNat : Int), (0 : Int), (0 : Nat)))) := by unfold allB; decide +kernel
  have := of_all this c
  simp only [Bool.and_eq_true, beq_iff_eq] at this
  cases o with
  | true => exact this.1
  | false => exact this.2
theorem num_at {pre y post : List UInt8} {base v : Int} (h : y.foldl (nStep base) (some 0) = some v) : numAt (pre ++ (y ++ post)) pre.length y.length base = some v := by
  unfold numAt
  rw [if_pos (by simp)]
  unfold nTo
  have e : (pre ++ (y ++ post)).drop pre.length = y ++ post := by simp
  rw [e]
  have e2 : (y ++ post).take y.length = y := by simp
  rw [e2]
  exact h
theorem num_at' {l pre y post : List UInt8} {n m : Nat} {base v : Int} (hl : l = pre ++ (y ++ post)) (hn : n = pre.length) (hm : m = y.length) (h : y.foldl (nStep base) (some 0) = some v) : numAt l n m base = some v := by
  subst hl hn hm
  exact num_at h
/-- An escape that was written so is read so, wherever it stands. -/
theorem esc_said (o : Bool) (c q : UInt8) (pre post : List UInt8) : escV (pre ++ (escL o c ++ post)) pre.length q = ((c.toNat : Int), false, 4) := by
  have hc : (c.toNat : Int) ≤ 255 := by have := UInt8.toNat_lt c; omega
  cases o with
  | false =>
    have h1 : (pre ++ (escL false c ++ post))[pre.length + 1]? = some 120 := by
      rw [List.getElem?_append_right (by omega), show pre.length + 1 - pre.length = 1 by omega]; rfl
    have hn := num_at' (l := pre ++ (escL false c ++ post)) (n := pre.length + 2) (m := 2) (pre := pre ++ [92, 120]) (y := [hx (c.toNat / 16), hx (c.toNat % 16)]) (post := post) (by simp [escL]) (by simp) rfl (val_hex c)
    rw [escV_some h1, if_pos rfl, byteE, hn]
    simp only []
    rw [if_neg (by omega)]
  | true =>
    have h1 : (pre ++ (escL true c ++ post))[pre.length + 1]? = some (hx (c.toNat / 64)) := by
      rw [List.getElem?_append_right (by omega), show pre.length + 1 - pre.length = 1 by omega]; rfl
    have ho := oct_first c
    rw [escV_some h1]
    have hy : byteE (pre ++ (escL true c ++ post)) pre.length 1 3 8 = ((c.toNat : Int), false, 4) := by
      have hn := num_at' (l := pre ++ (escL true c ++ post)) (n := pre.length + 1) (m := 3) (pre := pre ++ [92]) (y := [hx (c.toNat / 64), hx (c.toNat / 8 % 8), hx (c.toNat % 8)]) (post := post) (by simp [escL]) (by simp) rfl (val_oct c)
      rw [byteE, hn]
      simp only []
      rw [if_neg (by omega)]
    rw [hy]
    simp only [octs, List.contains_cons, List.contains_nil, Bool.or_false, Bool.or_eq_true, beq_iff_eq] at ho
    have n1 : hx (c.toNat / 64) ≠ 120 := by rcases ho with h | h | h | h | h | h | h | h <;> rw [h] <;> decide
    have n2 : hx (c.toNat / 64) ≠ 117 := by rcases ho with h | h | h | h | h | h | h | h <;> rw [h] <;> decide
    have n3 : hx (c.toNat / 64) ≠ 85 := by rcases ho with h | h | h | h | h | h | h | h <;> rw [h] <;> decide
    rw [if_neg n1, if_neg n2, if_neg n3, if_pos ho]
theorem escB_byte (c : UInt8) (n : Nat) : escB ((c.toNat : Int), false, n) = [c] := by
  unfold escB
  rw [if_neg (by simp)]
  simp
def escs (l : List (UInt8 × Bool)) : List UInt8 := l.flatMap fun x => escL x.2 x.1
theorem uq_escs : ∀ (l : List (UInt8 × Bool)) (pre post acc : List UInt8), uqAt (pre ++ (escs l ++ post)) pre.length acc = uqAt (pre ++ (escs l ++ post)) (pre.length + (escs l).length) (acc ++ l.map Prod.fst) := by
  intro l
  induction l with
  | nil => intro pre post acc; simp [escs]
  | cons x l ih =>
    intro pre post acc
    obtain ⟨c, o⟩ := x
    have e : pre ++ (escs ((c, o) :: l) ++ post) = pre ++ (escL o c ++ (escs l ++ post)) := by simp [escs]
    have h4 : (escs ((c, o) :: l)).length = 4 + (escs l).length := by simp [escs, escL_length]
    rw [h4]
    have hs := esc_said o c 34 pre (escs l ++ post)
    have hlt : pre.length < (pre ++ (escs ((c, o) :: l) ++ post)).length := by simp [escs, escL_length]; omega
    have h92 : (pre ++ (escs ((c, o) :: l) ++ post))[pre.length] = 92 := by
      have : (pre ++ (escs ((c, o) :: l) ++ post))[pre.length]? = some 92 := by
        rw [e, List.getElem?_append_right (Nat.le_refl _), Nat.sub_self]
        cases o <;> rfl
      exact (List.getElem?_eq_some_iff.1 this).2
    rw [uqAt_step hlt, if_pos h92, e, hs]
    simp only []
    rw [if_neg (by omega), escB_byte]
    have e2 : pre ++ (escL o c ++ (escs l ++ post)) = (pre ++ escL o c) ++ (escs l ++ post) := by simp
    have h5 : (pre ++ escL o c).length = pre.length + 4 := by simp [escL_length]
    rw [e2, ← h5, ih (pre ++ escL o c) post (acc ++ [c]), h5]
    congr 1
    · omega
    · simp
theorem unq_said (l : List (UInt8 × Bool)) : unqOf ([34] ++ (escs l ++ [34])) = (l.map Prod.fst, 0, 0) := by
  have h1 : Lib.hasPrefix ([34] ++ (escs l ++ [34])) [96] = false := rfl
  have h2 : Lib.hasPrefix ([34] ++ (escs l ++ [34])) [34] = true := by simp [Lib.hasPrefix]
  unfold unqOf
  rw [if_neg (by rw [h1]; simp), if_pos h2]
  have := uq_escs l [34] [34] []
  rw [show ([34] : List UInt8).length = 1 from rfl] at this
  rw [this]
  have hlt : 1 + (escs l).length < ([34] ++ (escs l ++ [34])).length := by simp; omega
  have h34 : ([34] ++ (escs l ++ [34]))[1 + (escs l).length] = 34 := by
    have : ([34] ++ (escs l ++ [34]))[1 + (escs l).length]? = some 34 := by
      rw [List.getElem?_append_right (by simp), show 1 + (escs l).length - ([34] : List UInt8).length = (escs l).length by simp, List.getElem?_append_right (Nat.le_refl _), Nat.sub_self]; rfl
    exact (List.getElem?_eq_some_iff.1 this).2
  rw [uqAt_step hlt, if_neg (by rw [h34]; decide), if_pos h34, if_pos (by simp; omega)]
  simp
theorem unq_open (l : List (UInt8 × Bool)) : unqOf ([34] ++ escs l) = ([], 106, 0) := by
  have h1 : Lib.hasPrefix ([34] ++ escs l) [96] = false := rfl
  have h2 : Lib.hasPrefix ([34] ++ escs l) [34] = true := by simp [Lib.hasPrefix]
  unfold unqOf
  rw [if_neg (by rw [h1]; simp), if_pos h2]
  have := uq_escs l [34] [] []
  rw [List.append_nil, show ([34] : List UInt8).length = 1 from rfl] at this
  rw [this, uqAt_past (by simp; omega)]
theorem index_end : ∀ (r : List UInt8), (∀ c ∈ r, c ≠ 96) → Lib.indexByte (r ++ [96]) 96 = (r.length : Int) ∧ Lib.indexByte r 96 = -1 := by
  intro r
  induction r with
  | nil => intro _; exact ⟨by decide, rfl⟩
  | cons c r ih =>
    intro h
    obtain ⟨i1, i2⟩ := ih (fun x hx => h x (by simp [hx]))
    have hc : (c == 96) = false := by simpa using h c (by simp)
    constructor
    · show Lib.indexByte (c :: (r ++ [96])) 96 = _
      unfold Lib.indexByte
      rw [hc, i1]
      have : ((r.length : Int) == -1) = false := beq_eq_false_iff_ne.2 (by omega)
      simp [this]
    · unfold Lib.indexByte
      rw [hc, i2]
      rfl
theorem raw_said (r : List UInt8) (h : ∀ c ∈ r, c ≠ 96) : unqOf ([96] ++ (r ++ [96])) = (noCR r, 0, 0) := by
  have h1 : Lib.hasPrefix ([96] ++ (r ++ [96])) [96] = true := by simp [Lib.hasPrefix]
  unfold unqOf
  rw [if_pos h1]
  unfold rawOf
  have e : ([96] ++ (r ++ [96])).drop 1 = r ++ [96] := rfl
  rw [e, (index_end r h).1, if_pos ⟨by omega, by simp⟩]
  simp
theorem raw_open (r : List UInt8) (h : ∀ c ∈ r, c ≠ 96) : unqOf ([96] ++ r) = ([], 106, 0) := by
  have h1 : Lib.hasPrefix ([96] ++ r) [96] = true := by simp [Lib.hasPrefix]
  unfold unqOf
  rw [if_pos h1]
  unfold rawOf
  have e : ([96] ++ r).drop 1 = r := rfl
  rw [e, (index_end r h).2, if_neg (by omega)]
end Go.Proofs.YtbmmbaagcglomaaDoor.tok
