/-
  The reference's Char says what UTF-8's decoding says.
-/
import Derived.Test.YtbmmbaagcglomaaDoorRefCharA
import Derived.Test.YtbmmbaagcglomaaDoorRune
namespace Go.Proofs.YtbmmbaagcglomaaDoor.tok
open Go.RowKit

def v2 (b0 b1 : Nat) : Nat := b0 % 32 * 64 + b1 % 64
def v3 (b0 b1 b2 : Nat) : Nat := b0 % 16 * 4096 + b1 % 64 * 64 + b2 % 64
def v4 (b0 b1 b2 b3 : Nat) : Nat := b0 % 8 * 262144 + b1 % 64 * 4096 + b2 % 64 * 64 + b3 % 64
def g2 (n b0 b1 : Nat) : Prop := 1 < n ∧ b0 / 32 = 6 ∧ b1 / 64 = 2 ∧ 128 ≤ v2 b0 b1
def g3 (n b0 b1 b2 : Nat) : Prop := 2 < n ∧ b0 / 16 = 14 ∧ b1 / 64 = 2 ∧ b2 / 64 = 2 ∧ 2048 ≤ v3 b0 b1 b2 ∧ (v3 b0 b1 b2 < 55296 ∨ 57343 < v3 b0 b1 b2)
def g4 (n b0 b1 b2 b3 : Nat) : Prop := 3 < n ∧ b0 / 8 = 30 ∧ b1 / 64 = 2 ∧ b2 / 64 = 2 ∧ b3 / 64 = 2 ∧ 65536 ≤ v4 b0 b1 b2 b3 ∧ v4 b0 b1 b2 b3 ≤ 1114111
def fin0 (d : Nat × Nat) : Nat × Nat := if d.1 = 65533 ∧ d.2 < 2 then (0, 0) else d
theorem dec2 {n b0 b1 b2 b3 : Nat} (h : 128 ≤ b0) (h255 : b0 ≤ 255) (g : g2 n b0 b1) : fin0 (Lib.decodeN n b0 b1 b2 b3) = (v2 b0 b1, 2) := by
  obtain ⟨a1, a2, a3, a4⟩ := g
  unfold Lib.decodeN
  unfold v2 at a4
  rw [if_neg (by omega), if_pos ⟨a2, a1, a3⟩, if_pos a4]
  exact if_neg (fun x => by have := x.2; simp at this)
theorem dec3 {n b0 b1 b2 b3 : Nat} (h : 128 ≤ b0) (h255 : b0 ≤ 255) (g : g3 n b0 b1 b2) : fin0 (Lib.decodeN n b0 b1 b2 b3) = (v3 b0 b1 b2, 3) := by
  obtain ⟨a1, a2, a3, a4, a5, a6⟩ := g
  unfold v3 at a5 a6
  unfold Lib.decodeN
  rw [if_neg (by omega), if_neg (by omega), if_pos ⟨a2, ⟨by omega, a3⟩, a1, a4⟩, if_pos ⟨a5, by omega⟩]
  exact if_neg (fun x => by have := x.2; simp at this)
theorem dec4 {n b0 b1 b2 b3 : Nat} (h : 128 ≤ b0) (h255 : b0 ≤ 255) (g : g4 n b0 b1 b2 b3) : fin0 (Lib.decodeN n b0 b1 b2 b3) = (v4 b0 b1 b2 b3, 4) := by
  obtain ⟨a1, a2, a3, a4, a5, a6, a7⟩ := g
  unfold v4 at a6 a7
  unfold Lib.decodeN
  rw [if_neg (by omega), if_neg (by omega), if_neg (by omega), if_pos ⟨a2, ⟨by omega, a3⟩, ⟨by omega, a4⟩, a1, a5⟩, if_pos ⟨a6, by omega⟩]
  exact if_neg (fun x => by have := x.2; simp at this)
theorem dec0 {n b0 b1 b2 b3 : Nat} (h : 128 ≤ b0) (_h255 : b0 ≤ 255) (n2 : ¬ g2 n b0 b1) (n3 : ¬ g3 n b0 b1 b2) (n4 : ¬ g4 n b0 b1 b2 b3) : fin0 (Lib.decodeN n b0 b1 b2 b3) = (0, 0) := by
  have none : fin0 (65533, 1) = (0, 0) := by unfold fin0; rw [if_pos ⟨rfl, by decide⟩]
  unfold Lib.decodeN
  rw [if_neg (by omega)]
  split
  · next x =>
    split
    · next y => exact absurd ⟨x.2.1, x.1, x.2.2, y⟩ n2
    · exact none
  · split
    · next x =>
      split
      · next y => exact absurd ⟨x.2.2.1, x.1, x.2.1.2, x.2.2.2, y.1, by unfold v3; omega⟩ n3
      · exact none
    · split
      · next x =>
        split
        · next y => exact absurd ⟨x.2.2.2.1, x.1, x.2.1.2, x.2.2.1.2, x.2.2.2.2, y.1, by unfold v4; omega⟩ n4
        · exact none
      · exact none
theorem get_b (x : List UInt8) (i : Nat) : (B x).get! i = x.getD i 0 := by
  show x.toArray[i]! = _
  simp [List.getD]
  rfl
theorem charL_dec (l : List UInt8) (h : 1 < l.length) : charL (l.drop 1) = fin0 (Lib.decodeN (l.length - 1) (l.getD 1 0).toNat (l.getD 2 0).toNat (l.getD 3 0).toNat (l.getD 4 0).toNat) := by
  have hd : ∀ i, (l.drop 1).getD i 0 = l.getD (1 + i) 0 := fun i => by simp [List.getD, Nat.add_comm 1 i]
  have e : Lib.decodeGo (B (l.drop 1)) = Lib.decodeN (l.length - 1) (l.getD 1 0).toNat (l.getD 2 0).toNat (l.getD 3 0).toNat (l.getD 4 0).toNat := by
    unfold Lib.decodeGo
    rw [if_neg (by rw [bsize, List.length_drop]; omega), Lib.decode_at, get_b, get_b, get_b, get_b, hd, hd, hd, hd, bsize, List.length_drop]
    rfl
  unfold charL
  rw [e]
  rfl
theorem ok0 (l : List UInt8) (n : Nat) : okTo l n 0 = true ↔ (ldC n ≤ bz l 1 ∧ bz l 1 - ldC n < capC n) := by
  rw [okTo, Bool.and_eq_true, decide_eq_true_eq, decide_eq_true_eq]
theorem okS (l : List UInt8) (n k : Nat) : okTo l n (k + 1) = true ↔ (okTo l n k = true ∧ bz l (2 + k) / 64 * 64 = 128) := by
  rw [okTo, Bool.and_eq_true, decide_eq_true_eq]
theorem hit2 (l : List UInt8) (h128 : 128 ≤ (l.getD 1 0).toNat) : (3 ≤ l.length ∧ hitC l 2) ↔ g2 (l.length - 1) (l.getD 1 0).toNat (l.getD 2 0).toNat := by
  have b1 := UInt8.toNat_lt (l.getD 1 0)
  have b2 := UInt8.toNat_lt (l.getD 2 0)
  unfold hitC g2 v2
  rw [show (2 - 1 : Nat) = 0 + 1 from rfl, okS, ok0]
  simp only [uTo, bz, ldC, capC, leastC, Nat.add_zero, if_true]
  omega
theorem val2 (l : List UInt8) (g : g2 (l.length - 1) (l.getD 1 0).toNat (l.getD 2 0).toNat) : uTo l 2 1 = (v2 (l.getD 1 0).toNat (l.getD 2 0).toNat : Nat) := by
  have b1 := UInt8.toNat_lt (l.getD 1 0)
  obtain ⟨_, a, _⟩ := g
  simp only [uTo, bz, ldC, Nat.add_zero, if_true]
  unfold v2
  omega
theorem hit3 (l : List UInt8) (h128 : 128 ≤ (l.getD 1 0).toNat) : (4 ≤ l.length ∧ hitC l 3) ↔ g3 (l.length - 1) (l.getD 1 0).toNat (l.getD 2 0).toNat (l.getD 3 0).toNat := by
  have b1 := UInt8.toNat_lt (l.getD 1 0)
  have b2 := UInt8.toNat_lt (l.getD 2 0)
  have b3 := UInt8.toNat_lt (l.getD 3 0)
  unfold hitC g3 v3
  rw [show (3 - 1 : Nat) = 0 + 1 + 1 from rfl, okS, okS, ok0]
  simp only [uTo, bz, ldC, capC, leastC, Nat.reduceAdd, Nat.reduceEqDiff, Nat.add_zero, if_true, if_false]
  omega
theorem val3 (l : List UInt8) (g : g3 (l.length - 1) (l.getD 1 0).toNat (l.getD 2 0).toNat (l.getD 3 0).toNat) : uTo l 3 2 = (v3 (l.getD 1 0).toNat (l.getD 2 0).toNat (l.getD 3 0).toNat : Nat) := by
  have b1 := UInt8.toNat_lt (l.getD 1 0)
  obtain ⟨_, a, _⟩ := g
  simp only [uTo, bz, ldC, Nat.add_zero, Nat.reduceAdd, Nat.reduceEqDiff, if_true, if_false]
  unfold v3
  omega
theorem hit4 (l : List UInt8) (h128 : 128 ≤ (l.getD 1 0).toNat) : (5 ≤ l.length ∧ hitC l 4) ↔ g4 (l.length - 1) (l.getD 1 0).toNat (l.getD 2 0).toNat (l.getD 3 0).toNat (l.getD 4 0).toNat := by
  have b1 := UInt8.toNat_lt (l.getD 1 0)
  have b2 := UInt8.toNat_lt (l.getD 2 0)
  have b3 := UInt8.toNat_lt (l.getD 3 0)
  have b4 := UInt8.toNat_lt (l.getD 4 0)
  unfold hitC g4 v4
  rw [show (4 - 1 : Nat) = 0 + 1 + 1 + 1 from rfl, okS, okS, okS, ok0]
  simp only [uTo, bz, ldC, capC, leastC, Nat.reduceAdd, Nat.reduceEqDiff, Nat.add_zero, if_false]
  omega
theorem val4 (l : List UInt8) (g : g4 (l.length - 1) (l.getD 1 0).toNat (l.getD 2 0).toNat (l.getD 3 0).toNat (l.getD 4 0).toNat) : uTo l 4 3 = (v4 (l.getD 1 0).toNat (l.getD 2 0).toNat (l.getD 3 0).toNat (l.getD 4 0).toNat : Nat) := by
  have b1 := UInt8.toNat_lt (l.getD 1 0)
  obtain ⟨_, a, _⟩ := g
  simp only [uTo, bz, ldC, Nat.add_zero, Nat.reduceAdd, Nat.reduceEqDiff, if_false]
  unfold v4
  omega
theorem char_bridge (l : List UInt8) (h : 1 < l.length) (h128 : 128 ≤ (l.getD 1 0).toNat) : charC l = ((((charL (l.drop 1)).1 : Nat) : Int), (charL (l.drop 1)).2) := by
  have b := UInt8.toNat_lt (l.getD 1 0)
  rw [charL_dec l h]
  unfold charC
  by_cases c2 : g2 (l.length - 1) (l.getD 1 0).toNat (l.getD 2 0).toNat
  · rw [if_pos ((hit2 l h128).2 c2), dec2 h128 (by omega) c2, val2 l c2]
  rw [if_neg (fun g => c2 ((hit2 l h128).1 g))]
  by_cases c3 : g3 (l.length - 1) (l.getD 1 0).toNat (l.getD 2 0).toNat (l.getD 3 0).toNat
  · rw [if_pos ((hit3 l h128).2 c3), dec3 h128 (by omega) c3, val3 l c3]
  rw [if_neg (fun g => c3 ((hit3 l h128).1 g))]
  by_cases c4 : g4 (l.length - 1) (l.getD 1 0).toNat (l.getD 2 0).toNat (l.getD 3 0).toNat (l.getD 4 0).toNat
  · rw [if_pos ((hit4 l h128).2 c4), dec4 h128 (by omega) c4, val4 l c4]
  rw [if_neg (fun g => c4 ((hit4 l h128).1 g)), dec0 h128 (by omega) c2 c3 c4]
  rfl
end Go.Proofs.YtbmmbaagcglomaaDoor.tok
