/-
  Plain arithmetic on UTF-8: the width that a lead byte and its followers have, against the model's decode.
-/
import Derived.Lib.DecodeNEq
import Derived.Lib.TrimU
import Derived.WalkKit
namespace Go.Proofs.YtjbamlmdeopcaaaDoor.dec
open Go.RowKit Go.Lib

/-- What the reference's Width says: 0 of a wrong byte, else the decode's width. -/
def widthN (n b0 b1 b2 b3 : Nat) : Nat := if decodeN n b0 b1 b2 b3 = (65533, 1) then 0 else (decodeN n b0 b1 b2 b3).2
def between (lo hi b : Nat) : Bool := decide (lo ≤ b) && decide (b ≤ hi)

theorem w_ascii (n b0 b1 b2 b3 : Nat) (h : b0 < 128) : widthN n b0 b1 b2 b3 = 1 := by
  unfold widthN
  have : decodeN n b0 b1 b2 b3 = (b0, 1) := by simp [decodeN, h]
  rw [this, if_neg (by simp; omega)]
theorem w_bad (n b0 b1 b2 b3 : Nat) (h : 128 ≤ b0) (h' : b0 < 194 ∨ 244 < b0) (hb : b0 < 256) : widthN n b0 b1 b2 b3 = 0 := by
  unfold widthN
  have : decodeN n b0 b1 b2 b3 = (65533, 1) := by
    unfold decodeN
    repeat' split
    all_goals first | rfl | (exfalso; omega)
  rw [this, if_pos rfl]
theorem pick_width {c : Prop} [Decidable c] {x : Nat × Nat} {v k : Nat} (hk : k ≠ 1) (h : x = if c then (v, k) else (65533, 1)) : (if x = (65533, 1) then 0 else x.2) = if c then k else 0 := by
  subst h
  by_cases hc : c
  · rw [if_pos hc, if_pos hc, if_neg (fun e => hk (Prod.mk.inj e).2)]
  · rw [if_neg hc, if_neg hc, if_pos rfl]
theorem w_two (n b0 b1 b2 b3 lo hi : Nat) (hs : slowN n b0 b1 b2 b3 2 lo hi = decodeN n b0 b1 b2 b3) :
    widthN n b0 b1 b2 b3 = if 2 ≤ n ∧ lo ≤ b1 ∧ b1 ≤ hi then 2 else 0 := by
  unfold widthN
  rw [← hs]
  refine pick_width (v := b0 % 32 * 64 + b1 % 64) (by omega) ?_
  unfold slowN
  by_cases c : 2 ≤ n ∧ lo ≤ b1 ∧ b1 ≤ hi
  · rw [if_pos c, if_neg (by omega), if_neg (by omega), if_pos (by omega)]
  · rw [if_neg c]
    by_cases a : n < 2
    · rw [if_pos a]
    · rw [if_neg a, if_pos (by omega)]
theorem w_three (n b0 b1 b2 b3 lo hi : Nat) (hs : slowN n b0 b1 b2 b3 3 lo hi = decodeN n b0 b1 b2 b3) :
    widthN n b0 b1 b2 b3 = if 3 ≤ n ∧ (lo ≤ b1 ∧ b1 ≤ hi) ∧ 128 ≤ b2 ∧ b2 ≤ 191 then 3 else 0 := by
  unfold widthN
  rw [← hs]
  refine pick_width (v := b0 % 16 * 4096 + b1 % 64 * 64 + b2 % 64) (by omega) ?_
  unfold slowN
  by_cases c : 3 ≤ n ∧ (lo ≤ b1 ∧ b1 ≤ hi) ∧ 128 ≤ b2 ∧ b2 ≤ 191
  · rw [if_pos c, if_neg (by omega), if_neg (by omega), if_neg (by omega), if_neg (by omega), if_pos (by omega)]
  · rw [if_neg c]
    by_cases a : n < 3
    · rw [if_pos a]
    · rw [if_neg a]
      by_cases d : b1 < lo ∨ hi < b1
      · rw [if_pos d]
      · rw [if_neg d, if_neg (by omega), if_pos (by omega)]
theorem w_four (n b0 b1 b2 b3 lo hi : Nat) (hs : slowN n b0 b1 b2 b3 4 lo hi = decodeN n b0 b1 b2 b3) :
    widthN n b0 b1 b2 b3 = if 4 ≤ n ∧ (lo ≤ b1 ∧ b1 ≤ hi) ∧ (128 ≤ b2 ∧ b2 ≤ 191) ∧ 128 ≤ b3 ∧ b3 ≤ 191 then 4 else 0 := by
  unfold widthN
  rw [← hs]
  refine pick_width (v := b0 % 8 * 262144 + b1 % 64 * 4096 + b2 % 64 * 64 + b3 % 64) (by omega) ?_
  unfold slowN
  by_cases c : 4 ≤ n ∧ (lo ≤ b1 ∧ b1 ≤ hi) ∧ (128 ≤ b2 ∧ b2 ≤ 191) ∧ 128 ≤ b3 ∧ b3 ≤ 191
  · rw [if_pos c, if_neg (by omega), if_neg (by omega), if_neg (by omega), if_neg (by omega), if_neg (by omega), if_neg (by omega)]
  · rw [if_neg c]
    by_cases a : n < 4
    · rw [if_pos a]
    · rw [if_neg a]
      by_cases d : b1 < lo ∨ hi < b1
      · rw [if_pos d]
      · rw [if_neg d, if_neg (by omega)]
        by_cases g : b2 < 128 ∨ 191 < b2
        · rw [if_pos g]
        · rw [if_neg g, if_neg (by omega), if_pos (by omega)]

/-- A follower: is there a byte, from lo to hi? -/
def moreB (s : ByteArray) (i lo hi : Nat) : Bool := decide (i < s.size ∧ lo ≤ (s.get! i).toNat ∧ (s.get! i).toNat ≤ hi)
theorem moreB_yes {s : ByteArray} {i lo hi : Nat} (h : moreB s i lo hi = true) : i < s.size ∧ lo ≤ (s.get! i).toNat ∧ (s.get! i).toNat ≤ hi := of_decide_eq_true h
theorem moreB_no {s : ByteArray} {i lo hi : Nat} (h : moreB s i lo hi = false) : ¬ (i < s.size ∧ lo ≤ (s.get! i).toNat ∧ (s.get! i).toNat ≤ hi) := of_decide_eq_false h
/-- The width at a place of a text. -/
def widthS (s : ByteArray) (i : Nat) : Nat := widthN (s.size - i) (s.get! i).toNat (s.get! (i + 1)).toNat (s.get! (i + 2)).toNat (s.get! (i + 3)).toNat
theorem widthS_eq (s : ByteArray) (i : Nat) : widthS s i = if Utf8.decode s i = (65533, 1) then 0 else (Utf8.decode s i).2 := by
  rw [decode_at]; rfl
theorem byte_lt (s : ByteArray) (i : Nat) : (s.get! i).toNat < 256 := UInt8.toNat_lt _

section
variable {s : ByteArray} {i : Nat}
theorem ws_ascii (h : (s.get! i).toNat < 128) : widthS s i = 1 := w_ascii _ _ _ _ _ h
theorem ws_bad (h : 128 ≤ (s.get! i).toNat) (h' : (s.get! i).toNat < 194 ∨ 244 < (s.get! i).toNat) : widthS s i = 0 := w_bad _ _ _ _ _ h h' (byte_lt s i)
theorem ws_two (hi : i < s.size) (h : 194 ≤ (s.get! i).toNat) (h' : (s.get! i).toNat < 224) : widthS s i = if moreB s (i + 1) 128 191 then 2 else 0 := by
  unfold widthS
  rw [w_two _ _ _ _ _ _ _ (slow_C2 _ _ _ _ _ (by omega) (byte_lt _ _) (byte_lt _ _) (byte_lt _ _) ⟨h, h'⟩)]
  cases hm : moreB s (i + 1) 128 191 with
  | true => have := moreB_yes hm; rw [if_pos (by omega), if_pos rfl]
  | false => have := moreB_no hm; rw [if_neg (by omega)]; rfl
theorem ws_three (lo hi : Nat) (hi' : i < s.size) (hc : slowN (s.size - i) (s.get! i).toNat (s.get! (i + 1)).toNat (s.get! (i + 2)).toNat (s.get! (i + 3)).toNat 3 lo hi = decodeN (s.size - i) (s.get! i).toNat (s.get! (i + 1)).toNat (s.get! (i + 2)).toNat (s.get! (i + 3)).toNat) :
    widthS s i = if moreB s (i + 1) lo hi && moreB s (i + 2) 128 191 then 3 else 0 := by
  unfold widthS
  rw [w_three _ _ _ _ _ _ _ hc]
  cases hm : moreB s (i + 1) lo hi with
  | false => have := moreB_no hm; rw [if_neg (by omega)]; rfl
  | true =>
    have := moreB_yes hm
    cases hn : moreB s (i + 2) 128 191 with
    | true => have := moreB_yes hn; rw [if_pos (by omega)]; rfl
    | false => have := moreB_no hn; rw [if_neg (by omega)]; rfl
theorem ws_four (lo hi : Nat) (hi' : i < s.size) (hc : slowN (s.size - i) (s.get! i).toNat (s.get! (i + 1)).toNat (s.get! (i + 2)).toNat (s.get! (i + 3)).toNat 4 lo hi = decodeN (s.size - i) (s.get! i).toNat (s.get! (i + 1)).toNat (s.get! (i + 2)).toNat (s.get! (i + 3)).toNat) :
    widthS s i = if moreB s (i + 1) lo hi && moreB s (i + 2) 128 191 && moreB s (i + 3) 128 191 then 4 else 0 := by
  unfold widthS
  rw [w_four _ _ _ _ _ _ _ hc]
  cases hm : moreB s (i + 1) lo hi with
  | false => have := moreB_no hm; rw [if_neg (by omega)]; rfl
  | true =>
    have := moreB_yes hm
    cases hn : moreB s (i + 2) 128 191 with
    | false => have := moreB_no hn; rw [if_neg (by omega)]; rfl
    | true =>
      have := moreB_yes hn
      cases ho : moreB s (i + 3) 128 191 with
      | true => have := moreB_yes ho; rw [if_pos (by omega)]; rfl
      | false => have := moreB_no ho; rw [if_neg (by omega)]; rfl
theorem ws_E0 (hi : i < s.size) (h : (s.get! i).toNat = 224) : widthS s i = if moreB s (i + 1) 160 191 && moreB s (i + 2) 128 191 then 3 else 0 :=
  ws_three _ _ hi (slow_E0 _ _ _ _ _ (by omega) (byte_lt _ _) (byte_lt _ _) (byte_lt _ _) h)
theorem ws_ED (hi : i < s.size) (h : (s.get! i).toNat = 237) : widthS s i = if moreB s (i + 1) 128 159 && moreB s (i + 2) 128 191 then 3 else 0 :=
  ws_three _ _ hi (slow_ED _ _ _ _ _ (by omega) (byte_lt _ _) (byte_lt _ _) (byte_lt _ _) h)
theorem ws_E1 (hi : i < s.size) (h : 224 < (s.get! i).toNat) (h' : (s.get! i).toNat < 240) (h2 : (s.get! i).toNat ≠ 237) : widthS s i = if moreB s (i + 1) 128 191 && moreB s (i + 2) 128 191 then 3 else 0 :=
  ws_three _ _ hi (slow_E1 _ _ _ _ _ (by omega) (byte_lt _ _) (byte_lt _ _) (byte_lt _ _) (by omega))
theorem ws_F0 (hi : i < s.size) (h : (s.get! i).toNat = 240) : widthS s i = if moreB s (i + 1) 144 191 && moreB s (i + 2) 128 191 && moreB s (i + 3) 128 191 then 4 else 0 :=
  ws_four _ _ hi (slow_F0 _ _ _ _ _ (by omega) (byte_lt _ _) (byte_lt _ _) (byte_lt _ _) h)
theorem ws_F4 (hi : i < s.size) (h : (s.get! i).toNat = 244) : widthS s i = if moreB s (i + 1) 128 143 && moreB s (i + 2) 128 191 && moreB s (i + 3) 128 191 then 4 else 0 :=
  ws_four _ _ hi (slow_F4 _ _ _ _ _ (by omega) (byte_lt _ _) (byte_lt _ _) (byte_lt _ _) h)
theorem ws_F1 (hi : i < s.size) (h : 240 < (s.get! i).toNat) (h' : (s.get! i).toNat < 244) : widthS s i = if moreB s (i + 1) 128 191 && moreB s (i + 2) 128 191 && moreB s (i + 3) 128 191 then 4 else 0 :=
  ws_four _ _ hi (slow_F1 _ _ _ _ _ (by omega) (byte_lt _ _) (byte_lt _ _) (byte_lt _ _) ⟨by omega, h'⟩)
end
end Go.Proofs.YtjbamlmdeopcaaaDoor.dec
