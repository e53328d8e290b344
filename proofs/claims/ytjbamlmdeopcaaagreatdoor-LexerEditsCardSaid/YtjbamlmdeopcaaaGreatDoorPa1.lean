/-
  Texts put together: Lx, Ly, Lz, Lists.
-/
import Derived.Lib.Strings
import Derived.Lib.IndexMore
import Derived.Test.YtjbamlmdeopcaaaGreatDoorRows
import Derived.Handy
import Derived.Deep.DeepFit
import Derived.Lib.Hide
import Derived.WalkKit
import Derived.Laws.Rows
import Derived.Deep.WholeRow
section
/-
  Plain: the token with which a text begins (layer 3), and what it hangs on.
-/
namespace Go.Proofs.YtjbamlmdeopcaaaGreatDoor.lx
open Go

/-- What layers 1 and 2 say of texts, and what is used of it. -/
structure Lang where
  kw : List UInt8 → Int
  num : List UInt8 → Bool
  op : List UInt8 → Nat × Nat
  str : List UInt8 → Int × Nat
  rune : List UInt8 → Int × Nat
  chr : List UInt8 → Nat
  said : List UInt8 → Bool
  kw_kind : ∀ r, kw r = 0 ∨ 70 ≤ kw r
  op_len : ∀ r, (op r).2 ≤ r.length
  op_kind : ∀ r, 0 < (op r).2 → 15 ≤ (op r).1 ∧ (op r).1 ≠ 16
  op_near : ∀ a x y, 3 ≤ a.length → op (a ++ x) = op (a ++ y)
  op_feed : ∀ r y, op (r ++ 10 :: y) = op r
  chr_pos : ∀ r, 1 ≤ chr r
  chr_len : ∀ r, r ≠ [] → chr r ≤ r.length
  chr_near : ∀ a x y, 4 ≤ a.length → chr (a ++ x) = chr (a ++ y) ∧ said (a ++ x) = said (a ++ y)
  chr_feed : ∀ r y, r ≠ [] → chr (r ++ 10 :: y) = chr r ∧ said (r ++ 10 :: y) = said r
  str_place : ∀ r, (str r).1 ≠ 0 → r ≠ [] → (str r).2 < r.length
  rune_place : ∀ r, (rune r).1 ≠ 0 → r ≠ [] → (rune r).2 < r.length
  str_code : ∀ r, (str r).1 ≠ 105
  rune_code : ∀ r, (rune r).1 ≠ 105

def isBl (c : UInt8) : Bool := c == 32 || c == 9 || c == 13
def noFeed (c : UInt8) : Bool := c != 10
def isLt (c : UInt8) : Bool := (65 ≤ c && c ≤ 90) || (97 ≤ c && c ≤ 122) || c == 95
def isDg (c : UInt8) : Bool := 48 ≤ c && c ≤ 57
def isWd (c : UInt8) : Bool := isLt c || isDg c

/-- How many bytes at the beginning have a property. -/
def runL (p : UInt8 → Bool) : List UInt8 → Nat
  | [] => 0
  | c :: r => if p c then runL p r + 1 else 0
/-- Behind an opening quote: how many bytes go with the literal, and whether it has its end. -/
def lit (q : UInt8) : List UInt8 → Nat × Bool
  | [] => (0, false)
  | [c] => if c = q then (1, true) else if c = 10 then (0, false) else (1, false)
  | c :: d :: r => if c = q then (1, true) else if c = 10 then (0, false) else if c = 92 then
      (if d = 10 then (1, false) else ((lit q r).1 + 2, (lit q r).2)) else ((lit q (d :: r)).1 + 1, (lit q (d :: r)).2)

structure Nx where
  kind : Int
  width : Nat
  code : Int
  off : Nat
  dw : Nat
def right (kind : Int) (w : Nat) : Nx := ⟨kind, w, 0, 0, 0⟩
def wrong (kind : Int) (w : Nat) (code : Int) : Nx := ⟨kind, w, code, 0, w⟩
def closedL (kind code : Int) (n : Nat) (clo r : List UInt8) : Nx :=
  if Lib.index (r.drop n) clo < 0 then wrong kind r.length code else right kind (n + (Lib.index (r.drop n) clo).toNat + clo.length)
def quotedL (f : List UInt8 → Int × Nat) (kind code : Int) (q : UInt8) (r : List UInt8) : Nx :=
  let w := 1 + (lit q (r.drop 1)).1
  if (lit q (r.drop 1)).2 = false then wrong kind w code
  else if (f (r.take w)).1 = 0 then right kind w else ⟨kind, w, (f (r.take w)).1, (f (r.take w)).2, 1⟩
def mark : List UInt8 := [239, 187, 191]

variable (L : Lang)
def wordL (r : List UInt8) : Nx := right (if L.kw (r.take (runL isWd r)) = 0 then 10 else L.kw (r.take (runL isWd r))) (runL isWd r)
def numL (r : List UInt8) : Nx := if L.num (r.take (runL isWd r)) = true then right 11 (runL isWd r) else wrong 11 (runL isWd r) 109
def signL (r : List UInt8) : Nx :=
  if 0 < (L.op r).2 then right (L.op r).1 (L.op r).2 else if L.said r = true then right 5 (L.chr r) else wrong 5 (L.chr r) 104
/-- Which of the kinds of beginnings a text has. -/
def cls (z : Bool) : List UInt8 → Nat
  | [] => 0
  | c :: r =>
    if (z && Lib.hasPrefix (c :: r) mark) = true then 1
    else if isBl c = true then 2
    else if c = 10 then 3
    else if Lib.hasPrefix (c :: r) [47, 47] = true then 4
    else if Lib.hasPrefix (c :: r) [47, 42] = true then 5
    else if isLt c = true then 6
    else if isDg c = true then 7
    else if c = 34 then 8
    else if c = 39 then 9
    else if c = 96 then 10
    else 11
def nxOf (k : Nat) (r : List UInt8) : Nx := match k with
  | 1 => right 1 3
  | 2 => right 1 (runL isBl r)
  | 3 => right 2 1
  | 4 => right 3 (runL noFeed r)
  | 5 => closedL 4 105 2 [42, 47] r
  | 6 => wordL L r
  | 7 => numL L r
  | 8 => quotedL L.str 13 106 34 r
  | 9 => quotedL L.rune 12 107 39 r
  | 10 => closedL 14 106 1 [96] r
  | 11 => signL L r
  | _ => right 0 1
def nx (z : Bool) (r : List UInt8) : Nx := nxOf L (cls z r) r

section
variable {L}
theorem runL_len (p : UInt8 → Bool) (r : List UInt8) : runL p r ≤ r.length := by
  induction r with
  | nil => simp [runL]
  | cons c r ih => simp only [runL, List.length_cons]; split <;> omega
theorem runL_near {p : UInt8 → Bool} {a : List UInt8} (x y : List UInt8) : runL p (a ++ x) < a.length → runL p (a ++ y) = runL p (a ++ x) := by
  induction a with
  | nil => simp
  | cons c a ih =>
    simp only [List.cons_append, runL, List.length_cons]
    by_cases h : p c = true
    · rw [if_pos h, if_pos h]; intro g; rw [ih (by omega)]
    · rw [if_neg h, if_neg h]; intro _; rfl
theorem runL_feed {p : UInt8 → Bool} (hp : p 10 = false) (r y : List UInt8) : runL p (r ++ 10 :: y) = runL p r := by
  induction r with
  | nil => simp [runL, hp]
  | cons c r ih => simp only [List.cons_append, runL, ih]
theorem runL_pos {p : UInt8 → Bool} {c : UInt8} {r : List UInt8} (h : p c = true) : 1 ≤ runL p (c :: r) := by simp [runL, h]
theorem lit_len (q : UInt8) (r : List UInt8) : (lit q r).1 ≤ r.length := by
  fun_induction lit q r <;> simp_all <;> omega
theorem lit_near {q : UInt8} {a : List UInt8} (x y : List UInt8) : (lit q (a ++ x)).1 < a.length → lit q (a ++ y) = lit q (a ++ x) := by
  induction hn : a.length using Nat.strongRecOn generalizing a with
  | ind n ih =>
    match a, hn with
    | [], hn => simp at hn; subst hn; omega
    | [c], hn =>
      subst hn
      have e : ∀ w : List UInt8, lit q ([c] ++ w) = lit q (c :: w) := fun _ => rfl
      rw [e, e]
      intro h
      cases x with
      | nil =>
        unfold lit at h
        by_cases h1 : c = q
        · rw [if_pos h1] at h; simp at h
        · rw [if_neg h1] at h
          by_cases h2 : c = 10
          · cases y with
            | nil => rfl
            | cons d y => rw [lit, lit, if_neg h1, if_pos h2, if_neg h1, if_pos h2]
          · rw [if_neg h2] at h; simp at h
      | cons d x =>
        rw [lit] at h
        by_cases h1 : c = q
        · rw [if_pos h1] at h; simp at h
        · rw [if_neg h1] at h
          by_cases h2 : c = 10
          · cases y with
            | nil => rw [lit, lit, if_neg h1, if_pos h2, if_neg h1, if_pos h2]
            | cons d y => rw [lit, lit, if_neg h1, if_pos h2, if_neg h1, if_pos h2]
          · rw [if_neg h2] at h
            exfalso
            revert h
            split
            · split <;> simp
            · simp
    | c :: d :: a, hn =>
      have e : ∀ w : List UInt8, lit q (c :: d :: a ++ w) = lit q (c :: d :: (a ++ w)) := fun _ => rfl
      have e' : ∀ w : List UInt8, d :: (a ++ w) = (d :: a) ++ w := fun _ => rfl
      rw [e, e, lit, lit]
      simp only [List.length_cons] at hn
      by_cases h1 : c = q
      · rw [if_pos h1, if_pos h1]; intro _; rfl
      · rw [if_neg h1, if_neg h1]
        by_cases h2 : c = 10
        · rw [if_pos h2, if_pos h2]; intro _; rfl
        · rw [if_neg h2, if_neg h2]
          by_cases h3 : c = 92
          · rw [if_pos h3, if_pos h3]
            by_cases h4 : d = 10
            · rw [if_pos h4, if_pos h4]; intro _; rfl
            · rw [if_neg h4, if_neg h4]
              intro h
              simp only at h
              rw [ih a.length (by omega) rfl (by omega)]
          · rw [if_neg h3, if_neg h3, e', e']
            intro h
            simp only at h
            rw [ih (d :: a).length (by simp; omega) rfl (by simp only [List.length_cons]; omega)]
theorem lit_feed {q : UInt8} (hq : q ≠ 10) (r y : List UInt8) : lit q (r ++ 10 :: y) = lit q r := by
  have hq' : (10 : UInt8) ≠ q := fun e => hq e.symm
  induction hn : r.length using Nat.strongRecOn generalizing r with
  | ind n ih =>
    match r, hn with
    | [], _ =>
      show lit q (10 :: y) = lit q []
      cases y with
      | nil => rw [lit, lit, if_neg hq', if_pos rfl]
      | cons d y => rw [lit, lit, if_neg hq', if_pos rfl]
    | [c], _ =>
      show lit q (c :: 10 :: y) = lit q [c]
      rw [lit, lit]
      by_cases h1 : c = q
      · rw [if_pos h1, if_pos h1]
      · rw [if_neg h1, if_neg h1]
        by_cases h2 : c = 10
        · rw [if_pos h2, if_pos h2]
        · rw [if_neg h2, if_neg h2]
          by_cases h3 : c = 92
          · rw [if_pos h3, if_pos rfl]
          · rw [if_neg h3]
            cases y with
            | nil => rw [lit, if_neg hq', if_pos rfl]
            | cons d y => rw [lit, if_neg hq', if_pos rfl]
    | c :: d :: r, hn =>
      have e : lit q (c :: d :: r ++ 10 :: y) = lit q (c :: d :: (r ++ 10 :: y)) := rfl
      have e' : d :: (r ++ 10 :: y) = (d :: r) ++ 10 :: y := rfl
      simp only [List.length_cons] at hn
      rw [e, lit, lit, ih r.length (by omega) r rfl, e', ih (d :: r).length (by simp; omega) (d :: r) rfl]
theorem index_near {a sub : List UInt8} (x y : List UInt8) (h0 : 0 ≤ Lib.index (a ++ x) sub) (h : Lib.index (a ++ x) sub + sub.length ≤ a.length) : Lib.index (a ++ y) sub = Lib.index (a ++ x) sub := by
  rcases Lib.index_spec (a ++ x) sub with ⟨h1, _⟩ | ⟨i, h1, h2, h3, h4⟩
  · omega
  · rw [h1] at h ⊢
    have occ : ∀ (w : List UInt8) (j : Nat), j + sub.length ≤ a.length → Lib.occAt (a ++ w) sub j = Lib.occAt a sub j := by
      intro w j hj
      unfold Lib.occAt
      rw [List.drop_append_of_le_length (by omega)]
      rw [Bool.eq_iff_iff, List.isPrefixOf_iff_prefix, List.isPrefixOf_iff_prefix]
      constructor
      · intro hp; exact List.prefix_of_prefix_length_le hp (List.prefix_append _ _) (by rw [List.length_drop]; omega)
      · intro hp; exact hp.trans (List.prefix_append _ _)
    refine Lib.index_first (by rw [List.length_append]; omega) ?_ ?_
    · rw [occ y i (by omega), ← occ x i (by omega)]; exact h3
    · intro j hj
      rw [occ y j (by omega), ← occ x j (by omega)]
      exact h4 j hj
theorem index_more {r sub : List UInt8} (y : List UInt8) (h0 : 0 ≤ Lib.index r sub) : Lib.index (r ++ y) sub = Lib.index r sub := by
  have hr := Lib.index_room r sub h0
  have e : r ++ [] = r := List.append_nil r
  have := index_near (a := r) (sub := sub) [] y (by rw [e]; exact h0) (by rw [e]; exact hr)
  rw [e] at this
  exact this
theorem pre_near {a p : List UInt8} (x y : List UInt8) (h : p.length ≤ a.length) : Lib.hasPrefix (a ++ x) p = Lib.hasPrefix (a ++ y) p := by
  have one : ∀ w : List UInt8, Lib.hasPrefix (a ++ w) p = Lib.hasPrefix a p := by
    intro w
    unfold Lib.hasPrefix
    rw [Bool.eq_iff_iff, List.isPrefixOf_iff_prefix, List.isPrefixOf_iff_prefix]
    exact ⟨fun hp => List.prefix_of_prefix_length_le hp (List.prefix_append _ _) h, fun hp => hp.trans (List.prefix_append _ _)⟩
  rw [one, one]
theorem pre_feed {p : List UInt8} (hp : (10 : UInt8) ∉ p) (r y : List UInt8) : Lib.hasPrefix (r ++ 10 :: y) p = Lib.hasPrefix r p := by
  unfold Lib.hasPrefix
  induction p generalizing r with
  | nil => cases r <;> rfl
  | cons a p ih =>
    simp only [List.mem_cons, not_or] at hp
    cases r with
    | nil =>
      show ((a == 10) && _) = false
      rw [show (a == (10 : UInt8)) = false from beq_eq_false_iff_ne.2 (fun e => hp.1 e.symm)]
      rfl
    | cons c r =>
      show ((a == c) && p.isPrefixOf (r ++ 10 :: y)) = ((a == c) && p.isPrefixOf r)
      rw [ih hp.2]

theorem cls_near {z : Bool} {a : List UInt8} (x y : List UInt8) (h : 3 ≤ a.length) : cls z (a ++ x) = cls z (a ++ y) := by
  match a, h with
  | c :: a, h =>
    have e : ∀ w, Lib.hasPrefix (c :: (a ++ w)) = Lib.hasPrefix ((c :: a) ++ w) := fun _ => rfl
    simp only [List.cons_append, cls]
    rw [e x, e y, pre_near (p := mark) x y h, pre_near (p := [47, 47]) x y (by simp at *; omega), pre_near (p := [47, 42]) x y (by simp at *; omega)]
theorem cls_feed {z : Bool} {r : List UInt8} (hr : r ≠ []) (y : List UInt8) : cls z (r ++ 10 :: y) = cls z r := by
  cases r with
  | nil => exact absurd rfl hr
  | cons c r =>
    have e : Lib.hasPrefix (c :: (r ++ 10 :: y)) = Lib.hasPrefix ((c :: r) ++ 10 :: y) := rfl
    simp only [List.cons_append, cls]
    rw [e, pre_feed (p := mark) (by decide), pre_feed (p := [47, 47]) (by decide), pre_feed (p := [47, 42]) (by decide)]
theorem cls_le (z : Bool) (c : UInt8) (r : List UInt8) : 1 ≤ cls z (c :: r) ∧ cls z (c :: r) ≤ 11 := by
  rw [cls]
  repeat' split
  all_goals decide
end
end Go.Proofs.YtjbamlmdeopcaaaGreatDoor.lx
end

section
/-
  Plain: what a token hangs on: the bytes near it, and nothing behind a line feed; its size.
-/
namespace Go.Proofs.YtjbamlmdeopcaaaGreatDoor.lx
open Go

variable {L : Lang}
theorem right_width (k : Int) (w : Nat) : (right k w).width = w := rfl
theorem wrong_width (k : Int) (w : Nat) (c : Int) : (wrong k w c).width = w := rfl

theorem closed_near {kind code : Int} {n : Nat} {clo a : List UInt8} (x y : List UInt8) (hn : n ≤ a.length) (h : (closedL kind code n clo (a ++ x)).width < a.length) : closedL kind code n clo (a ++ y) = closedL kind code n clo (a ++ x) := by
  unfold closedL at h ⊢
  rw [List.drop_append_of_le_length hn, List.drop_append_of_le_length hn] at *
  by_cases c : Lib.index (a.drop n ++ x) clo < 0
  · rw [if_pos c, wrong_width, List.length_append] at h; omega
  · rw [if_neg c, right_width] at h
    have := index_near (a := a.drop n) (sub := clo) x y (by omega) (by rw [List.length_drop]; omega)
    rw [this]
    rw [if_neg c, if_neg c]
theorem closed_feed {kind code : Int} {n : Nat} {clo r : List UInt8} (y : List UInt8) (hn : n ≤ r.length) (hc : code ≠ 0) (h : (closedL kind code n clo r).code = 0) : closedL kind code n clo (r ++ 10 :: y) = closedL kind code n clo r := by
  unfold closedL at h ⊢
  rw [List.drop_append_of_le_length hn]
  by_cases c : Lib.index (r.drop n) clo < 0
  · rw [if_pos c] at h; exact absurd h hc
  · rw [index_more (10 :: y) (by omega), if_neg c, if_neg c]
theorem quoted_near {f : List UInt8 → Int × Nat} {kind code : Int} {q : UInt8} {a : List UInt8} (x y : List UInt8) (h1 : 1 ≤ a.length) (h : (quotedL f kind code q (a ++ x)).width < a.length) : quotedL f kind code q (a ++ y) = quotedL f kind code q (a ++ x) := by
  have hw : (quotedL f kind code q (a ++ x)).width = 1 + (lit q ((a ++ x).drop 1)).1 := by
    unfold quotedL
    simp only
    repeat' split
    all_goals rfl
  rw [hw, List.drop_append_of_le_length h1] at h
  have e := lit_near (q := q) (a := a.drop 1) x y (by rw [List.length_drop]; omega)
  unfold quotedL
  simp only []
  rw [List.drop_append_of_le_length h1, List.drop_append_of_le_length h1, e]
  rw [List.take_append_of_le_length (by omega), List.take_append_of_le_length (by omega)]
theorem quoted_feed {f : List UInt8 → Int × Nat} {kind code : Int} {q : UInt8} {r : List UInt8} (hq : q ≠ 10) (y : List UInt8) (h1 : 1 ≤ r.length) : quotedL f kind code q (r ++ 10 :: y) = quotedL f kind code q r := by
  have hl := lit_len q (r.drop 1)
  rw [List.length_drop] at hl
  unfold quotedL
  simp only []
  rw [List.drop_append_of_le_length h1, lit_feed hq, List.take_append_of_le_length (by omega)]
theorem quoted_width (f : List UInt8 → Int × Nat) (kind code : Int) (q : UInt8) (r : List UInt8) : (quotedL f kind code q r).width = 1 + (lit q (r.drop 1)).1 ∧ (quotedL f kind code q r).kind = kind := by
  unfold quotedL
  simp only
  repeat' split
  all_goals exact ⟨rfl, rfl⟩

/-- A token hangs on no more than three bytes behind it. -/
theorem nx_near {z : Bool} {a : List UInt8} (x y : List UInt8) (h : (nx L z (a ++ x)).width + 3 ≤ a.length) : nx L z (a ++ y) = nx L z (a ++ x) := by
  have h3 : 3 ≤ a.length := by omega
  unfold nx at h ⊢
  rw [← cls_near x y h3]
  have hpos : a ≠ [] := by rintro rfl; simp at h3
  obtain ⟨c, b, rfl⟩ : ∃ c b, a = c :: b := List.exists_cons_of_ne_nil hpos
  have hk := cls_le z c (b ++ x)
  rw [show c :: (b ++ x) = (c :: b) ++ x from rfl] at hk
  generalize cls z ((c :: b) ++ x) = k at h hk
  match k, hk, h with
  | 1, _, _ => rfl
  | 2, _, h => simp only [nxOf, right_width] at h ⊢; rw [runL_near x y (by omega)]
  | 3, _, _ => rfl
  | 4, _, h => simp only [nxOf, right_width] at h ⊢; rw [runL_near x y (by omega)]
  | 5, _, h => simp only [nxOf] at h ⊢; exact closed_near x y (by omega) (by omega)
  | 6, _, h =>
    simp only [nxOf, wordL, right_width] at h ⊢
    rw [runL_near x y (by omega), List.take_append_of_le_length (by omega), List.take_append_of_le_length (by omega)]
  | 7, _, h =>
    have hw : (numL L (c :: b ++ x)).width = runL isWd (c :: b ++ x) := by unfold numL; split <;> rfl
    simp only [nxOf] at h ⊢
    rw [hw] at h
    unfold numL
    rw [runL_near x y (by omega), List.take_append_of_le_length (by omega), List.take_append_of_le_length (by omega)]
  | 8, _, h => simp only [nxOf] at h ⊢; exact quoted_near x y (by omega) (by omega)
  | 9, _, h => simp only [nxOf] at h ⊢; exact quoted_near x y (by omega) (by omega)
  | 10, _, h => simp only [nxOf] at h ⊢; exact closed_near x y (by omega) (by omega)
  | 11, _, h =>
    simp only [nxOf] at h ⊢
    have hw : 1 ≤ (signL L (c :: b ++ x)).width := by
      unfold signL
      have := L.chr_pos (c :: b ++ x)
      repeat' split
      all_goals simp only [right_width, wrong_width]; omega
    obtain ⟨e1, e2⟩ := L.chr_near (c :: b) x y (by omega)
    unfold signL
    rw [e1, e2, L.op_near (c :: b) x y (by omega)]

/-- What the class of a beginning says of it. -/
structure Clue (z : Bool) (c : UInt8) (r : List UInt8) (k : Nat) : Prop where
  one : k = 1 → Lib.hasPrefix r mark = true ∧ z = true
  two : k = 2 → isBl c = true
  three : k = 3 → c = 10
  four : k = 4 → Lib.hasPrefix r [47, 47] = true ∧ noFeed c = true
  five : k = 5 → Lib.hasPrefix r [47, 42] = true
  six : k = 6 → isLt c = true
  seven : k = 7 → isDg c = true
  eight : k = 8 → c = 34
  nine : k = 9 → c = 39
  ten : k = 10 → c = 96
  eleven : k = 11 → isLt c = false ∧ isDg c = false ∧ isBl c = false ∧ c ≠ 10 ∧ (z && Lib.hasPrefix r mark) = false
theorem cls_clue (z : Bool) (c : UInt8) (b : List UInt8) : Clue z c (c :: b) (cls z (c :: b)) := by
  rw [cls]
  by_cases h1 : (z && Lib.hasPrefix (c :: b) mark) = true
  · rw [if_pos h1]; rw [Bool.and_eq_true] at h1; constructor <;> intro h <;> first | omega | exact ⟨h1.2, h1.1⟩
  rw [if_neg h1]
  by_cases h2 : isBl c = true
  · rw [if_pos h2]; constructor <;> intro h <;> first | omega | exact h2
  rw [if_neg h2]
  by_cases h3 : c = 10
  · rw [if_pos h3]; constructor <;> intro h <;> first | omega | exact h3
  rw [if_neg h3]
  by_cases h4 : Lib.hasPrefix (c :: b) [47, 47] = true
  · rw [if_pos h4]; constructor <;> intro h <;> first | omega | exact ⟨h4, by unfold noFeed; simpa using h3⟩
  rw [if_neg h4]
  by_cases h5 : Lib.hasPrefix (c :: b) [47, 42] = true
  · rw [if_pos h5]; constructor <;> intro h <;> first | omega | exact h5
  rw [if_neg h5]
  by_cases h6 : isLt c = true
  · rw [if_pos h6]; constructor <;> intro h <;> first | omega | exact h6
  rw [if_neg h6]
  by_cases h7 : isDg c = true
  · rw [if_pos h7]; constructor <;> intro h <;> first | omega | exact h7
  rw [if_neg h7]
  by_cases h8 : c = 34
  · rw [if_pos h8]; constructor <;> intro h <;> first | omega | exact h8
  rw [if_neg h8]
  by_cases h9 : c = 39
  · rw [if_pos h9]; constructor <;> intro h <;> first | omega | exact h9
  rw [if_neg h9]
  by_cases h10 : c = 96
  · rw [if_pos h10]; constructor <;> intro h <;> first | omega | exact h10
  rw [if_neg h10]
  constructor <;> intro h <;> first | omega | exact ⟨by simpa using h6, by simpa using h7, by simpa using h2, h3, by simpa using h1⟩
/-- What stands behind a line feed changes no token ahead of it, unless it goes on. -/
theorem nx_feed {z : Bool} {r : List UInt8} (hr : r ≠ []) (y : List UInt8) (h : (nx L z r).code ≠ 105) (h' : (nx L z r).code = 106 → r.head? ≠ some 96) : nx L z (r ++ 10 :: y) = nx L z r := by
  unfold nx at h h' ⊢
  rw [cls_feed hr]
  obtain ⟨c, b, rfl⟩ : ∃ c b, r = c :: b := List.exists_cons_of_ne_nil hr
  have hk := cls_le z c b
  obtain ⟨k, hkk⟩ : ∃ k, cls z (c :: b) = k := ⟨_, rfl⟩
  have hc := cls_clue z c b
  rw [hkk] at hc
  have two : k = 5 → 2 ≤ (c :: b).length := fun e => by
    have := (List.isPrefixOf_iff_prefix.1 (hc.five e)).length_le
    simpa using this
  have ten := hc.ten
  clear hc
  rw [hkk] at h h' hk ⊢
  match k, hk, h, h', two, ten with
  | 1, _, _, _, _, _ => rfl
  | 2, _, h, _, _, _ => simp only [nxOf]; rw [runL_feed (by decide)]
  | 3, _, _, _, _, _ => rfl
  | 4, _, h, _, _, _ => simp only [nxOf]; rw [runL_feed (by decide)]
  | 5, _, h, _, two, _ =>
    simp only [nxOf] at h ⊢
    refine closed_feed y (two rfl) (by decide) ?_
    unfold closedL at h ⊢
    split
    · rename_i c; rw [if_pos c] at h; exact absurd rfl h
    · rfl
  | 6, _, h, _, _, _ =>
    have hl := runL_len isWd (c :: b)
    simp only [nxOf, wordL]
    rw [runL_feed (by decide), List.take_append_of_le_length hl]
  | 7, _, h, _, _, _ =>
    have hl := runL_len isWd (c :: b)
    simp only [nxOf, numL]
    rw [runL_feed (by decide), List.take_append_of_le_length hl]
  | 8, _, h, _, _, _ => simp only [nxOf]; exact quoted_feed (by decide) y (by simp)
  | 9, _, h, _, _, _ => simp only [nxOf]; exact quoted_feed (by decide) y (by simp)
  | 10, _, h, h', _, ten =>
    simp only [nxOf] at h h' ⊢
    refine closed_feed y (by simp) (by decide) ?_
    unfold closedL at h h' ⊢
    split
    · rename_i c; rw [if_pos c] at h'; exact absurd (by rw [ten rfl]; rfl) (h' rfl)
    · rfl
  | 11, _, h, _, _, _ =>
    obtain ⟨e1, e2⟩ := L.chr_feed (c :: b) y (by simp)
    simp only [nxOf, signL]
    rw [e1, e2, L.op_feed]

/-- The size of a token and of what is said of it; its kind. -/
structure Sized (n : Nx) (r : List UInt8) : Prop where
  pos : 1 ≤ n.width
  len : n.width ≤ r.length
  said : n.code ≠ 0 → n.off + n.dw ≤ r.length
  kind : n.kind ≠ 16 ∧ 1 ≤ n.kind
theorem closed_sized {kind code : Int} {n : Nat} {clo r : List UInt8} (hn : n ≤ r.length) (h1 : 1 ≤ n) (hk : kind ≠ 16 ∧ 1 ≤ kind) : Sized (closedL kind code n clo r) r := by
  unfold closedL
  split
  · exact ⟨by simp only [wrong_width]; omega, Nat.le_refl _, fun _ => by simp [wrong], hk⟩
  · rename_i c
    have := Lib.index_room (r.drop n) clo (by omega)
    rw [List.length_drop] at this
    exact ⟨by simp only [right_width]; omega, by simp only [right_width]; omega, fun h => absurd rfl h, hk⟩
theorem quoted_sized {f : List UInt8 → Int × Nat} {kind code : Int} {q : UInt8} {r : List UInt8} (hf : ∀ r, (f r).1 ≠ 0 → r ≠ [] → (f r).2 < r.length) (h1 : 1 ≤ r.length) (hk : kind ≠ 16 ∧ 1 ≤ kind) : Sized (quotedL f kind code q r) r := by
  have hl := lit_len q (r.drop 1)
  rw [List.length_drop] at hl
  obtain ⟨hw, hkk⟩ := quoted_width f kind code q r
  refine ⟨by omega, by omega, ?_, by rw [hkk]; exact hk⟩
  unfold quotedL
  simp only
  split
  · intro _; show 0 + (1 + (lit q (r.drop 1)).1) ≤ _; omega
  · split
    · intro h; exact absurd rfl h
    · rename_i c
      intro _
      have := hf (r.take (1 + (lit q (r.drop 1)).1)) c (by intro e; have := congrArg List.length e; rw [List.length_take, List.length_nil] at this; omega)
      rw [List.length_take] at this
      show (f (r.take (1 + (lit q (r.drop 1)).1))).2 + 1 ≤ _
      omega
theorem nx_sized (z : Bool) (c : UInt8) (b : List UInt8) : Sized (nx L z (c :: b)) (c :: b) := by
  unfold nx
  have hk := cls_le z c b
  have hc := cls_clue z c b
  obtain ⟨k, hkk⟩ : ∃ k, cls z (c :: b) = k := ⟨_, rfl⟩
  rw [hkk] at hk hc ⊢
  have h1 : k = 1 → 3 ≤ (c :: b).length := fun e => by
    have := (List.isPrefixOf_iff_prefix.1 (hc.one e).1).length_le
    simpa [mark] using this
  have h2 := hc.two
  have h4 := fun e => (hc.four e).2
  have h5 : k = 5 → 2 ≤ (c :: b).length := fun e => by
    have := (List.isPrefixOf_iff_prefix.1 (hc.five e)).length_le
    simpa using this
  have h6 : k = 6 ∨ k = 7 → isWd c = true := fun e => by
    unfold isWd
    rcases e with e | e
    · rw [hc.six e]; rfl
    · rw [hc.seven e]; simp
  clear hkk hc
  match k, hk, h1, h2, h4, h5, h6 with
  | 1, _, h1, _, _, _, _ => exact ⟨by simp [nxOf, right], h1 rfl, fun h => absurd rfl h, by simp [nxOf, right]⟩
  | 2, _, _, h2, _, _, _ => exact ⟨runL_pos (h2 rfl), runL_len _ _, fun h => absurd rfl h, by simp [nxOf, right]⟩
  | 3, _, _, _, _, _, _ => exact ⟨by simp [nxOf, right], by simp [nxOf, right], fun h => absurd rfl h, by simp [nxOf, right]⟩
  | 4, _, _, _, h4, _, _ => exact ⟨runL_pos (h4 rfl), runL_len _ _, fun h => absurd rfl h, by simp [nxOf, right]⟩
  | 5, _, _, _, _, h5, _ => exact closed_sized (h5 rfl) (by omega) (by decide)
  | 6, _, _, _, _, _, h6 =>
    refine ⟨runL_pos (h6 (.inl rfl)), runL_len _ _, fun h => absurd rfl h, ?_⟩
    have := L.kw_kind ((c :: b).take (runL isWd (c :: b)))
    show (if _ then _ else _) ≠ _ ∧ _ ≤ (if _ then _ else _)
    split
    · decide
    · omega
  | 7, _, _, _, _, _, h6 =>
    have hp := runL_pos (p := isWd) (r := b) (h6 (.inr rfl))
    have hl := runL_len isWd (c :: b)
    show Sized (numL L (c :: b)) _
    unfold numL
    split
    · exact ⟨hp, hl, fun h => absurd rfl h, by simp [right]⟩
    · exact ⟨hp, hl, fun _ => by simpa [wrong] using hl, by simp [wrong]⟩
  | 8, _, _, _, _, _, _ => exact quoted_sized L.str_place (by simp) (by decide)
  | 9, _, _, _, _, _, _ => exact quoted_sized L.rune_place (by simp) (by decide)
  | 10, _, _, _, _, _, _ => exact closed_sized (by simp) (by omega) (by decide)
  | 11, _, _, _, _, _, _ =>
    have p1 := L.chr_pos (c :: b)
    have p2 := L.chr_len (c :: b) (by simp)
    have p3 := L.op_len (c :: b)
    have p4 := L.op_kind (c :: b)
    show Sized (signL L (c :: b)) _
    unfold signL
    split
    · rename_i hh
      have := p4 hh
      exact ⟨hh, p3, fun h => absurd rfl h, ⟨by show ((L.op (c :: b)).1 : Int) ≠ 16; omega, by show (1 : Int) ≤ ((L.op (c :: b)).1 : Int); omega⟩⟩
    · split
      · exact ⟨p1, p2, fun h => absurd rfl h, by simp [right]⟩
      · exact ⟨p1, p2, fun _ => by simpa [wrong] using p2, by simp [wrong]⟩
end Go.Proofs.YtjbamlmdeopcaaaGreatDoor.lx
end

section
/-
  Plain: the tokens of a text, one behind the other, what is said of them, and the semicolons that are not written.
-/
namespace Go.Proofs.YtjbamlmdeopcaaaGreatDoor.lx
open Go

structure Tr where
  k : Int
  i : Nat
  j : Nat
deriving DecidableEq, Inhabited

def triv (z : Int) : Bool := decide (1 ≤ z ∧ z ≤ 5)
def ends (z : Int) : Bool := [10, 11, 12, 13, 14, 70, 73, 77, 86, 44, 45, 62, 63, 64].contains z

variable (L : Lang)
def nxAt (l : List UInt8) (p : Nat) : Nx := nx L (p == 0) (l.drop p)
def tkAt (l : List UInt8) (p : Nat) : Tr := ⟨(nxAt L l p).kind, p, p + (nxAt L l p).width⟩
def dgAt (l : List UInt8) (p : Nat) : List Tr := if (nxAt L l p).code = 0 then [] else [⟨(nxAt L l p).code, p + (nxAt L l p).off, p + (nxAt L l p).off + (nxAt L l p).dw⟩]
def bareF (l : List UInt8) : Nat → Nat → List Tr
  | 0, _ => []
  | f + 1, p => if p < l.length then tkAt L l p :: bareF l f (p + (nxAt L l p).width) else []
def dgsF (l : List UInt8) : Nat → Nat → List Tr
  | 0, _ => []
  | f + 1, p => if p < l.length then dgAt L l p ++ dgsF l f (p + (nxAt L l p).width) else []
/-- The tokens from a place on, without the semicolons that are not written. -/
def bare (l : List UInt8) (p : Nat) : List Tr := bareF L l (l.length - p) p
/-- What is said of them. -/
def dgs (l : List UInt8) (p : Nat) : List Tr := dgsF L l (l.length - p) p
def piece (l : List UInt8) (t : Tr) : List UInt8 := (l.drop t.i).take (t.j - t.i)
def hasFeed (l : List UInt8) (t : Tr) : Bool := Lib.contains (piece l t) [10]
/-- Whether a line ends ahead of the first significant token of a list. -/
def lineEnd (l : List UInt8) (more : Bool) : List Tr → Bool
  | [] => !more
  | t :: T => if triv t.k = false then false else if t.k = 2 then true else if (decide (t.k = 4) && hasFeed l t) = true then true else lineEnd l more T
def autoOf (l : List UInt8) (more : Bool) (t : Tr) (T : List Tr) : List Tr := if (ends t.k && lineEnd l more T) = true then [⟨16, t.j, t.j⟩] else []
def autos (l : List UInt8) (more : Bool) : List Tr → List Tr
  | [] => []
  | t :: T => t :: (autoOf l more t T ++ autos l more T)
/-- All tokens of a text. -/
def scan (l : List UInt8) : List Tr := autos l false (bare L l 0)

section
variable {L}
theorem at_sized {l : List UInt8} {p : Nat} (h : p < l.length) : Sized (nxAt L l p) (l.drop p) := by
  unfold nxAt
  rw [List.drop_eq_getElem_cons h]
  exact nx_sized _ _ _
theorem at_pos {l : List UInt8} {p : Nat} (h : p < l.length) : 1 ≤ (nxAt L l p).width := (at_sized h).pos
theorem at_le {l : List UInt8} {p : Nat} (h : p < l.length) : p + (nxAt L l p).width ≤ l.length := by
  have := (at_sized (L := L) h).len
  rw [List.length_drop] at this
  omega
theorem bare_fuel {l : List UInt8} : ∀ (f g p : Nat), l.length - p ≤ f → l.length - p ≤ g → bareF L l f p = bareF L l g p := by
  intro f
  induction f with
  | zero =>
    intro g p h _
    cases g with
    | zero => rfl
    | succ g => simp only [bareF]; rw [if_neg (by omega)]
  | succ f ih =>
    intro g p h hg
    cases g with
    | zero => simp only [bareF]; rw [if_neg (by omega)]
    | succ g =>
      simp only [bareF]
      by_cases c : p < l.length
      · have := at_pos (L := L) c
        rw [if_pos c, if_pos c, ih g _ (by omega) (by omega)]
      · rw [if_neg c, if_neg c]
theorem dgs_fuel {l : List UInt8} : ∀ (f g p : Nat), l.length - p ≤ f → l.length - p ≤ g → dgsF L l f p = dgsF L l g p := by
  intro f
  induction f with
  | zero =>
    intro g p h _
    cases g with
    | zero => rfl
    | succ g => simp only [dgsF]; rw [if_neg (by omega)]
  | succ f ih =>
    intro g p h hg
    cases g with
    | zero => simp only [dgsF]; rw [if_neg (by omega)]
    | succ g =>
      simp only [dgsF]
      by_cases c : p < l.length
      · have := at_pos (L := L) c
        rw [if_pos c, if_pos c, ih g _ (by omega) (by omega)]
      · rw [if_neg c, if_neg c]
theorem bare_end {l : List UInt8} {p : Nat} (h : ¬ p < l.length) : bare L l p = [] := by
  unfold bare
  rw [show l.length - p = 0 by omega]
  rfl
theorem dgs_end {l : List UInt8} {p : Nat} (h : ¬ p < l.length) : dgs L l p = [] := by
  unfold dgs
  rw [show l.length - p = 0 by omega]
  rfl
theorem bare_step {l : List UInt8} {p : Nat} (h : p < l.length) : bare L l p = tkAt L l p :: bare L l (p + (nxAt L l p).width) := by
  have := at_pos (L := L) h
  unfold bare
  obtain ⟨f, hf⟩ : ∃ f, l.length - p = f + 1 := ⟨l.length - p - 1, by omega⟩
  rw [hf]
  simp only [bareF]
  rw [if_pos h, bare_fuel f (l.length - (p + (nxAt L l p).width)) _ (by omega) (by omega)]
theorem dgs_step {l : List UInt8} {p : Nat} (h : p < l.length) : dgs L l p = dgAt L l p ++ dgs L l (p + (nxAt L l p).width) := by
  have := at_pos (L := L) h
  unfold dgs
  obtain ⟨f, hf⟩ : ∃ f, l.length - p = f + 1 := ⟨l.length - p - 1, by omega⟩
  rw [hf]
  simp only [dgsF]
  rw [if_pos h, dgs_fuel f (l.length - (p + (nxAt L l p).width)) _ (by omega) (by omega)]
/-- Along the tokens from a place on. -/
theorem along {l : List UInt8} {P : Nat → Prop} (hend : ∀ p, ¬ p < l.length → P p) (hstep : ∀ p, p < l.length → P (p + (nxAt L l p).width) → P p) : ∀ p, P p := by
  have all : ∀ n p, l.length - p ≤ n → P p := by
    intro n
    induction n with
    | zero => intro p h; exact hend p (by omega)
    | succ n ih =>
      intro p h
      by_cases c : p < l.length
      · have := at_pos (L := L) c
        exact hstep p c (ih _ (by omega))
      · exact hend p c
  exact fun p => all _ p (Nat.le_refl _)
theorem bare_few (l : List UInt8) : ∀ p, (bare L l p).length ≤ l.length - p := by
  refine along (L := L) (fun p h => by rw [bare_end h]; simp) (fun p h ih => ?_)
  have := at_pos (L := L) h
  rw [bare_step h, List.length_cons]
  omega
theorem dgs_few (l : List UInt8) : ∀ p, (dgs L l p).length ≤ l.length - p := by
  refine along (L := L) (fun p h => by rw [dgs_end h]; simp) (fun p h ih => ?_)
  have := at_pos (L := L) h
  rw [dgs_step h, List.length_append]
  have : (dgAt L l p).length ≤ 1 := by unfold dgAt; split <;> simp
  omega
theorem auto_few (l : List UInt8) (more : Bool) (t : Tr) (T : List Tr) : (autoOf l more t T).length ≤ 1 := by unfold autoOf; split <;> simp
theorem autos_few (l : List UInt8) (more : Bool) (T : List Tr) : (autos l more T).length ≤ 2 * T.length := by
  induction T with
  | nil => simp [autos]
  | cons t T ih =>
    have := auto_few l more t T
    simp only [autos, List.length_cons, List.length_append]
    omega
theorem scan_few (l : List UInt8) : (scan L l).length ≤ 2 * l.length := by
  have h1 := autos_few l false (bare L l 0)
  have h2 := bare_few (L := L) l 0
  unfold scan
  omega

/-- How far a walk through the text has come: what it has told, and what is still to be told. -/
structure Far (L : Lang) (l : List UInt8) (p : Nat) (T D : List Tr) : Prop where
  le : p ≤ l.length
  toks : T ++ bare L l p = bare L l 0
  said : D ++ dgs L l p = dgs L l 0
  few : T.length ≤ p
  few' : D.length ≤ p
theorem Far.zero (l : List UInt8) : Far L l 0 [] [] := ⟨Nat.zero_le _, rfl, rfl, Nat.le_refl _, Nat.le_refl _⟩
theorem Far.step {l : List UInt8} {p : Nat} {T D : List Tr} (h : Far L l p T D) (hp : p < l.length) : Far L l (p + (nxAt L l p).width) (T ++ [tkAt L l p]) (D ++ dgAt L l p) := by
  have h1 := at_pos (L := L) hp
  have h2 : (dgAt L l p).length ≤ 1 := by unfold dgAt; split <;> simp
  refine ⟨at_le hp, ?_, ?_, ?_, ?_⟩
  · rw [← h.toks, bare_step hp]; simp
  · rw [← h.said, dgs_step hp]; simp
  · have := h.few; rw [List.length_append, List.length_singleton]; omega
  · have := h.few'; rw [List.length_append]; omega
theorem Far.done {l : List UInt8} {p : Nat} {T D : List Tr} (h : Far L l p T D) (hp : ¬ p < l.length) : T = bare L l 0 ∧ D = dgs L l 0 := by
  have h1 := h.toks
  have h2 := h.said
  rw [bare_end hp, List.append_nil] at h1
  rw [dgs_end hp, List.append_nil] at h2
  exact ⟨h1, h2⟩

/-! LexerWhole. -/
/-- One behind the other from a place on up to the end; the kind of the token ahead. -/
def Whole (n : Nat) : Nat → Int → List Tr → Prop
  | p, _, [] => p = n
  | p, prev, t :: T => t.i = p ∧ (if t.k = 16 then t.j = p ∧ ends prev = true ∧ Whole n p 16 T else t.i < t.j ∧ Whole n t.j t.k T)
theorem whole_scan (l : List UInt8) : Whole l.length 0 0 (scan L l) := by
  have all : ∀ p, p ≤ l.length → ∀ prev, Whole l.length p prev (autos l false (bare L l p)) := by
    refine along (L := L) (l := l) (fun p h hp prev => ?_) (fun p h ih hp prev => ?_)
    · rw [bare_end h]; exact (by omega : p = l.length)
    · have hs := at_sized (L := L) h
      have hw := at_le (L := L) h
      have h1 := hs.pos
      have hk := hs.kind.1
      rw [bare_step h]
      refine ⟨rfl, ?_⟩
      rw [if_neg (by exact hk)]
      refine ⟨by show p < p + _; omega, ?_⟩
      unfold autoOf
      by_cases c : (ends (tkAt L l p).k && lineEnd l false (bare L l (p + (nxAt L l p).width))) = true
      · rw [if_pos c]
        rw [Bool.and_eq_true] at c
        refine ⟨rfl, ?_⟩
        rw [if_pos rfl]
        exact ⟨rfl, c.1, ih hw _⟩
      · rw [if_neg c]
        exact ih hw _
  exact all 0 (Nat.zero_le _) 0
theorem dgs_within (l : List UInt8) : ∀ p, ∀ d ∈ dgs L l p, d.i ≤ d.j ∧ d.j ≤ l.length := by
  refine along (L := L) (fun p h => by rw [dgs_end h]; simp) (fun p h ih => ?_)
  rw [dgs_step h]
  intro d hd
  rcases List.mem_append.1 hd with hd | hd
  · have hs := at_sized (L := L) h
    unfold dgAt at hd
    split at hd
    · simp at hd
    · rename_i c
      have := hs.said c
      rw [List.length_drop] at this
      rw [List.mem_singleton] at hd
      subst hd
      exact ⟨Nat.le_add_right _ _, by show p + _ + _ ≤ _; omega⟩
  · exact ih d hd

/-! LexerLines. -/
theorem piece_more {l : List UInt8} (y : List UInt8) {t : Tr} (h : t.j ≤ l.length) (h' : t.i ≤ t.j) : piece (l ++ y) t = piece l t := by
  unfold piece
  rw [List.drop_append_of_le_length (by omega), List.take_append_of_le_length (by rw [List.length_drop]; omega)]
theorem bare_within (l : List UInt8) : ∀ p, ∀ t ∈ bare L l p, t.i ≤ t.j ∧ t.j ≤ l.length := by
  refine along (L := L) (fun p h => by rw [bare_end h]; simp) (fun p h ih => ?_)
  rw [bare_step h]
  intro t ht
  rcases List.mem_cons.1 ht with rfl | ht
  · have := at_le (L := L) h
    exact ⟨by show p ≤ p + _; omega, this⟩
  · exact ih t ht
theorem lineEnd_feed {l : List UInt8} (y : List UInt8) {f : Tr} (hf : f.k = 2) (M : List Tr) : ∀ T : List Tr, (∀ t ∈ T, t.i ≤ t.j ∧ t.j ≤ l.length) → lineEnd (l ++ y) false (T ++ f :: M) = lineEnd l false T := by
  intro T
  induction T with
  | nil =>
    intro _
    show lineEnd (l ++ y) false (f :: M) = true
    rw [lineEnd, hf, if_neg (by decide), if_pos rfl]
  | cons t T ih =>
    intro h
    have ht := h t (by simp)
    show lineEnd (l ++ y) false (t :: (T ++ f :: M)) = _
    rw [lineEnd, lineEnd, ih (fun u hu => h u (by simp [hu]))]
    unfold hasFeed
    rw [piece_more y ht.2 ht.1]
theorem autos_feed {l : List UInt8} (y : List UInt8) {f : Tr} (hf : f.k = 2) (M : List Tr) : ∀ T : List Tr, (∀ t ∈ T, t.i ≤ t.j ∧ t.j ≤ l.length) → autos (l ++ y) false (T ++ f :: M) = autos l false T ++ f :: autos (l ++ y) false M := by
  intro T
  induction T with
  | nil =>
    intro _
    show f :: (autoOf _ _ f M ++ _) = _
    unfold autoOf
    rw [hf]
    rfl
  | cons t T ih =>
    intro h
    show t :: (autoOf _ _ t (T ++ f :: M) ++ autos _ _ (T ++ f :: M)) = _
    rw [ih (fun u hu => h u (by simp [hu]))]
    unfold autoOf
    rw [lineEnd_feed y hf M T (fun u hu => h u (by simp [hu]))]
    simp [autos, autoOf]
/-- Nothing that is said goes on over a line feed. -/
def Ends (l : List UInt8) (D : List Tr) : Prop := ∀ d ∈ D, d.k ≠ 105 ∧ (d.k = 106 → l[d.i]? ≠ some 96)
theorem off_zero (z : Bool) (c : UInt8) (b : List UInt8) (h : (nx L z (c :: b)).code = 106) (h9 : c = 96) : (nx L z (c :: b)).off = 0 := by
  subst h9
  unfold nx at h ⊢
  have hc := cls_clue z 96 b
  have hk := cls_le z 96 b
  generalize cls z (96 :: b) = k at *
  match k, hk, hc, h with
  | 1, _, hc, _ => exact absurd (List.isPrefixOf_iff_prefix.1 (hc.one rfl).1) (by simp [mark])
  | 2, _, hc, _ => exact absurd (hc.two rfl) (by decide)
  | 3, _, hc, _ => exact absurd (hc.three rfl) (by decide)
  | 4, _, hc, _ => exact absurd (List.isPrefixOf_iff_prefix.1 (hc.four rfl).1) (by simp)
  | 5, _, hc, _ => exact absurd (List.isPrefixOf_iff_prefix.1 (hc.five rfl)) (by simp)
  | 6, _, hc, _ => exact absurd (hc.six rfl) (by decide)
  | 7, _, hc, _ => exact absurd (hc.seven rfl) (by decide)
  | 8, _, hc, _ => exact absurd (hc.eight rfl) (by decide)
  | 9, _, hc, _ => exact absurd (hc.nine rfl) (by decide)
  | 10, _, _, h => simp only [nxOf, closedL]; split <;> rfl
  | 11, _, _, h => simp only [nxOf, signL]; repeat' split
                   all_goals rfl
theorem bare_feed {l : List UInt8} (y : List UInt8) (hD : Ends l (dgs L l 0)) : ∀ p, p ≤ l.length → (∀ d ∈ dgs L l p, d ∈ dgs L l 0) →
    bare L (l ++ 10 :: y) p = bare L l p ++ ⟨2, l.length, l.length + 1⟩ :: bare L (l ++ 10 :: y) (l.length + 1) := by
  refine along (L := L) (l := l) (fun p h hp _ => ?_) (fun p h ih hp hsub => ?_)
  · obtain rfl : p = l.length := by omega
    rw [bare_end h, List.nil_append, bare_step (by simp)]
    have e : nxAt L (l ++ 10 :: y) l.length = right 2 1 := by
      unfold nxAt
      rw [List.drop_append_of_le_length (Nat.le_refl _), List.drop_length, List.nil_append]
      unfold nx
      have : cls (l.length == 0) (10 :: y) = 3 := by
        rw [cls, if_neg (by simp [Lib.hasPrefix, mark]), if_neg (by decide), if_pos rfl]
      rw [this]
      rfl
    unfold tkAt
    rw [e]
    rfl
  · have hw := at_le (L := L) h
    have e : nxAt L (l ++ 10 :: y) p = nxAt L l p := by
      unfold nxAt
      rw [List.drop_append_of_le_length (by omega)]
      have hdrop := List.drop_eq_getElem_cons h
      have hmem : ∀ d ∈ dgAt L l p, d ∈ dgs L l 0 := fun d hd => hsub d (by rw [dgs_step h]; exact List.mem_append_left _ hd)
      refine nx_feed (by intro e; rw [hdrop] at e; cases e) y ?_ ?_
      · intro hc
        have : (⟨(nxAt L l p).code, p + (nxAt L l p).off, p + (nxAt L l p).off + (nxAt L l p).dw⟩ : Tr) ∈ dgAt L l p := by
          unfold dgAt
          rw [if_neg (by unfold nxAt; rw [hc]; decide)]
          simp
        exact (hD _ (hmem _ this)).1 hc
      · intro hc hh
        have h96 : l[p]? = some 96 := by rw [hdrop] at hh; simpa using hh
        have hoff : (nxAt L l p).off = 0 := by
          unfold nxAt
          rw [hdrop] at hc ⊢
          exact off_zero _ _ _ hc (List.getElem?_eq_some_iff.1 h96).2
        have : (⟨(nxAt L l p).code, p + (nxAt L l p).off, p + (nxAt L l p).off + (nxAt L l p).dw⟩ : Tr) ∈ dgAt L l p := by
          unfold dgAt
          rw [if_neg (by unfold nxAt; rw [hc]; decide)]
          simp
        refine (hD _ (hmem _ this)).2 hc ?_
        show l[p + (nxAt L l p).off]? = _
        rw [hoff, Nat.add_zero]; exact h96
    rw [bare_step (p := p) (by rw [List.length_append]; omega), bare_step h]
    unfold tkAt
    rw [e, ih hw (fun d hd => hsub d (by rw [dgs_step h]; exact List.mem_append_right _ hd))]
    rfl
/-- What stands behind a line feed changes no token ahead of it, unless one goes on. -/
theorem scan_feed {l : List UInt8} (y : List UInt8) (hD : Ends l (dgs L l 0)) : ∃ M, scan L (l ++ 10 :: y) = scan L l ++ ⟨2, l.length, l.length + 1⟩ :: M := by
  unfold scan
  rw [bare_feed y hD 0 (Nat.zero_le _) (fun _ h => h)]
  refine ⟨_, autos_feed (10 :: y) (f := ⟨2, l.length, l.length + 1⟩) rfl _ (bare L l 0) (bare_within l 0)⟩
end
end Go.Proofs.YtjbamlmdeopcaaaGreatDoor.lx
end

section
/-
  The two lists of the program (signs, keywords): what they hold.
-/
namespace Go.Proofs.YtjbamlmdeopcaaaGreatDoor.tok
open Go.RowKit

def B (l : List UInt8) : ByteArray := ⟨l.toArray⟩
def signs : List (List UInt8) := [[43], [45], [42], [47], [37], [38], [124], [94], [60, 60], [62, 62], [38, 94],
  [43, 61], [45, 61], [42, 61], [47, 61], [37, 61], [38, 61], [124, 61], [94, 61], [60, 60, 61], [62, 62, 61], [38, 94, 61],
  [38, 38], [124, 124], [43, 43], [45, 45], [61, 61], [60], [62], [61], [33], [126],
  [33, 61], [60, 61], [62, 61], [58, 61], [46, 46, 46],
  [40], [91], [123], [44], [46], [41], [93], [125], [58]]
def words : List (List UInt8) := [[98, 114, 101, 97, 107], [99, 97, 115, 101], [99, 111, 110, 115, 116], [99, 111, 110, 116, 105, 110, 117, 101], [100, 101, 102, 97, 117, 108, 116], [100, 101, 102, 101, 114], [101, 108, 115, 101],
  [102, 97, 108, 108, 116, 104, 114, 111, 117, 103, 104], [102, 111, 114], [102, 117, 110, 99], [105, 102], [105, 109, 112, 111, 114, 116], [105, 110, 116, 101, 114, 102, 97, 99, 101], [109, 97, 112],
  [112, 97, 99, 107, 97, 103, 101], [114, 97, 110, 103, 101], [114, 101, 116, 117, 114, 110], [115, 116, 114, 117, 99, 116], [115, 119, 105, 116, 99, 104], [116, 121, 112, 101], [118, 97, 114]]
def signA : Array Value := (signs.map fun l => Value.string (B l)).toArray
def wordA : Array Value := (words.map fun l => Value.string (B l)).toArray

section
variable {P : Program}
theorem wpList_builtTo {ops : Array Oper} {rest : List Oper} {o : Oper} {a : Act} {w : World} {Q : Exit → Act → World → Prop} (hg : o.guard = none) (t : TypeId) (parts : Array (Nat × Operand)) (ho : o.op = .build t parts)
    (d : Option Tmp) (hd : o.dst = d) (cells : Array Value) (hc : P.built t (parts.map fun (i, x) => (i, a.eval x)).toList = some cells)
    (h : wpList P ops Q rest (a.put d (.agg cells)) w) : wpList P ops Q (o :: rest) a w := by
  subst hd
  refine wpList_build hg t parts ho (by rw [hc]; rfl) ?_
  rw [hc]
  exact h
end

set_option maxRecDepth 100000 in
set_option maxHeartbeats 1000000 in
theorem signs_any (w : World) : Calls Tryz.prog 85 #[] w fun e w' => e = .returned (.agg signA) ∧ Below w.heap.size w w' := by
  go_enter Tryz.func85, Tryz.ntmps85
  go_wp2_with (refine wpList_builtTo rfl 97 _ rfl _ rfl signA (by as_aux_lemma => kernel_rfl) ?_)
  rw [run_storeCells_new w 97 _ signA (by as_aux_lemma => kernel_rfl) (by as_aux_lemma => kernel_rfl) (by as_aux_lemma => kernel_rfl)]
  go_wp2
  refine bodyPost_ret (v := .agg signA) (results_cell_row Tryz.results85 _ _ w.heap.size 97 signA (0, 0) _ rfl (heap_alloc_last w _) Tryz.underlying97 rfl (by as_aux_lemma => kernel_rfl)) rfl ⟨rfl, ?_⟩
  exact (Below.refl _ _).alloc (Nat.le_refl _) _
set_option maxRecDepth 100000 in
set_option maxHeartbeats 1000000 in
theorem keywords_any (w : World) : Calls Tryz.prog 79 #[] w fun e w' => e = .returned (.agg wordA) ∧ Below w.heap.size w w' := by
  go_enter Tryz.func79, Tryz.ntmps79
  go_wp2_with (refine wpList_builtTo rfl 93 _ rfl _ rfl wordA (by as_aux_lemma => kernel_rfl) ?_)
  rw [run_storeCells_new w 93 _ wordA (by as_aux_lemma => kernel_rfl) (by as_aux_lemma => kernel_rfl) (by as_aux_lemma => kernel_rfl)]
  go_wp2
  refine bodyPost_ret (v := .agg wordA) (results_cell_row Tryz.results79 _ _ w.heap.size 93 wordA (0, 0) _ rfl (heap_alloc_last w _) Tryz.underlying93 rfl (by as_aux_lemma => kernel_rfl)) rfl ⟨rfl, ?_⟩
  exact (Below.refl _ _).alloc (Nat.le_refl _) _
end Go.Proofs.YtjbamlmdeopcaaaGreatDoor.tok
end
