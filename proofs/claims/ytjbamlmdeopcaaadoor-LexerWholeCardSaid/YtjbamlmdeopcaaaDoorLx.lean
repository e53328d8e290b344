/-
  Plain: the token with which a text begins (layer 3), and what it hangs on.
-/
import Derived.Lib.Strings
import Derived.Lib.IndexMore
namespace Go.Proofs.YtjbamlmdeopcaaaDoor.lx
open Go

/-- What layers 1 and 2 say of texts, and what is used of it. -/
structure Lang where
  kw : List UInt8 → Int
  num : List UInt8 → Bool
  op : List UInt8 → Nat × Nat
  str : List UInt8 → Int × Nat
  rune : List UInt8 → Int × Nat
  chr : List UInt8 → Nat
  said : List UInt8 → Bool
  kw_kind : ∀ r, kw r = 0 ∨ 70 ≤ kw r
  op_len : ∀ r, (op r).2 ≤ r.length
  op_kind : ∀ r, 0 < (op r).2 → 15 ≤ (op r).1 ∧ (op r).1 ≠ 16
  op_near : ∀ a x y, 3 ≤ a.length → op (a ++ x) = op (a ++ y)
  op_feed : ∀ r y, op (r ++ 10 :: y) = op r
  chr_pos : ∀ r, 1 ≤ chr r
  chr_len : ∀ r, r ≠ [] → chr r ≤ r.length
  chr_near : ∀ a x y, 4 ≤ a.length → chr (a ++ x) = chr (a ++ y) ∧ said (a ++ x) = said (a ++ y)
  chr_feed : ∀ r y, r ≠ [] → chr (r ++ 10 :: y) = chr r ∧ said (r ++ 10 :: y) = said r
  str_place : ∀ r, (str r).1 ≠ 0 → r ≠ [] → (str r).2 < r.length
  rune_place : ∀ r, (rune r).1 ≠ 0 → r ≠ [] → (rune r).2 < r.length
  str_code : ∀ r, (str r).1 ≠ 105
  rune_code : ∀ r, (rune r).1 ≠ 105

def isBl (c : UInt8) : Bool := c == 32 || c == 9 || c == 13
def noFeed (c : UInt8) : Bool := c != 10
def isLt (c : UInt8) : Bool := (65 ≤ c && c ≤ 90) || (97 ≤ c && c ≤ 122) || c == 95
def isDg (c : UInt8) : Bool := 48 ≤ c && c ≤ 57
def isWd (c : UInt8) : Bool := isLt c || isDg c

/-- How many bytes at the beginning have a property. -/
def runL (p : UInt8 → Bool) : List UInt8 → Nat
  | [] => 0
  | c :: r => if p c then runL p r + 1 else 0
/-- Behind an opening quote: how many bytes go with the literal, and whether it has its end. -/
def lit (q : UInt8) : List UInt8 → Nat × Bool
  | [] => (0, false)
  | [c] => if c = q then (1, true) else if c = 10 then (0, false) else (1, false)
  | c :: d :: r => if c = q then (1, true) else if c = 10 then (0, false) else if c = 92 then
      (if d = 10 then (1, false) else ((lit q r).1 + 2, (lit q r).2)) else ((lit q (d :: r)).1 + 1, (lit q (d :: r)).2)

structure Nx where
  kind : Int
  width : Nat
  code : Int
  off : Nat
  dw : Nat
def right (kind : Int) (w : Nat) : Nx := ⟨kind, w, 0, 0, 0⟩
def wrong (kind : Int) (w : Nat) (code : Int) : Nx := ⟨kind, w, code, 0, w⟩
def closedL (kind code : Int) (n : Nat) (clo r : List UInt8) : Nx :=
  if Lib.index (r.drop n) clo < 0 then wrong kind r.length code else right kind (n + (Lib.index (r.drop n) clo).toNat + clo.length)
def quotedL (f : List UInt8 → Int × Nat) (kind code : Int) (q : UInt8) (r : List UInt8) : Nx :=
  let w := 1 + (lit q (r.drop 1)).1
  if (lit q (r.drop 1)).2 = false then wrong kind w code
  else if (f (r.take w)).1 = 0 then right kind w else ⟨kind, w, (f (r.take w)).1, (f (r.take w)).2, 1⟩
def mark : List UInt8 := [239, 187, 191]

variable (L : Lang)
def wordL (r : List UInt8) : Nx := right (if L.kw (r.take (runL isWd r)) = 0 then 10 else L.kw (r.take (runL isWd r))) (runL isWd r)
def numL (r : List UInt8) : Nx := if L.num (r.take (runL isWd r)) = true then right 11 (runL isWd r) else wrong 11 (runL isWd r) 109
def signL (r : List UInt8) : Nx :=
  if 0 < (L.op r).2 then right (L.op r).1 (L.op r).2 else if L.said r = true then right 5 (L.chr r) else wrong 5 (L.chr r) 104
/-- Which of the kinds of beginnings a text has. -/
def cls (z : Bool) : List UInt8 → Nat
  | [] => 0
  | c :: r =>
    if (z && Lib.hasPrefix (c :: r) mark) = true then 1
    else if isBl c = true then 2
    else if c = 10 then 3
    else if Lib.hasPrefix (c :: r) [47, 47] = true then 4
    else if Lib.hasPrefix (c :: r) [47, 42] = true then 5
    else if isLt c = true then 6
    else if isDg c = true then 7
    else if c = 34 then 8
    else if c = 39 then 9
    else if c = 96 then 10
    else 11
def nxOf (k : Nat) (r : List UInt8) : Nx := match k with
  | 1 => right 1 3
  | 2 => right 1 (runL isBl r)
  | 3 => right 2 1
  | 4 => right 3 (runL noFeed r)
  | 5 => closedL 4 105 2 [42, 47] r
  | 6 => wordL L r
  | 7 => numL L r
  | 8 => quotedL L.str 13 106 34 r
  | 9 => quotedL L.rune 12 107 39 r
  | 10 => closedL 14 106 1 [96] r
  | 11 => signL L r
  | _ => right 0 1
def nx (z : Bool) (r : List UInt8) : Nx := nxOf L (cls z r) r

section
variable {L}
theorem runL_len (p : UInt8 → Bool) (r : List UInt8) : runL p r ≤ r.length := by
  induction r with
  | nil => simp [runL]
  | cons c r ih => simp only [runL, List.length_cons]; split <;> omega
theorem runL_near {p : UInt8 → Bool} {a : List UInt8} (x y : List UInt8) : runL p (a ++ x) < a.length → runL p (a ++ y) = runL p (a ++ x) := by
  induction a with
  | nil => simp
  | cons c a ih =>
    simp only [List.cons_append, runL, List.length_cons]
    by_cases h : p c = true
    · rw [if_pos h, if_pos h]; intro g; rw [ih (by omega)]
    · rw [if_neg h, if_neg h]; intro _; rfl
theorem runL_feed {p : UInt8 → Bool} (hp : p 10 = false) (r y : List UInt8) : runL p (r ++ 10 :: y) = runL p r := by
  induction r with
  | nil => simp [runL, hp]
  | cons c r ih => simp only [List.cons_append, runL, ih]
theorem runL_pos {p : UInt8 → Bool} {c : UInt8} {r : List UInt8} (h : p c = true) : 1 ≤ runL p (c :: r) := by simp [runL, h]
theorem lit_len (q : UInt8) (r : List UInt8) : (lit q r).1 ≤ r.length := by
  fun_induction lit q r <;> simp_all <;> omega
theorem lit_near {q : UInt8} {a : List UInt8} (x y : List UInt8) : (lit q (a ++ x)).1 < a.length → lit q (a ++ y) = lit q (a ++ x) := by
  induction hn : a.length using Nat.strongRecOn generalizing a with
  | ind n ih =>
    match a, hn with
    | [], hn => simp at hn; subst hn; omega
    | [c], hn =>
      subst hn
      have e : ∀ w : List UInt8, lit q ([c] ++ w) = lit q (c :: w) := fun _ => rfl
      rw [e, e]
      intro h
      cases x with
      | nil =>
        unfold lit at h
        by_cases h1 : c = q
        · rw [if_pos h1] at h; simp at h
        · rw [if_neg h1] at h
          by_cases h2 : c = 10
          · cases y with
            | nil => rfl
            | cons d y => rw [lit, lit, if_neg h1, if_pos h2, if_neg h1, if_pos h2]
          · rw [if_neg h2] at h; simp at h
      | cons d x =>
        rw [lit] at h
        by_cases h1 : c = q
        · rw [if_pos h1] at h; simp at h
        · rw [if_neg h1] at h
          by_cases h2 : c = 10
          · cases y with
            | nil => rw [lit, lit, if_neg h1, if_pos h2, if_neg h1, if_pos h2]
            | cons d y => rw [lit, lit, if_neg h1, if_pos h2, if_neg h1, if_pos h2]
          · rw [if_neg h2] at h
            exfalso
            revert h
            split
            · split <;> simp
            · simp
    | c :: d :: a, hn =>
      have e : ∀ w : List UInt8, lit q (c :: d :: a ++ w) = lit q (c :: d :: (a ++ w)) := fun _ => rfl
      have e' : ∀ w : List UInt8, d :: (a ++ w) = (d :: a) ++ w := fun _ => rfl
      rw [e, e, lit, lit]
      simp only [List.length_cons] at hn
      by_cases h1 : c = q
      · rw [if_pos h1, if_pos h1]; intro _; rfl
      · rw [if_neg h1, if_neg h1]
        by_cases h2 : c = 10
        · rw [if_pos h2, if_pos h2]; intro _; rfl
        · rw [if_neg h2, if_neg h2]
          by_cases h3 : c = 92
          · rw [if_pos h3, if_pos h3]
            by_cases h4 : d = 10
            · rw [if_pos h4, if_pos h4]; intro _; rfl
            · rw [if_neg h4, if_neg h4]
              intro h
              simp only at h
              rw [ih a.length (by omega) rfl (by omega)]
          · rw [if_neg h3, if_neg h3, e', e']
            intro h
            simp only at h
            rw [ih (d :: a).length (by simp; omega) rfl (by simp only [List.length_cons]; omega)]
theorem lit_feed {q : UInt8} (hq : q ≠ 10) (r y : List UInt8) : lit q (r ++ 10 :: y) = lit q r := by
  have hq' : (10 : UInt8) ≠ q := fun e => hq e.symm
  induction hn : r.length using Nat.strongRecOn generalizing r with
  | ind n ih =>
    match r, hn with
    | [], _ =>
      show lit q (10 :: y) = lit q []
      cases y with
      | nil => rw [lit, lit, if_neg hq', if_pos rfl]
      | cons d y => rw [lit, lit, if_neg hq', if_pos rfl]
    | [c], _ =>
      show lit q (c :: 10 :: y) = lit q [c]
      rw [lit, lit]
      by_cases h1 : c = q
      · rw [if_pos h1, if_pos h1]
      · rw [if_neg h1, if_neg h1]
        by_cases h2 : c = 10
        · rw [if_pos h2, if_pos h2]
        · rw [if_neg h2, if_neg h2]
          by_cases h3 : c = 92
          · rw [if_pos h3, if_pos rfl]
          · rw [if_neg h3]
            cases y with
            | nil => rw [lit, if_neg hq', if_pos rfl]
            | cons d y => rw [lit, if_neg hq', if_pos rfl]
    | c :: d :: r, hn =>
      have e : lit q (c :: d :: r ++ 10 :: y) = lit q (c :: d :: (r ++ 10 :: y)) := rfl
      have e' : d :: (r ++ 10 :: y) = (d :: r) ++ 10 :: y := rfl
      simp only [List.length_cons] at hn
      rw [e, lit, lit, ih r.length (by omega) r rfl, e', ih (d :: r).length (by simp; omega) (d :: r) rfl]
theorem index_near {a sub : List UInt8} (x y : List UInt8) (h0 : 0 ≤ Lib.index (a ++ x) sub) (h : Lib.index (a ++ x) sub + sub.length ≤ a.length) : Lib.index (a ++ y) sub = Lib.index (a ++ x) sub := by
  rcases Lib.index_spec (a ++ x) sub with ⟨h1, _⟩ | ⟨i, h1, h2, h3, h4⟩
  · omega
  · rw [h1] at h ⊢
    have occ : ∀ (w : List UInt8) (j : Nat), j + sub.length ≤ a.length → Lib.occAt (a ++ w) sub j = Lib.occAt a sub j := by
      intro w j hj
      unfold Lib.occAt
      rw [List.drop_append_of_le_length (by omega)]
      rw [Bool.eq_iff_iff, List.isPrefixOf_iff_prefix, List.isPrefixOf_iff_prefix]
      constructor
      · intro hp; exact List.prefix_of_prefix_length_le hp (List.prefix_append _ _) (by rw [List.length_drop]; omega)
      · intro hp; exact hp.trans (List.prefix_append _ _)
    refine Lib.index_first (by rw [List.length_append]; omega) ?_ ?_
    · rw [occ y i (by omega), ← occ x i (by omega)]; exact h3
    · intro j hj
      rw [occ y j (by omega), ← occ x j (by omega)]
      exact h4 j hj
theorem index_more {r sub : List UInt8} (y : List UInt8) (h0 : 0 ≤ Lib.index r sub) : Lib.index (r ++ y) sub = Lib.index r sub := by
  have hr := Lib.index_room r sub h0
  have e : r ++ [] = r := List.append_nil r
  have := index_near (a := r) (sub := sub) [] y (by rw [e]; exact h0) (by rw [e]; exact hr)
  rw [e] at this
  exact this
theorem pre_near {a p : List UInt8} (x y : List UInt8) (h : p.length ≤ a.length) : Lib.hasPrefix (a ++ x) p = Lib.hasPrefix (a ++ y) p := by
  have one : ∀ w : List UInt8, Lib.hasPrefix (a ++ w) p = Lib.hasPrefix a p := by
    intro w
    unfold Lib.hasPrefix
    rw [Bool.eq_iff_iff, List.isPrefixOf_iff_prefix, List.isPrefixOf_iff_prefix]
    exact ⟨fun hp => List.prefix_of_prefix_length_le hp (List.prefix_append _ _) h, fun hp => hp.trans (List.prefix_append _ _)⟩
  rw [one, one]
theorem pre_feed {p : List UInt8} (hp : (10 : UInt8) ∉ p) (r y : List UInt8) : Lib.hasPrefix (r ++ 10 :: y) p = Lib.hasPrefix r p := by
  unfold Lib.hasPrefix
  induction p generalizing r with
  | nil => cases r <;> rfl
  | cons a p ih =>
    simp only [List.mem_cons, not_or] at hp
    cases r with
    | nil =>
      show ((a == 10) && _) = false
      rw [show (a == (10 : UInt8)) = false from beq_eq_false_iff_ne.2 (fun e => hp.1 e.symm)]
      rfl
    | cons c r =>
      show ((a == c) && p.isPrefixOf (r ++ 10 :: y)) = ((a == c) && p.isPrefixOf r)
      rw [ih hp.2]

theorem cls_near {z : Bool} {a : List UInt8} (x y : List UInt8) (h : 3 ≤ a.length) : cls z (a ++ x) = cls z (a ++ y) := by
  match a, h with
  | c :: a, h =>
    have e : ∀ w, Lib.hasPrefix (c :: (a ++ w)) = Lib.hasPrefix ((c :: a) ++ w) := fun _ => rfl
    simp only [List.cons_append, cls]
    rw [e x, e y, pre_near (p := mark) x y h, pre_near (p := [47, 47]) x y (by simp at *; omega), pre_near (p := [47, 42]) x y (by simp at *; omega)]
theorem cls_feed {z : Bool} {r : List UInt8} (hr : r ≠ []) (y : List UInt8) : cls z (r ++ 10 :: y) = cls z r := by
  cases r with
  | nil => exact absurd rfl hr
  | cons c r =>
    have e : Lib.hasPrefix (c :: (r ++ 10 :: y)) = Lib.hasPrefix ((c :: r) ++ 10 :: y) := rfl
    simp only [List.cons_append, cls]
    rw [e, pre_feed (p := mark) (by decide), pre_feed (p := [47, 47]) (by decide), pre_feed (p := [47, 42]) (by decide)]
theorem cls_le (z : Bool) (c : UInt8) (r : List UInt8) : 1 ≤ cls z (c :: r) ∧ cls z (c :: r) ≤ 11 := by
  rw [cls]
  repeat' split
  all_goals decide
end
end Go.Proofs.YtjbamlmdeopcaaaDoor.lx
