/-
  Plain: the tokens of a text, one behind the other, what is said of them, and the semicolons that are not written.
-/
import Derived.Test.YtjbamlmdeopcaaaDoorLy
namespace Go.Proofs.YtjbamlmdeopcaaaDoor.lx
open Go

structure Tr where
  k : Int
  i : Nat
  j : Nat
deriving DecidableEq, Inhabited

def triv (z : Int) : Bool := decide (1 ≤ z ∧ z ≤ 5)
def ends (z : Int) : Bool := [10, 11, 12, 13, 14, 70, 73, 77, 86, 44, 45, 62, 63, 64].contains z

variable (L : Lang)
def nxAt (l : List UInt8) (p : Nat) : Nx := nx L (p == 0) (l.drop p)
def tkAt (l : List UInt8) (p : Nat) : Tr := ⟨(nxAt L l p).kind, p, p + (nxAt L l p).width⟩
def dgAt (l : List UInt8) (p : Nat) : List Tr := if (nxAt L l p).code = 0 then [] else [⟨(nxAt L l p).code, p + (nxAt L l p).off, p + (nxAt L l p).off + (nxAt L l p).dw⟩]
def bareF (l : List UInt8) : Nat → Nat → List Tr
  | 0, _ => []
  | f + 1, p => if p < l.length then tkAt L l p :: bareF l f (p + (nxAt L l p).width) else []
def dgsF (l : List UInt8) : Nat → Nat → List Tr
  | 0, _ => []
  | f + 1, p => if p < l.length then dgAt L l p ++ dgsF l f (p + (nxAt L l p).width) else []
/-- The tokens from a place on, without the semicolons that are not written. -/
def bare (l : List UInt8) (p : Nat) : List Tr := bareF L l (l.length - p) p
/-- What is said of them. -/
def dgs (l : List UInt8) (p : Nat) : List Tr := dgsF L l (l.length - p) p
def piece (l : List UInt8) (t : Tr) : List UInt8 := (l.drop t.i).take (t.j - t.i)
def hasFeed (l : List UInt8) (t : Tr) : Bool := Lib.contains (piece l t) [10]
/-- Whether a line ends ahead of the first significant token of a list. -/
def lineEnd (l : List UInt8) (more : Bool) : List Tr → Bool
  | [] => !more
  | t :: T => if triv t.k = false then false else if t.k = 2 then true else if (decide (t.k = 4) && hasFeed l t) = true then true else lineEnd l more T
def autoOf (l : List UInt8) (more : Bool) (t : Tr) (T : List Tr) : List Tr := if (ends t.k && lineEnd l more T) = true then [⟨16, t.j, t.j⟩] else []
def autos (l : List UInt8) (more : Bool) : List Tr → List Tr
  | [] => []
  | t :: T => t :: (autoOf l more t T ++ autos l more T)
/-- All tokens of a text. -/
def scan (l : List UInt8) : List Tr := autos l false (bare L l 0)

section
variable {L}
theorem at_sized {l : List UInt8} {p : Nat} (h : p < l.length) : Sized (nxAt L l p) (l.drop p) := by
  unfold nxAt
  rw [List.drop_eq_getElem_cons h]
  exact nx_sized _ _ _
theorem at_pos {l : List UInt8} {p : Nat} (h : p < l.length) : 1 ≤ (nxAt L l p).width := (at_sized h).pos
theorem at_le {l : List UInt8} {p : Nat} (h : p < l.length) : p + (nxAt L l p).width ≤ l.length := by
  have := (at_sized (L := L) h).len
  rw [List.length_drop] at this
  omega
theorem bare_fuel {l : List UInt8} : ∀ (f g p : Nat), l.length - p ≤ f → l.length - p ≤ g → bareF L l f p = bareF L l g p := by
  intro f
  induction f with
  | zero =>
    intro g p h _
    cases g with
    | zero => rfl
    | succ g => simp only [bareF]; rw [if_neg (by omega)]
  | succ f ih =>
    intro g p h hg
    cases g with
    | zero => simp only [bareF]; rw [if_neg (by omega)]
    | succ g =>
      simp only [bareF]
      by_cases c : p < l.length
      · have := at_pos (L := L) c
        rw [if_pos c, if_pos c, ih g _ (by omega) (by omega)]
      · rw [if_neg c, if_neg c]
theorem dgs_fuel {l : List UInt8} : ∀ (f g p : Nat), l.length - p ≤ f → l.length - p ≤ g → dgsF L l f p = dgsF L l g p := by
  intro f
  induction f with
  | zero =>
    intro g p h _
    cases g with
    | zero => rfl
    | succ g => simp only [dgsF]; rw [if_neg (by omega)]
  | succ f ih =>
    intro g p h hg
    cases g with
    | zero => simp only [dgsF]; rw [if_neg (by omega)]
    | succ g =>
      simp only [dgsF]
      by_cases c : p < l.length
      · have := at_pos (L := L) c
        rw [if_pos c, if_pos c, ih g _ (by omega) (by omega)]
      · rw [if_neg c, if_neg c]
theorem bare_end {l : List UInt8} {p : Nat} (h : ¬ p < l.length) : bare L l p = [] := by
  unfold bare
  rw [show l.length - p = 0 by omega]
  rfl
theorem dgs_end {l : List UInt8} {p : Nat} (h : ¬ p < l.length) : dgs L l p = [] := by
  unfold dgs
  rw [show l.length - p = 0 by omega]
  rfl
theorem bare_step {l : List UInt8} {p : Nat} (h : p < l.length) : bare L l p = tkAt L l p :: bare L l (p + (nxAt L l p).width) := by
  have := at_pos (L := L) h
  unfold bare
  obtain ⟨f, hf⟩ : ∃ f, l.length - p = f + 1 := ⟨l.length - p - 1, by omega⟩
  rw [hf]
  simp only [bareF]
  rw [if_pos h, bare_fuel f (l.length - (p + (nxAt L l p).width)) _ (by omega) (by omega)]
theorem dgs_step {l : List UInt8} {p : Nat} (h : p < l.length) : dgs L l p = dgAt L l p ++ dgs L l (p + (nxAt L l p).width) := by
  have := at_pos (L := L) h
  unfold dgs
  obtain ⟨f, hf⟩ : ∃ f, l.length - p = f + 1 := ⟨l.length - p - 1, by omega⟩
  rw [hf]
  simp only [dgsF]
  rw [if_pos h, dgs_fuel f (l.length - (p + (nxAt L l p).width)) _ (by omega) (by omega)]
/-- Along the tokens from a place on. -/
theorem along {l : List UInt8} {P : Nat → Prop} (hend : ∀ p, ¬ p < l.length → P p) (hstep : ∀ p, p < l.length → P (p + (nxAt L l p).width) → P p) : ∀ p, P p := by
  have all : ∀ n p, l.length - p ≤ n → P p := by
    intro n
    induction n with
    | zero => intro p h; exact hend p (by omega)
    | succ n ih =>
      intro p h
      by_cases c : p < l.length
      · have := at_pos (L := L) c
        exact hstep p c (ih _ (by omega))
      · exact hend p c
  exact fun p => all _ p (Nat.le_refl _)
theorem bare_few (l : List UInt8) : ∀ p, (bare L l p).length ≤ l.length - p := by
  refine along (L := L) (fun p h => by rw [bare_end h]; simp) (fun p h ih => ?_)
  have := at_pos (L := L) h
  rw [bare_step h, List.length_cons]
  omega
theorem dgs_few (l : List UInt8) : ∀ p, (dgs L l p).length ≤ l.length - p := by
  refine along (L := L) (fun p h => by rw [dgs_end h]; simp) (fun p h ih => ?_)
  have := at_pos (L := L) h
  rw [dgs_step h, List.length_append]
  have : (dgAt L l p).length ≤ 1 := by unfold dgAt; split <;> simp
  omega
theorem auto_few (l : List UInt8) (more : Bool) (t : Tr) (T : List Tr) : (autoOf l more t T).length ≤ 1 := by unfold autoOf; split <;> simp
theorem autos_few (l : List UInt8) (more : Bool) (T : List Tr) : (autos l more T).length ≤ 2 * T.length := by
  induction T with
  | nil => simp [autos]
  | cons t T ih =>
    have := auto_few l more t T
    simp only [autos, List.length_cons, List.length_append]
    omega
theorem scan_few (l : List UInt8) : (scan L l).length ≤ 2 * l.length := by
  have h1 := autos_few l false (bare L l 0)
  have h2 := bare_few (L := L) l 0
  unfold scan
  omega

/-- How far a walk through the text has come: what it has told, and what is still to be told. -/
structure Far (L : Lang) (l : List UInt8) (p : Nat) (T D : List Tr) : Prop where
  le : p ≤ l.length
  toks : T ++ bare L l p = bare L l 0
  said : D ++ dgs L l p = dgs L l 0
  few : T.length ≤ p
  few' : D.length ≤ p
theorem Far.zero (l : List UInt8) : Far L l 0 [] [] := ⟨Nat.zero_le _, rfl, rfl, Nat.le_refl _, Nat.le_refl _⟩
theorem Far.step {l : List UInt8} {p : Nat} {T D : List Tr} (h : Far L l p T D) (hp : p < l.length) : Far L l (p + (nxAt L l p).width) (T ++ [tkAt L l p]) (D ++ dgAt L l p) := by
  have h1 := at_pos (L := L) hp
  have h2 : (dgAt L l p).length ≤ 1 := by unfold dgAt; split <;> simp
  refine ⟨at_le hp, ?_, ?_, ?_, ?_⟩
  · rw [← h.toks, bare_step hp]; simp
  · rw [← h.said, dgs_step hp]; simp
  · have := h.few; rw [List.length_append, List.length_singleton]; omega
  · have := h.few'; rw [List.length_append]; omega
theorem Far.done {l : List UInt8} {p : Nat} {T D : List Tr} (h : Far L l p T D) (hp : ¬ p < l.length) : T = bare L l 0 ∧ D = dgs L l 0 := by
  have h1 := h.toks
  have h2 := h.said
  rw [bare_end hp, List.append_nil] at h1
  rw [dgs_end hp, List.append_nil] at h2
  exact ⟨h1, h2⟩

/-! LexerWhole. -/
/-- One behind the other from a place on up to the end; the kind of the token ahead. -/
def Whole (n : Nat) : Nat → Int → List Tr → Prop
  | p, _, [] => p = n
  | p, prev, t :: T => t.i = p ∧ (if t.k = 16 then t.j = p ∧ ends prev = true ∧ Whole n p 16 T else t.i < t.j ∧ Whole n t.j t.k T)
theorem whole_scan (l : List UInt8) : Whole l.length 0 0 (scan L l) := by
  have all : ∀ p, p ≤ l.length → ∀ prev, Whole l.length p prev (autos l false (bare L l p)) := by
    refine along (L := L) (l := l) (fun p h hp prev => ?_) (fun p h ih hp prev => ?_)
    · rw [bare_end h]; exact (by omega : p = l.length)
    · have hs := at_sized (L := L) h
      have hw := at_le (L := L) h
      have h1 := hs.pos
      have hk := hs.kind.1
      rw [bare_step h]
      refine ⟨rfl, ?_⟩
      rw [if_neg (by exact hk)]
      refine ⟨by show p < p + _; omega, ?_⟩
      unfold autoOf
      by_cases c : (ends (tkAt L l p).k && lineEnd l false (bare L l (p + (nxAt L l p).width))) = true
      · rw [if_pos c]
        rw [Bool.and_eq_true] at c
        refine ⟨rfl, ?_⟩
        rw [if_pos rfl]
        exact ⟨rfl, c.1, ih hw _⟩
      · rw [if_neg c]
        exact ih hw _
  exact all 0 (Nat.zero_le _) 0
theorem dgs_within (l : List UInt8) : ∀ p, ∀ d ∈ dgs L l p, d.i ≤ d.j ∧ d.j ≤ l.length := by
  refine along (L := L) (fun p h => by rw [dgs_end h]; simp) (fun p h ih => ?_)
  rw [dgs_step h]
  intro d hd
  rcases List.mem_append.1 hd with hd | hd
  · have hs := at_sized (L := L) h
    unfold dgAt at hd
    split at hd
    · simp at hd
    · rename_i c
      have := hs.said c
      rw [List.length_drop] at this
      rw [List.mem_singleton] at hd
      subst hd
      exact ⟨Nat.le_add_right _ _, by show p + _ + _ ≤ _; omega⟩
  · exact ih d hd

/-! LexerLines. -/
theorem piece_more {l : List UInt8} (y : List UInt8) {t : Tr} (h : t.j ≤ l.length) (h' : t.i ≤ t.j) : piece (l ++ y) t = piece l t := by
  unfold piece
  rw [List.drop_append_of_le_length (by omega), List.take_append_of_le_length (by rw [List.length_drop]; omega)]
theorem bare_within (l : List UInt8) : ∀ p, ∀ t ∈ bare L l p, t.i ≤ t.j ∧ t.j ≤ l.length := by
  refine along (L := L) (fun p h => by rw [bare_end h]; simp) (fun p h ih => ?_)
  rw [bare_step h]
  intro t ht
  rcases List.mem_cons.1 ht with rfl | ht
  · have := at_le (L := L) h
    exact ⟨by show p ≤ p + _; omega, this⟩
  · exact ih t ht
theorem lineEnd_feed {l : List UInt8} (y : List UInt8) {f : Tr} (hf : f.k = 2) (M : List Tr) : ∀ T : List Tr, (∀ t ∈ T, t.i ≤ t.j ∧ t.j ≤ l.length) → lineEnd (l ++ y) false (T ++ f :: M) = lineEnd l false T := by
  intro T
  induction T with
  | nil =>
    intro _
    show lineEnd (l ++ y) false (f :: M) = true
    rw [lineEnd, hf, if_neg (by decide), if_pos rfl]
  | cons t T ih =>
    intro h
    have ht := h t (by simp)
    show lineEnd (l ++ y) false (t :: (T ++ f :: M)) = _
    rw [lineEnd, lineEnd, ih (fun u hu => h u (by simp [hu]))]
    unfold hasFeed
    rw [piece_more y ht.2 ht.1]
theorem autos_feed {l : List UInt8} (y : List UInt8) {f : Tr} (hf : f.k = 2) (M : List Tr) : ∀ T : List Tr, (∀ t ∈ T, t.i ≤ t.j ∧ t.j ≤ l.length) → autos (l ++ y) false (T ++ f :: M) = autos l false T ++ f :: autos (l ++ y) false M := by
  intro T
  induction T with
  | nil =>
    intro _
    show f :: (autoOf _ _ f M ++ _) = _
    unfold autoOf
    rw [hf]
    rfl
  | cons t T ih =>
    intro h
    show t :: (autoOf _ _ t (T ++ f :: M) ++ autos _ _ (T ++ f :: M)) = _
    rw [ih (fun u hu => h u (by simp [hu]))]
    unfold autoOf
    rw [lineEnd_feed y hf M T (fun u hu => h u (by simp [hu]))]
    simp [autos, autoOf]
/-- Nothing that is said goes on over a line feed. -/
def Ends (l : List UInt8) (D : List Tr) : Prop := ∀ d ∈ D, d.k ≠ 105 ∧ (d.k = 106 → l[d.i]? ≠ some 96)
theorem off_zero (z : Bool) (c : UInt8) (b : List UInt8) (h : (nx L z (c :: b)).code = 106) (h9 : c = 96) : (nx L z (c :: b)).off = 0 := by
  subst h9
  unfold nx at h ⊢
  have hc := cls_clue z 96 b
  have hk := cls_le z 96 b
  generalize cls z (96 :: b) = k at *
  match k, hk, hc, h with
  | 1, _, hc, _ => exact absurd (List.isPrefixOf_iff_prefix.1 (hc.one rfl).1) (by simp [mark])
  | 2, _, hc, _ => exact absurd (hc.two rfl) (by decide)
  | 3, _, hc, _ => exact absurd (hc.three rfl) (by decide)
  | 4, _, hc, _ => exact absurd (List.isPrefixOf_iff_prefix.1 (hc.four rfl).1) (by simp)
  | 5, _, hc, _ => exact absurd (List.isPrefixOf_iff_prefix.1 (hc.five rfl)) (by simp)
  | 6, _, hc, _ => exact absurd (hc.six rfl) (by decide)
  | 7, _, hc, _ => exact absurd (hc.seven rfl) (by decide)
  | 8, _, hc, _ => exact absurd (hc.eight rfl) (by decide)
  | 9, _, hc, _ => exact absurd (hc.nine rfl) (by decide)
  | 10, _, _, h => simp only [nxOf, closedL]; split <;> rfl
  | 11, _, _, h => simp only [nxOf, signL]; repeat' split
                   all_goals rfl
theorem bare_feed {l : List UInt8} (y : List UInt8) (hD : Ends l (dgs L l 0)) : ∀ p, p ≤ l.length → (∀ d ∈ dgs L l p, d ∈ dgs L l 0) →
    bare L (l ++ 10 :: y) p = bare L l p ++ ⟨2, l.length, l.length + 1⟩ :: bare L (l ++ 10 :: y) (l.length + 1) := by
  refine along (L := L) (l := l) (fun p h hp _ => ?_) (fun p h ih hp hsub => ?_)
  · obtain rfl : p = l.length := by omega
    rw [bare_end h, List.nil_append, bare_step (by simp)]
    have e : nxAt L (l ++ 10 :: y) l.length = right 2 1 := by
      unfold nxAt
      rw [List.drop_append_of_le_length (Nat.le_refl _), List.drop_length, List.nil_append]
      unfold nx
      have : cls (l.length == 0) (10 :: y) = 3 := by
        rw [cls, if_neg (by simp [Lib.hasPrefix, mark]), if_neg (by decide), if_pos rfl]
      rw [this]
      rfl
    unfold tkAt
    rw [e]
    rfl
  · have hw := at_le (L := L) h
    have e : nxAt L (l ++ 10 :: y) p = nxAt L l p := by
      unfold nxAt
      rw [List.drop_append_of_le_length (by omega)]
      have hdrop := List.drop_eq_getElem_cons h
      have hmem : ∀ d ∈ dgAt L l p, d ∈ dgs L l 0 := fun d hd => hsub d (by rw [dgs_step h]; exact List.mem_append_left _ hd)
      refine nx_feed (by intro e; rw [hdrop] at e; cases e) y ?_ ?_
      · intro hc
        have : (⟨(nxAt L l p).code, p + (nxAt L l p).off, p + (nxAt L l p).off + (nxAt L l p).dw⟩ : Tr) ∈ dgAt L l p := by
          unfold dgAt
          rw [if_neg (by unfold nxAt; rw [hc]; decide)]
          simp
        exact (hD _ (hmem _ this)).1 hc
      · intro hc hh
        have h96 : l[p]? = some 96 := by rw [hdrop] at hh; simpa using hh
        have hoff : (nxAt L l p).off = 0 := by
          unfold nxAt
          rw [hdrop] at hc ⊢
          exact off_zero _ _ _ hc (List.getElem?_eq_some_iff.1 h96).2
        have : (⟨(nxAt L l p).code, p + (nxAt L l p).off, p + (nxAt L l p).off + (nxAt L l p).dw⟩ : Tr) ∈ dgAt L l p := by
          unfold dgAt
          rw [if_neg (by unfold nxAt; rw [hc]; decide)]
          simp
        refine (hD _ (hmem _ this)).2 hc ?_
        show l[p + (nxAt L l p).off]? = _
        rw [hoff, Nat.add_zero]; exact h96
    rw [bare_step (p := p) (by rw [List.length_append]; omega), bare_step h]
    unfold tkAt
    rw [e, ih hw (fun d hd => hsub d (by rw [dgs_step h]; exact List.mem_append_right _ hd))]
    rfl
/-- What stands behind a line feed changes no token ahead of it, unless one goes on. -/
theorem scan_feed {l : List UInt8} (y : List UInt8) (hD : Ends l (dgs L l 0)) : ∃ M, scan L (l ++ 10 :: y) = scan L l ++ ⟨2, l.length, l.length + 1⟩ :: M := by
  unfold scan
  rw [bare_feed y hD 0 (Nat.zero_le _) (fun _ h => h)]
  refine ⟨_, autos_feed (10 :: y) (f := ⟨2, l.length, l.length + 1⟩) rfl _ (bare L l 0) (bare_within l 0)⟩
end
end Go.Proofs.YtjbamlmdeopcaaaDoor.lx
