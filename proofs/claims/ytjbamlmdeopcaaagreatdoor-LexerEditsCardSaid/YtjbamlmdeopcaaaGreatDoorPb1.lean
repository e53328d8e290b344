/-
  Texts put together: Rt, Rda, Rdb, Rdc, Rdd, Rde, Rdf, Rdg, Rdi, Rdh, Rdj.
-/
import Derived.Test.YtjbamlmdeopcaaaGreatDoorPa1
import Derived.Test.YtjbamlmdeopcaaaGreatDoorPa11
import Derived.Lib.AppendZeros
import Derived.Lib.SliceRun
import Derived.Laws.OwnMore
import Derived.Laws.CopyRow
import Derived.Deep.RegionHeld3
import Derived.Deep.DeepCutAuto
import Derived.BigQuiet
import Derived.Deep.QuietTactic
section
/-
  Plain: the tokens behind an edit.
-/
namespace Go.Proofs.YtjbamlmdeopcaaaGreatDoor.lx
open Go

def sig (t : Tr) : Bool := !triv t.k && !(t.k == 16)
/-- Without the semicolons that are not written. -/
def noA (T : List Tr) : List Tr := T.filter (fun t => !(t.k == 16))
def moveT (a b : Nat) (t : Tr) : Tr := ⟨t.k, t.i - a + b, t.j - a + b⟩
def lastJ (p : Nat) : List Tr → Nat
  | [] => p
  | t :: Q => lastJ t.j Q
variable {L : Lang}

theorem noA_append (A B : List Tr) : noA (A ++ B) = noA A ++ noA B := by simp [noA]
theorem noA_same {A : List Tr} (h : ∀ t ∈ A, t.k ≠ 16) : noA A = A := by
  unfold noA
  rw [List.filter_eq_self]
  intro t ht
  simpa using h t ht
theorem noA_auto (l : List UInt8) (more : Bool) (t : Tr) (T : List Tr) : noA (autoOf l more t T) = [] := by
  unfold autoOf
  split <;> simp [noA]
theorem noA_cons {t : Tr} (T : List Tr) (h : t.k ≠ 16) : noA (t :: T) = t :: noA T := by
  unfold noA
  rw [List.filter_cons, if_pos (by simpa using h)]
theorem bare_kinds (l : List UInt8) : ∀ p, ∀ t ∈ bare L l p, t.k ≠ 16 := by
  refine along (L := L) (fun p h => by rw [bare_end h]; simp) (fun p h ih => ?_)
  rw [bare_step h]
  intro t ht
  rcases List.mem_cons.1 ht with rfl | ht
  · exact (at_sized (L := L) h).kind.1
  · exact ih t ht
theorem noA_bare (l : List UInt8) (p : Nat) : noA (bare L l p) = bare L l p := noA_same (bare_kinds l p)
theorem noA_autos (l : List UInt8) (more : Bool) : ∀ T : List Tr, (∀ t ∈ T, t.k ≠ 16) → noA (autos l more T) = T := by
  intro T
  induction T with
  | nil => intro _; rfl
  | cons t T ih =>
    intro h
    rw [autos, noA_cons _ (h t (by simp)), noA_append, noA_auto, List.nil_append, ih (fun u hu => h u (by simp [hu]))]

/-- The tokens of a list with their semicolons, where others follow. -/
def autosTo (l : List UInt8) (more : Bool) : List Tr → List Tr → List Tr
  | [], _ => []
  | t :: A, R => t :: (autoOf l more t (A ++ R) ++ autosTo l more A R)
theorem autos_append (l : List UInt8) (more : Bool) (A R : List Tr) : autos l more (A ++ R) = autosTo l more A R ++ autos l more R := by
  induction A with
  | nil => rfl
  | cons t A ih => rw [List.cons_append, autos, autosTo, ih]; simp
theorem autosTo_nil (l : List UInt8) (more : Bool) (A : List Tr) : autosTo l more A [] = autos l more A := by
  have := autos_append l more A []
  rw [List.append_nil] at this
  rw [this]
  simp [autos]
theorem lineEnd_sig {l l' : List UInt8} {more : Bool} {x : Tr} (hx : triv x.k = false) (R : List Tr) : ∀ A : List Tr, (∀ t ∈ A, hasFeed l t = hasFeed l' t) → lineEnd l more (A ++ x :: R) = lineEnd l' true A := by
  intro A
  induction A with
  | nil =>
    intro _
    show lineEnd l more (x :: R) = false
    rw [lineEnd, if_pos hx]
  | cons t A ih =>
    intro h
    rw [List.cons_append, lineEnd, lineEnd, ih (fun u hu => h u (by simp [hu])), h t (by simp)]
theorem autosTo_sig {l l' : List UInt8} {more : Bool} {x : Tr} (hx : triv x.k = false) (R : List Tr) : ∀ A : List Tr, (∀ t ∈ A, hasFeed l t = hasFeed l' t) → autosTo l more A (x :: R) = autos l' true A := by
  intro A
  induction A with
  | nil => intro _; rfl
  | cons t A ih =>
    intro h
    rw [autosTo, autos, ih (fun u hu => h u (by simp [hu]))]
    unfold autoOf
    rw [lineEnd_sig hx R A (fun u hu => h u (by simp [hu]))]
theorem sig_triv {t : Tr} (h : sig t = true) : triv t.k = false ∧ t.k ≠ 16 := by
  unfold sig at h
  simpa using h
theorem auto_cases (l : List UInt8) (more : Bool) (t : Tr) (T : List Tr) : autoOf l more t T = [] ∨ autoOf l more t T = [⟨16, t.j, t.j⟩] := by
  unfold autoOf
  split
  · exact .inr rfl
  · exact .inl rfl
theorem split_sig (l : List UInt8) (more : Bool) : ∀ (T : List Tr) (n : Nat) (x : Tr), (autos l more T)[n]? = some x → sig x = true →
    ∃ T1 T2, T = T1 ++ x :: T2 ∧ (autos l more T).take n = autosTo l more T1 (x :: T2) ∧ (autos l more T).drop n = autos l more (x :: T2) := by
  intro T
  induction T with
  | nil => intro n x h _; simp [autos] at h
  | cons t T ih =>
    intro n x h hs
    rw [autos] at h ⊢
    cases n with
    | zero =>
      simp only [List.getElem?_cons_zero, Option.some.injEq] at h
      subst h
      exact ⟨[], T, rfl, rfl, by rw [List.drop_zero, autos]⟩
    | succ n =>
      rw [List.getElem?_cons_succ] at h
      have go : ∀ n', (autos l more T)[n']? = some x → ∃ T1 T2, t :: T = T1 ++ x :: T2 ∧ t :: (autoOf l more t T ++ (autos l more T).take n') = autosTo l more T1 (x :: T2) ∧ (autos l more T).drop n' = autos l more (x :: T2) := by
        intro n' h'
        obtain ⟨T1, T2, e, e1, e2⟩ := ih n' x h' hs
        exact ⟨t :: T1, T2, by rw [e]; rfl, by rw [e1, autosTo, ← e], e2⟩
      rcases auto_cases l more t T with ha | ha
      · rw [ha, List.nil_append] at h ⊢
        obtain ⟨T1, T2, e, e1, e2⟩ := go n h
        rw [ha, List.nil_append] at e1
        exact ⟨T1, T2, e, by rw [List.take_succ_cons]; exact e1, by rw [List.drop_succ_cons]; exact e2⟩
      · rw [ha] at h ⊢
        cases n with
        | zero =>
          simp only [List.cons_append, List.getElem?_cons_zero, Option.some.injEq] at h
          subst h
          exact absurd (sig_triv hs).2 (by simp)
        | succ n =>
          simp only [List.cons_append, List.nil_append, List.getElem?_cons_succ] at h
          obtain ⟨T1, T2, e, e1, e2⟩ := go n h
          rw [ha] at e1
          exact ⟨T1, T2, e, by rw [← e1]; rfl, by rw [← e2]; rfl⟩

theorem noA_autosTo (l : List UInt8) (more : Bool) (R : List Tr) : ∀ A : List Tr, (∀ t ∈ A, t.k ≠ 16) → noA (autosTo l more A R) = A := by
  intro A
  induction A with
  | nil => intro _; rfl
  | cons t A ih =>
    intro h
    rw [autosTo, noA_cons _ (h t (by simp)), noA_append, noA_auto, List.nil_append, ih (fun u hu => h u (by simp [hu]))]

/-- The beginning of the tokens, cut anywhere, is the same in a text with the same beginning. -/
theorem near_at {l m : List UInt8} {f p : Nat} (hf : l.take f = m.take f) (hl : f ≤ l.length) (hm : f ≤ m.length) (h : p + (nxAt L l p).width + 3 ≤ f) : nxAt L m p = nxAt L l p := by
  have e : ∀ x : List UInt8, f ≤ x.length → x.drop p = (x.take f).drop p ++ x.drop f := by
    intro x hx
    rw [← List.drop_append_of_le_length (by rw [List.length_take]; omega), List.take_append_drop]
  unfold nxAt at h ⊢
  rw [e l hl] at h ⊢
  rw [e m hm, ← hf]
  exact nx_near _ _ (by rw [List.length_drop, List.length_take]; omega)
theorem begin_at (l m : List UInt8) {f : Nat} (hf : l.take f = m.take f) (hl : f ≤ l.length) (hm : f ≤ m.length) : ∀ p, ∀ k, (∀ t ∈ (autos l false (bare L l p)).take k, t.j + 3 ≤ f) →
    bare L m p = noA ((autos l false (bare L l p)).take k) ++ bare L m (lastJ p ((autos l false (bare L l p)).take k)) := by
  refine along (L := L) (l := l) (fun p h => ?_) (fun p h ih => ?_)
  · intro k _
    rw [bare_end h]
    simp [autos, noA, lastJ]
  · intro k hk
    rw [bare_step h, autos] at hk ⊢
    cases k with
    | zero => simp [noA, lastJ]
    | succ k =>
      rw [List.take_succ_cons] at hk ⊢
      have h0 : p + (nxAt L l p).width + 3 ≤ f := hk (tkAt L l p) (by simp)
      have hn := near_at (L := L) hf hl hm h0
      rw [bare_step (l := m) (p := p) (by omega)]
      have ht : tkAt L m p = tkAt L l p := by unfold tkAt; rw [hn]
      have hkd : (tkAt L l p).k ≠ 16 := (at_sized (L := L) h).kind.1
      rw [ht, hn, noA_cons _ hkd, List.cons_append]
      congr 1
      show _ = _ ++ bare L m (lastJ (p + (nxAt L l p).width) _)
      rcases auto_cases l false (tkAt L l p) (bare L l (p + (nxAt L l p).width)) with ha | ha
      · rw [ha, List.nil_append] at hk ⊢
        exact ih k (fun t ht => hk t (List.mem_cons_of_mem _ ht))
      · rw [ha] at hk ⊢
        cases k with
        | zero => simp [noA, lastJ]
        | succ k =>
          rw [List.cons_append, List.nil_append, List.take_succ_cons] at hk ⊢
          have := ih k (fun t ht => hk t (List.mem_cons_of_mem _ (List.mem_cons_of_mem _ ht)))
          exact this
/-- Where a token or semicolon begins, the others are those from there on. -/
theorem from_place (l : List UInt8) (q : Nat) (hq : q < l.length) : ∀ p, ∀ n t, (autos l false (bare L l p))[n]? = some t → t.i = q →
    (autos l false (bare L l p)).drop n = autos l false (bare L l q) ∨ (autos l false (bare L l p)).drop n = ⟨16, q, q⟩ :: autos l false (bare L l q) := by
  refine along (L := L) (l := l) (fun p h => ?_) (fun p h ih => ?_)
  · intro n t ht
    rw [bare_end h] at ht
    simp [autos] at ht
  · intro n t ht hi
    rw [bare_step h, autos] at ht ⊢
    cases n with
    | zero =>
      simp only [List.getElem?_cons_zero, Option.some.injEq] at ht
      subst ht
      have e : p = q := hi
      subst e
      rw [List.drop_zero, ← autos, ← bare_step h]
      exact .inl rfl
    | succ n =>
      rw [List.getElem?_cons_succ] at ht
      rw [List.drop_succ_cons]
      rcases auto_cases l false (tkAt L l p) (bare L l (p + (nxAt L l p).width)) with ha | ha
      · rw [ha, List.nil_append] at ht ⊢
        exact ih n t ht hi
      · rw [ha] at ht ⊢
        cases n with
        | zero =>
          simp only [List.cons_append, List.getElem?_cons_zero, Option.some.injEq] at ht
          subst ht
          have e : p + (nxAt L l p).width = q := hi
          subst e
          exact .inr rfl
        | succ n =>
          simp only [List.cons_append, List.nil_append, List.getElem?_cons_succ] at ht
          exact ih n t ht hi

/-! What stands further on. -/
theorem moved_at {l m : List UInt8} {a b : Nat} (he : m.drop b = l.drop a) (h0 : a = 0 ↔ b = 0) {p : Nat} (hp : a ≤ p) : nxAt L m (p - a + b) = nxAt L l p := by
  unfold nxAt
  have e : m.drop (p - a + b) = l.drop p := by
    rw [show p - a + b = b + (p - a) by omega, ← List.drop_drop, he, List.drop_drop, show a + (p - a) = p by omega]
  have e0 : (p - a + b == 0) = (p == 0) := by
    rw [Bool.eq_iff_iff, beq_iff_eq, beq_iff_eq]
    omega
  rw [e, e0]
theorem bare_moved {l m : List UInt8} {a b : Nat} (he : m.drop b = l.drop a) (h0 : a = 0 ↔ b = 0) (hb : b ≤ m.length) (ha : a ≤ l.length) : ∀ p, a ≤ p → bare L m (p - a + b) = (bare L l p).map (moveT a b) := by
  have hlen : m.length - b = l.length - a := by
    have := congrArg List.length he
    rwa [List.length_drop, List.length_drop] at this
  refine along (L := L) (l := l) (fun p h => ?_) (fun p h ih => ?_)
  · intro hp
    rw [bare_end h, bare_end (by omega)]
    rfl
  · intro hp
    have hn := moved_at (L := L) he h0 hp
    rw [bare_step h, bare_step (l := m) (by omega), List.map_cons, ← ih (by omega), hn]
    congr 1
    · unfold tkAt moveT
      rw [hn]
      simp only [Tr.mk.injEq, true_and]
      omega
    · congr 1
      omega
theorem feed_moved {l m : List UInt8} {a b : Nat} (he : m.drop b = l.drop a) {t : Tr} (h1 : a ≤ t.i) (h2 : t.i ≤ t.j) : hasFeed m (moveT a b t) = hasFeed l t := by
  unfold hasFeed piece moveT
  simp only
  rw [show t.i - a + b = b + (t.i - a) by omega, ← List.drop_drop, he, List.drop_drop, show a + (t.i - a) = t.i by omega, show t.j - a + b - (b + (t.i - a)) = t.j - t.i by omega]
theorem lineEnd_moved {l m : List UInt8} {a b : Nat} (he : m.drop b = l.drop a) (more : Bool) : ∀ T : List Tr, (∀ t ∈ T, a ≤ t.i ∧ t.i ≤ t.j) → lineEnd m more (T.map (moveT a b)) = lineEnd l more T := by
  intro T
  induction T with
  | nil => intro _; rfl
  | cons t T ih =>
    intro h
    have ht := h t (by simp)
    rw [List.map_cons, lineEnd, lineEnd, ih (fun u hu => h u (by simp [hu])), feed_moved he ht.1 ht.2]
    rfl
theorem autos_moved {l m : List UInt8} {a b : Nat} (he : m.drop b = l.drop a) (more : Bool) : ∀ T : List Tr, (∀ t ∈ T, a ≤ t.i ∧ t.i ≤ t.j) → autos m more (T.map (moveT a b)) = (autos l more T).map (moveT a b) := by
  intro T
  induction T with
  | nil => intro _; rfl
  | cons t T ih =>
    intro h
    rw [List.map_cons, autos, autos, ih (fun u hu => h u (by simp [hu])), List.map_cons, List.map_append]
    congr 2
    unfold autoOf
    rw [lineEnd_moved he more T (fun u hu => h u (by simp [hu]))]
    show (if (ends t.k && _) = true then _ else _) = _
    split
    · rfl
    · rfl
theorem bare_from (l : List UInt8) : ∀ p, ∀ t ∈ bare L l p, p ≤ t.i ∧ t.i ≤ t.j := by
  refine along (L := L) (fun p h => by rw [bare_end h]; simp) (fun p h ih => ?_)
  rw [bare_step h]
  intro t ht
  rcases List.mem_cons.1 ht with rfl | ht
  · exact ⟨Nat.le_refl _, Nat.le_add_right _ _⟩
  · have := ih t ht
    exact ⟨by omega, this.2⟩
theorem feed_near {l m : List UInt8} {f : Nat} (hf : l.take f = m.take f) {t : Tr} (h : t.j ≤ f) : hasFeed l t = hasFeed m t := by
  unfold hasFeed piece
  have e : ∀ x : List UInt8, (x.drop t.i).take (t.j - t.i) = ((x.take f).drop t.i).take (t.j - t.i) := by
    intro x
    rw [List.drop_take, List.take_take]
    congr 1
    omega
  rw [e l, e m, hf]

/-- The tokens that Rescan puts together are those of the new text. -/
theorem rescan_is {l m : List UInt8} {f : Nat} (hf : l.take f = m.take f) (hl : f ≤ l.length) (hm : f ≤ m.length) (k g n z2 a b : Nat) (F Bh : List Tr)
    (hk : ∀ t ∈ (scan L l).take k, t.j + 3 ≤ f)
    (hg : g = 0 ∨ ∃ t, (scan L l)[g]? = some t ∧ sig t = true ∧ g < k)
    (hF : bare L m (lastJ 0 ((scan L l).take k)) = F ++ bare L m b)
    (hBh : Bh = ((scan L l).drop n).map (moveT a b))
    (hB : ((scan L l).length ≤ n ∧ m.length ≤ b) ∨ (∃ t, (scan L l)[n]? = some t ∧ t.i = a ∧ a < l.length ∧ b ≤ m.length ∧ m.drop b = l.drop a ∧ (a = 0 ↔ b = 0)))
    (hto : Bh.length ≤ z2 ∨ ∃ t, Bh[z2]? = some t ∧ sig t = true) :
    (scan L l).take g ++ (autos m (decide (z2 < Bh.length)) (noA ((((scan L l).take k).drop g) ++ (F ++ Bh.take z2))) ++ Bh.drop z2) = scan L m := by
  have hA := begin_at (L := L) l m hf hl hm 0 k hk
  have hS : scan L l = autos l false (bare L l 0) := rfl
  rw [← hS, hF] at hA
  have hFk : noA F = F := noA_same fun t ht => bare_kinds (L := L) m _ t (by rw [hF]; exact List.mem_append_left _ ht)
  -- what stands behind
  obtain ⟨Y1, Y2, hY, hb1, hb2, hYx⟩ : ∃ Y1 Y2, bare L m b = Y1 ++ Y2 ∧ noA (Bh.take z2) = Y1 ∧ Bh.drop z2 = autos m false Y2 ∧
      ((Y2 = [] ∧ decide (z2 < Bh.length) = false) ∨ ∃ x Y3, Y2 = x :: Y3 ∧ triv x.k = false ∧ decide (z2 < Bh.length) = true) := by
    rcases hB with ⟨h1, h2⟩ | ⟨t, ht, hta, hal, hbm, hd, h0⟩
    · have e : Bh = [] := by rw [hBh, List.drop_of_length_le h1]; rfl
      rw [e, bare_end (by omega)]
      exact ⟨[], [], rfl, by simp [noA], by simp [autos], .inl ⟨rfl, by simp⟩⟩
    · have hmv := bare_moved (L := L) hd h0 hbm (by omega) a (Nat.le_refl _)
      rw [show a - a + b = b by omega] at hmv
      have hau := autos_moved hd false (bare L l a) (fun t ht => bare_from l a t ht)
      have hor : Bh = autos m false (bare L m b) ∨ Bh = ⟨16, b, b⟩ :: autos m false (bare L m b) := by
        rcases from_place (L := L) l a hal 0 n t ht hta with e | e
        · left; rw [hBh, hS, e, ← hau, hmv]
        · right
          rw [hBh, hS, e, List.map_cons, ← hau, hmv]
          unfold moveT
          simp
      have hnb := bare_kinds (L := L) m b
      have key : ∀ z, (autos m false (bare L m b)).length ≤ z ∨ (∃ t, (autos m false (bare L m b))[z]? = some t ∧ sig t = true) → ∃ Y1 Y2, bare L m b = Y1 ++ Y2 ∧ noA ((autos m false (bare L m b)).take z) = Y1 ∧ (autos m false (bare L m b)).drop z = autos m false Y2 ∧
          ((Y2 = [] ∧ decide (z < (autos m false (bare L m b)).length) = false) ∨ ∃ x Y3, Y2 = x :: Y3 ∧ triv x.k = false ∧ decide (z < (autos m false (bare L m b)).length) = true) := by
        intro z hz
        rcases hz with hz | ⟨x, hx, hs⟩
        · refine ⟨bare L m b, [], by simp, by rw [List.take_of_length_le hz]; exact noA_autos _ _ _ hnb, by rw [List.drop_of_length_le hz]; rfl, .inl ⟨rfl, by simp; omega⟩⟩
        · obtain ⟨T1, T2, e, e1, e2⟩ := split_sig m false _ z x hx hs
          refine ⟨T1, x :: T2, e, ?_, e2, .inr ⟨x, T2, rfl, (sig_triv hs).1, ?_⟩⟩
          · rw [e1]
            exact noA_autosTo _ _ _ _ (fun t ht => hnb t (by rw [e]; exact List.mem_append_left _ ht))
          · exact decide_eq_true (List.getElem?_eq_some_iff.1 hx).1
      rcases hor with e | e
      · rw [e] at hto ⊢
        exact key z2 hto
      · rw [e] at hto ⊢
        cases z2 with
        | zero =>
          rcases hto with h | ⟨t, h, hs⟩
          · simp at h
          · simp only [List.getElem?_cons_zero, Option.some.injEq] at h
            subst h
            exact absurd (sig_triv hs).2 (by simp)
        | succ z =>
          obtain ⟨Y1, Y2, e1, e2, e3, e4⟩ := key z (by
            rcases hto with h | ⟨t, h, hs⟩
            · left; simpa using h
            · right; exact ⟨t, by simpa using h, hs⟩)
          refine ⟨Y1, Y2, e1, ?_, by rw [List.drop_succ_cons]; exact e3, ?_⟩
          · rw [List.take_succ_cons, ← e2]
            simp [noA]
          · simpa using e4
  rw [hY] at hA
  -- what stands ahead
  obtain ⟨A1, A2, hsp, ha2, hax⟩ : ∃ A1 A2, noA ((scan L l).take k) = A1 ++ A2 ∧ noA (((scan L l).take k).drop g) = A2 ∧
      ((A1 = [] ∧ (scan L l).take g = []) ∨ ∃ x A3, A2 = x :: A3 ∧ triv x.k = false ∧ (∀ t ∈ A1, t.j + 3 ≤ f) ∧ ∃ T2, (scan L l).take g = autosTo l false A1 (x :: T2)) := by
    rcases hg with rfl | ⟨x, hx, hs, hgk⟩
    · exact ⟨[], _, by rw [List.nil_append], by rw [List.drop_zero], .inl ⟨rfl, rfl⟩⟩
    · obtain ⟨T1, T2, e, e1, e2⟩ := split_sig l false _ g x hx hs
      have hnb := bare_kinds (L := L) l 0
      have hT1 : ∀ t ∈ T1, t.k ≠ 16 := fun t ht => hnb t (by rw [e]; exact List.mem_append_left _ ht)
      have et : ((scan L l).take k).take g = (scan L l).take g := by rw [List.take_take, Nat.min_eq_left (by omega)]
      have hn1 : noA ((scan L l).take g) = T1 := by rw [hS, e1]; exact noA_autosTo _ _ _ _ hT1
      refine ⟨T1, noA (((scan L l).take k).drop g), ?_, rfl, .inr ⟨x, noA ((((scan L l).take k).drop g).drop 1), ?_, (sig_triv hs).1, ?_, T2, e1⟩⟩
      · rw [← hn1, ← et, ← noA_append, List.take_append_drop]
      · have hget : (((scan L l).take k).drop g)[0]? = some x := by
          rw [List.getElem?_drop, List.getElem?_take, if_pos (by omega), Nat.add_zero]
          exact hx
        cases hc : ((scan L l).take k).drop g with
        | nil => rw [hc] at hget; simp at hget
        | cons y Q =>
          rw [hc] at hget
          simp only [List.getElem?_cons_zero, Option.some.injEq] at hget
          subst hget
          rw [noA_cons _ (sig_triv hs).2]
          rfl
      · intro t ht
        refine hk t ?_
        have h1 : t ∈ noA ((scan L l).take g) := by rw [hn1]; exact ht
        have h2 : t ∈ (scan L l).take g := (List.mem_filter.1 h1).1
        rw [← et] at h2
        exact List.mem_of_mem_take h2
  rw [hsp] at hA
  rw [noA_append, ha2, noA_append, hFk, hb1, hb2]
  unfold scan
  rw [hA, show A1 ++ A2 ++ (F ++ (Y1 ++ Y2)) = A1 ++ ((A2 ++ (F ++ Y1)) ++ Y2) by simp]
  -- behind
  have hbeh : ∀ U : List Tr, autos m false (U ++ Y2) = autos m (decide (z2 < Bh.length)) U ++ autos m false Y2 := by
    intro U
    rw [autos_append]
    rcases hYx with ⟨rfl, e⟩ | ⟨x, Y3, rfl, hx, e⟩
    · rw [autosTo_nil, e]
    · rw [autosTo_sig hx Y3 U (fun _ _ => rfl), e]
  rw [← List.append_assoc A1, hbeh]
  rcases hax with ⟨rfl, e⟩ | ⟨x, A3, rfl, hx, hj, T2, e⟩
  · show (scan L l).take g ++ _ = _
    rw [e]
    simp
  · show (scan L l).take g ++ _ = _
    rw [e, autos_append m _ A1]
    show autosTo l false A1 (x :: T2) ++ _ = autosTo m _ A1 (x :: (A3 ++ (F ++ Y1))) ++ _ ++ _
    rw [autosTo_sig hx T2 A1 (l' := m) (fun t ht => feed_near hf (by have := hj t ht; omega)), autosTo_sig hx _ A1 (l' := m) (fun _ _ => rfl), List.append_assoc]
end Go.Proofs.YtjbamlmdeopcaaaGreatDoor.lx
end

section
/-
  lexer.isAuto, isSignificant, lastSignificant, firstSignificant, untouched, cover, alike.
-/
namespace Go.Proofs.YtjbamlmdeopcaaaGreatDoor.lx
open Go.RowKit Go.Proofs.YtjbamlmdeopcaaaGreatDoor.tok

set_option maxRecDepth 100000 in
set_option maxHeartbeats 1000000 in
theorem isAuto_any (k : Int) (i j : Nat) (w : World) :
    Calls Tryz.prog 45 #[.agg #[.int .i64 k, .int .i64 (i : Int), .int .i64 (j : Int)]] w (fun e w' => e = .returned (.bool (k == 16)) ∧ Below w.heap.size w w') := by
  go_enter Tryz.func45, Tryz.ntmps45
  go_wp2_with fail
  go_ret
  exact ⟨rfl, (Below.refl _ _).alloc (Nat.le_refl _) _⟩
set_option maxRecDepth 100000 in
set_option maxHeartbeats 1000000 in
theorem isSig_any (k : Int) (i j : Nat) (w : World) :
    Calls Tryz.prog 67 #[.agg #[.int .i64 k, .int .i64 (i : Int), .int .i64 (j : Int)]] w (fun e w' => e = .returned (.bool (sig ⟨k, i, j⟩)) ∧ Below w.heap.size w w') := by
  have HT := Lib.hid (fun u => trivia_any k u)
  have ht : triviaOf k = triv k := rfl
  rw [ht] at HT
  have HS : Hid (sig ⟨k, i, j⟩ = (!triv k && !(k == 16))) := Lib.hid rfl
  rw [HS.out]
  cases h1 : triv k with
  | true =>
    rw [h1] at HT
    clear h1 ht HS
    go_enter Tryz.func67, Tryz.ntmps67
    go_wp2_with (first | (go_at_call 65; refine (HT.out _).mono ?_; rintro e w' ⟨rfl, rfl⟩))
    go_ret
    exact ⟨rfl, (Below.refl _ _).alloc (Nat.le_refl _) _⟩
  | false =>
    rw [h1] at HT
    clear h1 ht HS
    have HA := Lib.hid (fun u => isAuto_any k i j u)
    generalize (k == 16) = b at *
    cases b
    all_goals
      go_enter Tryz.func67, Tryz.ntmps67
      go_wp2_with (first | (go_at_call 65; refine (HT.out _).mono ?_; rintro e w' ⟨rfl, rfl⟩) | (go_at_call 45; refine (HA.out _).mono ?_; rintro e w2 ⟨rfl, hb2⟩; have HB2 := Lib.hid hb2; clear hb2))
      go_ret
      exact ⟨rfl, ((Below.refl w.heap.size w).alloc (Nat.le_refl _) _).trans (HB2.out.mono (by simp))⟩

def LastSig (T : List Tr) (w : World) (e : Ending) (w' : World) : Prop := ∃ g : Nat, e = .returned (.int .i64 (g : Int)) ∧ (g = 0 ∨ ∃ t, T[g]? = some t ∧ sig t = true) ∧ Below w.heap.size w w'
def FirstSig (T : List Tr) (w : World) (e : Ending) (w' : World) : Prop := ∃ g : Nat, e = .returned (.int .i64 (g : Int)) ∧ g ≤ T.length ∧ (T.length ≤ g ∨ ∃ t, T[g]? = some t ∧ sig t = true) ∧ Below w.heap.size w w'

set_option maxRecDepth 100000 in
set_option maxHeartbeats 1000000 in
theorem lastSig_any (v : Value) (T : List Tr) (w : World) (hr : Row w v T) (hn : T.length ≤ 16777216) :
    Calls Tryz.prog 41 #[v] w (LastSig T w) := by
  obtain ⟨g, off, o, cap, hc, rfl, ho, hcell⟩ := hr
  have HC := Lib.hid hcell
  have HO := Lib.hid ho
  clear hcell ho
  obtain ⟨len, hlen⟩ : ∃ len, T.length = len := ⟨_, rfl⟩
  rw [hlen] at hc hn
  have HN := Lib.hid hlen
  rw [HN.out]
  clear hlen
  have h0 : len = 0 ∨ 0 < len := by omega
  rcases h0 with h0 | h0
  · subst h0
    go_enter Tryz.func41, Tryz.ntmps41
    go_wp2
    go_loopw [3] (fun p wr => p = .int .i64 (-1) ∧ wr = w) (fun _ _ => 0)
    case atStart => exact ⟨rfl, rfl⟩
    case round =>
      obtain ⟨rfl, rfl⟩ := hrel
      go_wp2_with fail
      go_ret
      exact ⟨0, rfl, .inl rfl, Below.refl _ _⟩
  · go_enter Tryz.func41, Tryz.ntmps41
    go_wp2
    go_loopw [3] (fun p wr => ∃ n : Nat, n < len ∧ p = .int .i64 n ∧ Below w.heap.size w wr) (fun p _ => (intOf p).toNat)
    case atStart => exact ⟨len - 1, by omega, by rw [show ((len - 1 : Nat) : Int) = (len : Int) - 1 by omega], Below.refl _ _⟩
    case round =>
      obtain ⟨n, hnl, rfl, hb⟩ := hrel
      have HB := Lib.hid hb
      have hsz := hb.size
      clear hb
      by_cases hz : 0 < n
      · have hd : decide (0 < (n : Int)) = true := decide_eq_true (by omega)
        have hltT : n < T.length := by rw [HN.out]; exact hnl
        have hne : T ≠ [] := by rintro rfl; simp at hltT
        have ho := HO.out hne
        subst ho
        obtain ⟨c0, c1, c2⟩ := HC.out.below HB.out n hltT
        have HG : Hid (T[n]? = some T[n]) := Lib.hid (List.getElem?_eq_getElem hltT)
        generalize T[n] = t at *
        obtain ⟨k, i, j⟩ := t
        simp only [] at c0 c1 c2
        have HX := Lib.hid (fun u => isSig_any k i j u)
        clear hltT hne
        cases hs : sig ⟨k, i, j⟩ with
        | true =>
          rw [hs] at HX
          have HS := Lib.hid hs
          clear hs
          go_wp2_with (go_at_call 67; refine (HX.out _).mono ?_; rintro e w2 ⟨rfl, hb2⟩; have HB2 := Lib.hid (HB.out.trans (hb2.mono hsz)); clear hb2)
          go_ret
          exact ⟨n, rfl, .inr ⟨_, HG.out, HS.out⟩, HB2.out⟩
        | false =>
          rw [hs] at HX
          clear hs
          go_wp2_with (go_at_call 67; refine (HX.out _).mono ?_; rintro e w2 ⟨rfl, hb2⟩; have HB2 := Lib.hid (HB.out.trans (hb2.mono hsz)); clear hb2)
          go_roundw
          case rel => exact ⟨n - 1, by omega, by rw [show ((n - 1 : Nat) : Int) = (n : Int) - 1 by omega], HB2.out⟩
          case measure => simp [intOf]; omega
      · have hd : decide (0 < (n : Int)) = false := decide_eq_false (by omega)
        go_wp2_with fail
        go_ret
        exact ⟨0, rfl, .inl rfl, HB.out⟩
set_option maxRecDepth 100000 in
set_option maxHeartbeats 1000000 in
theorem firstSig_any (v : Value) (T : List Tr) (w : World) (hr : Row w v T) (hn : T.length ≤ 16777216) :
    Calls Tryz.prog 42 #[v] w (FirstSig T w) := by
  obtain ⟨g, off, o, cap, hc, rfl, ho, hcell⟩ := hr
  have HC := Lib.hid hcell
  have HO := Lib.hid ho
  clear hcell ho
  obtain ⟨len, hlen⟩ : ∃ len, T.length = len := ⟨_, rfl⟩
  rw [hlen] at hc hn
  have HN := Lib.hid hlen
  rw [HN.out]
  clear hlen
  go_enter Tryz.func42, Tryz.ntmps42
  go_wp2
  go_loopw [7] (fun p wr => ∃ n : Nat, n ≤ len ∧ p = .int .i64 n ∧ Below w.heap.size w wr) (fun p _ => len - (intOf p).toNat)
  case atStart => exact ⟨0, Nat.zero_le _, rfl, Below.refl _ _⟩
  case round =>
    obtain ⟨n, hnl, rfl, hb⟩ := hrel
    have HB := Lib.hid hb
    have hsz := hb.size
    clear hb
    by_cases hlt : n < len
    · have hltT : n < T.length := by rw [HN.out]; exact hlt
      have hd : decide ((n : Int) < (len : Int)) = true := decide_eq_true (by omega)
      have hne : T ≠ [] := by rintro rfl; simp at hltT
      have ho := HO.out hne
      subst ho
      obtain ⟨c0, c1, c2⟩ := HC.out.below HB.out n hltT
      have HG : Hid (T[n]? = some T[n]) := Lib.hid (List.getElem?_eq_getElem hltT)
      generalize T[n] = t at *
      obtain ⟨k, i, j⟩ := t
      simp only [] at c0 c1 c2
      have HX := Lib.hid (fun u => isSig_any k i j u)
      clear hltT hne
      cases hs : sig ⟨k, i, j⟩ with
      | true =>
        rw [hs] at HX
        have HS := Lib.hid hs
        clear hs
        go_wp2_with (go_at_call 67; refine (HX.out _).mono ?_; rintro e w2 ⟨rfl, hb2⟩; have HB2 := Lib.hid ((HB.out.alloc hsz _).trans (hb2.mono (by simp; omega))); clear hb2)
        go_ret
        exact ⟨n, rfl, by rw [HN.out]; omega, .inr ⟨_, HG.out, HS.out⟩, HB2.out⟩
      | false =>
        rw [hs] at HX
        clear hs
        go_wp2_with (go_at_call 67; refine (HX.out _).mono ?_; rintro e w2 ⟨rfl, hb2⟩; have HB2 := Lib.hid ((HB.out.alloc hsz _).trans (hb2.mono (by simp; omega))); clear hb2)
        go_roundw
        case rel => exact ⟨n + 1, by omega, by go_num, HB2.out⟩
        case measure => simp [intOf]; omega
    · have hd : decide ((n : Int) < (len : Int)) = false := decide_eq_false (by omega)
      go_wp2_with fail
      go_ret
      exact ⟨len, rfl, by rw [HN.out]; exact Nat.le_refl _, .inl (by rw [HN.out]; exact Nat.le_refl _), HB.out⟩

def Unt (T : List Tr) (f : Nat) (w : World) (e : Ending) (w' : World) : Prop := ∃ k : Nat, e = .returned (.int .i64 (k : Int)) ∧ k ≤ T.length ∧ (∀ t ∈ T.take k, t.j + 3 ≤ f) ∧ Below w.heap.size w w'
set_option maxRecDepth 100000 in
set_option maxHeartbeats 1000000 in
theorem untouched_any (v : Value) (T : List Tr) (f m : Nat) (w : World) (hr : Row w v T) (hn : T.length ≤ 16777216) (hf : f ≤ 16777216) (hm : m ≤ 16777216) (hw : Within m T) :
    Calls Tryz.prog 20 #[v, .int .i64 (f : Int)] w (Unt T f w) := by
  obtain ⟨g, off, o, cap, hc, rfl, ho, hcell⟩ := hr
  have HC := Lib.hid hcell
  have HO := Lib.hid ho
  have HW := Lib.hid hw
  clear hcell ho hw
  obtain ⟨len, hlen⟩ : ∃ len, T.length = len := ⟨_, rfl⟩
  rw [hlen] at hc hn
  have HN := Lib.hid hlen
  rw [HN.out]
  clear hlen
  go_enter Tryz.func20, Tryz.ntmps20
  go_wp2
  go_loopw [9] (fun p wr => ∃ n : Nat, n ≤ len ∧ p = .int .i64 n ∧ (∀ t ∈ T.take n, t.j + 3 ≤ f) ∧ Below w.heap.size w wr) (fun p _ => len - (intOf p).toNat)
  case atStart => exact ⟨0, Nat.zero_le _, rfl, by simp, Below.refl _ _⟩
  case round =>
    obtain ⟨n, hnl, rfl, hal, hb⟩ := hrel
    have HB := Lib.hid hb
    have HAL := Lib.hid hal
    have hsz := hb.size
    clear hb hal
    by_cases hlt : n < len
    · have hltT : n < T.length := by rw [HN.out]; exact hlt
      have hd : decide ((n : Int) < (len : Int)) = true := decide_eq_true (by omega)
      have hne : T ≠ [] := by rintro rfl; simp at hltT
      have ho := HO.out hne
      subst ho
      obtain ⟨c0, c1, c2⟩ := HC.out.below HB.out n hltT
      have hjm := (HW.out _ (List.getElem_mem hltT)).2
      have HST : Hid (T[n].j + 3 ≤ f → ∀ t ∈ T.take (n + 1), t.j + 3 ≤ f) := Lib.hid (fun h t ht => by
        rw [List.take_succ_eq_append_getElem hltT] at ht
        rcases List.mem_append.1 ht with ht | ht
        · exact HAL.out t ht
        · rw [List.mem_singleton] at ht; rw [ht]; exact h)
      generalize T[n] = t at *
      obtain ⟨k, i, j⟩ := t
      simp only [] at c0 c1 c2 hjm
      clear hltT hne
      by_cases hj : j + 3 ≤ f
      · have hdj : decide ((f : Int) < (j : Int) + 3) = false := decide_eq_false (by omega)
        have HS2 := Lib.hid (HST.out hj)
        go_wp2_with fail
        go_roundw
        case rel => exact ⟨n + 1, by omega, by go_num, HS2.out, HB.out.alloc hsz _⟩
        case measure => simp [intOf]; omega
      · have hdj : decide ((f : Int) < (j : Int) + 3) = true := decide_eq_true (by omega)
        go_wp2_with fail
        go_ret
        exact ⟨n, rfl, by rw [HN.out]; omega, HAL.out, HB.out.alloc hsz _⟩
    · have hd : decide ((n : Int) < (len : Int)) = false := decide_eq_false (by omega)
      go_wp2_with fail
      go_ret
      have e : n = len := by omega
      subst e
      exact ⟨n, rfl, by rw [HN.out]; exact Nat.le_refl _, HAL.out, HB.out⟩

/-- The tokens lie one behind the other, from a place up to the end. -/
def Covers (p : Nat) : List Tr → Nat → Prop
  | [], m => p = m
  | t :: T, m => t.i = p ∧ p ≤ t.j ∧ (t.j = p ↔ t.k = 16) ∧ Covers t.j T m
set_option maxRecDepth 100000 in
set_option maxHeartbeats 1000000 in
theorem cover_true (v : Value) (T : List Tr) (m : Nat) (w : World) (hr : Row w v T) (hn : T.length ≤ 16777216) (hm : m ≤ 16777216) (hcv : Covers 0 T m) :
    Calls Tryz.prog 19 #[v, .int .i64 (m : Int)] w (fun e w' => e = .returned (.bool true) ∧ Below w.heap.size w w') := by
  obtain ⟨g, off, o, cap, hc, rfl, ho, hcell⟩ := hr
  have HC := Lib.hid hcell
  have HO := Lib.hid ho
  have HCV := Lib.hid hcv
  clear hcell ho hcv
  obtain ⟨len, hlen⟩ : ∃ len, T.length = len := ⟨_, rfl⟩
  rw [hlen] at hc hn
  have HN := Lib.hid hlen
  rw [HN.out]
  clear hlen
  go_enter Tryz.func19, Tryz.ntmps19
  go_wp2
  go_loopw [5, 10] (fun a p wr => ∃ n q : Nat, n ≤ len ∧ p = .int .i64 n ∧ a = .int .i64 q ∧ Covers q (T.drop n) m ∧ Below w.heap.size w wr) (fun _ p _ => len - (intOf p).toNat)
  case atStart => exact ⟨0, 0, Nat.zero_le _, rfl, rfl, HCV.out, Below.refl _ _⟩
  case round =>
    obtain ⟨n, q, hnl, rfl, rfl, hcv, hb⟩ := hrel
    have HB := Lib.hid hb
    have hsz := hb.size
    clear hb
    by_cases hlt : n < len
    · have hltT : n < T.length := by rw [HN.out]; exact hlt
      have hd : decide ((n : Int) < (len : Int)) = true := decide_eq_true (by omega)
      have hne : T ≠ [] := by rintro rfl; simp at hltT
      have ho := HO.out hne
      subst ho
      obtain ⟨c0, c1, c2⟩ := HC.out.below HB.out n hltT
      rw [List.drop_eq_getElem_cons hltT] at hcv
      generalize T[n] = t at *
      obtain ⟨k, i, j⟩ := t
      obtain ⟨e1, e2, e3, hcv⟩ := hcv
      simp only [] at c0 c1 c2 e1 e2 e3 hcv
      subst e1
      have HV := Lib.hid hcv
      clear hltT hne hcv
      have b0 : ((i : Int) != (i : Int)) = false := by simp
      have b1 : decide ((j : Int) < (i : Int)) = false := decide_eq_false (by omega)
      by_cases hk : k = 16
      · have bk : (k == 16) = true := beq_iff_eq.2 hk
        have bj : ((j : Int) == (i : Int)) = true := beq_iff_eq.2 (by have := e3.2 hk; omega)
        clear hk e3
        go_wp2_with fail
        go_roundw
        case rel => exact ⟨n + 1, j, by omega, by go_num, rfl, HV.out, HB.out.alloc hsz _⟩
        case measure => simp [intOf]; omega
      · have bk : (k == 16) = false := beq_eq_false_iff_ne.2 hk
        have bj : ((j : Int) == (i : Int)) = false := beq_eq_false_iff_ne.2 (fun e => hk (e3.1 (by omega)))
        clear hk e3
        go_wp2_with fail
        go_roundw
        case rel => exact ⟨n + 1, j, by omega, by go_num, rfl, HV.out, HB.out.alloc hsz _⟩
        case measure => simp [intOf]; omega
    · have hd : decide ((n : Int) < (len : Int)) = false := decide_eq_false (by omega)
      have hD : T.drop n = [] := List.drop_of_length_le (by rw [HN.out]; omega)
      rw [hD] at hcv
      have e : q = m := hcv
      subst e
      clear hD hcv
      go_wp2_with fail
      go_ret
      exact ⟨by simp, HB.out⟩
set_option maxRecDepth 100000 in
set_option maxHeartbeats 1000000 in
theorem alike_any (a b : Nat) (d : Int) (w : World) (h1 : -16777216 ≤ d) (h2 : d ≤ 16777216) (ha : a ≤ 16777216) :
    Calls Tryz.prog 40 #[.int .i64 (a : Int), .int .i64 (b : Int), .int .i64 d] w (fun e w' => e = .returned (.bool (decide ((a : Int) + d = b) && (decide (a = 0) == decide (b = 0)))) ∧ w = w') := by
  by_cases h : (a : Int) + d = b
  · have e1 : ((a : Int) + d == b) = true := beq_iff_eq.2 h
    have e0 : decide ((a : Int) + d = b) = true := decide_eq_true h
    rw [e0, Bool.true_and]
    have ea : ((a : Int) == 0) = decide (a = 0) := by rw [Bool.eq_iff_iff]; simp
    have eb : ((b : Int) == 0) = decide (b = 0) := by rw [Bool.eq_iff_iff]; simp
    generalize decide (a = 0) = x at *
    generalize decide (b = 0) = y at *
    clear h
    cases x <;> cases y
    all_goals
      go_enter Tryz.func40, Tryz.ntmps40
      go_wp2_with fail
      go_ret
      exact ⟨rfl, rfl⟩
  · have e1 : ((a : Int) + d == b) = false := beq_eq_false_iff_ne.2 h
    have e0 : decide ((a : Int) + d = b) = false := decide_eq_false h
    rw [e0, Bool.false_and]
    clear h e0
    go_enter Tryz.func40, Tryz.ntmps40
    go_wp2_with fail
    go_ret
    exact ⟨rfl, rfl⟩
end Go.Proofs.YtjbamlmdeopcaaaGreatDoor.lx
end

section
/-
  Plain: the tokens of a text lie one behind the other.
-/
namespace Go.Proofs.YtjbamlmdeopcaaaGreatDoor.lx
open Go

theorem covers_autos {L : Lang} (l : List UInt8) (more : Bool) : ∀ p, p ≤ l.length → Covers p (autos l more (bare L l p)) l.length := by
  refine along (L := L) (l := l) (fun p h => ?_) (fun p h ih => ?_)
  · intro hp
    rw [bare_end h]
    show p = l.length
    omega
  · intro hp
    rw [bare_step h, autos]
    have hw := at_pos (L := L) h
    have hl := at_le (L := L) h
    have hk : (tkAt L l p).k ≠ 16 := (at_sized (L := L) h).kind.1
    refine ⟨rfl, Nat.le_add_right _ _, ⟨fun e => ?_, fun e => absurd e hk⟩, ?_⟩
    · have : p + (nxAt L l p).width = p := e
      omega
    · show Covers (p + (nxAt L l p).width) _ _
      have h2 := ih (by omega)
      rcases auto_cases l more (tkAt L l p) (bare L l (p + (nxAt L l p).width)) with ha | ha
      · rw [ha, List.nil_append]
        exact h2
      · rw [ha]
        exact ⟨rfl, Nat.le_refl _, ⟨fun _ => rfl, fun _ => rfl⟩, h2⟩
theorem scan_covers {L : Lang} (l : List UInt8) : Covers 0 (scan L l) l.length := covers_autos l false 0 (Nat.zero_le _)
theorem covers_within : ∀ (T : List Tr) (p m : Nat), Covers p T m → (∀ t ∈ T, p ≤ t.i ∧ t.i ≤ t.j ∧ t.j ≤ m) ∧ p ≤ m
  | [], _, _, h => ⟨by simp, Nat.le_of_eq h⟩
  | t :: T, p, m, h => by
    obtain ⟨a, b, _, c⟩ := h
    obtain ⟨x, y⟩ := covers_within T t.j m c
    refine ⟨fun u hu => ?_, by omega⟩
    rcases List.mem_cons.1 hu with rfl | hu
    · exact ⟨by omega, by omega, y⟩
    · have := x u hu
      exact ⟨by omega, this.2.1, this.2.2⟩
theorem scan_within {L : Lang} (l : List UInt8) : Within l.length (scan L l) := fun t ht => ((covers_within _ _ _ (scan_covers l)).1 t ht).2
/-- The last token's end. -/
theorem lastJ_take (T : List Tr) : ∀ (p k : Nat) (h : k < T.length), lastJ p (T.take (k + 1)) = T[k].j := by
  induction T with
  | nil => intro p k h; simp at h
  | cons t T ih =>
    intro p k h
    cases k with
    | zero => simp [lastJ]
    | succ k =>
      rw [List.take_succ_cons, lastJ, ih t.j k (by simpa using h)]
      rfl
theorem lastJ_le {m : Nat} : ∀ (T : List Tr) (p : Nat), p ≤ m → (∀ t ∈ T, t.j ≤ m) → lastJ p T ≤ m
  | [], _, h, _ => h
  | t :: T, _, _, h => lastJ_le T t.j (h t (by simp)) (fun u hu => h u (by simp [hu]))
end Go.Proofs.YtjbamlmdeopcaaaGreatDoor.lx
end

section
/-
  Rows of tokens: appended whole, written in place, cleared from a place on; slices.Clone, lexer.move.
-/
namespace Go.Proofs.YtjbamlmdeopcaaaGreatDoor.lx
open Go.RowKit Go.Proofs.YtjbamlmdeopcaaaGreatDoor.tok

theorem cellsT_one (T : List Tr) : ∀ u ∈ cellsT T, u.oneCell' = true := by
  intro u hu
  unfold cellsT at hu
  rw [List.mem_flatMap] at hu
  obtain ⟨t, _, hu⟩ := hu
  simp only [List.mem_cons, List.not_mem_nil, or_false] at hu
  rcases hu with rfl | rfl | rfl <;> rfl
theorem Cells.flat {w : World} {g off : Nat} {T : List Tr} (h : Cells w g off T) : ∀ j u, (cellsT T)[j]? = some u → w.cell? ((⟨g, off, none⟩ : Addr).add j) = some u := by
  intro j u hu
  have hlt : j < T.length * 3 := by rw [← cellsT_length]; exact (List.getElem?_eq_some_iff.1 hu).1
  have hq : j / 3 < T.length := by omega
  obtain ⟨a, b, c⟩ := cellsT_at T (j / 3) hq
  obtain ⟨x, y, z⟩ := h (j / 3) hq
  rw [Addr.add_lit]
  have hj : j = j / 3 * 3 ∨ j = j / 3 * 3 + 1 ∨ j = j / 3 * 3 + 2 := by omega
  rcases hj with e | e | e
  · rw [e] at hu ⊢
    rw [a] at hu
    rw [x]
    exact hu
  · rw [e] at hu ⊢
    rw [b] at hu
    rw [← Nat.add_assoc, y]
    exact hu
  · rw [e] at hu ⊢
    rw [c] at hu
    rw [← Nat.add_assoc, z]
    exact hu
/-- A row is put behind a row of one's own. -/
theorem run_append_row {w : World} {base : Nat} {v sv : Value} {T0 T : List Tr} (hown : OwnT w base v T0) (hr : Row w sv T) (hb : base ≤ w.heap.size) (hn : T0.length + T.length ≤ 16777216) :
    ∃ v' w', (∀ ty, (Builtin.append_ #[22, 22] ty #[v, sv]).run Tryz.prog w = .ok v' w') ∧ OwnT w' base v' (T0 ++ T) ∧ w.grownBy w' v.ownBlock := by
  obtain ⟨i0, hi, hz0, hz1, hz2⟩ := info_parts infoT
  obtain ⟨g, off, o, cap, hc, rfl, ho, hcell⟩ := hr
  have main : ∀ ad : Addr, (∀ j u, (cellsT T)[j]? = some u → w.cell? (ad.add j) = some u) → ∃ v' w', (∀ ty, (Builtin.append_ #[22, 22] ty #[v, .slice (some ad) T.length cap]).run Tryz.prog w = .ok v' w') ∧ OwnT w' base v' (T0 ++ T) ∧ w.grownBy w' v.ownBlock := by
    intro ad hcc
    obtain ⟨v', w', h1, h2, h3, _⟩ := run_append_own (P := Tryz.prog) w base 22 0 29 i0 (.agg #[.int .i64 0, .int .i64 0, .int .i64 0]) 3 24 Tryz.underlying22 hi hz0 hz1 hz2 rfl (by decide) v T0.length (cellsT T0) hown ad T.length cap (cellsT T) (cellsT_length T) hcc (cellsT_one T) (by unfold maxLen; omega) (by omega) hb
    refine ⟨v', w', fun ty => h1, ?_, h3⟩
    unfold OwnT
    rw [List.length_append, cellsT_append]
    exact h2
  by_cases hT : T = []
  · subst hT
    cases o with
    | some ad => exact main ad (fun j u hu => by simp [cellsT] at hu)
    | none =>
      refine ⟨v, w, fun ty => ?_, by rw [List.append_nil]; exact hown, World.grownBy.refl _ _⟩
      rcases hown.2 with ⟨rfl, h0⟩ | ⟨g', cap', cur, rfl, _, _, hnc, _⟩
      · simp [Builtin.append_, run_underlying Tryz.underlying22, sizeOf, typeInfo, hi, Builtin.lenOf, Builtin.firstCells]
      · simp [Builtin.append_, run_underlying Tryz.underlying22, sizeOf, typeInfo, hi, Builtin.lenOf, Builtin.firstCells, hnc, storeCells]
  · rw [ho hT]
    exact main _ hcell.flat

/-- A block that holds a row, with room for so many. -/
def Lies (w : World) (g cap : Nat) (T : List Tr) : Prop := ∃ cur : Array Value, w.heap[g]? = some (.cells cur 29 (0, 0)) ∧ T.length ≤ cap ∧ cap ≤ maxLen ∧ cur.size = cap * 3 ∧ cur.toList.take (T.length * 3) = cellsT T
theorem Lies.lt {w : World} {g cap : Nat} {T : List Tr} (h : Lies w g cap T) : g < w.heap.size := by
  obtain ⟨cur, hg, _⟩ := h
  exact (Array.getElem?_eq_some_iff.1 hg).1
theorem Lies.own {w : World} {g cap B0 : Nat} {T : List Tr} (h : Lies w g cap T) (hB : B0 ≤ g) : OwnT w B0 (.slice (some ⟨g, 0, none⟩) T.length cap) T := by
  obtain ⟨cur, hg, h1, h2, h3, h4⟩ := h
  exact ⟨cellsT_length T, .inr ⟨g, cap, cur, rfl, hB, hg, h1, h2, h3, h4⟩⟩
theorem Lies.of_own {w : World} {B0 : Nat} {v : Value} {T : List Tr} (h : OwnT w B0 v T) : (v = .slice none 0 0 ∧ T = []) ∨ ∃ g cap, v = .slice (some ⟨g, 0, none⟩) T.length cap ∧ B0 ≤ g ∧ Lies w g cap T := by
  rcases h.2 with ⟨rfl, h0⟩ | ⟨g, cap, cur, rfl, hB, hg, h1, h2, h3, h4⟩
  · exact .inl ⟨rfl, List.eq_nil_of_length_eq_zero h0⟩
  · exact .inr ⟨g, cap, rfl, hB, cur, hg, h1, h2, h3, h4⟩
theorem Lies.cells {w : World} {g cap : Nat} {T : List Tr} (h : Lies w g cap T) : Cells w g 0 T := by
  obtain ⟨g', off, o, cap', _, hv, ho, hc⟩ := row_of_any (h.own (Nat.zero_le _))
  by_cases hT : T = []
  · subst hT
    intro j hj
    simp at hj
  · have := ho hT
    obtain ⟨rfl, -, -⟩ := Value.slice.inj hv
    obtain ⟨rfl, rfl⟩ : g = g' ∧ 0 = off := by simpa using this
    exact hc
theorem Lies.free {w : World} {g cap : Nat} {T : List Tr} (h : Lies w g cap T) (j : Nat) : w.frozen? ⟨g, j, none⟩ = false := by
  obtain ⟨cur, hg, _⟩ := h
  exact frozen_of_row w g j _ _ hg
theorem Lies.save {w w' : World} {g cap K q : Nat} {T : List Tr} (h : Lies w g cap T) (hs : Save K q w w') (h1 : g < K) (h2 : g ≠ q) : Lies w' g cap T := by
  obtain ⟨cur, hg, r⟩ := h
  exact ⟨cur, by rw [hs.block g h1 h2]; exact hg, r⟩
theorem Lies.below {w w' : World} {g cap K : Nat} {T : List Tr} (h : Lies w g cap T) (hs : Below K w w') (h1 : g < K) : Lies w' g cap T := by
  obtain ⟨cur, hg, r⟩ := h
  exact ⟨cur, by rw [hs.block g h1]; exact hg, r⟩
theorem cellsT_set (T : List Tr) (t : Tr) : ∀ n, n < T.length → cellsT (T.set n t) = (((cellsT T).set (n * 3) (.int .i64 t.k)).set (n * 3 + 1) (.int .i64 (t.i : Int))).set (n * 3 + 2) (.int .i64 (t.j : Int)) := by
  induction T with
  | nil => intro n h; simp at h
  | cons d T ih =>
    intro n h
    have e : ∀ (d : Tr) (T : List Tr), cellsT (d :: T) = .int .i64 d.k :: .int .i64 d.i :: .int .i64 d.j :: cellsT T := fun _ _ => rfl
    cases n with
    | zero => rw [List.set_cons_zero, e, e]; rfl
    | succ n =>
      rw [List.set_cons_succ, e, e, ih n (by simpa using h), show (n + 1) * 3 = n * 3 + 1 + 1 + 1 by omega, show n * 3 + 1 + 1 + 1 + 2 = n * 3 + 2 + 1 + 1 + 1 by omega]
      rfl
theorem take_set_lt {α : Type} (l : List α) (m n : Nat) (x : α) : (l.set n x).take m = (l.take m).set n x := by
  rw [List.take_set]
/-- A token is written. -/
theorem Lies.put {w : World} {g cap : Nat} {T : List Tr} (h : Lies w g cap T) (n : Nat) (hn : n < T.length) (t : Tr) :
    Lies (((w.setCell ⟨g, n * 3, none⟩ (.int .i64 t.k)).setCell ⟨g, n * 3 + 1, none⟩ (.int .i64 (t.i : Int))).setCell ⟨g, n * 3 + 2, none⟩ (.int .i64 (t.j : Int))) g cap (T.set n t) := by
  obtain ⟨cur, hg, h1, h2, h3, h4⟩ := h
  refine ⟨_, heap_setCell_same _ g _ _ _ _ (heap_setCell_same _ g _ _ _ _ (heap_setCell_same w g _ _ _ _ hg)), by simpa using h1, h2, by simpa using h3, ?_⟩
  rw [List.length_set, cellsT_set T t n hn, ← h4]
  simp only [Array.toList_setIfInBounds, take_set_lt]
theorem Lies.put1 {w : World} {g cap : Nat} {T : List Tr} (h : Lies w g cap T) (n : Nat) (hn : n < T.length) (x : Nat) :
    Lies (w.setCell ⟨g, n * 3 + 1, none⟩ (.int .i64 (x : Int))) g cap (T.set n ⟨T[n].k, x, T[n].j⟩) := by
  obtain ⟨cur, hg, h1, h2, h3, h4⟩ := h
  refine ⟨_, heap_setCell_same w g _ _ _ _ hg, by simpa using h1, h2, by simpa using h3, ?_⟩
  obtain ⟨a, _, c⟩ := cellsT_at T n hn
  rw [List.length_set, cellsT_set T _ n hn, ← h4]
  rw [← h4] at a c
  simp only [Array.toList_setIfInBounds, take_set_lt]
  generalize cur.toList.take (T.length * 3) = l at *
  obtain ⟨ha, ha'⟩ := List.getElem?_eq_some_iff.1 a
  obtain ⟨hc, hc'⟩ := List.getElem?_eq_some_iff.1 c
  rw [← ha', List.set_getElem_self]
  refine List.ext_getElem? fun j => ?_
  simp only [List.getElem?_set, List.length_set]
  by_cases hj : n * 3 + 2 = j
  · subst hj
    rw [if_pos rfl, if_pos hc, if_neg (by omega), c]
  · rw [if_neg hj]
theorem Lies.put2 {w : World} {g cap : Nat} {T : List Tr} (h : Lies w g cap T) (n : Nat) (hn : n < T.length) (x : Nat) :
    Lies (w.setCell ⟨g, n * 3 + 2, none⟩ (.int .i64 (x : Int))) g cap (T.set n ⟨T[n].k, T[n].i, x⟩) := by
  obtain ⟨cur, hg, h1, h2, h3, h4⟩ := h
  refine ⟨_, heap_setCell_same w g _ _ _ _ hg, by simpa using h1, h2, by simpa using h3, ?_⟩
  obtain ⟨a, b, _⟩ := cellsT_at T n hn
  rw [List.length_set, cellsT_set T _ n hn, ← h4]
  rw [← h4] at a b
  simp only [Array.toList_setIfInBounds, take_set_lt]
  generalize cur.toList.take (T.length * 3) = l at *
  obtain ⟨ha, ha'⟩ := List.getElem?_eq_some_iff.1 a
  obtain ⟨hb, hb'⟩ := List.getElem?_eq_some_iff.1 b
  rw [← ha', List.set_getElem_self, ← hb', List.set_getElem_self]
theorem Lies.take {w : World} {g cap : Nat} {T : List Tr} (h : Lies w g cap T) (n : Nat) : Lies w g cap (T.take n) := by
  obtain ⟨cur, hg, h1, h2, h3, h4⟩ := h
  have hl : (T.take n).length ≤ T.length := by rw [List.length_take]; omega
  refine ⟨cur, hg, by omega, h2, h3, ?_⟩
  have : cellsT T = cellsT (T.take n) ++ cellsT (T.drop n) := by rw [← cellsT_append, List.take_append_drop]
  have e : cur.toList.take ((T.take n).length * 3) = (cur.toList.take (T.length * 3)).take ((T.take n).length * 3) := by
    rw [List.take_take]; congr 1; omega
  rw [e, h4, this, ← cellsT_length, List.take_left]
theorem take_part {l : List Value} {T : List Tr} (h4 : l.take (T.length * 3) = cellsT T) (n : Nat) (hn : n ≤ T.length) : l.take (n * 3) = cellsT (T.take n) := by
  have e : l.take (n * 3) = (l.take (T.length * 3)).take (n * 3) := by
    rw [List.take_take, Nat.min_eq_left (by omega)]
  have e2 : cellsT T = cellsT (T.take n) ++ cellsT (T.drop n) := by rw [← cellsT_append, List.take_append_drop]
  have e3 : (cellsT (T.take n)).length = n * 3 := by rw [cellsT_length, List.length_take]; omega
  rw [e, h4, e2, ← e3, List.take_left]
/-- What stands from a place on is cleared. -/
theorem Lies.clear {w : World} {g cap : Nat} {T : List Tr} (h : Lies w g cap T) (n : Nat) (hn : n < T.length) :
    ∃ w', (∀ ty, (Builtin.clear_ #[22] ty #[.slice (some ⟨g, n * 3, none⟩) (T.length - n) (cap - n)]).run Tryz.prog w = .ok (.tuple #[]) w') ∧ Lies w' g cap (T.take n) ∧ ∀ K, Save K g w w' := by
  obtain ⟨i0, hi, hz0, hz1, hz2⟩ := info_parts infoT
  obtain ⟨cur, hg, h1, h2, h3, h4⟩ := h
  have hzl : (Builtin.zeroCells (Value.agg #[.int .i64 0, .int .i64 0, .int .i64 0]).cells (T.length - n)).toList.length = (T.length - n) * 3 := by
    rw [Array.length_toList, size_zeroCells]
    rfl
  have hz1c : ∀ v ∈ (Builtin.zeroCells (Value.agg #[.int .i64 0, .int .i64 0, .int .i64 0]).cells (T.length - n)).toList, v.oneCell' = true := by
    intro v hv
    rw [Array.mem_toList_iff] at hv
    unfold Builtin.zeroCells at hv
    rw [Array.mem_map] at hv
    obtain ⟨q, _, rfl⟩ := hv
    have h3 : q % 3 = 0 ∨ q % 3 = 1 ∨ q % 3 = 2 := by omega
    show (#[Value.int .i64 0, Value.int .i64 0, Value.int .i64 0][q % 3]!).oneCell' = true
    rcases h3 with e | e | e <;> rw [e] <;> simp [Value.oneCell']
  generalize hZ : (Builtin.zeroCells (Value.agg #[.int .i64 0, .int .i64 0, .int .i64 0]).cells (T.length - n)).toList = Z at hzl hz1c
  have hst := run_storeCells_at Tryz.prog g (n * 3) 29 Z 0 cur w hg (by rw [hzl]; omega) hz1c
  simp only [Nat.add_zero] at hst
  obtain ⟨m, hm⟩ : ∃ m, T.length - n = m + 1 := ⟨T.length - n - 1, by omega⟩
  have hlen : (cur.toList.take (n * 3)).length = n * 3 := by rw [List.length_take, Array.length_toList]; omega
  have htk : cur.toList.take (n * 3) = cellsT (T.take n) := take_part h4 n (Nat.le_of_lt hn)
  refine ⟨w.setRow g (cur.toList.take (n * 3) ++ Z ++ cur.toList.drop (n * 3 + Z.length)).toArray, fun ty => ?_, ⟨_, setRow_heap w g cur _ _ _ hg, ?_, h2, ?_, ?_⟩, fun K => ⟨rfl, rfl, rfl, by simp, fun k _ hk => setRow_other w g k _ hk⟩⟩
  · rw [hm] at hZ ⊢
    simp [Builtin.clear_, run_underlying Tryz.underlying22, zeroValue, typeInfo, hi, hz0, hZ, hst]
  · rw [List.length_take]; omega
  · simp only [List.size_toArray, List.length_append, List.length_drop, Array.length_toList, hzl, hlen]
    omega
  · rw [List.length_take, Nat.min_eq_left (by omega)]
    show ((cur.toList.take (n * 3) ++ Z ++ _)).take (n * 3) = _
    rw [List.append_assoc, List.take_append_of_le_length (by rw [hlen]; exact Nat.le_refl _), htk, List.take_of_length_le]
    rw [cellsT_length, List.length_take]; omega

def Cloned (T : List Tr) (w : World) (e : Ending) (w' : World) : Prop := ∃ v', e = .returned v' ∧ OwnT w' w.heap.size v' T ∧ Below w.heap.size w w'
set_option maxRecDepth 100000 in
set_option maxHeartbeats 1000000 in
theorem clone_any (v : Value) (T : List Tr) (w : World) (hr : Row w v T) (hn : T.length ≤ 8388608) :
    Calls Tryz.prog 46 #[v] w (Cloned T w) := by
  have hr0 := hr
  obtain ⟨g, off, o, cap, hc, rfl, ho, hcell⟩ := hr
  have HR := Lib.hid hr0
  clear hr0 ho hcell
  cases o with
  | none =>
    have hq : ∀ u, (binOp .eql 22 (.slice none 0 cap) (.slice none 0 0)).run Tryz.prog u = .ok (.bool true) u := fun u => Lib.run_eql_slice_nil u _ _ none _ _ _ _ Tryz.underlying22
    have hT : T = [] := by
      refine Classical.byContradiction fun h => ?_
      obtain ⟨_, _, _, _, _, hv, ho, _⟩ := HR.out
      have := ho h
      subst this
      cases hv
    subst hT
    rw [List.length_nil] at *
    go_enter Tryz.func46, Tryz.ntmps46
    go_wp2
    go_ret
    exact ⟨_, rfl, World.ownsRow_nil _ _ _ _, Below.refl _ _⟩
  | some ad =>
    have hq : ∀ u, (binOp .eql 22 (.slice (some ad) T.length cap) (.slice none 0 0)).run Tryz.prog u = .ok (.bool false) u := fun u => Lib.run_eql_slice_nil u _ _ (some ad) _ _ _ _ Tryz.underlying22
    go_enter Tryz.func46, Tryz.ntmps46
    have h0 : OwnT (w.alloc (.cells #[] 29)) w.heap.size (.slice (some ⟨w.heap.size, 0, none⟩) 0 0) [] := World.ownsRow_made w #[] 0 (Nat.le_refl _) (by decide) rfl
    have hB : Below w.heap.size w (w.alloc (.cells #[] 29)) := (Below.refl _ _).alloc (Nat.le_refl _) _
    obtain ⟨v', w', hrun, hown, hgr⟩ := run_append_row h0 (HR.out.below hB) (by simp) (by simp; omega)
    have HB := Lib.hid (hB.grown hgr (by simp) (fun k hk => by cases hk; exact Nat.le_refl _))
    have HO := Lib.hid hown
    have HRUN := Lib.hid hrun
    clear hown hgr hrun h0 hB
    go_wp2_with (at_builtin; refine Lib.wpList_append_run _ rfl _ _ _ _ rfl _ _ rfl rfl _ _ (HRUN.out _) ?_)
    go_ret
    exact ⟨_, rfl, HO.out, HB.out⟩
end Go.Proofs.YtjbamlmdeopcaaaGreatDoor.lx
end

section
/-
  lexer.move; slices.Grow of nil, slices.Concat.
-/
namespace Go.Proofs.YtjbamlmdeopcaaaGreatDoor.lx
open Go.RowKit Go.Proofs.YtjbamlmdeopcaaaGreatDoor.tok

theorem Lies.shift {w : World} {g cap : Nat} {T : List Tr} {a b : Nat} {n : Nat} (hn : n < T.length) (h : Lies w g cap ((T.take n).map (moveT a b) ++ T.drop n)) :
    Lies ((w.setCell ⟨g, n * 3 + 1, none⟩ (.int .i64 ((T[n].i - a + b : Nat) : Int))).setCell ⟨g, n * 3 + 2, none⟩ (.int .i64 ((T[n].j - a + b : Nat) : Int))) g cap ((T.take (n + 1)).map (moveT a b) ++ T.drop (n + 1)) := by
  have hl : ((T.take n).map (moveT a b)).length = n := by rw [List.length_map, List.length_take]; omega
  have hM : (T.take n).map (moveT a b) ++ T.drop n = (T.take n).map (moveT a b) ++ T[n] :: T.drop (n + 1) := by rw [List.drop_eq_getElem_cons hn]
  have hR : (T.take (n + 1)).map (moveT a b) ++ T.drop (n + 1) = (T.take n).map (moveT a b) ++ moveT a b T[n] :: T.drop (n + 1) := by
    rw [List.take_succ_eq_append_getElem hn, List.map_append]
    simp
  rw [hM] at h
  rw [hR]
  generalize (T.take n).map (moveT a b) = P at *
  generalize T.drop (n + 1) = R at *
  generalize T[n] = t at *
  subst hl
  have e1 := h.put1 P.length (by simp) (t.i - a + b)
  have e2 := e1.put2 P.length (by simp) (t.j - a + b)
  simpa [moveT] using e2
theorem Lies.at {w : World} {g cap : Nat} {T : List Tr} (h : Lies w g cap T) (n : Nat) (hn : n < T.length) : w.cell? ⟨g, n * 3, none⟩ = some (.int .i64 T[n].k) ∧ w.cell? ⟨g, n * 3 + 1, none⟩ = some (.int .i64 (T[n].i : Int)) ∧ w.cell? ⟨g, n * 3 + 2, none⟩ = some (.int .i64 (T[n].j : Int)) := by
  have := h.cells n hn
  simpa using this

def Moved (T : List Tr) (w : World) (e : Ending) (w' : World) : Prop := ∃ v', e = .returned v' ∧ OwnT w' w.heap.size v' T ∧ Below w.heap.size w w'
set_option maxRecDepth 100000 in
set_option maxHeartbeats 1000000 in
theorem move_any (v : Value) (T : List Tr) (a b m : Nat) (d : Int) (w : World) (hr : Row w v T) (hn : T.length ≤ 8388608) (hd : d = (b : Int) - (a : Int)) (hb : b ≤ 16777216) (hm : m ≤ 16777216) (ha : ∀ t ∈ T, a ≤ t.i ∧ t.i ≤ t.j ∧ t.j ≤ m) (ham : a ≤ 16777216) :
    Calls Tryz.prog 23 #[v, .int .i64 d] w (Moved (T.map (moveT a b)) w) := by
  have HA := Lib.hid ha
  have HX := Lib.hid (clone_any v T w hr hn)
  have hd1 : -16777216 ≤ d := by omega
  have hd2 : d ≤ 16777216 := by omega
  have HD := Lib.hid hd
  clear ha hr hd
  go_enter Tryz.func23, Tryz.ntmps23
  go_wp2_with fail
  go_at_call 46
  refine HX.out.mono ?_
  rintro e w1 ⟨v1, rfl, hT1, hb1⟩
  have HT1 := Lib.hid hT1
  have HB1 := Lib.hid hb1
  clear hT1 hb1
  have hz1 := HB1.out.size
  rcases Lies.of_own HT1.out with ⟨rfl, hT⟩ | ⟨g, cap, rfl, hg, hl⟩
  · subst hT
    clear HT1 HX HA
    go_wp2_with fail
    go_loopw [11] (fun p wr => p = .int .i64 0 ∧ wr = w1) (fun _ _ => 0)
    case atStart => exact ⟨rfl, rfl⟩
    case round =>
      obtain ⟨rfl, rfl⟩ := hrel
      go_wp2_with fail
      go_ret
      exact ⟨_, rfl, World.ownsRow_nil _ _ _ _, HB1.out⟩
  · have HL := Lib.hid hl
    obtain ⟨len, hlen⟩ : ∃ len, T.length = len := ⟨_, rfl⟩
    have HN := Lib.hid hlen
    rw [HN.out] at hn ⊢
    clear hl hlen HT1 HX
    go_wp2_with fail
    go_loopw [11] (fun p wr => ∃ n : Nat, n ≤ len ∧ p = .int .i64 n ∧ Lies wr g cap ((T.take n).map (moveT a b) ++ T.drop n) ∧ Save w1.heap.size g w1 wr) (fun p _ => len - (intOf p).toNat)
    case atStart => exact ⟨0, Nat.zero_le _, rfl, by simpa using HL.out, Save.refl _ _ _⟩
    case round =>
      obtain ⟨n, hnl, rfl, hli, hsv⟩ := hrel
      have HSV := Lib.hid hsv
      clear hsv
      by_cases hlt : n < len
      · have hltT : n < T.length := by rw [HN.out]; exact hlt
        have hdl : decide ((n : Int) < (len : Int)) = true := decide_eq_true (by omega)
        have hLn : ((T.take n).map (moveT a b)).length = n := by rw [List.length_map, List.length_take]; omega
        obtain ⟨c0, c1, c2⟩ := hli.at n (by rw [List.length_append, hLn, List.length_drop]; omega)
        have hq : ((T.take n).map (moveT a b) ++ T.drop n)[n]? = some T[n] := by
          rw [List.getElem?_append_right (by rw [hLn]; exact Nat.le_refl _), hLn, Nat.sub_self, List.getElem?_drop, Nat.add_zero, List.getElem?_eq_getElem hltT]
        have hget := (List.getElem?_eq_some_iff.1 hq).2
        rw [hget] at c0 c1 c2
        have f1 := hli.free (n * 3 + 1)
        have f2 := hli.free (n * 3 + 2)
        have HS := Lib.hid (hli.shift hltT)
        obtain ⟨q1, q2, q3⟩ := HA.out T[n] (List.getElem_mem hltT)
        generalize T[n] = t at *
        obtain ⟨k, i, j⟩ := t
        simp only [] at c0 c1 c2 q1 q2 q3 HS
        have e1 : Hid (((i - a + b : Nat) : Int) = (i : Int) + d) := Lib.hid (by rw [HD.out]; omega)
        have e2 : Hid (((j - a + b : Nat) : Int) = (j : Int) + d) := Lib.hid (by rw [HD.out]; omega)
        rw [e1.out, e2.out] at HS
        clear hget hq hLn hltT hli c0
        go_wp2_with fail
        go_roundw
        case rel => exact ⟨n + 1, by omega, by go_num, HS.out, (HSV.out.setCell _ _).setCell _ _⟩
        case measure => simp [intOf]; omega
      · have hdl : decide ((n : Int) < (len : Int)) = false := decide_eq_false (by omega)
        have e0 : (T.take n).map (moveT a b) ++ T.drop n = T.map (moveT a b) := by
          rw [List.take_of_length_le (by rw [HN.out]; omega), List.drop_of_length_le (by rw [HN.out]; omega), List.append_nil]
        rw [e0] at hli
        have hown := hli.own (B0 := w.heap.size) hg
        rw [List.length_map, HN.out] at hown
        have HO := Lib.hid hown
        clear hown hli e0
        go_wp2_with fail
        go_ret
        exact ⟨_, rfl, HO.out, HB1.out.trans (HSV.out.below hz1 hg)⟩

def Made (w : World) (e : Ending) (w' : World) : Prop := ∃ v', e = .returned v' ∧ OwnT w' w.heap.size v' [] ∧ Below w.heap.size w w'
set_option maxRecDepth 100000 in
set_option maxHeartbeats 1000000 in
theorem grow_nil (n : Nat) (w : World) (hn : n ≤ 16777216) :
    Calls Tryz.prog 68 #[.slice none 0 0, .int .i64 (n : Int)] w (Made w) := by
  obtain ⟨i0, hi, hz0, hz1, hz2⟩ := info_parts infoT
  by_cases h0 : n = 0
  · subst h0
    go_enter Tryz.func68, Tryz.ntmps68
    go_wp2_with fail
    go_ret
    exact ⟨_, rfl, World.ownsRow_nil _ _ _ _, Below.refl _ _⟩
  · have hrun := Lib.run_append_nil_zeros (P := Tryz.prog) w 22 3 0 29 i0 (.agg #[.int .i64 0, .int .i64 0, .int .i64 0]) .i64 .i64 Tryz.underlying22 Tryz.underlying3 hi hz0 n (by omega) (by rw [hz1]; decide) (by omega) (by rw [hz2]; omega)
    have hge : n ≤ grownCap w n 0 29 := grownCap_ge w n 0 _
    have hcm : grownCap w n 0 29 ≤ maxLen := grownCap_le_maxLen w n 0 _ (by unfold maxLen; omega)
    generalize grownCap w n 0 29 = cap at *
    have hO : OwnT (w.drew.alloc (.cells (Builtin.zeroCells (Value.agg #[.int .i64 0, .int .i64 0, .int .i64 0]).cells n ++ Builtin.zeroCells (Value.agg #[.int .i64 0, .int .i64 0, .int .i64 0]).cells (cap - n)) 29)) w.heap.size (.slice (some ⟨w.heap.size, 0, none⟩) 0 cap) [] :=
      World.ownsRow_made w.drew _ cap (Nat.le_refl _) hcm (by
        rw [Array.size_append, size_zeroCells, size_zeroCells, ← Nat.add_mul]
        congr 1
        omega)
    have HO := Lib.hid hO
    have HRUN : Hid (∀ ty, (Builtin.append_ #[22, 3] ty #[.slice none 0 0, .int .i64 n]).run Tryz.prog w = _) := Lib.hid (fun ty => hrun)
    have HB : Hid (Below w.heap.size w (w.drew.alloc (.cells (Builtin.zeroCells (Value.agg #[.int .i64 0, .int .i64 0, .int .i64 0]).cells n ++ Builtin.zeroCells (Value.agg #[.int .i64 0, .int .i64 0, .int .i64 0]).cells (cap - n)) 29))) := Lib.hid (((Below.refl w.heap.size w).drew).alloc (Nat.le_refl _) _)
    generalize (w.drew.alloc (.cells (Builtin.zeroCells (Value.agg #[.int .i64 0, .int .i64 0, .int .i64 0]).cells n ++ Builtin.zeroCells (Value.agg #[.int .i64 0, .int .i64 0, .int .i64 0]).cells (cap - n)) 29)) = W at *
    have hd0 : decide (0 < (n : Int)) = true := decide_eq_true (by omega)
    unfold maxLen at hcm
    clear hrun hO hi hz0 hz1 hz2
    go_enter Tryz.func68, Tryz.ntmps68
    go_wp2_with (at_builtin; refine Lib.wpList_append_run _ rfl _ _ _ _ rfl _ _ rfl rfl _ _ (HRUN.out _) ?_)
    go_ret
    exact ⟨_, rfl, HO.out, HB.out⟩

/-- What slices.Concat is handed: a row of rows. -/
def Rows3 (w : World) (q m : Nat) (Vs : List Value) (Ls : List (List Tr)) : Prop := Vs.length = m ∧ Ls.length = m ∧ ∀ j (hv : j < Vs.length) (hl : j < Ls.length), w.cell? ⟨q, j, none⟩ = some Vs[j] ∧ Row w Vs[j] Ls[j]
def Joined (T : List Tr) (w : World) (e : Ending) (w' : World) : Prop := ∃ v', e = .returned v' ∧ OwnT w' w.heap.size v' T ∧ Below w.heap.size w w'
theorem flat_step (Ls : List (List Tr)) (n : Nat) (h : n < Ls.length) : (Ls.take (n + 1)).flatten = (Ls.take n).flatten ++ Ls[n] := by
  rw [List.take_succ_eq_append_getElem h, List.flatten_append]
  simp
theorem flat_le (Ls : List (List Tr)) (n : Nat) : (Ls.take n).flatten.length ≤ Ls.flatten.length := by
  have : Ls.flatten = (Ls.take n).flatten ++ (Ls.drop n).flatten := by rw [← List.flatten_append, List.take_append_drop]
  rw [this, List.length_append]
  omega
set_option maxRecDepth 100000 in
set_option maxHeartbeats 1000000 in
theorem concat_any (q m : Nat) (Vs : List Value) (Ls : List (List Tr)) (w : World) (hr : Rows3 w q m Vs Ls) (hm : m ≤ 16) (hn : Ls.flatten.length ≤ 8388608) :
    Calls Tryz.prog 43 #[.slice (some ⟨q, 0, none⟩) m m] w (Joined Ls.flatten w) := by
  obtain ⟨h1, h2, h3⟩ := hr
  have H3 := Lib.hid h3
  have H1 := Lib.hid h1
  have H2 := Lib.hid h2
  clear h1 h2 h3
  go_enter Tryz.func43, Tryz.ntmps43
  go_wp2
  go_loopw [3, 11] (fun a p wr => ∃ n : Nat, n ≤ m ∧ p = .int .i64 n ∧ a = .int .i64 ((Ls.take n).flatten.length : Nat) ∧ wr = w) (fun _ p _ => m - (intOf p).toNat)
  case atStart => exact ⟨0, Nat.zero_le _, rfl, by simp, rfl⟩
  case round =>
    obtain ⟨n, hnl, rfl, rfl, rfl⟩ := hrel
    by_cases hlt : n < m
    · have hd : decide ((n : Int) < (m : Int)) = true := decide_eq_true (by omega)
      obtain ⟨c, ⟨g, off, o, cap, hc, hv, _, _⟩⟩ := H3.out n (by rw [H1.out]; exact hlt) (by rw [H2.out]; exact hlt)
      rw [hv] at c
      have hs := Lib.hid (flat_step Ls n (by rw [H2.out]; exact hlt))
      have hle := flat_le Ls (n + 1)
      rw [hs.out, List.length_append] at hle
      have HE : Hid ((Ls.take (n + 1)).flatten.length = (Ls.take n).flatten.length + (Ls[n]'(by rw [H2.out]; exact hlt)).length) := Lib.hid (by rw [hs.out, List.length_append])
      generalize (Ls[n]'(by rw [H2.out]; exact hlt)).length = y at *
      generalize (Ls.take n).flatten.length = x at *
      clear hv hs
      go_wp2_with fail
      go_roundw
      case rel => exact ⟨n + 1, by omega, by go_num, by rw [HE.out]; go_num, by first | rfl | trivial⟩
      case measure => simp [intOf]; omega
    · have hd : decide ((n : Int) < (m : Int)) = false := decide_eq_false (by omega)
      have he : (Ls.take n).flatten = Ls.flatten := by rw [List.take_of_length_le (by rw [H2.out]; omega)]
      rw [he]
      have HG := Lib.hid (grow_nil Ls.flatten.length wr (by omega))
      have HNN : Hid (Ls.flatten.length ≤ 8388608) := Lib.hid hn
      generalize hx : Ls.flatten.length = x at hn HG ⊢
      clear he hx
      go_wp2_with (go_at_call 68; refine HG.out.mono ?_; rintro e w1 ⟨v1, rfl, hO, hb1⟩; have HO := Lib.hid hO; have HB := Lib.hid hb1; clear hO hb1)
      have hz := HB.out.size
      go_loopw [6, 27] (fun vv p wq => ∃ n : Nat, n ≤ m ∧ p = .int .i64 n ∧ OwnT wq wr.heap.size vv (Ls.take n).flatten ∧ Below wr.heap.size wr wq) (fun _ p _ => m - (intOf p).toNat)
      case atStart => exact ⟨0, Nat.zero_le _, rfl, by simpa using HO.out, HB.out⟩
      case round =>
        obtain ⟨i, hil, rfl, hown, hb⟩ := hrel
        have HB2 := Lib.hid hb
        have hsz := hb.size
        by_cases hlt2 : i < m
        · have hd2 : decide ((i : Int) < (m : Int)) = true := decide_eq_true (by omega)
          obtain ⟨c, hrow⟩ := H3.out i (by rw [H1.out]; exact hlt2) (by rw [H2.out]; exact hlt2)
          have hcb := (hb.cell (p := ⟨q, i, none⟩) (World.block_lt_of_cell? _ _ c)).trans c
          have hs := flat_step Ls i (by rw [H2.out]; exact hlt2)
          have hle := flat_le Ls (i + 1)
          rw [hs, List.length_append] at hle
          obtain ⟨v', w', hrun, hown', hgr⟩ := run_append_row hown (hrow.below hb) hsz (by have := HNN.out; omega)
          rw [← hs] at hown'
          have HO2 := Lib.hid hown'
          have HBn := Lib.hid (hb.grown hgr hsz (fun k hk => (World.ownsRow.lt hown k hk).1))
          have HRUN := Lib.hid hrun
          generalize Vs[i]'(by rw [H1.out]; exact hlt2) = vi at *
          clear hown hown' hgr hrun hb hrow hs hle c
          go_wp2_with (at_builtin; refine Lib.wpList_append_run _ rfl _ _ _ _ rfl _ _ rfl rfl _ _ (HRUN.out _) ?_)
          go_roundw
          case rel => exact ⟨i + 1, by omega, by go_num, HO2.out, HBn.out⟩
          case measure => simp [intOf]; omega
        · have hd2 : decide ((i : Int) < (m : Int)) = false := decide_eq_false (by omega)
          have he2 : (Ls.take i).flatten = Ls.flatten := by rw [List.take_of_length_le (by rw [H2.out]; omega)]
          rw [he2] at hown
          have HO2 := Lib.hid hown
          clear hown he2 hb
          go_wp2_with fail
          go_ret
          exact ⟨_, rfl, HO2.out, HB2.out⟩
end Go.Proofs.YtjbamlmdeopcaaaGreatDoor.lx
end

section
/-
  slices.IndexFunc and slices.DeleteFunc of lexer.isAuto.
-/
namespace Go.Proofs.YtjbamlmdeopcaaaGreatDoor.lx
open Go.RowKit Go.Proofs.YtjbamlmdeopcaaaGreatDoor.tok

def FirstA (T : List Tr) (w : World) (e : Ending) (w' : World) : Prop := ((e = .returned (.int .i64 (-1)) ∧ ∀ t ∈ T, t.k ≠ 16) ∨ ∃ n : Nat, e = .returned (.int .i64 (n : Int)) ∧ n < T.length ∧ noA (T.take n) = T.take n ∧ noA (T.take (n + 1)) = T.take n) ∧ Below w.heap.size w w'
set_option maxRecDepth 100000 in
set_option maxHeartbeats 1000000 in
theorem indexA_any (v : Value) (T : List Tr) (w : World) (hr : Row w v T) (hn : T.length ≤ 16777216) :
    Calls Tryz.prog 69 #[v, .func (.func 45) #[] #[]] w (FirstA T w) := by
  obtain ⟨g, off, o, cap, hc, rfl, ho, hcell⟩ := hr
  have HC := Lib.hid hcell
  have HO := Lib.hid ho
  clear hcell ho
  obtain ⟨len, hlen⟩ : ∃ len, T.length = len := ⟨_, rfl⟩
  rw [hlen] at hc hn
  have HN := Lib.hid hlen
  rw [HN.out]
  clear hlen
  go_enter Tryz.func69, Tryz.ntmps69
  go_wp2
  go_loopw [8] (fun p wr => ∃ n : Nat, n ≤ len ∧ p = .int .i64 n ∧ (∀ t ∈ T.take n, t.k ≠ 16) ∧ Below w.heap.size w wr) (fun p _ => len - (intOf p).toNat)
  case atStart => exact ⟨0, Nat.zero_le _, rfl, by simp, Below.refl _ _⟩
  case round =>
    obtain ⟨n, hnl, rfl, hal, hb⟩ := hrel
    have HB := Lib.hid hb
    have HAL := Lib.hid hal
    have hsz := hb.size
    clear hb hal
    by_cases hlt : n < len
    · have hltT : n < T.length := by rw [HN.out]; exact hlt
      have hd : decide ((n : Int) < (len : Int)) = true := decide_eq_true (by omega)
      have hne : T ≠ [] := by rintro rfl; simp at hltT
      have ho := HO.out hne
      subst ho
      obtain ⟨c0, c1, c2⟩ := HC.out.below HB.out n hltT
      have HST : Hid (T[n].k ≠ 16 → ∀ t ∈ T.take (n + 1), t.k ≠ 16) := Lib.hid (fun h t ht => by
        rw [List.take_succ_eq_append_getElem hltT] at ht
        rcases List.mem_append.1 ht with ht | ht
        · exact HAL.out t ht
        · rw [List.mem_singleton] at ht; rw [ht]; exact h)
      have HSN : Hid (T[n].k = 16 → noA (T.take n) = T.take n ∧ noA (T.take (n + 1)) = T.take n) := Lib.hid (fun h => by
        have e := noA_same HAL.out
        refine ⟨e, ?_⟩
        rw [List.take_succ_eq_append_getElem hltT, noA_append, e]
        have : noA [T[n]] = [] := by simp [noA, h]
        rw [this, List.append_nil])
      generalize T[n] = t at *
      obtain ⟨k, i, j⟩ := t
      simp only [] at c0 c1 c2
      have HX := Lib.hid (fun u => isAuto_any k i j u)
      clear hltT hne
      by_cases hk : k = 16
      · have bk : (k == 16) = true := beq_iff_eq.2 hk
        have HS2 := Lib.hid (HSN.out hk)
        rw [bk] at HX
        clear hk bk
        go_wp2_with (go_at_call 45; refine (HX.out _).mono ?_; rintro e w2 ⟨rfl, hb2⟩; have HB2 := Lib.hid (HB.out.trans (hb2.mono hsz)); clear hb2)
        go_ret
        exact ⟨.inr ⟨n, rfl, by rw [HN.out]; exact hlt, HS2.out.1, HS2.out.2⟩, HB2.out⟩
      · have bk : (k == 16) = false := beq_eq_false_iff_ne.2 hk
        have HS2 := Lib.hid (HST.out hk)
        rw [bk] at HX
        clear hk bk
        go_wp2_with (go_at_call 45; refine (HX.out _).mono ?_; rintro e w2 ⟨rfl, hb2⟩; have HB2 := Lib.hid (HB.out.trans (hb2.mono hsz)); clear hb2)
        go_roundw
        case rel => exact ⟨n + 1, by omega, by go_num, HS2.out, HB2.out⟩
        case measure => simp [intOf]; omega
    · have hd : decide ((n : Int) < (len : Int)) = false := decide_eq_false (by omega)
      have he : T.take n = T := List.take_of_length_le (by rw [HN.out]; omega)
      rw [he] at HAL
      clear he
      go_wp2_with fail
      go_ret
      exact ⟨.inl ⟨rfl, HAL.out⟩, HB.out⟩

theorem Save.alloc {B g : Nat} {a w : World} (h : Save B g a w) (hB : B ≤ a.heap.size) (o : Obj) : Save B g a (w.alloc o) :=
  h.trans ⟨rfl, rfl, rfl, by simp, fun k hk _ => by have := h.size; exact heap_alloc_old w o (by omega)⟩
theorem Save.then {B g : Nat} {a w w' : World} (h : Save B g a w) (hB : B ≤ a.heap.size) (hb : Below w.heap.size w w') : Save B g a w' :=
  h.trans ⟨hb.os, hb.tape, hb.output, hb.size, fun k hk _ => by have := h.size; exact hb.block k (by omega)⟩
theorem Lies.alloc {w : World} {g cap : Nat} {T : List Tr} (h : Lies w g cap T) (o : Obj) : Lies (w.alloc o) g cap T := by
  have hl := h.lt
  obtain ⟨cur, hg, r⟩ := h
  exact ⟨cur, by rw [heap_alloc_old w o hl]; exact hg, r⟩
def Deleted (T : List Tr) (B : Nat) (w : World) (e : Ending) (w' : World) : Prop := ∃ v', e = .returned v' ∧ OwnT w' B v' (noA T) ∧ Below B w w'
theorem noA_take_step (T : List Tr) (n : Nat) (h : n < T.length) : noA (T.take (n + 1)) = noA (T.take n) ++ noA [T[n]] := by
  rw [List.take_succ_eq_append_getElem h, noA_append]
set_option maxRecDepth 100000 in
set_option maxHeartbeats 1000000 in
theorem delete_any (v : Value) (T : List Tr) (B0 : Nat) (w : World) (hown : OwnT w B0 v T) (hB : B0 ≤ w.heap.size) (hn : T.length ≤ 16777216) :
    Calls Tryz.prog 44 #[v, .func (.func 45) #[] #[]] w (Deleted T B0 w) := by
  have HO := Lib.hid hown
  have HX := Lib.hid (indexA_any v T w (row_of_any hown) hn)
  clear hown
  go_enter Tryz.func44, Tryz.ntmps44
  go_wp2_with fail
  go_at_call 69
  refine HX.out.mono ?_
  rintro e w1 ⟨hor, hb1⟩
  have HB1 := Lib.hid hb1
  have hz1 := hb1.size
  have HO1 := Lib.hid (dec.own_below HO.out hb1)
  clear hb1 HX HO
  rcases hor with ⟨rfl, hal⟩ | ⟨n0, rfl, hn0, hs1, hs2⟩
  · have he := noA_same hal
    have HR : Hid (OwnT w1 B0 v (noA T)) := Lib.hid (by rw [he]; exact HO1.out)
    clear hal he HO1
    go_wp2_with fail
    go_ret
    exact ⟨_, rfl, HR.out, HB1.out.mono hB⟩
  · rcases Lies.of_own HO1.out with ⟨rfl, hT⟩ | ⟨g, cap, rfl, hg, hl⟩
    · subst hT
      simp at hn0
    · have HL := Lib.hid hl
      obtain ⟨len, hlen⟩ : ∃ len, T.length = len := ⟨_, rfl⟩
      have HN := Lib.hid hlen
      have hcap : len ≤ cap := by rw [← hlen]; obtain ⟨_, _, h, _⟩ := hl; exact h
      rw [HN.out] at hn hn0 ⊢
      have HS1 := Lib.hid hs1
      have HS2 := Lib.hid hs2
      have b0 : ((n0 : Int) == -1) = false := beq_eq_false_iff_ne.2 (by omega)
      clear hl hlen HO1 hs1 hs2
      go_wp2_with fail
      go_loopw [5, 6] (fun a p wr => ∃ (i j : Nat) (M : List Tr), i < j ∧ j ≤ len ∧ a = .int .i64 i ∧ p = .int .i64 j ∧ Lies wr g cap M ∧ M.length = len ∧ M.take i = noA (T.take j) ∧ i = (noA (T.take j)).length ∧ M.drop j = T.drop j ∧ Save w1.heap.size g w1 wr) (fun _ p _ => len - (intOf p).toNat)
      case atStart => exact ⟨n0, n0 + 1, T, by omega, by omega, rfl, by go_num, HL.out, HN.out, by rw [HS2.out], by rw [HS2.out, List.length_take, HN.out]; omega, rfl, Save.refl _ _ _⟩
      case round =>
        obtain ⟨i, j, M, hij, hjl, rfl, rfl, hli, hml, htk, hil, hdr, hsv⟩ := hrel
        have HSV := Lib.hid hsv
        have hzr := hsv.size
        clear hsv
        by_cases hlt : j < len
        · have hltT : j < T.length := by rw [HN.out]; exact hlt
          have hltM : j < M.length := by rw [hml]; exact hlt
          have hdl : decide ((j : Int) < (len : Int)) = true := decide_eq_true (by omega)
          obtain ⟨c0, c1, c2⟩ := hli.at j hltM
          have hMT : M[j] = T[j] := by
            have e := hdr
            rw [List.drop_eq_getElem_cons hltM, List.drop_eq_getElem_cons hltT] at e
            exact (List.cons.inj e).1
          have hdr2 : M.drop (j + 1) = T.drop (j + 1) := by
            have e := hdr
            rw [List.drop_eq_getElem_cons hltM, List.drop_eq_getElem_cons hltT] at e
            exact (List.cons.inj e).2
          rw [hMT] at c0 c1 c2
          have hst := noA_take_step T j hltT
          have HPUT := Lib.hid (fun (u : World) (h : Lies u g cap M) => h.put i (by rw [hml]; omega) T[j])
          generalize T[j] = t at *
          obtain ⟨k, x, y⟩ := t
          simp only [] at c0 c1 c2 HPUT
          have HXX := Lib.hid (fun u => isAuto_any k x y u)
          have HLI := Lib.hid hli
          have hgl := hli.lt
          obtain ⟨d0, d1, d2⟩ := hli.at i (by rw [hml]; omega)
          have HD : Hid (∀ u, Below wr.heap.size wr u → (∃ x, u.cell? ⟨g, i * 3, none⟩ = some x) ∧ (∃ x, u.cell? ⟨g, i * 3 + 1, none⟩ = some x) ∧ (∃ x, u.cell? ⟨g, i * 3 + 2, none⟩ = some x) ∧ u.frozen? ⟨g, i * 3, none⟩ = false ∧ u.frozen? ⟨g, i * 3 + 1, none⟩ = false ∧ u.frozen? ⟨g, i * 3 + 2, none⟩ = false ∧ Lies u g cap M) := Lib.hid (fun u hu => by
            have hL := HLI.out.below hu hgl
            obtain ⟨d0, d1, d2⟩ := hL.at i (by rw [hml]; omega)
            exact ⟨⟨_, d0⟩, ⟨_, d1⟩, ⟨_, d2⟩, hL.free _, hL.free _, hL.free _, hL⟩)
          have HTK := Lib.hid htk
          have HIL := Lib.hid hil
          have HDR := Lib.hid hdr2
          have HST := Lib.hid hst
          have HML := Lib.hid hml
          clear hltT hltM hMT hdr hdr2 hst htk hil hml hli d0 d1 d2
          by_cases hk : k = 16
          · have bk : (k == 16) = true := beq_iff_eq.2 hk
            have he : noA [(⟨k, x, y⟩ : Tr)] = [] := by simp [noA, hk]
            rw [he, List.append_nil] at HST
            rw [bk] at HXX
            clear hk bk he
            go_wp2_with (go_at_call 45; refine (HXX.out _).mono ?_; rintro e w2 ⟨rfl, hb2⟩; have HB2 := Lib.hid (((Below.refl wr.heap.size wr).alloc (Nat.le_refl _) _).trans (hb2.mono (by simp))); clear hb2)
            go_roundw
            case rel => exact ⟨i, j + 1, M, by omega, by omega, rfl, by go_num, (HD.out _ HB2.out).2.2.2.2.2.2, HML.out, by rw [HST.out]; exact HTK.out, by rw [HST.out]; exact HIL.out, HDR.out, HSV.out.then (Nat.le_refl _) HB2.out⟩
            case measure => simp [intOf]; omega
          · have bk : (k == 16) = false := beq_eq_false_iff_ne.2 hk
            have he : noA [(⟨k, x, y⟩ : Tr)] = [⟨k, x, y⟩] := by simp [noA, hk]
            rw [he] at HST
            rw [bk] at HXX
            clear hk bk he
            go_wp2_with (go_at_call 45; refine (HXX.out _).mono ?_; rintro e w2 ⟨rfl, hb2⟩; have HBX := Lib.hid hb2; have HB2 := Lib.hid (((Below.refl wr.heap.size wr).alloc (Nat.le_refl _) (.cells #[.int .i64 k, .int .i64 (x : Int), .int .i64 (y : Int)] 29)).trans (hb2.mono (by simp))); obtain ⟨⟨p0, d0⟩, ⟨p1, d1⟩, ⟨p2, d2⟩, f0, f1, f2, hL2⟩ := HD.out _ HB2.out; have HL2 := Lib.hid hL2; have e0 := (hb2.cell (p := ⟨wr.heap.size, 0, none⟩) (by simp)).trans (by simp : _ = some (Value.int .i64 k)); have e1 := (hb2.cell (p := ⟨wr.heap.size, 1, none⟩) (by simp)).trans (by simp : _ = some (Value.int .i64 (x : Int))); have e2 := (hb2.cell (p := ⟨wr.heap.size, 2, none⟩) (by simp)).trans (by simp : _ = some (Value.int .i64 (y : Int))); clear hb2 hL2)
            go_roundw
            case rel => exact ⟨i + 1, j + 1, _, by omega, by omega, by go_num, by go_num, HPUT.out _ HL2.out, by rw [List.length_set]; exact HML.out, by
              rw [HST.out, ← HTK.out]
              have hi : i < M.length := by rw [HML.out]; omega
              rw [List.take_succ_eq_append_getElem (by rw [List.length_set]; exact hi), List.getElem_set_self, List.take_set_of_le (Nat.le_refl _)], by rw [HST.out, List.length_append, ← HIL.out]; rfl, by rw [List.drop_set_of_lt (by omega)]; exact HDR.out, (((HSV.out.then (Nat.le_refl _) HB2.out).setCell _ _).setCell _ _).setCell _ _⟩
            case measure => simp [intOf]; omega
        · have hdl : decide ((j : Int) < (len : Int)) = false := decide_eq_false (by omega)
          have ej : T.take j = T := List.take_of_length_le (by rw [HN.out]; omega)
          rw [ej] at htk hil
          obtain ⟨w2, hcl, hl2, hs2⟩ := hli.clear i (by rw [hml]; omega)
          rw [hml] at hcl
          have hsl : ∀ u, (Instr.slice 22 (.slice (some ⟨g, 0, none⟩) len cap) (some (.int .i64 (i : Int))) none none).run Tryz.prog u = .ok (.slice (some ⟨g, i * 3, none⟩) (len - i) (cap - i)) u := fun u => by
            rw [run_slice_tok u _ len cap _ i rfl (by omega), if_neg (by omega)]
            simp only [Option.map_some, Addr.add_lit, Nat.zero_add]
          have hst : ∀ u, (Instr.slice 22 (.slice (some ⟨g, 0, none⟩) len cap) none (some (.int .i64 (i : Int))) none).run Tryz.prog u = .ok (.slice (some ⟨g, 0, none⟩) i cap) u := fun u => by
            rw [run_slice_to u _ len cap _ i rfl (by omega), if_neg (by omega)]
            simp [Addr.add]
          rw [htk] at hl2
          have hown := hl2.own (B0 := B0) hg
          rw [← hil] at hown
          have HOO := Lib.hid hown
          have HSS := Lib.hid (hs2 w1.heap.size)
          have HCL := Lib.hid hcl
          clear hown hs2 hl2 hcl htk hil hdr hml hli ej
          have hcl := HCL.out
          go_wp2_with fail
          go_ret
          exact ⟨_, rfl, HOO.out, (HB1.out.mono hB).trans ((HSV.out.trans HSS.out).below (Nat.le_trans hB hz1) hg)⟩
end Go.Proofs.YtjbamlmdeopcaaaGreatDoor.lx
end

section
/-
  lexer.reread.
-/
namespace Go.Proofs.YtjbamlmdeopcaaaGreatDoor.lx
open Go.RowKit Go.Proofs.YtjbamlmdeopcaaaGreatDoor.tok

def Reread (l : List UInt8) (p0 put : Nat) (T : List Tr) (d : Int) (w : World) (e : Ending) (w' : World) : Prop := ∃ (v' : Value) (n : Nat) (F : List Tr) (b : Nat), e = .returned (.tuple #[v', .int .i64 (n : Int)]) ∧ OwnT w' w.heap.size v' F ∧ n ≤ T.length ∧ bare lang l p0 = F ++ bare lang l b ∧
  ((n = T.length ∧ l.length ≤ b) ∨ ∃ t, T[n]? = some t ∧ (t.i : Int) + d = b ∧ put ≤ b ∧ b < l.length ∧ (t.i = 0 ↔ b = 0)) ∧ Below w.heap.size w w'
set_option maxRecDepth 100000 in
set_option maxHeartbeats 4000000 in
theorem reread_any (s : ByteArray) (v : Value) (T : List Tr) (p0 put m0 : Nat) (d : Int) (w : World) (hE : Env w) (hs : s.size ≤ 4194304) (hp : p0 ≤ s.size) (hput : put ≤ 16777216) (hr : Row w v T) (hn : T.length ≤ 16777216) (hd1 : -16777216 ≤ d) (hd2 : d ≤ 16777216) (hw : Within m0 T) (hm : m0 ≤ 16777216) :
    Calls Tryz.prog 21 #[.string s, .int .i64 (p0 : Int), .int .i64 (put : Int), v, .int .i64 d] w (Reread s.data.toList p0 put T d w) := by
  obtain ⟨i0, hi, hz0, hz1, hz2⟩ := info_parts infoT
  obtain ⟨g, off, o, cap, hc, rfl, ho, hcell⟩ := hr
  have HC := Lib.hid hcell
  have HO := Lib.hid ho
  have HW := Lib.hid hw
  have HE := Lib.hid hE
  have hsd := sdata s
  have HD := Lib.hid hsd
  clear hcell ho hw hE hsd
  obtain ⟨len, hlen⟩ : ∃ len, T.length = len := ⟨_, rfl⟩
  rw [hlen] at hc hn
  have HN := Lib.hid hlen
  rw [HN.out]
  clear hlen
  go_enter Tryz.func21, Tryz.ntmps21
  go_wp2
  go_loopw [1, 12, 13] (fun a vf bh wr => ∃ (p n : Nat) (F : List Tr), a = .int .i64 p ∧ p ≤ s.size ∧ bare lang s.data.toList p0 = F ++ bare lang s.data.toList p ∧ OwnT wr w.heap.size vf F ∧ bh = .int .i64 n ∧ n ≤ len ∧ Below w.heap.size w wr) (fun a _ _ _ => s.size - (intOf a).toNat)
  case atStart => exact ⟨p0, 0, [], rfl, hp, rfl, World.ownsRow_nil _ _ _ _, rfl, Nat.zero_le _, Below.refl _ _⟩
  case round =>
    obtain ⟨p, n, F, rfl, hple, hF, hT, rfl, hnl, hb⟩ := hrel
    have HF := Lib.hid hF
    have HT := Lib.hid hT
    have HB := Lib.hid hb
    have hsz := hb.size
    have hfew : F.length ≤ s.size := by
      have h1 := bare_few (L := lang) s.data.toList p0
      rw [HF.out, List.length_append, HD.out] at h1
      omega
    clear hF hT hb
    by_cases hlt : p < s.size
    · have hd : decide ((p : Int) < (s.size : Int)) = true := decide_eq_true (by omega)
      have HX := Lib.hid (next_any s p wr (HE.out.below HB.out) hs hlt)
      have hltL : p < s.data.toList.length := by rw [HD.out]; exact hlt
      have hwp := at_pos (L := lang) hltL
      have hwl := at_le (L := lang) hltL
      rw [HD.out] at hwl
      have HS := Lib.hid (bare_step (L := lang) hltL)
      have HK : Hid (tkAt lang s.data.toList p = ⟨(nxAt lang s.data.toList p).kind, p, p + (nxAt lang s.data.toList p).width⟩) := Lib.hid rfl
      rw [HK.out] at HS
      generalize nxAt lang s.data.toList p = N at *
      clear HK hltL
      obtain ⟨nk, nw, nc, no, nd⟩ := N
      simp only [] at HS hwp hwl
      have HF2 : Hid (bare lang s.data.toList p0 = (F ++ [⟨nk, p, p + nw⟩]) ++ bare lang s.data.toList (p + nw)) := Lib.hid (by rw [HF.out, HS.out, List.append_assoc]; rfl)
      go_wp2_with fail
      go_loop [13] (fun bh => ∃ n : Nat, n ≤ len ∧ bh = .int .i64 n) (fun bh => len - (intOf bh).toNat)
      case atStart => exact ⟨n, hnl, rfl⟩
      case round =>
        obtain ⟨q, hql, rfl⟩ := hrel
        by_cases hq : q < len
        · have hdq : decide ((q : Int) < (len : Int)) = true := decide_eq_true (by omega)
          have hqT : q < T.length := by rw [HN.out]; exact hq
          have ho := HO.out (by rintro rfl; simp at hqT)
          subst ho
          obtain ⟨c0, c1, c2⟩ := HC.out.below HB.out q hqT
          obtain ⟨w1, w2⟩ := HW.out _ (List.getElem_mem hqT)
          have HG : Hid (T[q]? = some T[q]) := Lib.hid (List.getElem?_eq_getElem hqT)
          generalize T[q] = t at *
          obtain ⟨k, i, j⟩ := t
          simp only [] at c0 c1 c2 w1 w2
          clear hqT
          by_cases hx : (i : Int) + d < (p : Int)
          · have hdx : decide ((i : Int) + d < (p : Int)) = true := decide_eq_true hx
            go_wp2_with fail
            go_round
            case rel => exact ⟨q + 1, by omega, by go_num⟩
            case measure => simp [intOf]; omega
          · have hdx : decide ((i : Int) + d < (p : Int)) = false := decide_eq_false hx
            by_cases hpp : put ≤ p
            · have hdp : decide ((put : Int) ≤ (p : Int)) = true := decide_eq_true (by omega)
              have HAL := Lib.hid (fun u => alike_any i p d u hd1 hd2 (by omega))
              cases hal : (decide ((i : Int) + d = (p : Int)) && (decide (i = 0) == decide (p = 0))) with
              | true =>
                rw [hal] at HAL
                rw [Bool.and_eq_true] at hal
                obtain ⟨hal1, hal2⟩ := hal
                have HZ1 := Lib.hid (of_decide_eq_true hal1)
                have HZ2 : Hid (i = 0 ↔ p = 0) := Lib.hid (by
                  have := beq_iff_eq.1 hal2
                  exact decide_eq_decide.1 this)
                clear hal1 hal2
                go_wp2_with (go_at_call 40; refine (HAL.out _).mono ?_; rintro e w' ⟨rfl, rfl⟩)
                go_ret2
                exact ⟨_, q, F, p, rfl, HT.out, by rw [HN.out]; omega, HF.out, .inr ⟨_, HG.out, HZ1.out, hpp, by rw [HD.out]; exact hlt, HZ2.out⟩, HB.out⟩
              | false =>
                rw [hal] at HAL
                clear hal
                go_wp2_with (first | (go_at_call 40; refine (HAL.out _).mono ?_; rintro e w' ⟨rfl, rfl⟩) | (go_at_call 17; refine HX.out.mono ?_; rintro e w1 ⟨x, y, rfl, hxy, hb1⟩; have HB1 := Lib.hid hb1; have hs1 := hb1.size; have HT1 := Lib.hid (dec.own_below HT.out hb1); clear hb1 hxy) | (at_builtin; refine wpList_append_own _ rfl _ _ 22 rfl w.heap.size 29 i0 (.agg #[.int .i64 0, .int .i64 0, .int .i64 0]) 3 24 Tryz.underlying22 hi hz0 hz1 hz2 rfl (by decide) _ _ _ rfl (((World.ownsRow.alloc HT1.out _).alloc _).alloc _) ⟨w1.heap.size + 1 + 1, 0, none⟩ 1 1 [.int .i64 nk, .int .i64 (p : Int), .int .i64 ((p : Int) + (nw : Int))] rfl rfl ?c1 ?c2 ?c3 ?c4 ?c5 ?_))
                case c1 => first | exact three_at2 w1 _ _ _ _ _ _ | (refine ⟨?_, ?_, ?_⟩ <;> simp)
                case c2 => first | exact ⟨rfl, rfl, rfl⟩ | (intro u hu; simp only [List.mem_cons, List.not_mem_nil, or_false] at hu; rcases hu with rfl | rfl | rfl <;> rfl)
                case c3 => unfold maxLen; omega
                case c4 => omega
                case c5 => first | omega | (simp; omega)
                intro v2 w2 hown2 hg _
                have H2 := Lib.hid (step_two (t := ⟨nk, p, p + nw⟩) HB.out HB1.out hsz HT.out hown2 hg)
                obtain ⟨_, a0, a1, a2, b0, b1, b2, hs2⟩ := H2.out
                clear hown2 hg HT1
                clear a0 a1 b0 b1 b2
                go_wp2_with fail
                go_roundw
                case rel => exact ⟨p + nw, q, F ++ [(⟨nk, p, p + nw⟩ : Tr)], by go_num, by omega, HF2.out, H2.out.1.1, rfl, by omega, H2.out.1.2⟩
                case measure => simp [intOf]; omega
            · have hdp : decide ((put : Int) ≤ (p : Int)) = false := decide_eq_false (by omega)
              go_wp2_with (first | (go_at_call 17; refine HX.out.mono ?_; rintro e w1 ⟨x, y, rfl, hxy, hb1⟩; have HB1 := Lib.hid hb1; have hs1 := hb1.size; have HT1 := Lib.hid (dec.own_below HT.out hb1); clear hb1 hxy) | (at_builtin; refine wpList_append_own _ rfl _ _ 22 rfl w.heap.size 29 i0 (.agg #[.int .i64 0, .int .i64 0, .int .i64 0]) 3 24 Tryz.underlying22 hi hz0 hz1 hz2 rfl (by decide) _ _ _ rfl (((World.ownsRow.alloc HT1.out _).alloc _).alloc _) ⟨w1.heap.size + 1 + 1, 0, none⟩ 1 1 [.int .i64 nk, .int .i64 (p : Int), .int .i64 ((p : Int) + (nw : Int))] rfl rfl ?c1 ?c2 ?c3 ?c4 ?c5 ?_))
              case c1 => first | exact three_at2 w1 _ _ _ _ _ _ | (refine ⟨?_, ?_, ?_⟩ <;> simp)
              case c2 => first | exact ⟨rfl, rfl, rfl⟩ | (intro u hu; simp only [List.mem_cons, List.not_mem_nil, or_false] at hu; rcases hu with rfl | rfl | rfl <;> rfl)
              case c3 => unfold maxLen; omega
              case c4 => omega
              case c5 => first | omega | (simp; omega)
              intro v2 w2 hown2 hg _
              have H2 := Lib.hid (step_two (t := ⟨nk, p, p + nw⟩) HB.out HB1.out hsz HT.out hown2 hg)
              obtain ⟨_, a0, a1, a2, b0, b1, b2, hs2⟩ := H2.out
              clear hown2 hg HT1
              clear a0 a1 b0 b1 b2
              go_wp2_with fail
              go_roundw
              case rel => exact ⟨p + nw, q, F ++ [(⟨nk, p, p + nw⟩ : Tr)], by go_num, by omega, HF2.out, H2.out.1.1, rfl, by omega, H2.out.1.2⟩
              case measure => simp [intOf]; omega
        · have hdq : decide ((q : Int) < (len : Int)) = false := decide_eq_false (by omega)
          by_cases hpp : put ≤ p
          · have hdp : decide ((put : Int) ≤ (p : Int)) = true := decide_eq_true (by omega)
            go_wp2_with (first | (go_at_call 17; refine HX.out.mono ?_; rintro e w1 ⟨x, y, rfl, hxy, hb1⟩; have HB1 := Lib.hid hb1; have hs1 := hb1.size; have HT1 := Lib.hid (dec.own_below HT.out hb1); clear hb1 hxy) | (at_builtin; refine wpList_append_own _ rfl _ _ 22 rfl w.heap.size 29 i0 (.agg #[.int .i64 0, .int .i64 0, .int .i64 0]) 3 24 Tryz.underlying22 hi hz0 hz1 hz2 rfl (by decide) _ _ _ rfl (((World.ownsRow.alloc HT1.out _).alloc _).alloc _) ⟨w1.heap.size + 1 + 1, 0, none⟩ 1 1 [.int .i64 nk, .int .i64 (p : Int), .int .i64 ((p : Int) + (nw : Int))] rfl rfl ?c1 ?c2 ?c3 ?c4 ?c5 ?_))
            case c1 => first | exact three_at2 w1 _ _ _ _ _ _ | (refine ⟨?_, ?_, ?_⟩ <;> simp)
            case c2 => first | exact ⟨rfl, rfl, rfl⟩ | (intro u hu; simp only [List.mem_cons, List.not_mem_nil, or_false] at hu; rcases hu with rfl | rfl | rfl <;> rfl)
            case c3 => unfold maxLen; omega
            case c4 => omega
            case c5 => first | omega | (simp; omega)
            intro v2 w2 hown2 hg _
            have H2 := Lib.hid (step_two (t := ⟨nk, p, p + nw⟩) HB.out HB1.out hsz HT.out hown2 hg)
            obtain ⟨_, a0, a1, a2, b0, b1, b2, hs2⟩ := H2.out
            clear hown2 hg HT1
            clear a0 a1 b0 b1 b2
            go_wp2_with fail
            go_roundw
            case rel => exact ⟨p + nw, q, F ++ [(⟨nk, p, p + nw⟩ : Tr)], by go_num, by omega, HF2.out, H2.out.1.1, rfl, by omega, H2.out.1.2⟩
            case measure => simp [intOf]; omega
          · have hdp : decide ((put : Int) ≤ (p : Int)) = false := decide_eq_false (by omega)
            go_wp2_with (first | (go_at_call 17; refine HX.out.mono ?_; rintro e w1 ⟨x, y, rfl, hxy, hb1⟩; have HB1 := Lib.hid hb1; have hs1 := hb1.size; have HT1 := Lib.hid (dec.own_below HT.out hb1); clear hb1 hxy) | (at_builtin; refine wpList_append_own _ rfl _ _ 22 rfl w.heap.size 29 i0 (.agg #[.int .i64 0, .int .i64 0, .int .i64 0]) 3 24 Tryz.underlying22 hi hz0 hz1 hz2 rfl (by decide) _ _ _ rfl (((World.ownsRow.alloc HT1.out _).alloc _).alloc _) ⟨w1.heap.size + 1 + 1, 0, none⟩ 1 1 [.int .i64 nk, .int .i64 (p : Int), .int .i64 ((p : Int) + (nw : Int))] rfl rfl ?c1 ?c2 ?c3 ?c4 ?c5 ?_))
            case c1 => first | exact three_at2 w1 _ _ _ _ _ _ | (refine ⟨?_, ?_, ?_⟩ <;> simp)
            case c2 => first | exact ⟨rfl, rfl, rfl⟩ | (intro u hu; simp only [List.mem_cons, List.not_mem_nil, or_false] at hu; rcases hu with rfl | rfl | rfl <;> rfl)
            case c3 => unfold maxLen; omega
            case c4 => omega
            case c5 => first | omega | (simp; omega)
            intro v2 w2 hown2 hg _
            have H2 := Lib.hid (step_two (t := ⟨nk, p, p + nw⟩) HB.out HB1.out hsz HT.out hown2 hg)
            obtain ⟨_, a0, a1, a2, b0, b1, b2, hs2⟩ := H2.out
            clear hown2 hg HT1
            clear a0 a1 b0 b1 b2
            go_wp2_with fail
            go_roundw
            case rel => exact ⟨p + nw, q, F ++ [(⟨nk, p, p + nw⟩ : Tr)], by go_num, by omega, HF2.out, H2.out.1.1, rfl, by omega, H2.out.1.2⟩
            case measure => simp [intOf]; omega
    · have hd : decide ((p : Int) < (s.size : Int)) = false := decide_eq_false (by omega)
      go_wp2_with fail
      go_ret2
      exact ⟨_, len, F, p, rfl, HT.out, by rw [HN.out]; exact Nat.le_refl _, HF.out, .inl ⟨HN.out.symm, by rw [HD.out]; omega⟩, HB.out⟩
end Go.Proofs.YtjbamlmdeopcaaaGreatDoor.lx
end

section
/-
  lexer.join.
-/
namespace Go.Proofs.YtjbamlmdeopcaaaGreatDoor.lx
open Go.RowKit Go.Proofs.YtjbamlmdeopcaaaGreatDoor.tok

def JoinIs (l : List UInt8) (A F Bh : List Tr) (g z2 : Nat) : List Tr := A.take g ++ autos l (decide (z2 < Bh.length)) (noA (A.drop g ++ (F ++ Bh.take z2))) ++ Bh.drop z2
def Join (l : List UInt8) (A F Bh : List Tr) (w : World) (e : Ending) (w' : World) : Prop := ∃ (v' : Value) (g z2 : Nat), e = .returned v' ∧ (g = 0 ∨ ∃ t, A[g]? = some t ∧ sig t = true) ∧ (Bh.length ≤ z2 ∨ ∃ t, Bh[z2]? = some t ∧ sig t = true) ∧
  OwnT w' w.heap.size v' (JoinIs l A F Bh g z2) ∧ Below w.heap.size w w'
theorem noA_few (T : List Tr) : (noA T).length ≤ T.length := List.length_filter_le _ _
theorem noA_mem {T : List Tr} {t : Tr} (h : t ∈ noA T) : t ∈ T := (List.mem_filter.1 h).1
theorem three_rows {W : World} {v1 v2 v3 : Value} {A B C : List Tr} (h1 : Row W v1 A) (h2 : Row W v2 B) (h3 : Row W v3 C) (t : TypeId) : Rows3 (W.alloc (.cells #[v1, v2, v3] t)) W.heap.size 3 [v1, v2, v3] [A, B, C] := by
  have hb : Below W.heap.size W (W.alloc (.cells #[v1, v2, v3] t)) := (Below.refl _ _).alloc (Nat.le_refl _) _
  refine ⟨rfl, rfl, fun j hv hl => ?_⟩
  have hj : j = 0 ∨ j = 1 ∨ j = 2 := by simp at hv; omega
  rcases hj with rfl | rfl | rfl
  · exact ⟨by simp, h1.below hb⟩
  · exact ⟨by simp, h2.below hb⟩
  · exact ⟨by simp, h3.below hb⟩
theorem Rows3.below {w w' : World} {q m : Nat} {Vs : List Value} {Ls : List (List Tr)} (h : Rows3 w q m Vs Ls) (hb : Below w.heap.size w w') : Rows3 w' q m Vs Ls := by
  obtain ⟨a, b, c⟩ := h
  refine ⟨a, b, fun j hv hl => ?_⟩
  obtain ⟨x, y⟩ := c j hv hl
  exact ⟨(hb.cell (p := ⟨q, j, none⟩) (World.block_lt_of_cell? _ _ x)).trans x, y.below hb⟩
set_option maxRecDepth 100000 in
set_option maxHeartbeats 4000000 in
theorem join_any (s : ByteArray) (va vf vb : Value) (A F Bh : List Tr) (w : World) (ha : Row w va A) (hf : Row w vf F) (hb : Row w vb Bh) (hn : A.length + F.length + Bh.length ≤ 8388608)
    (hwa : Within s.size A) (hwf : Within s.size F) (hwb : Within s.size Bh) :
    Calls Tryz.prog 22 #[.string s, va, vf, vb] w (Join s.data.toList A F Bh w) := by
  have HA := Lib.hid ha
  have HF := Lib.hid hf
  have HB := Lib.hid hb
  have HWA := Lib.hid hwa
  have HWF := Lib.hid hwf
  have HWB := Lib.hid hwb
  have HL1 := Lib.hid (lastSig_any va A w ha (by omega))
  clear ha hf hb hwa hwf hwb
  go_enter Tryz.func22, Tryz.ntmps22
  go_wp2_with fail
  go_at_call 41
  refine HL1.out.mono ?_
  rintro e w1 ⟨g, rfl, hg, hb1⟩
  have HG := Lib.hid hg
  have HB1 := Lib.hid hb1
  have hz1 := hb1.size
  have HL2 := Lib.hid (firstSig_any vb Bh w1 (HB.out.below hb1) (by omega))
  have hgA : g ≤ A.length := by
    rcases hg with rfl | ⟨t, ht, _⟩
    · exact Nat.zero_le _
    · exact Nat.le_of_lt (List.getElem?_eq_some_iff.1 ht).1
  clear hg hb1 HL1
  go_wp2_with fail
  go_at_call 42
  refine HL2.out.mono ?_
  rintro e w2 ⟨z2, rfl, hto, hto2, hb2⟩
  have HTO := Lib.hid hto2
  have HB2 := Lib.hid (HB1.out.trans (hb2.mono hz1))
  have hz2 := HB2.out.size
  clear hto2 hb2 HL2
  obtain ⟨xa, hxa, hra⟩ := HA.out.drop g hgA
  obtain ⟨xb, hxb, hrb⟩ := HB.out.take z2 hto
  have HCC : Hid (∀ U : World, Below (w2.alloc (.cells #[xa, vf, xb] 22)).heap.size (w2.alloc (.cells #[xa, vf, xb] 22)) U → Calls Tryz.prog 43 #[.slice (some ⟨w2.heap.size, 0, none⟩) 3 3] U (Joined ([A.drop g, F, Bh.take z2] : List (List Tr)).flatten U)) := Lib.hid (fun U hU =>
    concat_any w2.heap.size 3 [xa, vf, xb] [A.drop g, F, Bh.take z2] U ((three_rows (hra.below HB2.out) (HF.out.below HB2.out) (hrb.below HB2.out) _).below hU) (by decide) (by simp; omega))
  have hs : ∀ {W : World} {v : Value} {T : List Tr}, Row W v T → ∃ o n c, v = .slice o n c := fun ⟨_, _, o, cap, _, e, _⟩ => ⟨o, _, cap, e⟩
  obtain ⟨oa, na, ca, ea⟩ := hs hra
  obtain ⟨ob, nb, cb, eb⟩ := hs hrb
  obtain ⟨of', nf, cf, ef⟩ := hs HF.out
  subst ea eb ef
  clear hra hrb hs
  go_wp2_with fail
  have HFL : Hid (([A.drop g, F, Bh.take z2] : List (List Tr)).flatten = A.drop g ++ (F ++ Bh.take z2)) := Lib.hid (by simp)
  rw [HFL.out] at HCC
  go_cut [11] (fun u wx => OwnT wx w2.heap.size u (A.drop g ++ (F ++ Bh.take z2)) ∧ Below w2.heap.size w2 wx)
  case first =>
    go_region_held3 (fun _ => True) (first | trivial) (first | (go_at_call 43; refine (HCC.out _ ?_).mono ?_; first | exact Below.refl _ _ | exact (Below.refl _ _).drew; rintro e w3 ⟨v3, rfl, hT3, hb3⟩))
    all_goals (try go_wp2_with fail)
    all_goals go_meet
    all_goals exact ⟨own_mono hT3 (by simp), (((Below.refl w2.heap.size w2).drew).alloc (Nat.le_refl _) _).trans (hb3.mono (by simp))⟩
  case rest =>
    obtain ⟨hO3, hB3⟩ := hcut
    have hz3 := hB3.size
    have HDel := Lib.hid (delete_any u11 _ w2.heap.size wc hO3 hz3 (by rw [List.length_append, List.length_append, List.length_drop, List.length_take]; omega))
    have HBx := Lib.hid (HB2.out.trans (hB3.mono hz2))
    clear hO3 hB3 hxa hxb HCC
    go_wp2_with fail
    go_at_call 44
    (with_reducible refine HDel.out.mono ?_)
    rintro e w4 ⟨v4, rfl, hO4, hb4⟩
    have hz4 := hb4.size
    have HB4 := Lib.hid (HBx.out.trans (hb4.mono hz2))
    have HO4 := Lib.hid hO4
    obtain ⟨xc, hxc, hrc⟩ := HA.out.take g hgA
    obtain ⟨xd, hxd, hrd⟩ := HB.out.drop z2 hto
    have HClone := Lib.hid (clone_any xc (A.take g) w4 (hrc.below HB4.out) (by rw [List.length_take]; omega))
    have HRD := Lib.hid hrd
    have hsum : (A.take g).length + 2 * (noA (A.drop g ++ (F ++ Bh.take z2))).length + (Bh.drop z2).length ≤ 16777216 := by
      have := noA_few (A.drop g ++ (F ++ Bh.take z2))
      rw [List.length_append, List.length_append, List.length_drop, List.length_take] at this
      rw [List.length_take, List.length_drop]
      omega
    have HWI : Hid (Within s.size (noA (A.drop g ++ (F ++ Bh.take z2)))) := Lib.hid (fun t ht => by
      have := noA_mem ht
      rcases List.mem_append.1 this with h | h
      · exact HWA.out t (List.mem_of_mem_drop h)
      · rcases List.mem_append.1 h with h | h
        · exact HWF.out t h
        · exact HWB.out t (List.mem_of_mem_take h))
    have HSUM := Lib.hid hsum
    obtain ⟨gb, offb, o4, c4, hcb, hvb, _, _⟩ := HB.out
    subst hvb
    clear hb4 hO4 hrc hrd HDel hsum
    have HJ : Hid (∀ b, decide (z2 < Bh.length) = b → JoinIs s.data.toList A F Bh g z2 = A.take g ++ autos s.data.toList b (noA (A.drop g ++ (F ++ Bh.take z2))) ++ Bh.drop z2) := Lib.hid (fun b hb => by rw [← hb]; rfl)
    generalize hlb : Bh.length = lb at *
    have HLB := Lib.hid hlb
    clear hlb
    have HJ2 := Lib.hid (HJ.out (decide (z2 < lb)) rfl)
    clear HJ
    go_wp2_with fail
    go_at_call 46
    (with_reducible refine HClone.out.mono ?_)
    rintro e w5 ⟨v5, rfl, hO5, hb5⟩
    have HB5 := Lib.hid hb5
    have hz5 := hb5.size
    have HApp := Lib.hid (appendEnded_any s v5 v4 (A.take g) (noA (A.drop g ++ (F ++ Bh.take z2))) (decide (z2 < lb)) w4.heap.size w5 hO5 hz5 ((row_of_any HO4.out).rowB.below hb5 (Nat.le_refl _)) HWI.out (by have h1 := HSUM.out; omega))
    clear hO5 hb5
    go_wp2_with fail
    go_at_call 18
    (with_reducible refine HApp.out.mono ?_)
    rintro e w6 ⟨v6, rfl, hO6, hb6⟩
    have hz6 := hb6.size
    have h46 := HB5.out.trans hb6
    have HB6 := Lib.hid (HB4.out.trans (h46.mono (Nat.le_trans hz2 (Nat.le_trans hz3 hz4))))
    have hfew := autos_few s.data.toList (decide (z2 < lb)) (noA (A.drop g ++ (F ++ Bh.take z2)))
    obtain ⟨v7, w7, hrun, hO7, hgr⟩ := run_append_row hO6 (HRD.out.below HB6.out) (Nat.le_trans hz5 hz6) (by
      have h1 := HSUM.out
      rw [List.length_append]
      omega)
    have HRUN := Lib.hid hrun
    have HO7 := Lib.hid (own_mono (B1 := w.heap.size) hO7 (Nat.le_trans hz2 (Nat.le_trans hz3 hz4)))
    have HB7 := Lib.hid (HB6.out.grown hgr (HB6.out.size) (fun k hk => by have := (World.ownsRow.lt hO6 k hk).1; omega))
    clear hO6 hb6 h46 hfew hrun hO7 hgr
    go_wp2_with (at_builtin; refine Lib.wpList_append_run _ rfl _ _ _ _ rfl _ _ rfl rfl _ _ (HRUN.out _) ?_)
    go_ret
    exact ⟨_, g, z2, rfl, HG.out, by rw [HLB.out]; exact HTO.out, by rw [HJ2.out]; exact HO7.out, HB7.out⟩
end Go.Proofs.YtjbamlmdeopcaaaGreatDoor.lx
end

section
/-
  Plain: what Rescan puts together are the tokens of the new text.
-/
namespace Go.Proofs.YtjbamlmdeopcaaaGreatDoor.lx
open Go.RowKit Go.Proofs.YtjbamlmdeopcaaaGreatDoor.tok

theorem covers_drop : ∀ (T : List Tr) (p m n : Nat) (t : Tr), Covers p T m → T[n]? = some t → Covers t.i (T.drop n) m
  | [], _, _, _, _, _, h => by simp at h
  | u :: T, p, m, 0, t, h, e => by
    simp only [List.getElem?_cons_zero, Option.some.injEq] at e
    subst e
    obtain ⟨a, b, c, d⟩ := h
    exact ⟨rfl, by omega, by rw [a]; exact c, d⟩
  | u :: T, p, m, n + 1, t, h, e => by
    rw [List.getElem?_cons_succ] at e
    exact covers_drop T u.j m n t h.2.2.2 e
def edit (l z : List UInt8) (f y : Nat) : List UInt8 := l.take f ++ z ++ l.drop y
theorem edit_len (l z : List UInt8) {f y : Nat} (h1 : f ≤ y) (h2 : y ≤ l.length) : ((edit l z f y).length : Int) = f + z.length + (l.length - y) := by
  unfold edit
  rw [List.length_append, List.length_append, List.length_take, List.length_drop]
  omega
theorem edit_take (l z : List UInt8) {f y : Nat} (h1 : f ≤ y) (h2 : y ≤ l.length) : l.take f = (edit l z f y).take f := by
  unfold edit
  rw [List.append_assoc, List.take_append_of_le_length (by rw [List.length_take]; omega), List.take_take, Nat.min_self]
theorem edit_drop (l z : List UInt8) {f y a b : Nat} (h1 : f ≤ y) (h2 : y ≤ l.length) (h3 : f + z.length ≤ b) (h4 : (a : Int) + ((edit l z f y).length - l.length) = b) : (edit l z f y).drop b = l.drop a := by
  have hl := edit_len l z h1 h2
  unfold edit
  have hq : (l.take f ++ z).length = f + z.length := by rw [List.length_append, List.length_take]; omega
  have e : b = (l.take f ++ z).length + (b - (f + z.length)) := by omega
  rw [e, List.drop_append, List.drop_of_length_le (by omega), List.nil_append, Nat.add_sub_cancel_left, List.drop_drop]
  congr 1
  omega
theorem rescan_pure {L : Lang} (l z : List UInt8) (f y k n : Nat) (F : List Tr) (b : Nat) (h1 : f ≤ y) (h2 : y ≤ l.length)
    (hk : ∀ t ∈ (scan L l).take k, t.j + 3 ≤ f)
    (hF : bare L (edit l z f y) (lastJ 0 ((scan L l).take k)) = F ++ bare L (edit l z f y) b)
    (hor : (n = (scan L l).length ∧ (edit l z f y).length ≤ b) ∨ ∃ t, (scan L l)[n]? = some t ∧ (t.i : Int) + (((edit l z f y).length : Int) - (l.length : Int)) = b ∧ f + z.length ≤ b ∧ b < (edit l z f y).length ∧ (t.i = 0 ↔ b = 0)) :
    ∃ a b' : Nat, ((edit l z f y).length : Int) - (l.length : Int) = (b' : Int) - (a : Int) ∧ a ≤ l.length ∧ b' ≤ (edit l z f y).length ∧ (∀ t ∈ (scan L l).drop n, a ≤ t.i ∧ t.i ≤ t.j ∧ t.j ≤ l.length) ∧
      ∀ g z2, (g = 0 ∨ ∃ t, ((scan L l).take k)[g]? = some t ∧ sig t = true) → ((((scan L l).drop n).map (moveT a b')).length ≤ z2 ∨ ∃ t, (((scan L l).drop n).map (moveT a b'))[z2]? = some t ∧ sig t = true) →
        JoinIs (edit l z f y) ((scan L l).take k) F (((scan L l).drop n).map (moveT a b')) g z2 = scan L (edit l z f y) := by
  have hel := edit_len l z h1 h2
  have hg' : ∀ g, (g = 0 ∨ ∃ t, ((scan L l).take k)[g]? = some t ∧ sig t = true) → g = 0 ∨ ∃ t, (scan L l)[g]? = some t ∧ sig t = true ∧ g < k := by
    intro g hg
    rcases hg with hg | ⟨t, ht, hs⟩
    · exact .inl hg
    · right
      rw [List.getElem?_take] at ht
      split at ht
      · rename_i hlt
        exact ⟨t, ht, hs, hlt⟩
      · cases ht
  have htk : ∀ g, (g = 0 ∨ ∃ t, ((scan L l).take k)[g]? = some t ∧ sig t = true) → ((scan L l).take k).take g = (scan L l).take g := by
    intro g hg
    rw [List.take_take]
    congr 1
    rcases hg' g hg with rfl | ⟨_, _, _, h⟩ <;> omega
  rcases hor with ⟨hn, hb⟩ | ⟨t, ht, hd, hput, hbm, h0⟩
  · have hnil : (scan L l).drop n = [] := List.drop_of_length_le (by omega)
    refine ⟨l.length, (edit l z f y).length, rfl, Nat.le_refl _, Nat.le_refl _, by rw [hnil]; simp, fun g z2 hg hz => ?_⟩
    rw [hnil] at hz ⊢
    have := rescan_is (L := L) (edit_take l z h1 h2) (by omega) (by omega) k g n z2 0 b F [] hk (hg' g hg) hF (by rw [hnil]; rfl) (.inl ⟨by omega, hb⟩) hz
    unfold JoinIs
    rw [htk g hg, List.append_assoc]
    exact this
  · have hcd := covers_within _ _ _ (covers_drop _ _ _ n t (scan_covers (L := L) l) ht)
    refine ⟨t.i, b, by omega, by omega, by omega, hcd.1, fun g z2 hg hz => ?_⟩
    have := rescan_is (L := L) (edit_take l z h1 h2) (by omega) (by omega) k g n z2 t.i b F _ hk (hg' g hg) hF rfl (.inr ⟨t, ht, rfl, by omega, by omega, edit_drop l z h1 h2 hput hd, h0⟩) hz
    unfold JoinIs
    rw [htk g hg, List.append_assoc]
    exact this
end Go.Proofs.YtjbamlmdeopcaaaGreatDoor.lx
end

section
/-
  lexer.Rescan.
-/
namespace Go.Proofs.YtjbamlmdeopcaaaGreatDoor.lx
open Go.RowKit Go.Proofs.YtjbamlmdeopcaaaGreatDoor.tok

def Refused (w : World) (e : Ending) (w' : World) : Prop := e = .returned (.tuple #[.slice none 0 0, .int .i64 0, .int .i64 10]) ∧ Below w.heap.size w w'
set_option maxRecDepth 100000 in
set_option maxHeartbeats 4000000 in
theorem rescan_no (s z : ByteArray) (v : Value) (x y : Int) (w : World) (h : x < 0 ∨ y < x ∨ (s.size : Int) < y) :
    Calls Tryz.prog 11 #[.string s, v, .agg #[.int .i64 x, .int .i64 y, .string z]] w (Refused w) := by
  by_cases h1 : x < 0
  · have d1 : decide (x < 0) = true := decide_eq_true h1
    go_enter Tryz.func11, Tryz.ntmps11
    go_wp2_with fail
    go_ret3
    exact ⟨rfl, (Below.refl _ _).alloc (Nat.le_refl _) _⟩
  · have d1 : decide (x < 0) = false := decide_eq_false h1
    by_cases h2 : y < x
    · have d2 : decide (y < x) = true := decide_eq_true h2
      go_enter Tryz.func11, Tryz.ntmps11
      go_wp2_with fail
      go_ret3
      exact ⟨rfl, (Below.refl _ _).alloc (Nat.le_refl _) _⟩
    · have d2 : decide (y < x) = false := decide_eq_false h2
      have d3 : decide ((s.size : Int) < y) = true := decide_eq_true (by omega)
      go_enter Tryz.func11, Tryz.ntmps11
      go_wp2_with fail
      go_ret3
      exact ⟨rfl, (Below.refl _ _).alloc (Nat.le_refl _) _⟩

def Rescanned (m : List UInt8) (w : World) (e : Ending) (w' : World) : Prop := ∃ (v' : Value) (n : Nat), e = .returned (.tuple #[v', .int .i64 (n : Int), .int .i64 0]) ∧ OwnT w' w.heap.size v' (scan lang m) ∧ Below w.heap.size w w'
def Box3 (q : Nat) (a b c : Value) (w : World) : Prop := w.cell? ⟨q, 0, none⟩ = some a ∧ w.cell? ⟨q, 1, none⟩ = some b ∧ w.cell? ⟨q, 2, none⟩ = some c
theorem Box3.below {q : Nat} {a b c : Value} {w w' : World} (h : Box3 q a b c w) (hb : Below w.heap.size w w') : Box3 q a b c w' := by
  obtain ⟨x, y, z⟩ := h
  have l := World.block_lt_of_cell? _ _ x
  exact ⟨(hb.cell (p := ⟨q, 0, none⟩) l).trans x, (hb.cell (p := ⟨q, 1, none⟩) l).trans y, (hb.cell (p := ⟨q, 2, none⟩) l).trans z⟩
set_option maxRecDepth 100000 in
set_option maxHeartbeats 4000000 in
theorem rescan_yes (s z : ByteArray) (v : Value) (f y : Nat) (w : World) (hE : Env w) (hfy : f ≤ y) (hys : y ≤ s.size) (hs : s.size ≤ 1048576) (hz : z.size ≤ 1048576) (hr : Row w v (scan lang s.data.toList)) :
    Calls Tryz.prog 11 #[.string s, v, .agg #[.int .i64 (f : Int), .int .i64 (y : Int), .string z]] w (Rescanned (edit s.data.toList z.data.toList f y) w) := by
  have HSD := Lib.hid (sdata s)
  have HZD := Lib.hid (sdata z)
  have HE := Lib.hid hE
  have hln := scan_few (L := lang) s.data.toList
  have hcv := scan_covers (L := lang) s.data.toList
  have hwi := scan_within (L := lang) s.data.toList
  rw [HSD.out] at hln hcv hwi
  have hel := edit_len s.data.toList z.data.toList hfy (by rw [HSD.out]; exact hys)
  rw [HSD.out, HZD.out] at hel
  have HR := Lib.hid hr
  have HCV := Lib.hid hcv
  have HWI := Lib.hid hwi
  have hcat1 := cat_eq (x := s.data.toList.take f) (y := z.data.toList) (by rw [List.length_take, HSD.out, HZD.out]; omega)
  rw [bof] at hcat1
  have hcat2 := cat_eq (x := s.data.toList.take f ++ z.data.toList) (y := s.data.toList.drop y) (by rw [List.length_append, List.length_take, List.length_drop, HSD.out, HZD.out]; omega)
  have hed : s.data.toList.take f ++ z.data.toList ++ s.data.toList.drop y = edit s.data.toList z.data.toList f y := rfl
  rw [hed] at hcat2
  have hsl1 : ∀ u : World, (Instr.slice 9 (.string s) none (some (.int .i64 (f : Int))) none).run Tryz.prog u = .ok (.string (B (s.data.toList.take f))) u := fun u => slice_to s f (f : Int) rfl (by omega) u
  have hsl2 : ∀ u : World, (Instr.slice 9 (.string s) (some (.int .i64 (y : Int))) none none).run Tryz.prog u = .ok (.string (B (s.data.toList.drop y))) u := fun u => slice_from s y hys u
  generalize hm : edit s.data.toList z.data.toList f y = m at *
  have HM := Lib.hid hm
  have hms : (B m).size = m.length := bsize m
  generalize hx1 : B (s.data.toList.take f) = x1 at *
  generalize hx2 : B (s.data.toList.take f ++ z.data.toList) = x2 at *
  generalize hx3 : B (s.data.toList.drop y) = x3 at *
  have HX : Hid ((B m).data.toList = m) := Lib.hid (bdata m)
  generalize hxm : B m = M at *
  have HEL := Lib.hid hel
  have HMS := Lib.hid hms
  have hmu : M.size ≤ 2097152 := by omega
  have hdlo : -1048576 ≤ (M.size : Int) - (s.size : Int) := by omega
  have hdhi : (M.size : Int) - (s.size : Int) ≤ 1048576 := by omega
  clear hel hms
  obtain ⟨g0, off0, o0, c0, hc0, hv0, ho0, hcell0⟩ := HR.out
  have d1 : decide ((f : Int) < 0) = false := decide_eq_false (by omega)
  have d2 : decide ((y : Int) < (f : Int)) = false := decide_eq_false (by omega)
  have d3 : decide ((s.size : Int) < (y : Int)) = false := decide_eq_false (by omega)
  have HK1 := Lib.hid (fun (u : World) (hu : Below w.heap.size w u) => cover_true v (scan lang s.data.toList) s.size u (HR.out.below hu) (by omega) (by omega) HCV.out)
  have HK2 := Lib.hid (fun (u : World) (hu : Below w.heap.size w u) => untouched_any v (scan lang s.data.toList) f s.size u (HR.out.below hu) (by omega) (by omega) (by omega) HWI.out)
  generalize hT : scan lang s.data.toList = T at *
  have HT := Lib.hid hT
  have HO0 := Lib.hid ho0
  have HC0 := Lib.hid hcell0
  clear hr hcv hwi hed hm hx1 hx2 hx3 hxm hT hE ho0 hcell0
  generalize hlen : T.length = len at *
  have HLEN := Lib.hid hlen
  clear hlen
  subst hv0
  go_enter Tryz.func11, Tryz.ntmps11
  go_wp2_with fail
  go_at_call 19
  have hbx : Box3 w.heap.size (.int .i64 (f : Int)) (.int .i64 (y : Int)) (.string z) (w.alloc (.cells #[.int .i64 (f : Int), .int .i64 (y : Int), .string z] 35)) := ⟨by simp, by simp, by simp⟩
  have hBz : Below w.heap.size w (w.alloc (.cells #[.int .i64 (f : Int), .int .i64 (y : Int), .string z] 35)) := (Below.refl _ _).alloc (Nat.le_refl _) _
  (with_reducible refine (HK1.out _ hBz).mono ?_)
  rintro e w1 ⟨rfl, hb1⟩
  have hB1 := hBz.trans (hb1.mono hBz.size)
  have hbx1 := hbx.below hb1
  clear hbx hBz hb1 HK1
  have HB1 := Lib.hid hB1
  have HBX1 := Lib.hid hbx1
  obtain ⟨b0, b1, b2⟩ := hbx1
  have hz1 := hB1.size
  clear hB1
  go_wp2_with fail
  go_quiet (fail)
  go_wp2_with fail
  go_at_call 20
  have hBq := tok.below_drewN (n := nq) HB1.out
  (with_reducible refine (HK2.out _ hBq).mono ?_)
  rintro e w2 ⟨k, rfl, hkl, hka, hb2⟩
  have HB2 := Lib.hid (hBq.trans (hb2.mono hBq.size))
  have HBX2 := Lib.hid ((show Box3 _ _ _ _ (w1.drewN nq) from HBX1.out).below hb2)
  have hz2 := HB2.out.size
  have HKA := Lib.hid hka
  clear b0 b1 b2 hBq hb2 hka HBX1 HB1 HK2 hz1
  obtain ⟨b0, b1, b2⟩ := HBX2.out
  have HLE := Lib.hid (lastJ_le (m := M.size) (T.take k) 0 (Nat.zero_le _) (fun t ht => by have := HKA.out t ht; have := HEL.out; have := HMS.out; omega))
  have HRR : Hid (∀ u : World, Below w.heap.size w u → Calls Tryz.prog 21 #[.string M, .int .i64 ((lastJ 0 (T.take k) : Nat) : Int), .int .i64 ((f : Int) + (z.size : Int)), .slice o0 len c0, .int .i64 ((M.size : Int) - (s.size : Int))] u (Reread m (lastJ 0 (T.take k)) (f + z.size) T ((M.size : Int) - (s.size : Int)) u)) := Lib.hid (fun u hu => by
    have h := reread_any M (.slice o0 len c0) T (lastJ 0 (T.take k)) (f + z.size) s.size ((M.size : Int) - (s.size : Int)) u (HE.out.below hu) (by omega) HLE.out (by omega) (HR.out.below hu) (by rw [HLEN.out]; omega) (by omega) (by omega) HWI.out (by omega)
    rw [HX.out, show ((f + z.size : Nat) : Int) = (f : Int) + (z.size : Int) from Int.natCast_add _ _] at h
    exact h)
  rcases Nat.eq_zero_or_pos k with hk0 | hk0
  · subst hk0
    have HRR2 := HRR
    rw [show ((lastJ 0 (T.take 0) : Nat) : Int) = 0 from rfl] at HRR2
    go_wp2_with fail
    go_at_call 21
    (with_reducible refine (HRR2.out _ HB2.out).mono ?_)
    rintro e w3 ⟨v3, n, F, b, rfl, hO3, hn3, hF3, hor, hb3⟩
    have HO3 := Lib.hid hO3
    have HB3 := Lib.hid (HB2.out.trans (hb3.mono hz2))
    have hz3 := HB3.out.size
    have HF3 := Lib.hid hF3
    have HOR := Lib.hid hor
    clear hO3 hF3 hor hb3
    obtain ⟨xk, hxk0, hrk⟩ := HR.out.take 0 hkl
    have hxk : ∀ u, (Instr.slice 22 (.slice o0 len c0) none (some (.int .i64 0)) none).run Tryz.prog u = .ok xk u := fun u => hxk0 u
    clear hxk0
    obtain ⟨xd, hxd, hrd⟩ := HR.out.drop n hn3
    have hpu : ∃ a b' : Nat, ((M.size : Int) - (s.size : Int)) = (b' : Int) - (a : Int) ∧ a ≤ s.size ∧ b' ≤ M.size ∧ (∀ t ∈ T.drop n, a ≤ t.i ∧ t.i ≤ t.j ∧ t.j ≤ s.size) ∧
        ∀ g z2, (g = 0 ∨ ∃ t, (T.take (0))[g]? = some t ∧ sig t = true) → (((T.drop n).map (moveT a b')).length ≤ z2 ∨ ∃ t, ((T.drop n).map (moveT a b'))[z2]? = some t ∧ sig t = true) → JoinIs m (T.take (0)) F ((T.drop n).map (moveT a b')) g z2 = scan lang m := by
      have hor := HOR.out
      rw [HMS.out] at hor
      have := rescan_pure (L := lang) s.data.toList z.data.toList f y (0) n F b hfy (by rw [HSD.out]; exact hys) (by rw [HT.out]; exact HKA.out) (by rw [HT.out, HM.out]; exact HF3.out) (by rw [HT.out, HM.out, HSD.out, HZD.out]; exact hor)
      rw [HT.out, HM.out, HSD.out, ← HMS.out] at this
      exact this
    obtain ⟨a, b', hda, hal, hbm, hin, hfin⟩ := hpu
    have HFIN := Lib.hid hfin
    have hdl : (T.drop n).length ≤ 2097152 := by rw [List.length_drop, HLEN.out]; omega
    have htl : (T.take (0)).length ≤ 2097152 := by rw [List.length_take, HLEN.out]; omega
    have hfl : F.length ≤ 2097152 := by
      have h1 := bare_few (L := lang) m (lastJ 0 (T.take (0)))
      rw [HF3.out, List.length_append, ← HMS.out] at h1
      omega
    have HMV := Lib.hid (fun (u : World) (hu : Below w.heap.size w u) => move_any xd (T.drop n) a b' s.size ((M.size : Int) - (s.size : Int)) u (hrd.below hu) (by omega) hda (by omega) (by omega) hin (by omega))
    have hwA : Within M.size (T.take (0)) := fun t ht => by
      have h1 := HKA.out t ht
      have h2 := HWI.out t (List.mem_of_mem_take ht)
      have h3 := HEL.out
      have h4 := HMS.out
      omega
    have hwF : Within M.size F := fun t ht => by
      have := bare_within (L := lang) m (lastJ 0 (T.take (0))) t (by rw [HF3.out]; exact List.mem_append_left _ ht)
      rw [← HMS.out] at this
      exact this
    have hwB : Within M.size ((T.drop n).map (moveT a b')) := fun t ht => by
      obtain ⟨t0, ht0, rfl⟩ := List.mem_map.1 ht
      have h1 := hin t0 ht0
      unfold moveT
      simp only
      omega
    have HJN := Lib.hid (fun (u : World) (v4 : Value) (hu : Below w.heap.size w u) (h3 : Row u v3 F) (h4 : Row u v4 ((T.drop n).map (moveT a b'))) => join_any M xk v3 v4 (T.take (0)) F ((T.drop n).map (moveT a b')) u (hrk.below hu) h3 h4 (by rw [List.length_map]; omega) hwA hwF hwB)
    rw [HX.out] at HJN
    have HR3 := Lib.hid (row_of_any HO3.out)
    obtain ⟨_, _, o3, c3, _, hv3, _, _⟩ := row_of_any HO3.out
    subst hv3
    clear hda hin hfin hwA hwF hwB hdl htl hrk hrd HOR HRR
    go_wp2_with fail
    go_cut [6, 7, 8] (fun r nn ee wx => OwnT wx w.heap.size r (scan lang m) ∧ nn = .int .i64 (F.length : Int) ∧ ee = .int .i64 0 ∧ Below w.heap.size w wx)
    case first =>
      go_region_held3 (fun _ => True) (first | trivial) (first
        | (go_at_call 23; refine (HMV.out _ ?_).mono ?_; (first | exact HB3.out | exact HB3.out.drew | exact tok.below_drewN HB3.out); rintro e w4 ⟨v4, rfl, hO4, hb4'⟩; have hb4 : Below w3.heap.size w3 w4 := (Below.refl w3.heap.size w3).drew.trans hb4'; clear hb4')
        | (go_at_call 22; refine (HJN.out _ v4 ?_ ?_ ?_).mono ?_; (exact HB3.out.trans (hb4.mono hz3)); (exact HR3.out.below hb4); (exact row_of_any hO4); rintro e w5 ⟨v5, g, z2, rfl, hg, hz2', hO5, hb5⟩))
      all_goals (try go_wp2_with fail)
      all_goals go_meet
      all_goals exact ⟨by rw [← HFIN.out g z2 hg hz2']; exact own_mono hO5 (Nat.le_trans hz3 hb4.size), rfl, rfl, HB3.out.trans ((hb4.trans (hb5.mono hb4.size)).mono hz3)⟩
    case rest =>
      obtain ⟨hO6, rfl, rfl, hb6⟩ := hcut
      have HO6 := Lib.hid hO6
      have HB6 := Lib.hid hb6
      clear hO6 hb6
      go_wp2_with fail
      go_ret3
      exact ⟨_, F.length, rfl, HO6.out, HB6.out⟩
  · have hdk : decide (0 < (k : Int)) = true := decide_eq_true (by omega)
    obtain ⟨k1, rfl⟩ : ∃ k1, k = k1 + 1 := ⟨k - 1, by omega⟩
    have hk1 : k1 < T.length := by omega
    have ho := HO0.out (by rintro rfl; simp at hk1)
    subst ho
    obtain ⟨_, _, e2⟩ := HC0.out.below HB2.out k1 hk1
    have hlj := lastJ_take T 0 k1 hk1
    have hk2 : k1 < len := by rw [← HLEN.out]; exact hk1
    have hlj2 : ((lastJ 0 (T.take (k1 + 1)) : Nat) : Int) = (T[k1].j : Int) := by rw [hlj]
    rw [hlj2] at HRR
    go_wp2_with fail
    go_at_call 21
    (with_reducible refine (HRR.out _ HB2.out).mono ?_)
    rintro e w3 ⟨v3, n, F, b, rfl, hO3, hn3, hF3, hor, hb3⟩
    have HO3 := Lib.hid hO3
    have HB3 := Lib.hid (HB2.out.trans (hb3.mono hz2))
    have hz3 := HB3.out.size
    have HF3 := Lib.hid hF3
    have HOR := Lib.hid hor
    clear hO3 hF3 hor hb3
    obtain ⟨xk, hxk0, hrk⟩ := HR.out.take (k1 + 1) hkl
    have hxk : ∀ u, (Instr.slice 22 (.slice (some ⟨g0, off0, none⟩) len c0) none (some (.int .i64 ((k1 : Int) + 1))) none).run Tryz.prog u = .ok xk u := fun u => hxk0 u
    clear hxk0
    obtain ⟨xd, hxd, hrd⟩ := HR.out.drop n hn3
    have hpu : ∃ a b' : Nat, ((M.size : Int) - (s.size : Int)) = (b' : Int) - (a : Int) ∧ a ≤ s.size ∧ b' ≤ M.size ∧ (∀ t ∈ T.drop n, a ≤ t.i ∧ t.i ≤ t.j ∧ t.j ≤ s.size) ∧
        ∀ g z2, (g = 0 ∨ ∃ t, (T.take (k1 + 1))[g]? = some t ∧ sig t = true) → (((T.drop n).map (moveT a b')).length ≤ z2 ∨ ∃ t, ((T.drop n).map (moveT a b'))[z2]? = some t ∧ sig t = true) → JoinIs m (T.take (k1 + 1)) F ((T.drop n).map (moveT a b')) g z2 = scan lang m := by
      have hor := HOR.out
      rw [HMS.out] at hor
      have := rescan_pure (L := lang) s.data.toList z.data.toList f y (k1 + 1) n F b hfy (by rw [HSD.out]; exact hys) (by rw [HT.out]; exact HKA.out) (by rw [HT.out, HM.out]; exact HF3.out) (by rw [HT.out, HM.out, HSD.out, HZD.out]; exact hor)
      rw [HT.out, HM.out, HSD.out, ← HMS.out] at this
      exact this
    obtain ⟨a, b', hda, hal, hbm, hin, hfin⟩ := hpu
    have HFIN := Lib.hid hfin
    have hdl : (T.drop n).length ≤ 2097152 := by rw [List.length_drop, HLEN.out]; omega
    have htl : (T.take (k1 + 1)).length ≤ 2097152 := by rw [List.length_take, HLEN.out]; omega
    have hfl : F.length ≤ 2097152 := by
      have h1 := bare_few (L := lang) m (lastJ 0 (T.take (k1 + 1)))
      rw [HF3.out, List.length_append, ← HMS.out] at h1
      omega
    have HMV := Lib.hid (fun (u : World) (hu : Below w.heap.size w u) => move_any xd (T.drop n) a b' s.size ((M.size : Int) - (s.size : Int)) u (hrd.below hu) (by omega) hda (by omega) (by omega) hin (by omega))
    have hwA : Within M.size (T.take (k1 + 1)) := fun t ht => by
      have h1 := HKA.out t ht
      have h2 := HWI.out t (List.mem_of_mem_take ht)
      have h3 := HEL.out
      have h4 := HMS.out
      omega
    have hwF : Within M.size F := fun t ht => by
      have := bare_within (L := lang) m (lastJ 0 (T.take (k1 + 1))) t (by rw [HF3.out]; exact List.mem_append_left _ ht)
      rw [← HMS.out] at this
      exact this
    have hwB : Within M.size ((T.drop n).map (moveT a b')) := fun t ht => by
      obtain ⟨t0, ht0, rfl⟩ := List.mem_map.1 ht
      have h1 := hin t0 ht0
      unfold moveT
      simp only
      omega
    have HJN := Lib.hid (fun (u : World) (v4 : Value) (hu : Below w.heap.size w u) (h3 : Row u v3 F) (h4 : Row u v4 ((T.drop n).map (moveT a b'))) => join_any M xk v3 v4 (T.take (k1 + 1)) F ((T.drop n).map (moveT a b')) u (hrk.below hu) h3 h4 (by rw [List.length_map]; omega) hwA hwF hwB)
    rw [HX.out] at HJN
    have HR3 := Lib.hid (row_of_any HO3.out)
    obtain ⟨_, _, o3, c3, _, hv3, _, _⟩ := row_of_any HO3.out
    subst hv3
    clear hda hin hfin hwA hwF hwB hdl htl hrk hrd HOR HRR
    go_wp2_with fail
    go_cut [6, 7, 8] (fun r nn ee wx => OwnT wx w.heap.size r (scan lang m) ∧ nn = .int .i64 (F.length : Int) ∧ ee = .int .i64 0 ∧ Below w.heap.size w wx)
    case first =>
      go_region_held3 (fun _ => True) (first | trivial) (first
        | (go_at_call 23; refine (HMV.out _ ?_).mono ?_; (first | exact HB3.out | exact HB3.out.drew | exact tok.below_drewN HB3.out); rintro e w4 ⟨v4, rfl, hO4, hb4'⟩; have hb4 : Below w3.heap.size w3 w4 := (Below.refl w3.heap.size w3).drew.trans hb4'; clear hb4')
        | (go_at_call 22; refine (HJN.out _ v4 ?_ ?_ ?_).mono ?_; (exact HB3.out.trans (hb4.mono hz3)); (exact HR3.out.below hb4); (exact row_of_any hO4); rintro e w5 ⟨v5, g, z2, rfl, hg, hz2', hO5, hb5⟩))
      all_goals (try go_wp2_with fail)
      all_goals go_meet
      all_goals exact ⟨by rw [← HFIN.out g z2 hg hz2']; exact own_mono hO5 (Nat.le_trans hz3 hb4.size), rfl, rfl, HB3.out.trans ((hb4.trans (hb5.mono hb4.size)).mono hz3)⟩
    case rest =>
      obtain ⟨hO6, rfl, rfl, hb6⟩ := hcut
      have HO6 := Lib.hid hO6
      have HB6 := Lib.hid hb6
      clear hO6 hb6
      go_wp2_with fail
      go_ret3
      exact ⟨_, F.length, rfl, HO6.out, HB6.out⟩
end Go.Proofs.YtjbamlmdeopcaaaGreatDoor.lx
end

section
/-
  The statements' own right and edited.
-/
namespace Go.Proofs.YtjbamlmdeopcaaaGreatDoor.lx
open Go.RowKit Go.Proofs.YtjbamlmdeopcaaaGreatDoor.tok

set_option maxRecDepth 100000 in
set_option maxHeartbeats 1000000 in
theorem right_yes (s z : ByteArray) (f y : Nat) (w : World) (h1 : f ≤ y) (h2 : y ≤ s.size) :
    Calls Tryz.prog 12 #[.string s, .agg #[.int .i64 (f : Int), .int .i64 (y : Int), .string z]] w (fun e w' => e = .returned (.bool true) ∧ Below w.heap.size w w') := by
  have d1 : decide (0 ≤ (f : Int)) = true := decide_eq_true (by omega)
  have d2 : decide ((f : Int) ≤ (y : Int)) = true := decide_eq_true (by omega)
  have d3 : decide ((y : Int) ≤ (s.size : Int)) = true := decide_eq_true (by omega)
  go_enter Tryz.func12, Tryz.ntmps12
  go_wp2_with fail
  go_ret
  exact ⟨rfl, (Below.refl _ _).alloc (Nat.le_refl _) _⟩
set_option maxRecDepth 100000 in
set_option maxHeartbeats 1000000 in
theorem right_no (s z : ByteArray) (x y : Int) (w : World) (h : x < 0 ∨ y < x ∨ (s.size : Int) < y) :
    Calls Tryz.prog 12 #[.string s, .agg #[.int .i64 x, .int .i64 y, .string z]] w (fun e w' => e = .returned (.bool false) ∧ Below w.heap.size w w') := by
  by_cases h1 : x < 0
  · have d1 : decide (0 ≤ x) = false := decide_eq_false (by omega)
    go_enter Tryz.func12, Tryz.ntmps12
    go_wp2_with fail
    go_ret
    exact ⟨rfl, (Below.refl _ _).alloc (Nat.le_refl _) _⟩
  · have d1 : decide (0 ≤ x) = true := decide_eq_true (by omega)
    by_cases h2 : y < x
    · have d2 : decide (x ≤ y) = false := decide_eq_false (by omega)
      go_enter Tryz.func12, Tryz.ntmps12
      go_wp2_with fail
      go_ret
      exact ⟨rfl, (Below.refl _ _).alloc (Nat.le_refl _) _⟩
    · have d2 : decide (x ≤ y) = true := decide_eq_true (by omega)
      have d3 : decide (y ≤ (s.size : Int)) = false := decide_eq_false (by omega)
      go_enter Tryz.func12, Tryz.ntmps12
      go_wp2_with fail
      go_ret
      exact ⟨rfl, (Below.refl _ _).alloc (Nat.le_refl _) _⟩
set_option maxRecDepth 100000 in
set_option maxHeartbeats 1000000 in
theorem edited_yes (s z : ByteArray) (f y : Nat) (w : World) (h1 : f ≤ y) (h2 : y ≤ s.size) (hs : s.size ≤ 4194304) (hz : z.size ≤ 4194304) :
    Calls Tryz.prog 13 #[.string s, .agg #[.int .i64 (f : Int), .int .i64 (y : Int), .string z]] w (fun e w' => e = .returned (.string (B (edit s.data.toList z.data.toList f y))) ∧ Below w.heap.size w w') := by
  have HSD := Lib.hid (sdata s)
  have HZD := Lib.hid (sdata z)
  have hcat1 := cat_eq (x := s.data.toList.take f) (y := z.data.toList) (by rw [List.length_take, HSD.out, HZD.out]; omega)
  rw [bof] at hcat1
  have hcat2 := cat_eq (x := s.data.toList.take f ++ z.data.toList) (y := s.data.toList.drop y) (by rw [List.length_append, List.length_take, List.length_drop, HSD.out, HZD.out]; omega)
  have hed : s.data.toList.take f ++ z.data.toList ++ s.data.toList.drop y = edit s.data.toList z.data.toList f y := rfl
  rw [hed] at hcat2
  have hsl1 : ∀ u : World, (Instr.slice 9 (.string s) none (some (.int .i64 (f : Int))) none).run Tryz.prog u = .ok (.string (B (s.data.toList.take f))) u := fun u => slice_to s f (f : Int) rfl (by omega) u
  have hsl2 : ∀ u : World, (Instr.slice 9 (.string s) (some (.int .i64 (y : Int))) none none).run Tryz.prog u = .ok (.string (B (s.data.toList.drop y))) u := fun u => slice_from s y h2 u
  generalize B (edit s.data.toList z.data.toList f y) = M at *
  generalize B (s.data.toList.take f) = x1 at *
  generalize B (s.data.toList.take f ++ z.data.toList) = x2 at *
  generalize B (s.data.toList.drop y) = x3 at *
  clear hed
  have HB : Hid (Below w.heap.size w (w.alloc (.cells #[.int .i64 (f : Int), .int .i64 (y : Int), .string z] 35))) := Lib.hid ((Below.refl _ _).alloc (Nat.le_refl _) _)
  go_enter Tryz.func13, Tryz.ntmps13
  go_wp2_with fail
  go_quiet (fail)
  go_wp2_with fail
  go_ret
  exact ⟨rfl, tok.below_drewN HB.out⟩
end Go.Proofs.YtjbamlmdeopcaaaGreatDoor.lx
end
