/-
  Layer 4: what the regions are like (plain).
-/
import Derived.Test.YtlemecnmjhhbiaaCh
import Derived.Test.YtlemecnmjhhbiaaCe
namespace Go.Proofs.Ytlemecnmjhhbiaa.ck

theorem weigh_nil : weigh [] = false := rfl
theorem weigh_append (a b : List Tk) : weigh (a ++ b) = (weigh a || weigh b) := by
  induction a with
  | nil => rw [List.nil_append, weigh_nil, Bool.false_or]
  | cons t r ih => rw [List.cons_append, weigh_cons, weigh_cons, ih, Bool.or_assoc]
theorem weigh_at {T : List Tk} {n : Nat} {t : Tk} (h : T[n]? = some t) (ht : triv t.k = false) : weigh T = true := by
  obtain ⟨hl, rfl⟩ := List.getElem?_eq_some_iff.1 h
  have e : T = T.take n ++ T.drop n := (List.take_append_drop n T).symm
  rw [e, weigh_append, List.drop_eq_getElem_cons hl, weigh_cons, ht]
  simp
/-- A region that ends ahead of the list's end ends with a semicolon. -/
theorem wid_semi (T : List Tk) : ∀ d, wid d T < T.length → ∃ t, T[wid d T - 1]? = some t ∧ semi t.k = true := by
  induction T with
  | nil => intro d h; simp at h
  | cons t r ih =>
    intro d h
    rw [wid] at h ⊢
    by_cases hs : (semi t.k && d == 0) = true
    · rw [if_pos hs]
      rw [Bool.and_eq_true] at hs
      exact ⟨t, rfl, hs.1⟩
    · rw [if_neg hs] at h ⊢
      rw [List.length_cons] at h
      obtain ⟨t', h1, h2⟩ := ih (deep d t.k) (by omega)
      refine ⟨t', ?_, h2⟩
      have hne : r ≠ [] := by rintro rfl; simp at h
      have := wid_pos (deep d t.k) hne
      rw [show 1 + wid (deep d t.k) r - 1 = (wid (deep d t.k) r - 1) + 1 by omega, List.getElem?_cons_succ]
      exact h1
structure Chain (T : List Tk) (R : List Sn) (fr : Nat) (st : Nat → Nat) : Prop where
  zero : st 0 = fr
  at' : ∀ i (h : i < R.length), R[i] = ⟨st i, st (i + 1)⟩ ∧ st i < st (i + 1) ∧ st (i + 1) ≤ T.length ∧ weigh ((T.drop (st i)).take (st (i + 1) - st i)) = true ∧ (i + 1 < R.length → ∃ t, T[st (i + 1) - 1]? = some t ∧ semi t.k = true)
  last : weigh (T.drop (st R.length)) = false
theorem chain (T : List Tk) : ∀ (k fr : Nat), T.length - fr ≤ k → fr ≤ T.length → ∃ st, Chain T (rcut fr fr 0 false (T.drop fr)) fr st := by
  intro k
  induction k with
  | zero =>
    intro fr hk hf
    have : T.drop fr = [] := List.drop_of_length_le (by omega)
    rw [this]
    refine ⟨fun _ => fr, rfl, fun i h => ?_, ?_⟩
    · simp [rcut] at h
    · show weigh (T.drop fr) = false
      rw [this]
      rfl
  | succ k ih =>
    intro fr hk hf
    have hstep := rcut_step (T.drop fr) fr fr 0 false
    rw [Bool.false_or, List.drop_drop] at hstep
    have hwl := wid_le (T.drop fr) 0
    rw [List.length_drop] at hwl
    by_cases hw : weigh ((T.drop fr).take (wid 0 (T.drop fr))) = true
    · rw [if_pos hw] at hstep
      have hne : T.drop fr ≠ [] := by intro e; rw [e] at hw; simp [weigh_nil] at hw
      have hwp := wid_pos 0 hne
      have hsemi := wid_semi (T.drop fr) 0
      rw [List.length_drop] at hsemi
      obtain ⟨st, hst⟩ := ih (fr + wid 0 (T.drop fr)) (by omega) (by omega)
      rw [hstep]
      generalize wid 0 (T.drop fr) = m at *
      refine ⟨fun i => match i with | 0 => fr | i + 1 => st i, rfl, fun i h => ?_, ?_⟩
      · cases i with
        | zero =>
          simp only [List.getElem_cons_zero]
          rw [hst.zero]
          refine ⟨rfl, by omega, by omega, by rw [Nat.add_sub_cancel_left]; exact hw, fun h' => ?_⟩
          have hml : m < T.length - fr := by
            rcases Nat.lt_or_ge m (T.length - fr) with h2 | h2
            · exact h2
            · rw [List.drop_of_length_le (by omega : T.length ≤ fr + m)] at h'
              simp [rcut] at h'
          obtain ⟨t, h1, h2⟩ := hsemi hml
          rw [List.getElem?_drop] at h1
          exact ⟨t, by rw [show fr + m - 1 = fr + (m - 1) by omega]; exact h1, h2⟩
        | succ i =>
          simp only [List.getElem_cons_succ]
          have h' : i < (rcut (fr + m) (fr + m) 0 false (T.drop (fr + m))).length := by simpa using h
          obtain ⟨a1, a2, a3, a4, a5⟩ := hst.at' i h'
          exact ⟨a1, a2, a3, a4, fun h2 => a5 (by simpa using h2)⟩
      · exact hst.last
    · have hw : weigh ((T.drop fr).take (wid 0 (T.drop fr))) = false := by simpa using hw
      rw [hw, if_neg (by simp)] at hstep
      rw [hstep]
      refine ⟨fun _ => fr, rfl, fun i h => by simp at h, ?_⟩
      show weigh (T.drop fr) = false
      rcases Nat.lt_or_ge (wid 0 (T.drop fr)) (T.drop fr).length with h2 | h2
      · obtain ⟨t, h3, h4⟩ := wid_semi (T.drop fr) 0 h2
        have hne : T.drop fr ≠ [] := by intro e; rw [e] at h2; simp at h2
        have hwp := wid_pos 0 hne
        have := weigh_at (T := (T.drop fr).take (wid 0 (T.drop fr))) (n := wid 0 (T.drop fr) - 1) (t := t) (by rw [List.getElem?_take, if_pos (by omega)]; exact h3) (triv_semi h4)
        rw [hw] at this
        cases this
      · rw [List.take_of_length_le h2] at hw
        exact hw
theorem chain_regs (T : List Tk) : ∃ st, Chain T (regs T) 0 st := by
  have := chain T T.length 0 (by omega) (by omega)
  rw [List.drop_zero] at this
  exact this
theorem Chain.mono {T : List Tk} {R : List Sn} {fr : Nat} {st : Nat → Nat} (h : Chain T R fr st) : ∀ j i, i ≤ j → j ≤ R.length → st i ≤ st j := by
  intro j
  induction j with
  | zero => intro i hi _; have : i = 0 := by omega
            subst this; exact Nat.le_refl _
  | succ j ih =>
    intro i hi hj
    rcases Nat.lt_or_ge i (j + 1) with h2 | h2
    · have := ih i (by omega) (by omega)
      have := (h.at' j (by omega)).2.1
      omega
    · have : i = j + 1 := by omega
      subst this; exact Nat.le_refl _
theorem toN_lt (x : Int) (R : List Sn) : ∀ n (h : n < R.length), n < toN x R → R[n].b ≤ x := by
  induction R with
  | nil => intro n h; simp at h
  | cons s r ih =>
    intro n h hn
    rw [toN] at hn
    by_cases hs : s.b ≤ x
    · rw [if_pos hs] at hn
      cases n with
      | zero => exact hs
      | succ n => exact ih n (by simpa using h) (by omega)
    · rw [if_neg hs] at hn
      omega
theorem toN_at (x : Int) (R : List Sn) : ∀ (h : toN x R < R.length), x < R[toN x R].b := by
  induction R with
  | nil => intro h; simp at h
  | cons s r ih =>
    intro h
    by_cases hs : s.b ≤ x
    · have e : toN x (s :: r) = toN x r + 1 := by rw [toN, if_pos hs]
      simp only [e] at h ⊢
      rw [List.getElem_cons_succ]
      exact ih (by simpa using h)
    · have e : toN x (s :: r) = 0 := by rw [toN, if_neg hs]
      simp only [e]
      rw [List.getElem_cons_zero]
      omega
theorem frN_lt (y : Int) (R : List Sn) : ∀ n (h : n < R.length), n < frN y R → R[n].a < y := by
  induction R with
  | nil => intro n h; simp at h
  | cons s r ih =>
    intro n h hn
    rw [frN] at hn
    by_cases hs : s.a < y
    · rw [if_pos hs] at hn
      cases n with
      | zero => exact hs
      | succ n => exact ih n (by simpa using h) (by omega)
    · rw [if_neg hs] at hn
      omega
theorem frN_at (y : Int) (R : List Sn) : ∀ (h : frN y R < R.length), y ≤ R[frN y R].a := by
  induction R with
  | nil => intro h; simp at h
  | cons s r ih =>
    intro h
    by_cases hs : s.a < y
    · have e : frN y (s :: r) = frN y r + 1 := by rw [frN, if_pos hs]
      simp only [e] at h ⊢
      rw [List.getElem_cons_succ]
      exact ih (by simpa using h)
    · have e : frN y (s :: r) = 0 := by rw [frN, if_neg hs]
      simp only [e]
      rw [List.getElem_cons_zero]
      omega
/-- Which regions are touched: those that have one of the tokens. -/
theorem Chain.touches {T : List Tk} {R : List Sn} {fr : Nat} {st : Nat → Nat} (h : Chain T R fr st) (x y : Int) (n : Nat) (hn : n < R.length) :
    ((x < (st (n + 1) : Int)) ↔ touA x R ≤ n) ∧ (x < (st (n + 1) : Int) → (((st n : Int) < y) ↔ n < touB x y R)) := by
  have hb : ∀ i (hi : i < R.length), R[i].b = (st (i + 1) : Int) := fun i hi => by rw [(h.at' i hi).1]
  have ha : ∀ i (hi : i < R.length), R[i].a = (st i : Int) := fun i hi => by rw [(h.at' i hi).1]
  have h1 : (x < (st (n + 1) : Int)) ↔ touA x R ≤ n := by
    unfold touA
    constructor
    · intro hx
      rcases Nat.lt_or_ge n (toN x R) with h2 | h2
      · have := toN_lt x R n hn h2
        rw [hb n hn] at this
        omega
      · exact h2
    · intro hx
      have := toN_at x R (by omega)
      rw [hb _ (by omega)] at this
      have := h.mono (n + 1) (toN x R + 1) (by omega) (by omega)
      omega
  refine ⟨h1, fun hx => ?_⟩
  have hA := h1.1 hx
  unfold touA at hA
  unfold touB
  have hdl : (R.drop (toN x R)).length = R.length - toN x R := List.length_drop
  have hda : ∀ i (hi : i < (R.drop (toN x R)).length), (R.drop (toN x R))[i].a = (st (toN x R + i) : Int) := fun i hi => by rw [List.getElem_drop, ha _ (by omega)]
  constructor
  · intro hy
    rcases Nat.lt_or_ge n (toN x R + frN y (R.drop (toN x R))) with h2 | h2
    · exact h2
    · have := frN_at y (R.drop (toN x R)) (by omega)
      rw [hda _ (by omega)] at this
      have := h.mono n (toN x R + frN y (R.drop (toN x R))) h2 (by omega)
      omega
  · intro hy
    have := frN_lt y (R.drop (toN x R)) (n - toN x R) (by omega) (by omega)
    rw [hda _ (by omega), show toN x R + (n - toN x R) = n by omega] at this
    exact this
end Go.Proofs.Ytlemecnmjhhbiaa.ck
