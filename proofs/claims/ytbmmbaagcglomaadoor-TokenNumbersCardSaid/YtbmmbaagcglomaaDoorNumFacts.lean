/-
  Numbers written anew (plain facts on lists of bytes).
-/
import Derived.Test.YtbmmbaagcglomaaDoorDigits
namespace Go.Proofs.YtbmmbaagcglomaaDoor.tok
open Go.RowKit

/-- The fold over all digits. -/
def jAll (base : Int) (l : List UInt8) : Option (List UInt8 × Bool) := l.foldl (jStep base) (some ([], true))
theorem jAll_eq (base : Int) (l : List UInt8) : jTo base l l.length = jAll base l := by unfold jTo jAll; rw [List.take_length]
theorem num_all (l : List UInt8) : numOf l = match jAll (prefixOf l).1 (restOf l) with | some (d, false) => ((prefixOf l).1, d, true) | _ => (0, [], false) := by
  unfold numOf
  rw [jAll_eq]
  cases jAll ((prefixOf l).1 : Int) (restOf l) with
  | none => rfl
  | some p => obtain ⟨d, a⟩ := p; cases a <;> rfl
theorem fold_none (base : Int) (l : List UInt8) : l.foldl (jStep base) none = none := by
  induction l with
  | nil => rfl
  | cons a l ih => exact ih
def Digs (base : Int) (d : List UInt8) : Prop := ∀ c ∈ d, isDig base c = true
theorem step_dig {base : Int} {acc : List UInt8} {a : Bool} {c : UInt8} (h : isDig base c = true) : jStep base (some (acc, a)) c = some (acc ++ [c], false) := by
  simp only [jStep]; rw [if_pos h]
theorem step_bar {base : Int} {acc : List UInt8} (hb : base ≤ 16) : jStep base (some (acc, false)) 95 = some (acc, true) := by
  have : isDig base 95 = false := by
    unfold isDig
    rw [decide_eq_false_iff_not, show digZ ((95 : UInt8).toNat : Int) 16 = 16 from by decide]
    omega
  simp only [jStep]; rw [if_neg (by rw [this]; simp), if_pos (by simp)]
theorem step_bad {base : Int} {acc : List UInt8} {a : Bool} (hb : base ≤ 16) : jStep base (some (acc, a)) 103 = none := by
  have : isDig base 103 = false := by
    unfold isDig
    rw [decide_eq_false_iff_not, show digZ ((103 : UInt8).toNat : Int) 16 = 16 from by decide]
    omega
  simp only [jStep]; rw [if_neg (by rw [this]; simp), if_neg (by simp)]
theorem fold_digs {base : Int} : ∀ (d acc : List UInt8) (a : Bool), Digs base d → d ≠ [] → d.foldl (jStep base) (some (acc, a)) = some (acc ++ d, false) := by
  intro d
  induction d with
  | nil => intro _ _ _ h; exact absurd rfl h
  | cons c d ih =>
    intro acc a h _
    rw [List.foldl_cons, step_dig (h c (by simp))]
    cases d with
    | nil => rfl
    | cons c' d' => rw [ih _ _ (fun x hx => h x (by simp [hx])) (by simp)]; simp
/-- A _ ahead of each digit. -/
def bars (d : List UInt8) : List UInt8 := d.flatMap fun c => [95, c]
theorem fold_bars {base : Int} (hb : base ≤ 16) : ∀ (d acc : List UInt8), Digs base d → (bars d).foldl (jStep base) (some (acc, false)) = some (acc ++ d, false) := by
  intro d
  induction d with
  | nil => intro acc _; simp [bars]
  | cons c d ih =>
    intro acc h
    show (95 :: c :: bars d).foldl _ _ = _
    rw [List.foldl_cons, List.foldl_cons, step_bar hb, step_dig (h c (by simp)), ih _ (fun x hx => h x (by simp [hx]))]
    simp
/-- A _ between each two digits. -/
def sep : List UInt8 → List UInt8
  | [] => []
  | c :: d => c :: bars d
theorem jAll_digs {base : Int} {d : List UInt8} (h : Digs base d) (h0 : d ≠ []) : jAll base d = some (d, false) := fold_digs d [] true h h0
theorem jAll_sep {base : Int} (hb : base ≤ 16) {d : List UInt8} (h : Digs base d) (h0 : d ≠ []) : jAll base (sep d) = some (d, false) := by
  cases d with
  | nil => exact absurd rfl h0
  | cons c d =>
    show (bars d).foldl _ (jStep base (some ([], true)) c) = _
    rw [step_dig (h c (by simp)), fold_bars hb _ _ (fun x hx => h x (by simp [hx]))]
    rfl
theorem jAll_bar {base : Int} (hb : base ≤ 16) {x d : List UInt8} (h : jAll base x = some (d, false)) : jAll base (x ++ [95]) = some (d, true) := by
  unfold jAll at h ⊢
  rw [List.foldl_append, h]
  exact step_bar hb
theorem jAll_bad {base : Int} (hb : base ≤ 16) (x : List UInt8) : jAll base (x ++ [103]) = none := by
  unfold jAll
  rw [List.foldl_append]
  cases x.foldl (jStep base) (some ([], true)) with
  | none => rfl
  | some p => obtain ⟨d, a⟩ := p; exact step_bad hb
/-- What is read are digits. -/
theorem read_digs {base : Int} : ∀ (l acc d : List UInt8) (a b : Bool), l.foldl (jStep base) (some (acc, a)) = some (d, b) → Digs base acc → Digs base d ∧ ∃ r, d = acc ++ r := by
  intro l
  induction l with
  | nil => intro acc d a b h hd; cases h; exact ⟨hd, [], by simp⟩
  | cons c l ih =>
    intro acc d a b h hd
    rw [List.foldl_cons] at h
    by_cases hc : isDig base c = true
    · rw [step_dig hc] at h
      obtain ⟨h1, r, h2⟩ := ih _ _ _ _ h (fun x hx => by simp at hx; rcases hx with hx | rfl; exact hd x hx; exact hc)
      exact ⟨h1, c :: r, by rw [h2]; simp⟩
    · by_cases hb : c = 95 ∧ a = false
      · have e : jStep base (some (acc, a)) c = some (acc, true) := by simp only [jStep]; rw [if_neg hc, if_pos hb]
        rw [e] at h
        exact ih _ _ _ _ h hd
      · have e : jStep base (some (acc, a)) c = none := by simp only [jStep]; rw [if_neg hc, if_neg hb]
        rw [e, fold_none] at h
        cases h
/-- The first digit is the first byte. -/
theorem read_head {base : Int} {l d : List UInt8} (h : jAll base l = some (d, false)) : ∃ c r r', l = c :: r ∧ d = c :: r' := by
  cases l with
  | nil => cases h
  | cons c l =>
    unfold jAll at h
    rw [List.foldl_cons] at h
    by_cases hc : isDig base c = true
    · rw [step_dig hc] at h
      obtain ⟨_, r, h2⟩ := read_digs l [c] d false false h (fun x hx => by simp at hx; rw [hx]; exact hc)
      exact ⟨c, l, r, rfl, h2⟩
    · have e : jStep base (some ([], true)) c = none := by simp only [jStep]; rw [if_neg hc, if_neg (by simp)]
      rw [e, fold_none] at h
      cases h
theorem num_some {l : List UInt8} {d : List UInt8} (h : jAll (prefixOf l).1 (restOf l) = some (d, false)) : numOf l = ((prefixOf l).1, d, true) := by rw [num_all, h]
theorem num_none {l : List UInt8} (h : ∀ d, jAll (prefixOf l).1 (restOf l) ≠ some (d, false)) : numOf l = (0, [], false) := by
  rw [num_all]
  cases hj : jAll ((prefixOf l).1 : Int) (restOf l) with
  | none => rfl
  | some p =>
    obtain ⟨d, a⟩ := p
    cases a with
    | false => exact absurd hj (h d)
    | true => rfl
/-- What a number's digits are. -/
theorem num_digits {l : List UInt8} {b : Nat} {d : List UInt8} (h : numOf l = (b, d, true)) : Digs b d ∧ d ≠ [] ∧ (b = 2 ∨ b = 8 ∨ b = 16 ∨ b = 10 ∧ (d.length = 1 ∨ d.head? ≠ some 48)) := by
  rw [num_all] at h
  cases hj : jAll ((prefixOf l).1 : Int) (restOf l) with
  | none => rw [hj] at h; cases h
  | some p =>
    obtain ⟨d', a⟩ := p
    rw [hj] at h
    cases a with
    | true => cases h
    | false =>
      have e1 : (prefixOf l).1 = b := congrArg Prod.fst h
      have e2 : d' = d := congrArg (fun x => x.2.1) h
      subst e2
      obtain ⟨c, r, r', hl, hd⟩ := read_head hj
      refine ⟨?_, by rw [hd]; simp, ?_⟩
      · rw [← e1]
        exact (read_digs _ [] _ _ _ hj (fun x hx => by cases hx)).1
      · by_cases h2 : l.length < 2
        · have hp := prefix_short h2
          rw [hp] at e1
          refine .inr (.inr (.inr ⟨e1.symm, .inl ?_⟩))
          have hr : restOf l = l := by unfold restOf; rw [hp]; rfl
          rw [hr] at hl hj
          obtain rfl : r = [] := List.eq_nil_of_length_eq_zero (by rw [hl] at h2; simp at h2; omega)
          rw [hp, hl] at hj
          unfold jAll at hj
          rw [List.foldl_cons, List.foldl_nil] at hj
          by_cases hc : isDig ((10 : Nat) : Int) c = true
          · rw [step_dig hc] at hj
            have := congrArg Prod.fst (Option.some.inj hj)
            simp at this
            rw [← this]; rfl
          · have e : jStep ((10 : Nat) : Int) (some ([], true)) c = none := by simp only [jStep]; rw [if_neg hc, if_neg (by simp)]
            rw [e] at hj
            cases hj
        · have hp := prefix_long (l := l) (by omega)
          by_cases ha : l[0] = 48
          · rw [if_pos ha] at hp
            have e3 := congrArg Prod.fst hp
            rw [e1] at e3
            revert e3
            repeat' split
            all_goals (intro e3; subst e3; simp)
          · rw [if_neg ha] at hp
            rw [hp] at e1
            refine .inr (.inr (.inr ⟨e1.symm, .inr ?_⟩))
            have hr : restOf l = l := by unfold restOf; rw [hp]; rfl
            rw [hr] at hl
            rw [hd]
            simp only [hl, List.getElem_cons_zero] at ha
            simpa using ha
end Go.Proofs.YtbmmbaagcglomaaDoor.tok
