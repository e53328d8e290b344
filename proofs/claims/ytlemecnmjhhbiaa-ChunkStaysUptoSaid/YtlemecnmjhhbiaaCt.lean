/-
  Layer 4: tokens put in the place of another one, within a region (plain).
-/
import Derived.Test.YtlemecnmjhhbiaaCq
namespace Go.Proofs.Ytlemecnmjhhbiaa.ck

theorem weigh_take_drop (C : List Tk) (fr : Nat) (t : Tk) (h : fr ≤ C.length) : weigh ((C ++ [t]).drop fr) = (weigh (C.drop fr) || !triv t.k) := by
  rw [List.drop_append_of_le_length h, weigh_append, weigh_cons, weigh_nil, Bool.or_false]
/-- What has come when a list has been gone through, where one stands, and whether there was a significant token since. -/
theorem rcut_through (T : List Tk) : ∀ (C : List Tk) (fr d : Nat), fr ≤ C.length →
    ∃ (O : List Sn) (fr' d' : Nat), fr' ≤ C.length + T.length ∧ (∀ x ∈ O, x.b ≤ ((C.length + T.length : Nat) : Int)) ∧ ∀ B, rcut fr C.length d (weigh (C.drop fr)) (T ++ B) = O ++ rcut fr' (C.length + T.length) d' (weigh ((C ++ T).drop fr')) B := by
  induction T with
  | nil =>
    intro C fr d h
    exact ⟨[], fr, d, by simpa using h, by simp, fun B => by simp⟩
  | cons t r ih =>
    intro C fr d h
    have e : (C ++ [t]).length = C.length + 1 := by simp
    have e2 : C.length + 1 + r.length = C.length + (t :: r).length := by rw [List.length_cons]; omega
    have e3 : (C ++ [t]) ++ r = C ++ t :: r := by simp
    by_cases hs : (semi t.k && d == 0) = true
    · obtain ⟨O, fr', d', g1, g2, g3⟩ := ih (C ++ [t]) (C.length + 1) 0 (by rw [e]; exact Nat.le_refl _)
      rw [e, e2] at g1 g2
      refine ⟨⟨fr, (C.length + 1 : Nat)⟩ :: O, fr', d', g1, ?_, fun B => ?_⟩
      · intro x hx
        rcases List.mem_cons.1 hx with rfl | hx
        · simp only [List.length_cons]; omega
        · exact g2 x hx
      · have g := g3 B
        rw [e, e2, e3, show (C ++ [t]).drop (C.length + 1) = [] from List.drop_of_length_le (by rw [e]; exact Nat.le_refl _), weigh_nil] at g
        rw [List.cons_append, rcut, if_pos hs, g, List.cons_append]
    · obtain ⟨O, fr', d', g1, g2, g3⟩ := ih (C ++ [t]) fr (deep d t.k) (by rw [e]; omega)
      rw [e, e2] at g1 g2
      refine ⟨O, fr', d', g1, g2, fun B => ?_⟩
      have g := g3 B
      rw [e, e2, e3, weigh_take_drop C fr t h] at g
      rw [List.cons_append, rcut, if_neg hs, g]
theorem bear_no {z : Int} (h : bear z = false) : semi z = false ∧ ∀ d, deep d z = d := by
  unfold bear at h
  rw [Bool.or_eq_false_iff, Bool.or_eq_false_iff] at h
  exact ⟨h.2, fun d => by unfold deep; rw [h.1.1, h.1.2]; rfl⟩
theorem rcut_plain (P : List Tk) : ∀ (fr at' d : Nat) (s : Bool) (B : List Tk), (∀ x ∈ P, bear x.k = false) → rcut fr at' d s (P ++ B) = rcut fr (at' + P.length) d (s || weigh P) B := by
  induction P with
  | nil => intro fr at' d s B _; simp [weigh_nil]
  | cons t r ih =>
    intro fr at' d s B h
    obtain ⟨h1, h2⟩ := bear_no (h t (by simp))
    rw [List.cons_append, rcut, h1, Bool.false_and, if_neg (by simp), h2, ih _ _ _ _ _ (fun x hx => h x (by simp [hx])), weigh_cons, List.length_cons, Bool.or_assoc, show at' + 1 + r.length = at' + (r.length + 1) by omega]
theorem stays_plain (X Y P : List Tk) (t : Tk) (ht : bear t.k = false) (hP : ∀ x ∈ P, bear x.k = false) :
    ∃ (O : List Sn) (fr m : Nat) (Z : List Sn), fr ≤ X.length ∧ m ≤ Y.length ∧ (∀ x ∈ O, x.b ≤ (X.length : Int)) ∧
      (regs (X ++ t :: Y) = O ∨ regs (X ++ t :: Y) = O ++ ⟨fr, (X.length + 1 + m : Nat)⟩ :: Z.map (shift (X.length + 1 + m))) ∧
      regs (X ++ (P ++ Y)) = O ++ (if weigh (((X ++ (P ++ Y)).drop fr).take (X.length + P.length + m - fr)) = true then ⟨fr, (X.length + P.length + m : Nat)⟩ :: Z.map (shift (X.length + P.length + m)) else []) ∧
      (weigh (((X ++ (P ++ Y)).drop fr).take (X.length + P.length + m - fr)) = false → Z = []) := by
  obtain ⟨O, fr, d, g1, g2, g3⟩ := rcut_through X [] 0 0 (Nat.le_refl _)
  simp only [List.length_nil, Nat.zero_add, List.nil_append] at g1 g2 g3
  have e0 : ∀ B, regs (X ++ B) = O ++ rcut fr X.length d (weigh (X.drop fr)) B := fun B => g3 B
  have e1 : regs (X ++ t :: Y) = O ++ rcut fr (X.length + 1) d (weigh (X.drop fr) || weigh [t]) Y := by
    have := rcut_plain [t] fr X.length d (weigh (X.drop fr)) Y (fun x hx => by simp at hx; rw [hx]; exact ht)
    rw [e0]
    exact congrArg (O ++ ·) this
  have e2 : regs (X ++ (P ++ Y)) = O ++ rcut fr (X.length + P.length) d (weigh (X.drop fr) || weigh P) Y := by
    rw [e0, rcut_plain P fr X.length d _ Y hP]
  rw [rcut_step] at e1 e2
  have hm := wid_le Y d
  have hsh : ∀ n, rcut n n 0 false (Y.drop (wid d Y)) = (regs (Y.drop (wid d Y))).map (shift n) := fun n => by
    have := rcut_shift n (Y.drop (wid d Y)) 0 0 0 false
    rw [Nat.zero_add] at this
    exact this
  rw [hsh] at e1 e2
  have hw : weigh (((X ++ (P ++ Y)).drop fr).take (X.length + P.length + wid d Y - fr)) = (weigh (X.drop fr) || weigh P || weigh (Y.take (wid d Y))) := by
    rw [List.drop_append_of_le_length g1, List.take_append, List.take_of_length_le (by rw [List.length_drop]; omega), List.length_drop, List.take_append, List.take_of_length_le (l := P) (by omega), weigh_append, weigh_append, Bool.or_assoc]
    rw [show X.length + P.length + wid d Y - fr - (X.length - fr) - P.length = wid d Y by omega]
  have hz : weigh (Y.take (wid d Y)) = false → regs (Y.drop (wid d Y)) = [] := fun h => by
    rcases Nat.lt_or_ge (wid d Y) Y.length with h2 | h2
    · obtain ⟨t', h3, h4⟩ := wid_semi Y d h2
      have hne : Y ≠ [] := by intro e; rw [e] at h2; simp at h2
      have hwp := wid_pos d hne
      have := weigh_at (T := Y.take (wid d Y)) (n := wid d Y - 1) (t := t') (by rw [List.getElem?_take, if_pos (by omega)]; exact h3) (triv_semi h4)
      rw [h] at this
      cases this
    · rw [List.drop_of_length_le h2]
      rfl
  refine ⟨O, fr, wid d Y, regs (Y.drop (wid d Y)), g1, hm, g2, ?_, ?_, ?_⟩
  · rw [e1]
    by_cases h : (weigh (X.drop fr) || weigh [t] || weigh (Y.take (wid d Y))) = true
    · rw [if_pos h]; exact .inr rfl
    · rw [if_neg h, List.append_nil]; exact .inl rfl
  · rw [hw]; exact e2
  · rw [hw]
    intro h
    rw [Bool.or_eq_false_iff] at h
    exact hz h.2
theorem toN_all (x : Int) (O R : List Sn) (h : ∀ s ∈ O, s.b ≤ x) : toN x (O ++ R) = O.length + toN x R := by
  induction O with
  | nil => simp
  | cons s r ih =>
    rw [List.cons_append, toN, if_pos (h s (by simp)), ih (fun y hy => h y (by simp [hy])), List.length_cons]
    omega
theorem split_at (T : List Tk) (a : Nat) (h : a < T.length) : T = T.take a ++ T[a] :: T.drop (a + 1) := by
  rw [← List.drop_eq_getElem_cons h, List.take_append_drop]
theorem stays_at (O Z : List Sn) (fr zt hi lk i : Nat) (h : (hi : Int) = (zt : Int) + ((lk : Int) - 1)) (h1 : i < (O ++ ⟨fr, zt⟩ :: Z.map (shift zt)).length) (h2 : i < (O ++ ⟨fr, hi⟩ :: Z.map (shift hi)).length) :
    ((O ++ ⟨fr, hi⟩ :: Z.map (shift hi))[i]'h2).a = ((O ++ ⟨fr, zt⟩ :: Z.map (shift zt))[i]'h1).a + (if O.length < i then (lk : Int) - 1 else 0) ∧ ((O ++ ⟨fr, hi⟩ :: Z.map (shift hi))[i]'h2).b = ((O ++ ⟨fr, zt⟩ :: Z.map (shift zt))[i]'h1).b + (if O.length ≤ i then (lk : Int) - 1 else 0) := by
  rcases Nat.lt_trichotomy i O.length with hlt | heq | hgt
  · rw [List.getElem_append_left hlt, List.getElem_append_left hlt, if_neg (by omega), if_neg (by omega)]
    omega
  · subst heq
    rw [List.getElem_append_right (Nat.le_refl _), List.getElem_append_right (Nat.le_refl _), if_neg (by omega), if_pos (by omega)]
    simp only [Nat.sub_self, List.getElem_cons_zero]
    omega
  · obtain ⟨j, rfl⟩ : ∃ j, i = O.length + (j + 1) := ⟨i - O.length - 1, by omega⟩
    rw [List.getElem_append_right (by omega), List.getElem_append_right (by omega), if_pos (by omega), if_pos (by omega)]
    simp only [Nat.add_sub_cancel_left, List.getElem_cons_succ, List.getElem_map, shift]
    omega
end Go.Proofs.Ytlemecnmjhhbiaa.ck
