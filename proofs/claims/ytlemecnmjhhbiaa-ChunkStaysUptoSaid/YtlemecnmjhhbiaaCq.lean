/-
  Layer 4: the regions of two lists, one behind the other (plain).
-/
import Derived.Test.YtlemecnmjhhbiaaCo
namespace Go.Proofs.Ytlemecnmjhhbiaa.ck

def shift (n : Nat) (s : Sn) : Sn := ⟨s.a + (n : Int), s.b + (n : Int)⟩
theorem rcut_shift (n : Nat) (T : List Tk) : ∀ fr at' d s, rcut (fr + n) (at' + n) d s T = (rcut fr at' d s T).map (shift n) := by
  induction T with
  | nil =>
    intro fr at' d s
    cases s <;> simp [rcut, shift]
  | cons t r ih =>
    intro fr at' d s
    rw [rcut, rcut]
    by_cases h : (semi t.k && d == 0) = true
    · rw [if_pos h, if_pos h, List.map_cons, show at' + n + 1 = at' + 1 + n by omega, ih]
      simp [shift]
    · rw [if_neg h, if_neg h, show at' + n + 1 = at' + 1 + n by omega, ih]
/-- What has come when a list has been gone through, and where one stands. -/
theorem rcut_append (T : List Tk) : ∀ fr at' d s, fr ≤ at' → (fr = at' → d = 0 ∧ s = false) →
    ∃ (O : List Sn) (fr' d' : Nat) (s' : Bool), fr' ≤ at' + T.length ∧ (fr' = at' + T.length → d' = 0 ∧ s' = false) ∧ (O = [] → fr' = fr) ∧ (∀ h : O ≠ [], (O.getLast h).b = (fr' : Int)) ∧ ∀ B, rcut fr at' d s (T ++ B) = O ++ rcut fr' (at' + T.length) d' s' B := by
  induction T with
  | nil =>
    intro fr at' d s h1 h2
    exact ⟨[], fr, d, s, by simpa using h1, by simpa using h2, fun _ => rfl, fun h => absurd rfl h, fun B => by simp⟩
  | cons t r ih =>
    intro fr at' d s h1 h2
    by_cases h : (semi t.k && d == 0) = true
    · obtain ⟨O, fr', d', s', g1, g2, g3, g4, g5⟩ := ih (at' + 1) (at' + 1) 0 false (Nat.le_refl _) (fun _ => ⟨rfl, rfl⟩)
      have e : at' + 1 + r.length = at' + (t :: r).length := by rw [List.length_cons]; omega
      rw [e] at g1 g2 g5
      refine ⟨⟨fr, (at' + 1 : Nat)⟩ :: O, fr', d', s', g1, g2, (fun h => by cases h), fun _ => ?_, fun B => ?_⟩
      · by_cases hO : O = []
        · subst hO
          rw [g3 rfl]
          rfl
        · rw [List.getLast_cons hO]
          exact g4 hO
      · rw [List.cons_append, rcut, if_pos h, g5 B, List.cons_append]
    · obtain ⟨O, fr', d', s', g1, g2, g3, g4, g5⟩ := ih fr (at' + 1) (deep d t.k) (s || !triv t.k) (by omega) (fun e => by omega)
      have e : at' + 1 + r.length = at' + (t :: r).length := by rw [List.length_cons]; omega
      rw [e] at g1 g2 g5
      exact ⟨O, fr', d', s', g1, g2, g3, g4, fun B => by rw [List.cons_append, rcut, if_neg h, g5 B]⟩
theorem regs_nil : regs [] = [] := rfl
/-- THE LAYER's THEOREM: behind a region's semicolon the regions of what follows are its own, moved. -/
theorem regs_join (A B : List Tk) (k : Tk) (hk : semi k.k = false ∧ triv k.k = false) (h : A = [] ∨ ∃ hne : regs A ≠ [], ((regs A).getLast hne).b = (A.length : Int) ∧ (regs (A ++ [k])).length = (regs A).length + 1) :
    regs (A ++ B) = regs A ++ (regs B).map (shift A.length) := by
  rcases h with rfl | ⟨hne, hl, hc⟩
  · rw [List.nil_append, regs_nil, List.nil_append, List.length_nil]
    rw [show (regs B).map (shift 0) = regs B from ?_]
    unfold regs
    have := rcut_shift 0 B 0 0 0 false
    simpa using this.symm
  · obtain ⟨O, fr', d', s', g1, g2, g3, g4, g5⟩ := rcut_append A 0 0 0 false (Nat.le_refl _) (fun _ => ⟨rfl, rfl⟩)
    rw [Nat.zero_add] at g1 g2 g5
    have e0 : regs A = O ++ rcut fr' A.length d' s' [] := by
      have := g5 []
      rw [List.append_nil] at this
      exact this
    have e1 : regs (A ++ [k]) = O ++ [⟨fr', (A.length + 1 : Nat)⟩] := by
      show rcut 0 0 0 false (A ++ [k]) = _
      have := g5 [k]
      rw [rcut, hk.1, Bool.false_and, if_neg (by simp), hk.2, rcut] at this
      simpa using this
    have hs : s' = false := by
      cases s' with
      | false => rfl
      | true =>
        rw [e0, e1] at hc
        simp [rcut] at hc
    subst hs
    have e2 : regs A = O := by rw [e0]; simp [rcut]
    have hf : fr' = A.length := by
      have h3 := g4 (by rw [← e2]; exact hne)
      have h4 : ((regs A).getLast hne).b = (fr' : Int) := by
        rw [← h3]
        congr 1
        simp only [e2]
      omega
    obtain ⟨rfl, _⟩ := g2 hf
    subst hf
    have := g5 B
    have sh := rcut_shift A.length B 0 0 0 false
    rw [Nat.zero_add] at sh
    rw [e2]
    show rcut 0 0 0 false (A ++ B) = _
    rw [this, sh]
    rfl
end Go.Proofs.Ytlemecnmjhhbiaa.ck
