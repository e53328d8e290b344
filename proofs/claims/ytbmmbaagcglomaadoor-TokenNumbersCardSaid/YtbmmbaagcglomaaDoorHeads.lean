/-
  The heads of numbers written anew.
-/
import Derived.Test.YtbmmbaagcglomaaDoorNumFacts
import Derived.Test.YtbmmbaagcglomaaDoorRefDigits
import Derived.Test.YtbmmbaagcglomaaDoorNum
namespace Go.Proofs.YtbmmbaagcglomaaDoor.tok
open Go.RowKit

def tOf (h d : List UInt8) : List UInt8 := if h = [] then sep d else h ++ bars d
structure GoodHead (b : Nat) (d h : List UInt8) : Prop where
  anew : numOf (tOf h d) = (b, d, true)
  plain : numOf (h ++ d) = (b, d, true)
  bar : numOf (tOf h d ++ [95]) = (0, [], false)
  bad : numOf (tOf h d ++ [103]) = (0, [], false)
theorem dig_ne {b : Int} {c : UInt8} (hb : b ≤ 16) (h : isDig b c = true) : c ≠ 95 := by
  intro e
  subst e
  have := (isDig_bounds h).2
  rw [show digZ ((95 : UInt8).toNat : Int) 16 = 16 from by decide] at this
  omega
theorem rest_of {l : List UInt8} {b n : Nat} (hp : prefixOf l = (b, n)) : restOf l = if 0 < n then Lib.trimPrefix (l.drop n) [95] else l.drop n := by
  unfold restOf; rw [hp]
theorem num_of {l r d : List UInt8} {b n : Nat} (hp : prefixOf l = (b, n)) (hr : restOf l = r) (h : jAll b r = some (d, false)) : numOf l = (b, d, true) := by
  have := num_some (l := l) (d := d) (by rw [hp, hr]; exact h)
  rwa [hp] at this
theorem num_no {l r : List UInt8} {b n : Nat} (hp : prefixOf l = (b, n)) (hr : restOf l = r) (h : ∀ d, jAll b r ≠ some (d, false)) : numOf l = (0, [], false) :=
  num_none (by rw [hp, hr]; exact h)
theorem no_bar {b : Int} (hb : b ≤ 16) {x d : List UInt8} (h : jAll b x = some (d, false)) : ∀ e, jAll b (x ++ [95]) ≠ some (e, false) := fun e g => by
  rw [jAll_bar hb h] at g; cases g
theorem no_bad {b : Int} (hb : b ≤ 16) (x : List UInt8) : ∀ e, jAll b (x ++ [103]) ≠ some (e, false) := fun e g => by
  rw [jAll_bad hb x] at g; cases g
theorem bars_sep {d : List UInt8} (h : d ≠ []) : bars d = 95 :: sep d := by
  cases d with
  | nil => exact absurd rfl h
  | cons c d => rfl

/-- A head of n bytes, whatever stands behind it as the second byte. -/
theorem head_any {b n : Nat} {d h : List UInt8} (hb : b ≤ 16) (hd : Digs b d) (h0 : d ≠ []) (hh : h ≠ []) (hn : h.length = n)
    (hp : ∀ r c, (c = 95 ∨ isDig b c = true) → prefixOf (h ++ c :: r) = (b, n)) : GoodHead b d h := by
  have hn0 : 0 < n := by rw [← hn]; cases h with | nil => exact absurd rfl hh | cons => simp
  have ht : tOf h d = h ++ 95 :: sep d := by unfold tOf; rw [if_neg hh, bars_sep h0]
  have hb' : (b : Int) ≤ 16 := by omega
  have hs := jAll_sep hb' hd h0
  have drop : ∀ r : List UInt8, (h ++ r).drop n = r := fun r => by rw [← hn]; simp
  have rest : ∀ r : List UInt8, restOf (h ++ 95 :: r) = r := fun r => by
    rw [rest_of (hp r 95 (.inl rfl)), if_pos hn0, drop, trim_on rfl]
  refine ⟨?_, ?_, ?_, ?_⟩
  · rw [ht]
    exact num_of (hp _ 95 (.inl rfl)) (rest _) hs
  · cases d with
    | nil => exact absurd rfl h0
    | cons c d =>
      have hc := hd c (by simp)
      refine num_of (hp d c (.inr hc)) ?_ (jAll_digs hd h0)
      rw [rest_of (hp d c (.inr hc)), if_pos hn0, drop, trim_off (dig_ne hb' hc)]
  · rw [ht, List.append_assoc]
    exact num_no (hp _ 95 (.inl rfl)) (rest _) (no_bar hb' hs)
  · rw [ht, List.append_assoc]
    exact num_no (hp _ 95 (.inl rfl)) (rest _) (no_bad hb' _)
theorem prefix_cons (a c : UInt8) (r : List UInt8) : prefixOf (a :: c :: r) = if a = 48 then (if c = 98 ∨ c = 66 then (2, 2) else if c = 111 ∨ c = 79 then (8, 2) else if c = 120 ∨ c = 88 then (16, 2) else (8, 1)) else (10, 0) := rfl
theorem oct_letter {c : UInt8} (h : c = 95 ∨ isDig 8 c = true) : ¬ (c = 98 ∨ c = 66) ∧ ¬ (c = 111 ∨ c = 79) ∧ ¬ (c = 120 ∨ c = 88) := by
  have all : ∀ k : Fin 256, (UInt8.ofNat k.val = 95 ∨ isDig 8 (UInt8.ofNat k.val) = true) → ¬ (UInt8.ofNat k.val = 98 ∨ UInt8.ofNat k.val = 66) ∧ ¬ (UInt8.ofNat k.val = 111 ∨ UInt8.ofNat k.val = 79) ∧ ¬ (UInt8.ofNat k.val = 120 ∨ UInt8.ofNat k.val = 88) := by decide +kernel
  have := all ⟨c.toNat, UInt8.toNat_lt c⟩
  simp only [UInt8.ofNat_toNat] at this
  exact this h
theorem head_two {d : List UInt8} (hd : Digs 2 d) (h0 : d ≠ []) : ∀ k, k < 2 → GoodHead 2 d (([[48, 98], [48, 66]] : List (List UInt8)).getD k []) := by
  intro k hk
  match k, hk with
  | 0, _ => exact head_any (n := 2) (by omega) hd h0 (by simp) rfl (fun r c _ => rfl)
  | 1, _ => exact head_any (n := 2) (by omega) hd h0 (by simp) rfl (fun r c _ => rfl)
theorem head_eight {d : List UInt8} (hd : Digs 8 d) (h0 : d ≠ []) : ∀ k, k < 3 → GoodHead 8 d (([[48, 111], [48, 79], [48]] : List (List UInt8)).getD k []) := by
  intro k hk
  match k, hk with
  | 0, _ => exact head_any (n := 2) (by omega) hd h0 (by simp) rfl (fun r c _ => rfl)
  | 1, _ => exact head_any (n := 2) (by omega) hd h0 (by simp) rfl (fun r c _ => rfl)
  | 2, _ =>
    refine head_any (n := 1) (by omega) hd h0 (by simp) rfl (fun r c hc => ?_)
    obtain ⟨h1, h2, h3⟩ := oct_letter hc
    show prefixOf (48 :: c :: r) = _
    rw [prefix_cons, if_pos rfl, if_neg h1, if_neg h2, if_neg h3]
theorem head_sixteen {d : List UInt8} (hd : Digs 16 d) (h0 : d ≠ []) : ∀ k, k < 2 → GoodHead 16 d (([[48, 120], [48, 88]] : List (List UInt8)).getD k []) := by
  intro k hk
  match k, hk with
  | 0, _ => exact head_any (n := 2) (by omega) hd h0 (by simp) rfl (fun r c _ => rfl)
  | 1, _ => exact head_any (n := 2) (by omega) hd h0 (by simp) rfl (fun r c _ => rfl)
theorem prefix_ten {c : UInt8} {r : List UInt8} (h : r = [] ∨ c ≠ 48) : prefixOf (c :: r) = (10, 0) := by
  cases r with
  | nil => rfl
  | cons x r =>
    rw [prefix_cons, if_neg (h.resolve_left (by simp))]
theorem head_ten {d : List UInt8} (hd : Digs 10 d) (h0 : d ≠ []) (h1 : d.length = 1 ∨ d.head? ≠ some 48) : GoodHead 10 d [] := by
  have hs := jAll_sep (base := 10) (by omega) hd h0
  have ht : tOf [] d = sep d := by unfold tOf; rw [if_pos rfl]
  cases d with
  | nil => exact absurd rfl h0
  | cons c d =>
    have hc : d = [] ∨ c ≠ 48 := by
      rcases h1 with h1 | h1
      · left; exact List.eq_nil_of_length_eq_zero (by simpa using h1)
      · right; simpa using h1
    have hsep : sep (c :: d) = c :: bars d := rfl
    have hc' : bars d = [] ∨ c ≠ 48 := by
      rcases hc with rfl | h
      · left; rfl
      · exact .inr h
    have rest : ∀ r : List UInt8, (r = [] ∨ c ≠ 48) → restOf (c :: r) = c :: r := fun r h => by rw [rest_of (prefix_ten h)]; rfl
    refine ⟨?_, ?_, ?_, ?_⟩
    · rw [ht, hsep]
      exact num_of (prefix_ten hc') (rest _ hc') (by rw [← hsep]; exact hs)
    · exact num_of (prefix_ten hc) (rest _ hc) (jAll_digs hd h0)
    · rw [ht, hsep, List.cons_append]
      by_cases h48 : c = 48
      · subst h48
        obtain rfl : d = [] := hc.resolve_right (by simp)
        decide +kernel
      · exact num_no (prefix_ten (.inr h48)) (rest _ (.inr h48)) (by rw [← List.cons_append, ← hsep]; exact no_bar (by omega) hs)
    · rw [ht, hsep, List.cons_append]
      by_cases h48 : c = 48
      · subst h48
        obtain rfl : d = [] := hc.resolve_right (by simp)
        decide +kernel
      · exact num_no (prefix_ten (.inr h48)) (rest _ (.inr h48)) (by rw [← List.cons_append, ← hsep]; exact no_bad (by omega) _)
end Go.Proofs.YtbmmbaagcglomaaDoor.tok
