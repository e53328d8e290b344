/-
  Plain: edits done from the last one to the first one are the edits done at once.
-/
import Derived.Test.YteocdcknfhlfgaaApplies
namespace Go.Proofs.Yteocdcknfhlfgaa.buf
open Go.RowKit

theorem order_at {n : Nat} : ∀ {l : List Ed} {c : Int}, orderB n c l = true → 0 ≤ c → ∀ k (hk : k < l.length), 0 ≤ l[k].a ∧ c ≤ l[k].a ∧ l[k].a ≤ l[k].b ∧ l[k].b ≤ n ∧ orderB n l[k].b (l.drop (k + 1)) = true := by
  intro l
  induction l with
  | nil => intro c _ _ k hk; simp at hk
  | cons e r ih =>
    intro c h h0 k hk
    obtain ⟨a, b, d, g, o⟩ := order_cons h
    cases k with
    | zero => exact ⟨a, g, b, d, o⟩
    | succ k =>
      obtain ⟨x1, x2, x3, x4, x5⟩ := ih o (by omega) k (by simpa using hk)
      simp only [List.getElem_cons_succ, List.drop_succ_cons]
      exact ⟨x1, by omega, x3, x4, x5⟩
/-- What stands ahead of p, and behind it what the edits make: whatever p ahead of them. -/
theorem split_any (T : List UInt8) (p q : Nat) (r : List Ed) (hpq : p ≤ q) (h : orderB T.length q r = true) : T.take p ++ upd T p r = T.take q ++ upd T q r := by
  cases r with
  | nil => simp only [upd, List.take_append_drop]
  | cons e r =>
    obtain ⟨a, b, d, g, o⟩ := order_cons h
    have key : ∀ x : Nat, x ≤ e.a.toNat → T.take x ++ upd T x (e :: r) = T.take e.a.toNat ++ (e.s.data.toList ++ upd T e.b.toNat r) := by
      intro x hx
      simp only [upd]
      rw [← List.append_assoc, ← List.drop_take]
      congr 1
      conv => rhs; rw [← List.take_append_drop x (T.take e.a.toNat)]
      rw [List.take_take, Nat.min_eq_left hx]
    rw [key p (by omega), key q (by omega)]
/-- Behind the edits from k on, done from the last one down. -/
def Back (T : List UInt8) (l : List Ed) (k : Nat) (S : List UInt8) : Prop := ∀ p : Nat, p ≤ T.length → orderB T.length p (l.drop k) = true → S = T.take p ++ upd T p (l.drop k)
theorem Back.start (T : List UInt8) (l : List Ed) : Back T l l.length T := by
  intro p _ _
  rw [List.drop_length]
  simp only [upd, List.take_append_drop]
theorem Back.step {T : List UInt8} {l : List Ed} {k : Nat} {S : List UInt8} (h : Back T l (k + 1) S) (ho : orderB T.length 0 l = true) (hk : k < l.length) :
    Back T l k (S.take l[k].a.toNat ++ (l[k].s.data.toList ++ S.drop l[k].b.toNat)) ∧ l[k].b.toNat ≤ S.length := by
  obtain ⟨x1, _, x3, x4, x5⟩ := order_at ho (Int.le_refl 0) k hk
  have hS := h l[k].b.toNat (by omega) (by rw [Int.toNat_of_nonneg (by omega)]; exact x5)
  have hlen : (T.take l[k].b.toNat).length = l[k].b.toNat := by rw [List.length_take]; omega
  constructor
  · intro p hp hpo
    rw [drop_head hk] at hpo ⊢
    have e1 : S.take l[k].a.toNat = T.take l[k].a.toNat := by
      rw [hS, List.take_append_of_le_length (by omega), List.take_take, Nat.min_eq_left (by omega)]
    have e2 : S.drop l[k].b.toNat = upd T l[k].b.toNat (l.drop (k + 1)) := by
      rw [hS, List.drop_append_of_le_length (by omega), List.drop_of_length_le (by omega), List.nil_append]
    obtain ⟨_, _, _, g, _⟩ := order_cons hpo
    rw [e1, e2, split_any T p l[k].a.toNat _ (by omega) (by
      rw [Int.toNat_of_nonneg x1]
      simp only [orderB, x5, Bool.and_true, Bool.and_eq_true, decide_eq_true_eq]
      exact ⟨decide_eq_true ⟨x1, x3, x4⟩, Int.le_refl _⟩)]
    simp only [upd, Nat.sub_self, List.take_zero, List.nil_append]
  · rw [hS, List.length_append, hlen]; omega
theorem Back.done {T : List UInt8} {l : List Ed} {S : List UInt8} (h : Back T l 0 S) (ho : orderB T.length 0 l = true) : S = upd T 0 l := by
  have := h 0 (Nat.zero_le _) ho
  simpa using this

/-- How far the reference has gone through what is put in. -/
structure PutFar (n : Nat) (l : List Ed) (k : Nat) (size : Int) : Prop where
  le : k ≤ l.length
  eq : size = (n : Int) - gone l + (put (l.take k) : Int)
  low : 0 ≤ size
  high : size ≤ 16384
theorem PutFar.zero {n : Nat} {l : List Ed} (ho : orderB n 0 l = true) (hn : n ≤ 16384) : PutFar n l 0 ((n : Int) - gone l) := by
  have := order_gone (n := n) (by omega) ho
  exact ⟨Nat.zero_le _, by simp [put], by omega, by omega⟩
theorem PutFar.step {n : Nat} {l : List Ed} {k : Nat} {size : Int} (h : PutFar n l k size) (hk : k < l.length) (hs : (l[k].s.size : Int) ≤ 16384 - size) : PutFar n l (k + 1) (size + (l[k].s.size : Int)) := by
  have hp := put_take l k hk
  have h1 := h.eq
  have h2 := h.low
  exact ⟨hk, by omega, by omega, by omega⟩
theorem PutFar.over {n : Nat} {l : List Ed} {k : Nat} {size : Int} (h : PutFar n l k size) (hk : k < l.length) (hs : ¬ (l[k].s.size : Int) ≤ 16384 - size) : fitsB n l = false := by
  have hp := put_take l k hk
  have hq := put_take_le l (k + 1)
  have h1 := h.eq
  exact decide_eq_false (by omega)
theorem PutFar.last {n : Nat} {l : List Ed} {k : Nat} {size : Int} (h : PutFar n l k size) (hk : ¬ k < l.length) : fitsB n l = true := by
  have h1 := h.eq
  have h2 := h.high
  rw [List.take_of_length_le (by omega)] at h1
  exact decide_eq_true (by omega)
end Go.Proofs.Yteocdcknfhlfgaa.buf
