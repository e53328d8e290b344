/-
  Layer 8: trees are described alike just if they have one number.
-/
import Derived.Test.YtnnffcfdokejbaaUe
namespace Go.Proofs.Ytnnffcfdokejbaa.rd
open Go.RowKit

def isDig (c : UInt8) : Bool := decide (48 ≤ c.toNat) && decide (c.toNat ≤ 57)
theorem dig_is : ∀ m : Nat, m < 10 → isDig (48 + UInt8.ofNat m) = true ∧ (48 + UInt8.ofNat m).toNat = 48 + m := by decide
theorem digN_dig (n : Nat) : ∀ c ∈ digN n, isDig c = true := by
  induction n using Nat.strongRecOn with
  | _ n ih =>
  rw [digN]
  split
  · rename_i h
    intro c hc
    obtain rfl := List.mem_singleton.1 hc
    exact (dig_is n h).1
  · rename_i h
    intro c hc
    rcases List.mem_append.1 hc with hc | hc
    · exact ih (n / 10) (by omega) c hc
    · obtain rfl := List.mem_singleton.1 hc
      exact (dig_is (n % 10) (by omega)).1
/-- What digits say. -/
def digV (l : List UInt8) : Nat := l.foldl (fun v c => v * 10 + (c.toNat - 48)) 0
theorem digV_digN (n : Nat) : digV (digN n) = n := by
  induction n using Nat.strongRecOn with
  | _ n ih =>
  rw [digN]
  split
  · rename_i h
    unfold digV
    simp only [List.foldl_cons, List.foldl_nil, (dig_is n h).2]
    omega
  · rename_i h
    have := ih (n / 10) (by omega)
    unfold digV at this ⊢
    rw [List.foldl_append, this]
    simp only [List.foldl_cons, List.foldl_nil, (dig_is (n % 10) (by omega)).2]
    omega
theorem split_dig : ∀ (a b : List UInt8) (x y : UInt8) (r q : List UInt8), (∀ c ∈ a, isDig c = true) → (∀ c ∈ b, isDig c = true) → isDig x = false → isDig y = false → a ++ x :: r = b ++ y :: q → a = b ∧ x :: r = y :: q
  | [], [], _, _, _, _, _, _, _, _, h => ⟨rfl, h⟩
  | [], c :: b, x, y, r, q, _, hb, hx, _, h => by
    have e : x = c := (List.cons.inj h).1
    rw [e, hb c (by simp)] at hx
    cases hx
  | c :: a, [], x, y, r, q, ha, _, _, hy, h => by
    have e : c = y := (List.cons.inj h).1
    rw [← e, ha c (by simp)] at hy
    cases hy
  | c :: a, d :: b, x, y, r, q, ha, hb, hx, hy, h => by
    obtain ⟨e1, e2⟩ := List.cons.inj h
    obtain ⟨e3, e4⟩ := split_dig a b x y r q (fun z hz => ha z (by simp [hz])) (fun z hz => hb z (by simp [hz])) hx hy e2
    exact ⟨by rw [e1, e3], e4⟩
theorem dig_split {a b : Int} (ha : 0 ≤ a) (hb : 0 ≤ b) {x y : UInt8} {r q : List UInt8} (hx : isDig x = false) (hy : isDig y = false) (h : digI a ++ x :: r = digI b ++ y :: q) : a = b ∧ x :: r = y :: q := by
  unfold digI at h
  rw [if_neg (by omega), if_neg (by omega)] at h
  obtain ⟨e1, e2⟩ := split_dig _ _ _ _ _ _ (digN_dig _) (digN_dig _) hx hy h
  have := congrArg digV e1
  rw [digV_digN, digV_digN] at this
  exact ⟨by omega, e2⟩
/-- What stands behind a kind. -/
def restT (s : List UInt8) (k i j : Int) (u : List UInt8) : List UInt8 := if leafK k then 58 :: (digI (j - i) ++ 58 :: ((s.drop i.toNat).take (j.toNat - i.toNat) ++ u)) else u
theorem shapeT_rest (s : List UInt8) (k i j : Int) (l : List Tree) (r : List UInt8) : shapeT s (.mk k i j l) ++ r = 40 :: (digI k ++ restT s k i j (shapeTs s l ++ 41 :: r)) := by
  rw [shapeT]
  unfold restT
  cases leafK k <;> simp
theorem shapeTs_head (s : List UInt8) (l : List Tree) (r : List UInt8) : ∃ x q, shapeTs s l ++ 41 :: r = x :: q ∧ isDig x = false := by
  cases l with
  | nil => exact ⟨41, r, by rw [shapeTs]; rfl, by decide⟩
  | cons t l =>
    obtain ⟨k, i, j, l'⟩ := t
    rw [shapeTs, List.append_assoc, shapeT_rest]
    exact ⟨40, _, rfl, by decide⟩
theorem restT_head (s : List UInt8) (k i j : Int) (l : List Tree) (r : List UInt8) : ∃ x q, restT s k i j (shapeTs s l ++ 41 :: r) = x :: q ∧ isDig x = false := by
  unfold restT
  split
  · exact ⟨58, _, rfl, by decide⟩
  · exact shapeTs_head s l r
mutual
theorem shape_is {s s' : ByteArray} {L : List Gr} (hL : GoodL L) (hO : Once L) : ∀ (t t' : Tree) (id id' : Nat) (r r' : List UInt8), fitT s.size t = true → fitT s'.size t' = true → Is s L t id → Is s' L t' id' → shapeT s.data.toList t ++ r = shapeT s'.data.toList t' ++ r' → id = id' ∧ r = r'
  | .mk k i j l, .mk k' i' j' l', id, id', r, r', hf, hf', hi, hi', h => by
    obtain ⟨hk, h0, hij, hjN, hl⟩ := fitT_node hf
    obtain ⟨hk', h0', hij', hjN', hl'⟩ := fitT_node hf'
    rw [Is] at hi hi'
    obtain ⟨ids, g1, g2⟩ := hi
    obtain ⟨ids', g1', g2'⟩ := hi'
    rw [shapeT_rest, shapeT_rest] at h
    have h1 := (List.cons.inj h).2
    obtain ⟨x, q, ex, hx⟩ := restT_head s.data.toList k i j l r
    obtain ⟨y, q', ey, hy⟩ := restT_head s'.data.toList k' i' j' l' r'
    rw [ex, ey] at h1
    obtain ⟨e1, e2⟩ := dig_split (by omega) (by omega) hx hy h1
    rw [← ex, ← ey, ← e1] at e2
    subst e1
    obtain ⟨hlt, hge⟩ := List.getElem?_eq_some_iff.1 g1
    obtain ⟨hlt', hge'⟩ := List.getElem?_eq_some_iff.1 g1'
    have hg := hL.all id hlt
    have hg' := hL.all id' hlt'
    rw [hge] at hg
    rw [hge'] at hg'
    unfold restT at e2
    cases hlf : leafK k with
    | true =>
      rw [hlf, if_pos rfl, if_pos rfl] at e2
      obtain ⟨e3, e4⟩ := dig_split (by omega) (by omega) (by decide) (by decide) (List.cons.inj e2).2
      have e5 := (List.cons.inj e4).2
      have hs1 := sub_len s h0 hij hjN
      have hs2 := sub_len s' h0' hij' hjN'
      obtain ⟨e6, e7⟩ := List.append_inj e5 (by show (sub s i j).length = (sub s' i' j').length; omega)
      obtain ⟨e8, e9⟩ := shapes_is hL hO l l' ids ids' r r' hl hl' g2 g2' e7
      refine ⟨hO id id' _ g1 ?_, e9⟩
      rw [g1', e8]
      have : sub s i j = sub s' i' j' := e6
      rw [this]
    | false =>
      rw [hlf] at e2
      simp only [Bool.false_eq_true, if_false] at e2
      obtain ⟨e8, e9⟩ := shapes_is hL hO l l' ids ids' r r' hl hl' g2 g2' e2
      have n1 : sub s i j = cat L ids := hg.node hlf
      have n2 : sub s' i' j' = cat L ids' := hg'.node hlf
      refine ⟨hO id id' _ g1 ?_, e9⟩
      rw [g1', n1, n2, e8]
theorem shapes_is {s s' : ByteArray} {L : List Gr} (hL : GoodL L) (hO : Once L) : ∀ (l l' : List Tree) (ids ids' : List Int) (r r' : List UInt8), (∀ t ∈ l, fitT s.size t = true) → (∀ t ∈ l', fitT s'.size t = true) → Iss s L l ids → Iss s' L l' ids' → shapeTs s.data.toList l ++ 41 :: r = shapeTs s'.data.toList l' ++ 41 :: r' → ids = ids' ∧ r = r'
  | [], [], ids, ids', r, r', _, _, hi, hi', h => by
    rw [Iss] at hi hi'
    rw [shapeTs, shapeTs] at h
    exact ⟨by rw [hi, hi'], (List.cons.inj h).2⟩
  | [], .mk k i j m :: l', ids, ids', r, r', _, _, _, _, h => by
    rw [shapeTs, shapeTs, List.append_assoc, shapeT_rest] at h
    have : (41 : UInt8) = 40 := (List.cons.inj h).1
    cases this
  | .mk k i j m :: l, [], ids, ids', r, r', _, _, _, _, h => by
    rw [shapeTs, shapeTs, List.append_assoc, shapeT_rest] at h
    have : (40 : UInt8) = 41 := (List.cons.inj h).1
    cases this
  | t :: l, t' :: l', ids, ids', r, r', hf, hf', hi, hi', h => by
    rw [Iss] at hi hi'
    obtain ⟨x, q, rfl, g2, g3⟩ := hi
    obtain ⟨x', q', rfl, g2', g3'⟩ := hi'
    rw [shapeTs, shapeTs, List.append_assoc, List.append_assoc] at h
    obtain ⟨e1, e2⟩ := shape_is hL hO t t' x x' _ _ (hf t (by simp)) (hf' t' (by simp)) g2 g2' h
    obtain ⟨e3, e4⟩ := shapes_is hL hO l l' q q' r r' (fun u hu => hf u (by simp [hu])) (fun u hu => hf' u (by simp [hu])) g3 g3' e2
    exact ⟨by rw [e1, e3], e4⟩
end
mutual
theorem is_shape {s s' : ByteArray} {L : List Gr} : ∀ (t t' : Tree) (id : Nat), fitT s.size t = true → fitT s'.size t' = true → Is s L t id → Is s' L t' id → shapeT s.data.toList t = shapeT s'.data.toList t'
  | .mk k i j l, .mk k' i' j' l', id, hf, hf', hi, hi' => by
    obtain ⟨hk, h0, hij, hjN, hl⟩ := fitT_node hf
    obtain ⟨hk', h0', hij', hjN', hl'⟩ := fitT_node hf'
    rw [Is] at hi hi'
    obtain ⟨ids, g1, g2⟩ := hi
    obtain ⟨ids', g1', g2'⟩ := hi'
    rw [g1] at g1'
    have e := Option.some.inj g1'
    simp only [Gr.mk.injEq] at e
    obtain ⟨rfl, e2, rfl⟩ := e
    have e3 := B_inj e2
    have hs1 := sub_len s h0 hij hjN
    have hs2 := sub_len s' h0' hij' hjN'
    rw [e3] at hs1
    have e4 : (s.data.toList.drop i.toNat).take (j.toNat - i.toNat) = (s'.data.toList.drop i'.toNat).take (j'.toNat - i'.toNat) := e3
    rw [shapeT, shapeT, e4, show j - i = j' - i' by omega, is_shapes l l' ids hl hl' g2 g2']
theorem is_shapes {s s' : ByteArray} {L : List Gr} : ∀ (l l' : List Tree) (ids : List Int), (∀ t ∈ l, fitT s.size t = true) → (∀ t ∈ l', fitT s'.size t = true) → Iss s L l ids → Iss s' L l' ids → shapeTs s.data.toList l = shapeTs s'.data.toList l'
  | [], [], _, _, _, _, _ => by rw [shapeTs, shapeTs]
  | [], t' :: l', ids, _, _, hi, hi' => by
    rw [Iss] at hi
    rw [Iss] at hi'
    obtain ⟨x, q, h, _⟩ := hi'
    rw [hi] at h
    cases h
  | t :: l, [], ids, _, _, hi, hi' => by
    rw [Iss] at hi
    rw [Iss] at hi'
    obtain ⟨x, q, h, _⟩ := hi
    rw [hi'] at h
    cases h
  | t :: l, t' :: l', ids, hf, hf', hi, hi' => by
    rw [Iss] at hi hi'
    obtain ⟨x, q, h, g2, g3⟩ := hi
    obtain ⟨x', q', h', g2', g3'⟩ := hi'
    rw [h] at h'
    obtain ⟨e1, rfl⟩ := List.cons.inj h'
    obtain rfl : x = x' := by omega
    rw [shapeTs, shapeTs, is_shape t t' x (hf t (by simp)) (hf' t' (by simp)) g2 g2', is_shapes l l' q (fun u hu => hf u (by simp [hu])) (fun u hu => hf' u (by simp [hu])) g3 g3']
end
end Go.Proofs.Ytnnffcfdokejbaa.rd
