/-
  Layer 8: a tree has a number in a pool; put again, moved, told as a tree.
-/
import Derived.Test.YtnnffcfdokejbaaUb
import Derived.Test.YtnnffcfdokejbaaQf
import Derived.Test.YtnnffcfdokejbaaTt
namespace Go.Proofs.Ytnnffcfdokejbaa.rd
open Go.RowKit

mutual
/-- A tree has this number in a pool. -/
def Is (s : ByteArray) (L : List Gr) : Tree → Nat → Prop
  | .mk k i j l, id => ∃ ids, L[id]? = some ⟨k, B (sub s i j), ids⟩ ∧ Iss s L l ids
def Iss (s : ByteArray) (L : List Gr) : List Tree → List Int → Prop
  | [], ids => ids = []
  | t :: l, ids => ∃ (x : Nat) (r : List Int), ids = (x : Int) :: r ∧ Is s L t x ∧ Iss s L l r
end
mutual
theorem is_mono {s : ByteArray} {L L2 : List Gr} (h : L <+: L2) : ∀ (t : Tree) (id : Nat), Is s L t id → Is s L2 t id
  | .mk k i j l, id, hi => by
    rw [Is] at hi ⊢
    obtain ⟨ids, h1, h2⟩ := hi
    exact ⟨ids, by rw [prefix_get h (List.getElem?_eq_some_iff.1 h1).1]; exact h1, iss_mono h l ids h2⟩
theorem iss_mono {s : ByteArray} {L L2 : List Gr} (h : L <+: L2) : ∀ (l : List Tree) (ids : List Int), Iss s L l ids → Iss s L2 l ids
  | [], ids, hi => by rw [Iss] at hi ⊢; exact hi
  | t :: l, ids, hi => by
    rw [Iss] at hi ⊢
    obtain ⟨x, r, h1, h2, h3⟩ := hi
    exact ⟨x, r, h1, is_mono h t x h2, iss_mono h l r h3⟩
end
mutual
theorem putT_pre (s : ByteArray) : ∀ (t : Tree) (L : List Gr), L <+: (putT s t L).1
  | .mk k i j l, L => by
    rw [putT]
    exact (putTs_pre s l L).trans (endPut_pre _ _)
theorem putTs_pre (s : ByteArray) : ∀ (l : List Tree) (L : List Gr), L <+: (putTs s l L).1
  | [], L => by rw [putTs]; exact List.prefix_refl _
  | t :: l, L => by
    rw [putTs]
    exact (putT_pre s t L).trans (putTs_pre s l _)
end
mutual
theorem putT_is (s : ByteArray) : ∀ (t : Tree) (L : List Gr), Is s (putT s t L).1 t (putT s t L).2
  | .mk k i j l, L => by
    rw [putT, Is]
    exact ⟨_, endPut_get _ _, iss_mono (endPut_pre _ _) l _ (putTs_is s l L)⟩
theorem putTs_is (s : ByteArray) : ∀ (l : List Tree) (L : List Gr), Iss s (putTs s l L).1 l (putTs s l L).2
  | [], L => by rw [putTs, Iss]
  | t :: l, L => by
    rw [putTs, Iss]
    exact ⟨_, _, rfl, is_mono (putTs_pre s l _) t _ (putT_is s t L), putTs_is s l _⟩
end
/-- No node stands in a pool twice. -/
def Once (L : List Gr) : Prop := ∀ (i j : Nat) (g : Gr), L[i]? = some g → L[j]? = some g → i = j
theorem endPut_once {L : List Gr} (g : Gr) (h : Once L) : Once (endPut L g).1 := by
  unfold endPut
  split
  · exact h
  · rename_i hn
    rw [List.findIdx?_eq_none_iff] at hn
    have hno : ∀ (i : Nat) (g' : Gr), L[i]? = some g' → g' ≠ g := fun i g' hi e => by
      have := hn g' (List.mem_of_getElem? hi)
      rw [(likeG_iff g' g).2 e] at this
      cases this
    intro i j g' hi hj
    show i = j
    have hi' : (L ++ [g])[i]? = some g' := hi
    have hj' : (L ++ [g])[j]? = some g' := hj
    have key : ∀ m, (L ++ [g])[m]? = some g' → (L[m]? = some g' ∧ m < L.length) ∨ (m = L.length ∧ g' = g) := fun m hm => by
      by_cases hlt : m < L.length
      · rw [List.getElem?_append_left hlt] at hm
        exact .inl ⟨hm, hlt⟩
      · rw [List.getElem?_append_right (by omega)] at hm
        have h0 := (List.getElem?_eq_some_iff.1 hm).1
        simp at h0
        obtain rfl : m = L.length := by omega
        simp at hm
        exact .inr ⟨rfl, hm.symm⟩
    rcases key i hi' with ⟨a1, _⟩ | ⟨a1, a2⟩ <;> rcases key j hj' with ⟨b1, _⟩ | ⟨b1, b2⟩
    · exact h i j g' a1 b1
    · exact absurd b2 (hno i g' a1)
    · exact absurd a2 (hno j g' b1)
    · omega
mutual
theorem putT_once (s : ByteArray) : ∀ (t : Tree) (L : List Gr), Once L → Once (putT s t L).1
  | .mk k i j l, L, h => by
    rw [putT]
    exact endPut_once _ (putTs_once s l L h)
theorem putTs_once (s : ByteArray) : ∀ (l : List Tree) (L : List Gr), Once L → Once (putTs s l L).1
  | [], L, h => by rw [putTs]; exact h
  | t :: l, L, h => by
    rw [putTs]
    exact putTs_once s l _ (putT_once s t L h)
end
mutual
/-- What is put again has the number that it had. -/
theorem is_put {s : ByteArray} {L : List Gr} (hL : Once L) : ∀ (t : Tree) (id : Nat), Is s L t id → putT s t L = (L, id)
  | .mk k i j l, id, hi => by
    rw [Is] at hi
    obtain ⟨ids, h1, h2⟩ := hi
    rw [putT, iss_put hL l ids h2]
    obtain ⟨hlt, hge⟩ := List.getElem?_eq_some_iff.1 h1
    refine endPut_some hlt ((likeG_iff _ _).2 hge) (fun m hm hmi => ?_)
    cases hc : likeG L[m] ⟨k, B ((s.data.toList.drop i.toNat).take (j.toNat - i.toNat)), ids⟩ with
    | false => rfl
    | true =>
      have := hL m id _ (List.getElem?_eq_some_iff.2 ⟨hm, (likeG_iff _ _).1 hc⟩) h1
      omega
theorem iss_put {s : ByteArray} {L : List Gr} (hL : Once L) : ∀ (l : List Tree) (ids : List Int), Iss s L l ids → putTs s l L = (L, ids)
  | [], ids, hi => by rw [Iss] at hi; rw [putTs, hi]
  | t :: l, ids, hi => by
    rw [Iss] at hi
    obtain ⟨x, r, rfl, h2, h3⟩ := hi
    rw [putTs, is_put hL t x h2, iss_put hL l r h3]
end
theorem is_get {s : ByteArray} {L : List Gr} {t : Tree} {id : Nat} (h : Is s L t id) : ∃ g, L[id]? = some g ∧ g.k = t.k ∧ g.s = B (sub s t.i t.j) := by
  obtain ⟨k, i, j, l⟩ := t
  rw [Is] at h
  obtain ⟨ids, h1, _⟩ := h
  exact ⟨_, h1, rfl, rfl⟩
theorem sub_shift (ah s : ByteArray) {a e : Int} (h0 : 0 ≤ a) (h1 : a ≤ e) : sub (ah ++ s) (a + (ah.size : Int)) (e + (ah.size : Int)) = sub s a e := by
  unfold sub
  have hd : (ah ++ s).data.toList = ah.data.toList ++ s.data.toList := by simp [ByteArray.data_append]
  have hl : ah.data.toList.length = ah.size := sdata ah
  rw [hd, List.drop_append, List.drop_eq_nil_of_le (by omega), List.nil_append, hl, show (a + (ah.size : Int)).toNat - ah.size = a.toNat by omega, show (e + (ah.size : Int)).toNat - (a + (ah.size : Int)).toNat = e.toNat - a.toNat by omega]
theorem wrap_fit {z d : Int} {n : Nat} (h0 : 0 ≤ z) (h1 : z ≤ (n : Int)) (h2 : 0 ≤ d) (h3 : d + n ≤ 4611686018427387904) : wrap64 (z + d) = z + d := IntWalk.wrap64_in _ (by omega)
mutual
theorem putT_shift (ah s : ByteArray) (hz : (ah.size : Int) + s.size ≤ 4611686018427387904) : ∀ (t : Tree) (L : List Gr), fitT s.size t = true → putT (ah ++ s) (shiftT ah.size t) L = putT s t L
  | .mk k i j l, L, h => by
    obtain ⟨_, h0, hij, hjN, hl⟩ := fitT_node h
    have hs := sub_shift ah s h0 hij
    unfold sub at hs
    rw [shiftT, wrap_fit h0 (Int.le_trans hij hjN) (by omega) hz, wrap_fit (by omega) hjN (by omega) hz, putT, putT, putTs_shift ah s hz l L hl, hs]
theorem putTs_shift (ah s : ByteArray) (hz : (ah.size : Int) + s.size ≤ 4611686018427387904) : ∀ (l : List Tree) (L : List Gr), (∀ t ∈ l, fitT s.size t = true) → putTs (ah ++ s) (shiftTs ah.size l) L = putTs s l L
  | [], L, h => by rw [shiftTs, putTs, putTs]
  | t :: l, L, h => by
    rw [shiftTs, putTs, putTs, putT_shift ah s hz t L (h t (by simp)), putTs_shift ah s hz l _ (fun u hu => h u (by simp [hu]))]
end
mutual
theorem fitT_shift {n : Nat} {d : Int} (h2 : 0 ≤ d) (h3 : d + n ≤ 4611686018427387904) : ∀ t : Tree, fitT n t = true → fitT ((n : Int) + d) (shiftT d t) = true ∧ (shiftT d t).i = t.i + d ∧ (shiftT d t).j = t.j + d
  | .mk k i j l, h => by
    obtain ⟨hk, h0, hij, hjN, _⟩ := fitT_node h
    obtain ⟨_, e, he, _⟩ := fitT_whole h
    have e1 : (shiftTs d l).isEmpty = l.isEmpty := by cases l <;> simp [shiftTs]
    have e2 : ∀ x y : Int, (x + d == y + d) = (x == y) := fun x y => by rw [Bool.eq_iff_iff]; simp
    rw [fitT, he] at h
    rw [shiftT, wrap_fit h0 (Int.le_trans hij hjN) h2 h3, wrap_fit (by omega) hjN h2 h3, fitT, fitTs_shift h2 h3 l i e he, e1, e2]
    refine ⟨?_, rfl, rfl⟩
    simp only [Bool.and_eq_true, decide_eq_true_eq, e2] at h ⊢
    exact ⟨⟨⟨⟨⟨h.1.1.1.1.1, by omega⟩, by omega⟩, by omega⟩, h.1.2⟩, h.2⟩
theorem fitTs_shift {n : Nat} {d : Int} (h2 : 0 ≤ d) (h3 : d + n ≤ 4611686018427387904) : ∀ (l : List Tree) (a e : Int), fitTs n a l = some e → fitTs ((n : Int) + d) (a + d) (shiftTs d l) = some (e + d)
  | [], a, e, h => by
    rw [fitTs] at h
    rw [shiftTs, fitTs, Option.some.inj h]
  | t :: l, a, e, h => by
    obtain ⟨x1, x2, x3⟩ := fitTs_step h
    obtain ⟨y1, y2, y3⟩ := fitT_shift h2 h3 t x2
    rw [shiftTs, fitTs, y1, y2, x1, if_pos (by simp), y3]
    exact fitTs_shift h2 h3 l t.j e x3
end
mutual
theorem inr_shift {n : Nat} {d : Int} (h2 : 0 ≤ d) (h3 : d + n ≤ 4611686018427387904) : ∀ t : Tree, fitT n t = true → InR t → InR (shiftT d t)
  | .mk k i j l, h, hi => by
    obtain ⟨_, h0, hij, hjN, hl⟩ := fitT_node h
    rw [InR] at hi
    rw [shiftT, wrap_fit h0 (Int.le_trans hij hjN) h2 h3, wrap_fit (by omega) hjN h2 h3, InR]
    unfold In64 at hi ⊢
    exact ⟨hi.1, by omega, by omega, inrs_shift h2 h3 l hl hi.2.2.2⟩
theorem inrs_shift {n : Nat} {d : Int} (h2 : 0 ≤ d) (h3 : d + n ≤ 4611686018427387904) : ∀ l : List Tree, (∀ t ∈ l, fitT n t = true) → InRs l → InRs (shiftTs d l)
  | [], _, _ => by rw [shiftTs, InRs]; trivial
  | t :: l, h, hi => by
    rw [InRs] at hi
    rw [shiftTs, InRs]
    exact ⟨inr_shift h2 h3 t (h t (by simp)) hi.1, inrs_shift h2 h3 l (fun u hu => h u (by simp [hu])) hi.2⟩
end
mutual
/-- The tree of a number is the tree that was put. -/
theorem node_back {s : ByteArray} {L : List Gr} (hL : GoodL L) : ∀ (t : Tree) (id f : Nat), fitT s.size t = true → Is s L t id → id < f → nodeT L f id t.i = t
  | .mk k i j l, id, 0, _, _, hf => by omega
  | .mk k i j l, id, f + 1, hfit, hi, hf => by
    rw [Is] at hi
    obtain ⟨ids, h1, h2⟩ := hi
    obtain ⟨_, h0, hij, hjN, _⟩ := fitT_node hfit
    obtain ⟨_, e, he, _⟩ := fitT_whole hfit
    obtain ⟨hlt, hge⟩ := List.getElem?_eq_some_iff.1 h1
    have hg := hL.all id hlt
    rw [hge] at hg
    show nodeT L (f + 1) id i = _
    rw [nodeT, h1]
    show Tree.mk k i (i + ((B (sub s i j)).size : Int)) (kidsT L (nodeT L f) ids i) = _
    rw [bsize, sub_len s h0 hij hjN, kids_back hL l ids i e f he h2 (fun x hx => by have := (hg.low x hx).2; omega), show i + (j - i) = j by omega]
theorem kids_back {s : ByteArray} {L : List Gr} (hL : GoodL L) : ∀ (l : List Tree) (ids : List Int) (a e : Int) (f : Nat), fitTs s.size a l = some e → Iss s L l ids → (∀ x ∈ ids, x < (f : Int)) → kidsT L (nodeT L f) ids a = l
  | [], ids, a, e, f, _, hi, _ => by rw [Iss] at hi; rw [hi]; rfl
  | t :: l, ids, a, e, f, he, hi, hlow => by
    rw [Iss] at hi
    obtain ⟨x, r, rfl, hx, hr⟩ := hi
    obtain ⟨e1, e2, e3⟩ := fitTs_step he
    obtain ⟨g, g1, _, g3⟩ := is_get hx
    have hb := node_back hL t x f e2 hx (by have := hlow (x : Int) (by simp); omega)
    have hsz : ((B (sub s t.i t.j)).size : Int) = t.j - t.i := by
      obtain ⟨k', i', j', l'⟩ := t
      obtain ⟨_, x1, x2, x3, _⟩ := fitT_node e2
      rw [bsize]
      exact sub_len s x1 x2 x3
    show nodeT L f (x : Int).toNat a :: kidsT L (nodeT L f) r (a + ((L[(x : Int).toNat]?.map fun g => (g.s.size : Int)).getD 0)) = t :: l
    rw [Int.toNat_natCast, g1]
    simp only [Option.map_some, Option.getD_some, g3, hsz]
    rw [← e1, hb, show t.i + (t.j - t.i) = t.j by omega, kids_back hL l r t.j e f e3 hr (fun y hy => hlow y (by simp [hy]))]
end
end Go.Proofs.Ytnnffcfdokejbaa.rd
