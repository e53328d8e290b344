/-
  Layer 8: what putting a tree into a pool does, in plain words.
-/
import Derived.Test.YtnnffcfdokejbaaTj
import Derived.Test.YtnnffcfdokejbaaNn
namespace Go.Proofs.Ytnnffcfdokejbaa.rd
open Go.RowKit

mutual
/-- No row of a tree is longer than memory lets rows be. -/
def FewT : Tree → Prop
  | .mk _ _ _ l => l.length ≤ 2932031007317 ∧ FewTs l
def FewTs : List Tree → Prop
  | [] => True
  | t :: l => FewT t ∧ FewTs l
end
mutual
theorem tie_few {w : World} {D : Nat → Prop} : ∀ (t : Tree) (n : Rn), Tie w D t n → FewT t
  | .mk k i j l, n, h => by
    rw [Tie] at h
    obtain ⟨_, _, _, _, g, off, R, ⟨_, h5⟩, _, _, h8⟩ := h
    rw [FewT]
    exact ⟨h5, ties_few l R h8⟩
theorem ties_few {w : World} {D : Nat → Prop} : ∀ (l : List Tree) (R : List Rn), Ties w D l R → FewTs l
  | [], R, h => by rw [FewTs]; trivial
  | t :: l, R, h => by
    rw [Ties] at h
    obtain ⟨n, R', _, h2, h3⟩ := h
    rw [FewTs]
    exact ⟨tie_few t n h2, ties_few l R' h3⟩
end
/-- A piece of a text. -/
def sub (s : ByteArray) (a e : Int) : List UInt8 := (s.data.toList.drop a.toNat).take (e.toNat - a.toNat)
theorem sub_split (s : ByteArray) {a m e : Int} (h1 : a ≤ m) (h2 : m ≤ e) : sub s a e = sub s a m ++ sub s m e := by
  unfold sub
  rw [show e.toNat - a.toNat = (m.toNat - a.toNat) + (e.toNat - m.toNat) by omega, List.take_add, List.drop_drop, show a.toNat + (m.toNat - a.toNat) = m.toNat by omega]
theorem sub_self (s : ByteArray) (a : Int) : sub s a a = [] := by
  unfold sub
  rw [Nat.sub_self, List.take_zero]
theorem sub_len (s : ByteArray) {a e : Int} (h0 : 0 ≤ a) (h1 : a ≤ e) (h2 : e ≤ (s.size : Int)) : ((sub s a e).length : Int) = e - a := by
  unfold sub
  rw [List.length_take, List.length_drop, sdata]
  omega
theorem cat_ext {L L2 : List Gr} (h : L <+: L2) : ∀ (l : List Int), (∀ x ∈ l, 0 ≤ x ∧ x < (L.length : Int)) → cat L2 l = cat L l
  | [], _ => rfl
  | x :: l, hl => by
    have hx := hl x (by simp)
    have e : L2[x.toNat]? = L[x.toNat]? := by
      obtain ⟨M, rfl⟩ := h
      exact List.getElem?_append_left (by omega)
    show _ ++ cat L2 l = _ ++ cat L l
    rw [cat_ext h l (fun y hy => hl y (by simp [hy]))]
    simp only [e]
theorem cat_append (L : List Gr) (a b : List Int) : cat L (a ++ b) = cat L a ++ cat L b := by unfold cat; simp
theorem prefix_get {L L2 : List Gr} (h : L <+: L2) {i : Nat} (hi : i < L.length) : L2[i]? = L[i]? := by
  obtain ⟨M, rfl⟩ := h
  exact List.getElem?_append_left hi
theorem GoodG.ext {i : Nat} {L L2 : List Gr} {g : Gr} (h : GoodG i L g) (hp : L <+: L2) (hi : i ≤ L.length) : GoodG i L2 g :=
  ⟨h.k64, h.few, h.kids, h.low, h.leaf, fun e => by rw [h.node e, cat_ext hp g.l (fun x hx => by have := h.low x hx; omega)]⟩
theorem endPut_pre (L : List Gr) (g : Gr) : L <+: (endPut L g).1 := by
  unfold endPut
  split
  · exact List.prefix_refl L
  · exact List.prefix_append _ _
theorem endPut_get (L : List Gr) (g : Gr) : (endPut L g).1[(endPut L g).2]? = some g := by
  unfold endPut
  split
  · rename_i q hq
    rw [List.findIdx?_eq_some_iff_getElem] at hq
    obtain ⟨h, h1, _⟩ := hq
    rw [List.getElem?_eq_getElem h, (likeG_iff _ _).1 h1]
  · show (L ++ [g])[L.length]? = some g
    rw [List.getElem?_append_right (Nat.le_refl _), Nat.sub_self]
    rfl
theorem endPut_good {L : List Gr} {g : Gr} (h : GoodL L) (hg : GoodG L.length L g) (hl : (endPut L g).1.length ≤ 4294967296) : GoodL (endPut L g).1 := by
  unfold endPut at hl ⊢
  split
  · exact h
  · rename_i hn
    rw [hn] at hl
    refine ⟨hl, fun i hi => ?_⟩
    show GoodG i (L ++ [g]) (L ++ [g])[i]
    have hi' : i < L.length + 1 := by
      have : i < (L ++ [g]).length := hi
      rw [List.length_append] at this
      exact this
    by_cases hlt : i < L.length
    · rw [List.getElem_append_left hlt]
      exact (h.all i hlt).ext (List.prefix_append _ _) (by omega)
    · obtain rfl : i = L.length := by omega
      rw [List.getElem_append_right (Nat.le_refl _)]
      simp only [Nat.sub_self, List.getElem_cons_zero]
      exact hg.ext (List.prefix_append _ _) (Nat.le_refl _)
theorem fitT_whole {N k i j : Int} {l : List Tree} (h : fitT N (.mk k i j l) = true) : (leafK k = true → l = []) ∧ ∃ e, fitTs N i l = some e ∧ (leafK k = false → e = j) := by
  rw [fitT] at h
  simp only [Bool.and_eq_true, decide_eq_true_eq] at h
  obtain ⟨⟨_, h5⟩, h6⟩ := h
  have hlf : leafK k = true → l = [] := fun e => by
    rw [if_pos e] at h5
    exact List.isEmpty_iff.1 h5
  refine ⟨hlf, ?_⟩
  cases hf : fitTs N i l with
  | none => rw [hf] at h6; cases h6
  | some e =>
    rw [hf] at h6
    refine ⟨e, rfl, fun hk => ?_⟩
    simp only [Bool.or_eq_true, beq_iff_eq] at h6
    rcases h6 with h6 | h6
    · rw [List.isEmpty_iff.1 h6, fitTs] at hf
      rw [hk, List.isEmpty_iff.1 h6] at h5
      simp at h5
      rw [← h5]
      exact (Option.some.inj hf).symm
    · exact h6
theorem fitTs_step {N a e : Int} {t : Tree} {l : List Tree} (h : fitTs N a (t :: l) = some e) : t.i = a ∧ fitT N t = true ∧ fitTs N t.j l = some e := by
  rw [fitTs] at h
  split at h
  · rename_i hc
    simp only [Bool.and_eq_true, beq_iff_eq] at hc
    exact ⟨hc.1, hc.2, h⟩
  · cases h
/-- What has come of putting a tree. -/
structure PutOk (s : ByteArray) (t : Tree) (L L2 : List Gr) (id : Nat) : Prop where
  good : GoodL L2
  pre : L <+: L2
  get : ∃ g, L2[id]? = some g ∧ g.k = t.k ∧ g.s = B (sub s t.i t.j)
structure PutsOk (s : ByteArray) (a e : Int) (L L2 : List Gr) (ids : List Int) : Prop where
  good : GoodL L2
  pre : L <+: L2
  low : ∀ x ∈ ids, 0 ≤ x ∧ x < (L2.length : Int)
  cat : cat L2 ids = sub s a e
  le : a ≤ e
theorem cand_good {s : ByteArray} (hs : s.size ≤ 4611686018427387904) {k i j : Int} {l : List Tree} {L1 : List Gr} {ids : List Int} {e : Int} (h : PutsOk s i e L1 L1 ids) (hlen : ids.length = l.length) (hfit : fitT s.size (.mk k i j l) = true) (he : fitTs s.size i l = some e) (hin : InR (.mk k i j l)) (hfew : FewT (.mk k i j l)) (hnil : l = [] → ids = []) : GoodG L1.length L1 ⟨k, B (sub s i j), ids⟩ := by
  obtain ⟨hl, e2, h2, h3⟩ := fitT_whole hfit
  rw [he] at h2
  obtain rfl := Option.some.inj h2
  rw [InR] at hin
  rw [FewT] at hfew
  obtain ⟨_, h0, hij, hjN, _⟩ := fitT_node hfit
  refine ⟨hin.1, ?_, by rw [hlen]; exact hfew.1, h.low, fun hk => hnil (hl hk), fun hk => ?_⟩
  · show (B (sub s i j)).size ≤ _
    rw [bsize]
    have := sub_len s h0 hij hjN
    omega
  · show sub s i j = _
    rw [h.cat, h3 hk]
mutual
theorem putT_ok (s : ByteArray) (hs : s.size ≤ 4611686018427387904) : ∀ (t : Tree) (L : List Gr), GoodL L → fitT s.size t = true → InR t → FewT t → (putT s t L).1.length ≤ 4294967296 → PutOk s t L (putT s t L).1 (putT s t L).2
  | .mk k i j l, L, hL, hfit, hin, hfew, hn => by
    obtain ⟨hlf, e, he, _⟩ := fitT_whole hfit
    have hin' := hin
    have hfew' := hfew
    rw [InR] at hin'
    rw [FewT] at hfew'
    obtain ⟨_, h0, hij, hjN, _⟩ := fitT_node hfit
    rw [putT] at hn ⊢
    have hps := putTs_ok s hs l L i e hL he h0 hin'.2.2.2 hfew'.2 (Nat.le_trans (endPut_more _ _) hn)
    have hg := cand_good hs ⟨hps.good, List.prefix_refl _, hps.low, hps.cat, hps.le⟩ (putTs_len s l L) hfit he hin hfew (fun e => by rw [e, putTs])
    exact ⟨endPut_good hps.good hg hn, hps.pre.trans (endPut_pre _ _), _, endPut_get _ _, rfl, rfl⟩
theorem putTs_ok (s : ByteArray) (hs : s.size ≤ 4611686018427387904) : ∀ (l : List Tree) (L : List Gr) (a e : Int), GoodL L → fitTs s.size a l = some e → 0 ≤ a → InRs l → FewTs l → (putTs s l L).1.length ≤ 4294967296 → PutsOk s a e L (putTs s l L).1 (putTs s l L).2
  | [], L, a, e, hL, he, h0, _, _, hn => by
    rw [fitTs] at he
    obtain rfl := Option.some.inj he
    rw [putTs]
    exact ⟨hL, List.prefix_refl _, fun x hx => by simp at hx, (sub_self s a).symm, Int.le_refl _⟩
  | t :: l, L, a, e, hL, he, h0, hin, hfew, hn => by
    obtain ⟨h1, h2, h3⟩ := fitTs_step he
    rw [InRs] at hin
    rw [FewTs] at hfew
    rw [putTs] at hn ⊢
    have hn1 : (putT s t L).1.length ≤ 4294967296 := Nat.le_trans (putTs_more s l _) hn
    have ht := putT_ok s hs t L hL h2 hin.1 hfew.1 hn1
    have hij : 0 ≤ t.i ∧ t.i ≤ t.j := by
      obtain ⟨k', i', j', l'⟩ := t
      obtain ⟨_, x1, x2, _, _⟩ := fitT_node h2
      exact ⟨x1, x2⟩
    have hps := putTs_ok s hs l (putT s t L).1 t.j e ht.good h3 (by omega) hin.2 hfew.2 hn
    obtain ⟨g, hg1, hg2, hg3⟩ := ht.get
    have hidl : (putT s t L).2 < (putT s t L).1.length := (List.getElem?_eq_some_iff.1 hg1).1
    have hpl := hps.pre.length_le
    refine ⟨hps.good, ht.pre.trans hps.pre, fun x hx => ?_, ?_, by have := hps.le; omega⟩
    · rcases List.mem_cons.1 hx with rfl | hx
      · show 0 ≤ ((putT s t L).2 : Int) ∧ ((putT s t L).2 : Int) < ((putTs s l (putT s t L).1).1.length : Int)
        omega
      · exact hps.low x hx
    · show (((putTs s l (putT s t L).1).1[((putT s t L).2 : Int).toNat]?).map fun g => g.s.data.toList).getD [] ++ cat (putTs s l (putT s t L).1).1 (putTs s l (putT s t L).1).2 = _
      rw [hps.cat, Int.toNat_natCast, prefix_get hps.pre hidl, hg1, sub_split s (by omega : a ≤ t.j) (by have := hps.le; omega : t.j ≤ e)]
      simp only [Option.map_some, Option.getD_some, hg3, h1]
      rfl
end
end Go.Proofs.Ytnnffcfdokejbaa.rd
