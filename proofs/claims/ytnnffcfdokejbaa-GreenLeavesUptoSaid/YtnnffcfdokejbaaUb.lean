/-
  Layer 8: a tree that fits, and its leaves' bytes; how many nodes come new.
-/
import Derived.Test.YtnnffcfdokejbaaUa
import Derived.Test.YtnnffcfdokejbaaTk
namespace Go.Proofs.Ytnnffcfdokejbaa.rd
open Go.RowKit

mutual
theorem leavesT_bulk : ∀ t : Tree, (leavesT t).length ≤ bulkT t
  | .mk k i j l => by
    rw [leavesT, bulkT]
    have := leavesTs_bulk l
    split
    · show 1 ≤ _
      omega
    · omega
theorem leavesTs_bulk : ∀ l : List Tree, (leavesTs l).length ≤ bulkTs l
  | [] => by rw [leavesTs]; exact Nat.zero_le _
  | t :: l => by
    rw [leavesTs, bulkTs, List.length_append]
    exact Nat.add_le_add (leavesT_bulk t) (leavesTs_bulk l)
end
theorem endPut_one (L : List Gr) (g : Gr) : (endPut L g).1.length ≤ L.length + 1 := by
  unfold endPut
  split
  · exact Nat.le_succ _
  · show List.length (_ ++ _) ≤ _
    rw [List.length_append]
    exact Nat.le_refl _
mutual
theorem putT_bulk (s : ByteArray) : ∀ (t : Tree) (L : List Gr), (putT s t L).1.length ≤ L.length + bulkT t
  | .mk k i j l, L => by
    rw [putT, bulkT]
    have h2 := putTs_bulk s l L
    exact Nat.le_trans (endPut_one _ _) (by omega)
theorem putTs_bulk (s : ByteArray) : ∀ (l : List Tree) (L : List Gr), (putTs s l L).1.length ≤ L.length + bulkTs l
  | [], L => by rw [putTs]; exact Nat.le_add_right _ _
  | t :: l, L => by
    rw [putTs, bulkTs]
    have h1 := putT_bulk s t L
    have h2 := putTs_bulk s l (putT s t L).1
    show (putTs s l (putT s t L).1).1.length ≤ _
    omega
end
/-- The bytes of tokens, one behind the other. -/
def subs (s : ByteArray) (T : List Tk) : List UInt8 := T.flatMap fun x => sub s x.i x.j
theorem subs_append (s : ByteArray) (A C : List Tk) : subs s (A ++ C) = subs s A ++ subs s C := by unfold subs; simp
theorem subs_snoc (s : ByteArray) {T : List Tk} {q : Nat} (h : q < T.length) : subs s (T.take (q + 1)) = subs s (T.take q) ++ sub s T[q].i T[q].j := by
  rw [List.take_add_one, List.getElem?_eq_getElem h, subs_append]
  show _ ++ subs s [T[q]] = _
  unfold subs
  simp
theorem subs_few (s : ByteArray) (T : List Tk) (q : Nat) : (subs s (T.take q)).length ≤ (subs s T).length := by
  have : subs s T = subs s (T.take q) ++ subs s (T.drop q) := by rw [← subs_append, List.take_append_drop]
  rw [this, List.length_append]
  exact Nat.le_add_right _ _
mutual
theorem leavesT_sub (s : ByteArray) : ∀ t : Tree, fitT s.size t = true → subs s (leavesT t) = sub s t.i t.j ∧ ∀ x ∈ leavesT t, 0 ≤ x.i ∧ x.i ≤ x.j ∧ x.j ≤ (s.size : Int)
  | .mk k i j l, h => by
    obtain ⟨_, h0, hij, hjN, _⟩ := fitT_node h
    obtain ⟨_, e, he, hej⟩ := fitT_whole h
    rw [leavesT]
    show _ = sub s i j ∧ _
    by_cases hl : leafK k = true
    · rw [if_pos hl]
      refine ⟨by unfold subs; simp, fun x hx => ?_⟩
      obtain rfl := List.mem_singleton.1 hx
      exact ⟨h0, hij, hjN⟩
    · rw [if_neg hl]
      obtain ⟨x1, _, x3⟩ := leavesTs_sub s l i e he
      rw [hej (by simpa using hl)] at x1
      exact ⟨x1, x3⟩
theorem leavesTs_sub (s : ByteArray) : ∀ (l : List Tree) (a e : Int), fitTs s.size a l = some e → subs s (leavesTs l) = sub s a e ∧ a ≤ e ∧ ∀ x ∈ leavesTs l, 0 ≤ x.i ∧ x.i ≤ x.j ∧ x.j ≤ (s.size : Int)
  | [], a, e, h => by
    rw [fitTs] at h
    obtain rfl := Option.some.inj h
    rw [leavesTs]
    exact ⟨(sub_self s a).symm, Int.le_refl _, fun x hx => by cases hx⟩
  | t :: l, a, e, h => by
    obtain ⟨h1, h2, h3⟩ := fitTs_step h
    obtain ⟨a1, a2⟩ := leavesT_sub s t h2
    obtain ⟨b1, b2, b3⟩ := leavesTs_sub s l t.j e h3
    have hij : t.i ≤ t.j := by
      obtain ⟨k', i', j', l'⟩ := t
      exact (fitT_node h2).2.2.1
    rw [leavesTs, subs_append, a1, b1, h1, ← sub_split s (by omega) b2]
    refine ⟨rfl, by omega, fun x hx => ?_⟩
    rcases List.mem_append.1 hx with hx | hx
    · exact a2 x hx
    · exact b3 x hx
end
/-- What Put tells of a tree that fits. -/
theorem put_tells {s : ByteArray} {t : Tree} (hs : s.size ≤ 140737488351232) (hfit : fitT s.size t = true) (hin : InR t) (hfew : FewT t) (hb : bulkT t ≤ 1048576) : ∃ h : (putT s t []).2 < (putT s t []).1.length, (putT s t []).1[(putT s t []).2].s = B (sub s t.i t.j) ∧ (B (sub s t.i t.j)).size ≤ 140737488355328 := by
  have h0 := putT_bulk s t []
  have hok := putT_ok s (by omega) t [] ⟨by show 0 ≤ _; omega, fun i h => by cases h⟩ hfit hin hfew (by simp at h0; omega)
  obtain ⟨g, hg, _, hgs⟩ := hok.get
  obtain ⟨hlt, hge⟩ := List.getElem?_eq_some_iff.1 hg
  refine ⟨hlt, by rw [hge]; exact hgs, ?_⟩
  obtain ⟨k', i', j', l'⟩ := t
  obtain ⟨_, x1, x2, x3, _⟩ := fitT_node hfit
  have := sub_len s x1 x2 x3
  rw [bsize]
  show (sub s i' j').length ≤ _
  omega
end Go.Proofs.Ytnnffcfdokejbaa.rd
