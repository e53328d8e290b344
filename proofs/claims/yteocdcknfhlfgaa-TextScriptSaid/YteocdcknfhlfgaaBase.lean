/-
  Words: a row of strings that the call owns; the text of a list of pieces.
-/
import Derived.Test.YteocdcknfhlfgaaRows
import Derived.Test.YteocdcknfhlfgaaShelf
import Derived.Handy
import Derived.Deep.DeepFit
import Derived.Lib.Hide
import Derived.WalkSpells
import Derived.BigQuiet
import Derived.Deep.QuietTactic
namespace Go.Proofs.Yteocdcknfhlfgaa.buf
open Go.RowKit

/-- The text of a list of pieces. -/
def textOf (l : List ByteArray) : List UInt8 := (l.map (·.data.toList)).flatten
theorem textOf_nil : textOf [] = [] := rfl
theorem textOf_append (a b : List ByteArray) : textOf (a ++ b) = textOf a ++ textOf b := by simp [textOf]
theorem textOf_one (s : ByteArray) : textOf [s] = s.data.toList := by simp [textOf]
theorem textOf_cons (s : ByteArray) (l : List ByteArray) : textOf (s :: l) = s.data.toList ++ textOf l := by simp [textOf]
theorem size_data (s : ByteArray) : s.data.toList.length = s.size := by rw [Array.length_toList]; rfl

/-- A row of strings of the call's own (from block B on). -/
def Strs (w : World) (B : Nat) (v : Value) (l : List ByteArray) : Prop := w.ownsRow B 9 1 v l.length (l.map Value.string)
theorem Strs.nil (w : World) (B : Nat) : Strs w B (.slice none 0 0) [] := World.ownsRow_nil _ _ _ _
theorem own_below {w w' : World} {B B' e size n : Nat} {v : Value} {xs : List Value} (h : w.ownsRow B e size v n xs) (hb : Below B' w w') (hB : ∀ k, v.ownBlock = some k → k < B') : w'.ownsRow B e size v n xs := by
  refine ⟨h.1, ?_⟩
  rcases h.2 with hn | ⟨g, cap, cur, rfl, hg, hgg, rest⟩
  · exact .inl hn
  · exact .inr ⟨g, cap, cur, rfl, hg, by rw [hb.block g (hB g rfl)]; exact hgg, rest⟩
theorem own_base {w : World} {B B' e size n : Nat} {v : Value} {xs : List Value} (h : w.ownsRow B' e size v n xs) (hB : B ≤ B') : w.ownsRow B e size v n xs :=
  ⟨h.1, h.2.imp id (fun ⟨g, cap, cur, a, b, c⟩ => ⟨g, cap, cur, a, Nat.le_trans hB b, c⟩)⟩
/-- What is known of such a row's slice value: its shape, and its cells. -/
theorem Strs.shape {w : World} {B : Nat} {v : Value} {l : List ByteArray} (h : Strs w B v l) :
    (l = [] ∧ v = .slice none 0 0) ∨ ∃ g cap, v = .slice (some ⟨g, 0, none⟩) l.length cap ∧ B ≤ g ∧ g < w.heap.size ∧ l.length ≤ cap ∧ ∀ j (hj : j < l.length), w.cell? ⟨g, j, none⟩ = some (.string l[j]) := by
  rcases h.2 with ⟨a, b⟩ | ⟨g, cap, cur, rfl, hB, hg, hc, _⟩
  · exact .inl ⟨List.eq_nil_of_length_eq_zero b, a⟩
  · refine .inr ⟨g, cap, rfl, hB, (Array.getElem?_eq_some_iff.1 hg).1, hc, fun j hj => ?_⟩
    have e : ((⟨g, 0, none⟩ : Addr).add j) = ⟨g, j, none⟩ := by rw [Addr.add_lit, Nat.zero_add]
    rw [← e]
    exact World.ownsRow.cells h (g := g) rfl j _ (by simp [hj])
theorem infoS : (Try.prog.info? 9).map (fun i => (i.zero, i.size, i.bytes)) = some (some (.string .empty), 1, 16) := by kernel_rfl
theorem one_new (w : World) (x : Value) (t : TypeId) : ∀ j u, [x][j]? = some u → (w.alloc (.cells #[x] t)).cell? ((⟨w.heap.size, 0, none⟩ : Addr).add j) = some u := by
  intro j u hj
  match j, hj with
  | 0, hj => simp at hj; subst hj; simp [Addr.add]
  | (j + 1), hj => simp at hj

/-- A list of pieces, one added, if it has bytes. -/
def addL (l : List ByteArray) (s : ByteArray) : List ByteArray := if s.data.toList = [] then l else l ++ [s]
theorem textOf_addL (l : List ByteArray) (s : ByteArray) : textOf (addL l s) = textOf l ++ s.data.toList := by
  unfold addL
  split
  · next h => rw [h, List.append_nil]
  · rw [textOf_append, textOf_one]
theorem addL_length (l : List ByteArray) (s : ByteArray) : (addL l s).length ≤ l.length + 1 := by
  unfold addL
  split <;> simp

/-- What a call that makes pieces leaves: below B all as it was; above it all but rows of strings. -/
structure Mine (B : Nat) (w w' : World) : Prop where
  below : Below B w w'
  keeps : ∀ (k : Nat) (o : Obj), w.heap[k]? = some o → (∀ cs f, o ≠ Obj.cells cs 9 f) → w'.heap[k]? = some o
theorem Mine.refl (B : Nat) (w : World) : Mine B w w := ⟨Below.refl _ _, fun _ _ h _ => h⟩
theorem Mine.trans {B : Nat} {a b c : World} (h : Mine B a b) (k : Mine B b c) : Mine B a c := ⟨h.below.trans k.below, fun i o ho hn => k.keeps i o (h.keeps i o ho hn) hn⟩
theorem Mine.of {B : Nat} {w w' : World} (h : Below w.heap.size w w') (hB : B ≤ w.heap.size) : Mine B w w' :=
  ⟨h.mono hB, fun k _ ho _ => (h.block k (Array.getElem?_eq_some_iff.1 ho).1).trans ho⟩
theorem Mine.alloc {B : Nat} {a w : World} (h : Mine B a w) (hB : B ≤ w.heap.size) (o : Obj) : Mine B a (w.alloc o) := h.trans (Mine.of ((Below.refl _ _).alloc (Nat.le_refl _) o) hB)
theorem Mine.grown {B : Nat} {w w2 : World} {o : Obj} {e n : Nat} {v : Value} {xs : List Value} (hB : B ≤ w.heap.size) (ho : w.ownsRow B e 1 v n xs) (he : e = 9) (hg : (w.alloc o).grownBy w2 v.ownBlock) : Mine B w w2 := by
  have hlt := World.ownsRow.lt ho
  refine ⟨((Below.refl B w).alloc hB _).grown hg (by simp; omega) (fun k hk => (hlt k hk).1), fun k x hx hn => ?_⟩
  have hk := (Array.getElem?_eq_some_iff.1 hx).1
  by_cases c : some k = v.ownBlock
  · exfalso
    rcases ho.2 with ⟨rfl, _⟩ | ⟨g, cap, cur, rfl, _, hh, _⟩
    · simp [Value.ownBlock] at c
    · simp only [Value.ownBlock, Option.some.injEq] at c
      subst c
      rw [hh] at hx
      cases hx
      rw [he] at hn
      exact hn _ _ rfl
  · rw [hg.block k (by simp; omega) c, Below.heap_alloc w o k hk]
    exact hx

def Added (B : Nat) (w : World) (l : List ByteArray) (e : Ending) (w' : World) : Prop := ∃ v', e = .returned v' ∧ Strs w' B v' l ∧ Mine B w w'

set_option maxRecDepth 100000 in
set_option maxHeartbeats 1000000 in
theorem add_any (B : Nat) (v : Value) (l : List ByteArray) (s : ByteArray) (w : World) (hB : B ≤ w.heap.size) (ho : Strs w B v l) (hl : l.length ≤ 1099511627776) :
    Calls Try.prog 25 #[v, .string s] w (Added B w (addL l s)) := by
  obtain ⟨i0, hi, hz0, hz1, hz2⟩ := info_parts infoS
  have HO := Lib.hid ho
  clear ho
  by_cases hs : s.data.toList = []
  · have e : addL l s = l := by unfold addL; rw [if_pos hs]
    have hs1 : s.toList = [] := by rw [Lib.toList_data]; exact hs
    rw [e]
    clear e hs
    go_enter Try.func25, Try.ntmps25
    go_wp2
    go_ret
    exact ⟨_, rfl, HO.out, Mine.refl _ _⟩
  · have e : addL l s = l ++ [s] := by unfold addL; rw [if_neg hs]
    have hs1 : s.toList.isEmpty = false := by rw [Lib.toList_data]; simpa using hs
    rw [e]
    clear e hs
    go_enter Try.func25, Try.ntmps25
    go_wp2_with (at_builtin; refine wpList_append_own _ rfl _ _ 62 rfl B 9 i0 (.string .empty) 1 16 Try.underlying62 hi hz0 hz1 hz2 rfl (by decide) _ _ _ rfl (World.ownsRow.alloc HO.out _) ⟨w.heap.size, 0, none⟩ 1 1 [.string s] rfl rfl ?c1 ?c2 ?c3 ?c4 ?c5 ?_)
    case c1 => exact one_new w _ _
    case c2 => intro u hu; simp only [List.mem_cons, List.not_mem_nil, or_false] at hu; subst hu; rfl
    case c3 => unfold maxLen; omega
    case c4 => omega
    case c5 => simp; omega
    intro v' w2 hown hg _
    have R : Strs w2 B v' (l ++ [s]) ∧ Mine B w w2 := by
      refine ⟨?_, Mine.grown hB HO.out rfl hg⟩
      unfold Strs
      rw [List.length_append, List.map_append]
      exact hown
    have HR := Lib.hid R
    clear R hown hg HO
    go_wp2
    go_ret
    exact ⟨_, rfl, HR.out.1, HR.out.2⟩

/-! ### join -/
theorem join_flat (l : List (List UInt8)) : Lib.join l [] = l.flatten := by
  cases l with
  | nil => rfl
  | cons x r => rw [Lib.join_cons]; simp [Lib.joinTail]
theorem map_data (l : List ByteArray) : l.map (fun x => x.data.toList) = l.map (·.data.toList) := rfl

def Joined (B : Nat) (w : World) (l : List ByteArray) (e : Ending) (w' : World) : Prop := ∃ v' l', e = .returned v' ∧ Strs w' B v' l' ∧ l'.length ≤ 64 ∧ textOf l' = textOf l ∧ Mine B w w'

/-- strings.Join without a separator, of any such row. -/
theorem concat_any (B : Nat) (v : Value) (l : List ByteArray) (w : World) (ho : Strs w B v l) (hl : l.length ≤ 1099511627776) (ht : (textOf l).length ≤ 1073741824) :
    Calls Try.prog 27 #[v, .string ⟨#[]⟩] w fun e w' => e = .returned (.string ⟨(textOf l).toArray⟩) ∧ Below w.heap.size w w' := by
  rcases ho.shape with ⟨rfl, rfl⟩ | ⟨g, cap, rfl, _, hg, hc, hcell⟩
  · exact (Try.strings_Join_none none 0 ⟨#[]⟩ w).mono fun e w' ⟨a, b⟩ => ⟨a, by subst b; exact Below.refl _ _⟩
  · have e : Lib.join (l.map (·.data.toList)) (ByteArray.mk #[]).data.toList = textOf l := join_flat _
    have := Try.strings_Join g 0 cap l ⟨#[]⟩ w (fun j x hx => by
      obtain ⟨hj, rfl⟩ := List.getElem?_eq_some_iff.1 hx
      rw [Nat.zero_add]
      exact hcell j hj) hg (by omega) hc (by rw [e]; omega)
    rw [e] at this
    exact this

set_option maxRecDepth 100000 in
set_option maxHeartbeats 1000000 in
theorem join_any (B : Nat) (v : Value) (l : List ByteArray) (w : World) (hB : B ≤ w.heap.size) (ho : Strs w B v l) (hl : l.length ≤ 1099511627776) (ht : (textOf l).length ≤ 1073741824) :
    Calls Try.prog 39 #[v] w (Joined B w l) := by
  obtain ⟨oa, cap, hv⟩ : ∃ oa cap, v = .slice oa l.length cap := by
    rcases ho.shape with ⟨rfl, rfl⟩ | ⟨g, cap, rfl, _⟩
    · exact ⟨none, 0, rfl⟩
    · exact ⟨_, cap, rfl⟩
  subst hv
  have HO := Lib.hid ho
  clear ho
  by_cases h64 : l.length ≤ 64
  · go_enter Try.func39, Try.ntmps39
    go_wp2
    go_ret
    exact ⟨_, l, rfl, HO.out, h64, rfl, Mine.refl _ _⟩
  · go_enter Try.func39, Try.ntmps39
    go_wp2_with (go_at_call 27; refine (concat_any B _ l _ HO.out hl ht).mono ?_; rintro e w1 ⟨rfl, hb⟩; have hsz := hb.size)
    go_ret
    refine ⟨_, [⟨(textOf l).toArray⟩], rfl, ?_, by simp, by simp [textOf], (Mine.of hb hB).alloc (by omega) _⟩
    exact ⟨rfl, .inr ⟨w1.heap.size, 1, _, rfl, by omega, heap_alloc_new w1 _, by simp, by unfold maxLen; omega, rfl, rfl⟩⟩
end Go.Proofs.Yteocdcknfhlfgaa.buf
