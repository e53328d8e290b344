/-
  The reference's cut, Signs, Keywords.
-/
import Derived.Test.YtjbamlmdeopcaaaDoorKinds
import Derived.WalkSpells
namespace Go.Proofs.YtjbamlmdeopcaaaDoor.tok
open Go.RowKit

theorem own_below {w w' : World} {B0 B' e size n : Nat} {v : Value} {xs : List Value} (h : w.ownsRow B0 e size v n xs) (hb : Below B' w w') (hB : ∀ k, v.ownBlock = some k → k < B') : w'.ownsRow B0 e size v n xs := by
  refine ⟨h.1, ?_⟩
  rcases h.2 with hn | ⟨g, cap, cur, rfl, hg, hgg, rest⟩
  · exact .inl hn
  · exact .inr ⟨g, cap, cur, rfl, hg, by rw [hb.block g (hB g rfl)]; exact hgg, rest⟩
theorem one_new (w : World) (x : Value) (t : TypeId) : ∀ j u, [x][j]? = some u → (w.alloc (.cells #[x] t)).cell? ((⟨w.heap.size, 0, none⟩ : Addr).add j) = some u := by
  intro j u hj
  match j, hj with
  | 0, hj => simp at hj; subst hj; simp [Addr.add]
  | (j + 1), hj => simp at hj
theorem infoS : (Tryd.prog.info? 9).map (fun i => (i.zero, i.size, i.bytes)) = some (some (.string .empty), 1, 16) := by kernel_rfl

/-- A row of texts of the call's own. -/
def Texts (w : World) (B0 : Nat) (v : Value) (l : List (List UInt8)) : Prop := w.ownsRow B0 9 1 v l.length (l.map fun x => Value.string (B x))
theorem Texts.shape {w : World} {B0 : Nat} {v : Value} {l : List (List UInt8)} (h : Texts w B0 v l) (h0 : 0 < l.length) :
    ∃ g cap, v = .slice (some ⟨g, 0, none⟩) l.length cap ∧ ∀ j, j < l.length → w.cell? ⟨g, j, none⟩ = some (.string (B (l.getD j []))) := by
  rcases h.2 with ⟨_, b⟩ | ⟨g, cap, cur, rfl, hB, hg, hc, _⟩
  · omega
  · refine ⟨g, cap, rfl, fun j hj => ?_⟩
    have e : ((⟨g, 0, none⟩ : Addr).add j) = ⟨g, j, none⟩ := by rw [Addr.add_lit, Nat.zero_add]
    rw [← e]
    exact World.ownsRow.cells h (g := g) rfl j _ (by simp [hj])

/-- What the reference's cut does with a byte. -/
def cutStep (st : List (List UInt8) × List UInt8) (c : UInt8) : List (List UInt8) × List UInt8 := if c = 32 then (st.1 ++ [st.2], []) else (st.1, st.2 ++ [c])
def cutTo (l : List UInt8) (k : Nat) : List (List UInt8) × List UInt8 := (l.take k).foldl cutStep ([], [])
def cutL (l : List UInt8) : List (List UInt8) := let st := l.foldl cutStep ([], []); st.1 ++ [st.2]
theorem cutTo_succ {l : List UInt8} {k : Nat} (h : k < l.length) : cutTo l (k + 1) = cutStep (cutTo l k) l[k] := by
  unfold cutTo
  rw [List.take_succ_eq_append_getElem h, List.foldl_append]
  rfl
theorem cutTo_few (l : List UInt8) (k : Nat) (h : k ≤ l.length) : (cutTo l k).1.length ≤ k ∧ (cutTo l k).2.length ≤ k := by
  induction k with
  | zero => simp [cutTo]
  | succ k ih =>
    have := ih (by omega)
    rw [cutTo_succ (by omega)]
    unfold cutStep
    split <;> simp <;> omega
theorem cutL_eq {l : List UInt8} {k : Nat} (h : l.length ≤ k) : cutL l = (cutTo l k).1 ++ [(cutTo l k).2] := by
  unfold cutTo
  rw [List.take_of_length_le h]
  rfl

theorem b_append (x y : List UInt8) : B x ++ B y = B (x ++ y) := by
  apply ByteArray.ext
  simp [B]
theorem b_extract (s : ByteArray) (i j : Nat) : s.extract i j = B ((s.data.toList.drop i).take (j - i)) := Lib.extract_eq s i j
theorem at_data {s : ByteArray} {i : Nat} (h : i < s.size) : s.data.toList[i]'(by rw [sdata]; exact h) = s[i] := rfl
theorem b_one {s : ByteArray} {i : Nat} (h : i < s.size) : s.extract i (i + 1) = B [s[i]] := by
  have h' : i < s.data.toList.length := by rw [sdata]; exact h
  rw [b_extract, List.drop_eq_getElem_cons h', at_data h, show i + 1 - i = 1 by omega]
  rfl
theorem slice_one (s : ByteArray) (i : Nat) (h : i < s.size) (c : UInt8) (hc : s[i] = c) (u : World) :
    (Instr.slice 9 (.string s) (some (.int .i64 (i : Int))) (some (.int .i64 ((i : Int) + 1))) none).run Tryd.prog u = .ok (.string (B [c])) u := by
  rw [← hc, ← b_one h]
  exact run_slice_string (P := Tryd.prog) u 9 s .i64 .i64 i ((i : Int) + 1) Tryd.underlying9 (by omega) (by omega) (by omega)
theorem byte_eq {c d : UInt8} (h : c = d) : ((c.toNat : Int) == (d.toNat : Int)) = true := by rw [h]; simp
theorem byte_ne {c d : UInt8} (h : c ≠ d) : ((c.toNat : Int) == (d.toNat : Int)) = false := by
  rw [beq_eq_false_iff_ne]
  exact fun e => h (UInt8.toNat_inj.1 (by omega))
theorem byte_eq' {c d : UInt8} (h : c = d) : ((c.toNat : Int) != (d.toNat : Int)) = false := by rw [h]; simp
theorem byte_ne' {c d : UInt8} (h : c ≠ d) : ((c.toNat : Int) != (d.toNat : Int)) = true := by rw [bne, byte_ne h]; rfl

def MadeTexts (l : List (List UInt8)) (w : World) (e : Ending) (w' : World) : Prop := ∃ v, e = .returned v ∧ Texts w' w.heap.size v l ∧ Below w.heap.size w w'

theorem cut_more {w wr w2 : World} {o : Obj} {v v' : Value} {out : List (List UInt8)} {x : List UInt8} (hb : Below w.heap.size w wr) (hown : Texts wr w.heap.size v out)
    (hown2 : w2.ownsRow w.heap.size 9 1 v' (out.length + 1) ((out.map fun x => Value.string (B x)) ++ [.string (B x)])) (hg : (wr.alloc o).grownBy w2 v.ownBlock) :
    Texts w2 w.heap.size v' (out ++ [x]) ∧ Below w.heap.size w w2 := by
  have hlt := World.ownsRow.lt hown
  refine ⟨?_, (hb.alloc hb.size o).grown hg (by simp; have := hb.size; omega) (fun k hk => (hlt k hk).1)⟩
  unfold Texts
  rw [List.length_append, List.map_append]
  exact hown2

def signText : List UInt8 := [43, 32, 45, 32, 42]
end Go.Proofs.YtjbamlmdeopcaaaDoor.tok
