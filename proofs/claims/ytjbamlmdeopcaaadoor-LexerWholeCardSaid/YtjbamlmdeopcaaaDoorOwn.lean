/-
  Rows of the call's own: what stays, what grows (plain lemmas on worlds).
-/
import Derived.Test.YtjbamlmdeopcaaaDoorDiags
import Derived.Test.YtjbamlmdeopcaaaDoorShelf
import Derived.Lib.Hide
namespace Go.Proofs.YtjbamlmdeopcaaaDoor.dec
open Go.RowKit Go.Lib

theorem own_below {w w' : World} {B e size n : Nat} {v : Value} {xs : List Value} (h : w.ownsRow B e size v n xs) (hb : Below w.heap.size w w') : w'.ownsRow B e size v n xs := by
  refine ⟨h.1, ?_⟩
  rcases h.2 with hn | ⟨g, cap, cur, rfl, hg, hgg, rest⟩
  · exact .inl hn
  · exact .inr ⟨g, cap, cur, rfl, hg, by rw [hb.block g (Array.getElem?_eq_some_iff.1 hgg).1]; exact hgg, rest⟩

theorem three_new (w : World) (x y z : Value) (t : TypeId) : ∀ j u, [x, y, z][j]? = some u → (w.alloc (.cells #[x, y, z] t)).cell? ((⟨w.heap.size, 0, none⟩ : Addr).add j) = some u := by
  intro j u hj
  match j, hj with
  | 0, hj => simp at hj; subst hj; simp [Addr.add]
  | 1, hj => simp at hj; subst hj; simp [Addr.add]
  | 2, hj => simp at hj; subst hj; simp [Addr.add]
  | (j + 3), hj => simp at hj

theorem tabs_below {w w' : World} {g3 g4 : Nat} (h : Lib.Utf8Tabs g3 g4 w) (hb : Below w.heap.size w w') : Lib.Utf8Tabs g3 g4 w' := by
  have at' : ∀ (b o : Nat) (v : Value), w.cell? ⟨b, o, none⟩ = some v → w'.cell? ⟨b, o, none⟩ = some v := fun b o v hv =>
    (hb.cell (p := ⟨b, o, none⟩) (World.block_lt_of_cell? _ _ hv)).trans hv
  exact ⟨fun c hc => at' _ _ _ (h.1 c hc), fun i hi => ⟨at' _ _ _ (h.2 i hi).1, at' _ _ _ (h.2 i hi).2⟩⟩

theorem decode_calls (s : ByteArray) (i : Nat) (hi : i < s.size) (w : World) (hT : Lib.Utf8Tabs 0 1 w) :
    Calls Tryd.prog 9 #[.string (s.extract i s.size)] w fun e w' => e = .returned (.tuple #[.int .i32 (runeAt s i), .int .i64 (wideAt s i)]) ∧ Below w.heap.size w w' := by
  have h := Tryd.utf8_DecodeRuneInString (s.extract i s.size) w hT
  have e : Lib.decodeGo (s.extract i s.size) = Utf8.decode s i := by
    unfold Lib.decodeGo
    rw [if_neg (by simp; omega), tail_decode]
    rfl
  rw [e] at h
  exact h

def Made (s : ByteArray) (w : World) (e : Ending) (w' : World) : Prop :=
  ∃ v, e = .returned v ∧ w'.ownsRow w.heap.size 30 3 v (diags s 0).length (cellsOf (diags s 0)) ∧ Below w.heap.size w w'
theorem infoD : (Tryd.prog.info? 30).map (fun i => (i.zero, i.size, i.bytes)) = some (some (.agg #[.int .i64 0, .int .i64 0, .int .i64 0]), 3, 24) := by kernel_rfl

/-- what a round's append does to the relation -/
theorem rel_some {s : ByteArray} {w wr w1 w2 : World} {i : Nat} {D : List Dg} {v v' : Value} {o : Obj} (hf : Far s i D) (hi : i < s.size) (hc : codeAt s i ≠ 0)
    (_hown : wr.ownsRow w.heap.size 30 3 v D.length (cellsOf D)) (hlt : ∀ k, v.ownBlock = some k → w.heap.size ≤ k) (hb : Below w.heap.size w wr) (hb1 : Below wr.heap.size wr w1)
    (hown2 : w2.ownsRow w.heap.size 30 3 v' (D.length + 1) (cellsOf D ++ [.int .i64 (codeAt s i), .int .i64 i, .int .i64 ((i + wideAt s i : Nat) : Int)])) (hg : (w1.alloc o).grownBy w2 v.ownBlock) :
    Far s (i + wideAt s i) (D ++ [⟨codeAt s i, i, i + wideAt s i⟩]) ∧ w2.ownsRow w.heap.size 30 3 v' (D ++ [(⟨codeAt s i, i, i + wideAt s i⟩ : Dg)]).length (cellsOf (D ++ [⟨codeAt s i, i, i + wideAt s i⟩])) ∧ Below w.heap.size w w2 := by
  refine ⟨hf.some hi hc, ?_, ?_⟩
  · rw [cellsOf_append, List.length_append]
    exact hown2
  · have hsz := hb.size
    have hsz1 := hb1.size
    exact ((hb.trans (hb1.mono hsz)).alloc (by omega) o).grown hg (by simp; omega) hlt
end Go.Proofs.YtjbamlmdeopcaaaDoor.dec
