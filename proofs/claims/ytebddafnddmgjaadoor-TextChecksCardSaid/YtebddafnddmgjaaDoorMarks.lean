/-
  Plain: which code a place has, by its bytes.
-/
import Derived.Test.YtebddafnddmgjaaDoorOwn
import Derived.Test.YtebddafnddmgjaaDoorWidth
import Derived.Lib.Strings
namespace Go.Proofs.YtebddafnddmgjaaDoor.dec
open Go.RowKit Go.Lib

theorem three_bytes (s : ByteArray) (i : Nat) (h : i + 2 < s.size) : (s.extract i (i + 3)).toList = [s.get! i, s.get! (i + 1), s.get! (i + 2)] := by
  rw [Lib.toList_data, extract_data, get_lt s i (by omega), get_lt s (i + 1) (by omega), get_lt s (i + 2) (by omega)]
  have hl : s.data.toList.length = s.size := by rw [Array.length_toList]; rfl
  rw [show i + 3 - i = 3 by omega, List.drop_eq_getElem_cons (by omega), List.take_succ_cons, List.drop_eq_getElem_cons (by omega), List.take_succ_cons, List.drop_eq_getElem_cons (by omega), List.take_succ_cons, List.take_zero]
  rfl
theorem wide_mark {s : ByteArray} {i : Nat} (h : runeAt s i = 65279) : wideAt s i = 3 := by
  obtain ⟨a, b, c, d⟩ := mark_iff.1 h
  unfold wideAt
  rw [decode_bytes, b, c, d]
  unfold decodeN
  rw [if_neg (by omega), if_neg (by omega), if_pos (by omega), if_pos (by omega)]
theorem mark_yes {s : ByteArray} {i : Nat} (hw : widthS s i ≠ 0) (h : runeAt s i = 65279) : ((s.extract i (i + widthS s i)).toList == [239, 187, 191]) = true := by
  have hwd := wide_mark h
  obtain ⟨a, b, c, d⟩ := mark_iff.1 h
  rw [← (wide_good hw).1, hwd, three_bytes s i (by omega)]
  rw [beq_iff_eq]
  have e1 : s.get! i = 239 := UInt8.toNat_inj.1 b
  have e2 : s.get! (i + 1) = 187 := UInt8.toNat_inj.1 c
  have e3 : s.get! (i + 2) = 191 := UInt8.toNat_inj.1 d
  rw [e1, e2, e3]
theorem mark_no {s : ByteArray} {i : Nat} (hi : i < s.size) (hw : widthS s i ≠ 0) (h : runeAt s i ≠ 65279) : ((s.extract i (i + widthS s i)).toList == [239, 187, 191]) = false := by
  rw [beq_eq_false_iff_ne]
  intro e
  have hle := wide_le s i hi
  rw [(wide_good hw).1] at hle
  have hl : s.data.toList.length = s.size := by rw [Array.length_toList]; rfl
  have hlen : widthS s i = 3 := by
    have := congrArg List.length e
    rw [Lib.toList_data, extract_data] at this
    simp only [List.length_take, List.length_drop, List.length_cons, List.length_nil] at this
    omega
  rw [hlen] at e hle
  rw [three_bytes s i (by omega)] at e
  simp only [List.cons.injEq, and_true] at e
  refine h (mark_iff.2 ⟨by omega, ?_, ?_, ?_⟩)
  · rw [e.1]; rfl
  · rw [e.2.1]; rfl
  · rw [e.2.2]; rfl
theorem code_nul {s : ByteArray} {i : Nat} (hw : widthS s i ≠ 0) (h : (s.get! i).toNat = 0) : codeAt s i = 102 ∧ widthS s i = 1 := by
  have hr := nul_iff.2 h
  have hg := wide_good hw
  refine ⟨?_, ?_⟩
  · unfold codeAt faultZ
    rw [if_neg (by omega), if_pos (by omega)]
  · exact ws_ascii (by omega)
theorem code_mark {s : ByteArray} {i : Nat} (hw : widthS s i ≠ 0) (hi : 0 < i) (h : runeAt s i = 65279) : codeAt s i = 103 ∧ widthS s i = 3 := by
  have hg := wide_good hw
  refine ⟨?_, ?_⟩
  · unfold codeAt faultZ
    rw [if_neg (by omega), if_neg (by omega), if_pos (by omega)]
  · rw [← hg.1]; exact wide_mark h
theorem code_none {s : ByteArray} {i : Nat} (hw : widthS s i ≠ 0) (h0 : (s.get! i).toNat ≠ 0) (h : runeAt s i ≠ 65279 ∨ i = 0) : codeAt s i = 0 := by
  have hg := wide_good hw
  have hr : runeAt s i ≠ 0 := fun e => h0 (nul_iff.1 e)
  unfold codeAt faultZ
  rw [if_neg (by omega), if_neg (by omega), if_neg (by omega)]

/-- what a round's append does to the relation, in the reference's spelling -/
theorem rel_ref {s : ByteArray} {w wr w2 : World} {i : Nat} {D : List Dg} {v v' : Value} {o : Obj} {code : Int} {wide : Nat} (hf : Far s i D) (hi : i < s.size) (hc : codeAt s i = code ∧ wideAt s i = wide) (hne : code ≠ 0)
    (hown : wr.ownsRow w.heap.size 27 3 v D.length (cellsOf D)) (hb : Below w.heap.size w wr)
    (hown2 : w2.ownsRow w.heap.size 27 3 v' (D.length + 1) (cellsOf D ++ [.int .i64 code, .int .i64 i, .int .i64 ((i : Int) + (wide : Int))])) (hg : (wr.alloc o).grownBy w2 v.ownBlock) :
    ∃ D', Far s (i + wide) D' ∧ w2.ownsRow w.heap.size 27 3 v' D'.length (cellsOf D') ∧ Below w.heap.size w w2 := by
  obtain ⟨rfl, rfl⟩ := hc
  exact ⟨_, rel_some hf hi hne hown (fun k hk => (hown.lt k hk).1) hb (Below.refl _ _) hown2 hg⟩
end Go.Proofs.YtebddafnddmgjaaDoor.dec
