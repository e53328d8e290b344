/-
  The reference's Char and Rune.
-/
import Derived.Test.YtbmmbaagcglomaaDoorRefCharB
import Derived.Test.YtbmmbaagcglomaaDoorRefCharC
import Derived.Test.YtbmmbaagcglomaaDoorRefEsc
namespace Go.Proofs.YtbmmbaagcglomaaDoor.tok
open Go.RowKit

def ChrOf (x : List UInt8) : Int × Nat := (((charL x).1 : Nat), (charL x).2)
set_option maxRecDepth 100000 in
set_option maxHeartbeats 2000000 in
theorem refChar_one (s : ByteArray) (c : UInt8) (w : World) (h1 : 1 < s.size) (hc : s[1] = c) (h128 : c.toNat < 128) :
    Calls Tryd.prog 47 #[.string s, .int .i64 1] w (Chr ((c.toNat : Int), 1) w) := by
  have hix0 : ∀ u : World, (Instr.index 9 (.string s) (.int .i64 1)).run Tryd.prog u = .ok (.int .u8 (c.toNat : Int)) u := fun u => by
    rw [index_at s 1 1 (by omega) (by omega) u, hc]
  have hd : decide ((s.size : Int) ≤ 1) = false := decide_eq_false (by omega)
  have hd2 : decide ((c.toNat : Int) < 128) = true := decide_eq_true (by omega)
  clear hc
  go_enter Tryd.func47, Tryd.ntmps47
  go_wp2_with fail
  go_ret2
  exact ⟨rfl, Below.refl _ _⟩
theorem charL_one (l : List UInt8) (h : 1 < l.length) (h128 : (l.getD 1 0).toNat < 128) : charL (l.drop 1) = ((l.getD 1 0).toNat, 1) := by
  rw [charL_dec l h]
  unfold Lib.decodeN
  rw [if_pos h128]
  unfold fin0
  rw [if_neg (by simp only; omega)]
theorem refChar_any (s : ByteArray) (w : World) (hs : s.size ≤ 140737488351232) (h1 : 1 < s.size) :
    Calls Tryd.prog 47 #[.string s, .int .i64 1] w (Chr (ChrOf (s.data.toList.drop 1)) w) := by
  obtain ⟨c, hc⟩ : ∃ c, s[1] = c := ⟨_, rfl⟩
  have hl : 1 < s.data.toList.length := by rw [sdata]; exact h1
  have hg : s.data.toList.getD 1 0 = c := by
    rw [List.getD_eq_getElem?_getD, List.getElem?_eq_getElem hl, at_data h1, hc]
    rfl
  by_cases h128 : c.toNat < 128
  · have e : ChrOf (s.data.toList.drop 1) = ((c.toNat : Int), 1) := by
      unfold ChrOf
      rw [charL_one _ hl (by rw [hg]; exact h128), hg]
    rw [e]
    exact refChar_one s c w h1 hc h128
  · have e : ChrOf (s.data.toList.drop 1) = charC s.data.toList := (char_bridge _ hl (by rw [hg]; omega)).symm
    rw [e]
    exact refChar_more s c w hs h1 hc (by omega)
theorem drop_one {l : List UInt8} {n : Nat} : l.drop (1 + n) = [39] ↔ (l.length = n + 2 ∧ l[n + 1]? = some 39) := by
  constructor
  · intro h
    have hl := congrArg List.length h
    rw [List.length_drop, List.length_singleton] at hl
    refine ⟨by omega, ?_⟩
    have := congrArg (fun x => x[0]?) h
    simp only [List.getElem?_drop, Nat.add_zero] at this
    rw [Nat.add_comm n 1, this]
    rfl
  · intro ⟨hl, h⟩
    apply List.ext_getElem?
    intro i
    rw [List.getElem?_drop]
    match i with
    | 0 => rw [Nat.add_zero, Nat.add_comm 1 n, h]; rfl
    | i + 1 => rw [List.getElem?_eq_none (by omega)]; rfl
theorem fin_no {l : List UInt8} {u : Int} {n : Nat} (h : ¬ (n ≠ 0 ∧ l.length = n + 2 ∧ l[n + 1]? = some 39)) : finOf l u n = (0, 107, 0) := by
  unfold finOf
  rw [if_pos]
  by_cases h0 : n = 0
  · exact .inl h0
  · exact .inr (fun g => h ⟨h0, drop_one.1 g⟩)
theorem fin_yes {l : List UInt8} {u : Int} {n : Nat} (h0 : n ≠ 0) (h1 : l.length = n + 2) (h2 : l[n + 1]? = some 39) : finOf l u n = (u, 0, 0) := by
  unfold finOf
  rw [if_neg]
  exact fun g => g.elim h0 (fun g => g (drop_one.2 ⟨h1, h2⟩))
end Go.Proofs.YtbmmbaagcglomaaDoor.tok
