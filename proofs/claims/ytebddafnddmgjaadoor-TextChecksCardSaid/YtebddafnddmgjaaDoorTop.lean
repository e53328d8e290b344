/-
  The contract of the law TextChecks.
-/
import Derived.Test.YtebddafnddmgjaaDoorCheck
import Derived.Test.YtebddafnddmgjaaDoorRef
import Derived.Test.YtebddafnddmgjaaDoorSame
namespace Go.Proofs.YtebddafnddmgjaaDoor.dec
open Go.RowKit

theorem few_diags (s : ByteArray) : (diags s 0).length ≤ s.size := by
  have all : ∀ (f i : Nat), (rest s f i).length + i ≤ s.size + f * 0 ∨ s.size < i ∧ rest s f i = [] ∨ (rest s f i).length ≤ s.size - i := by
    intro f
    induction f with
    | zero => intro i; exact .inr (.inr (by simp [rest]))
    | succ f ih =>
      intro i
      refine .inr (.inr ?_)
      simp only [rest]
      by_cases c : i < s.size
      · rw [if_pos c, List.length_append]
        have hh : (headOf s i).length ≤ 1 := by unfold headOf; split <;> simp
        have hw := wide_pos s i
        rcases ih (i + wideAt s i) with h | ⟨h, e⟩ | h
        · omega
        · rw [e]; simp; omega
        · have := wide_le s i c; omega
      · rw [if_neg c]; simp
  rcases all (s.size - 0) 0 with h | ⟨h, _⟩ | h
  · unfold diags; omega
  · omega
  · unfold diags; omega

set_option maxRecDepth 100000 in
set_option maxHeartbeats 2000000 in
theorem textChecks_any (s : ByteArray) (w : World) (hm : s.size ≤ maxLen) (hT : Lib.Utf8Tabs 0 1 w) :
    Calls Tryd.prog 3 #[.string s] w fun e w' => e = .returned (.bool true) ∧ Below w.heap.size w w' := by
  unfold maxLen at hm
  by_cases hs : s.size ≤ 1073741824
  · have hd : decide ((1073741824 : Int) < (s.size : Int)) = false := decide_eq_false (by omega)
    have HT := Lib.hid hT
    clear hT
    go_enter Tryd.func3, Tryd.ntmps3
    go_wp2_with fail
    refine (check_any s _ hs HT.out).mono ?_
    rintro e w1 ⟨v1, rfl, o1, b1⟩
    have O1 := Lib.hid o1
    have B1 := Lib.hid b1
    clear o1 b1
    go_wp2_with fail
    refine (ref_any s _ hs).mono ?_
    rintro e w2 ⟨v2, rfl, o2, b2⟩
    have O2 := Lib.hid o2
    have B2 := Lib.hid b2
    clear o2 b2
    go_wp2_with fail
    refine (same_any (own_below O1.out B2.out) O2.out (by have := few_diags s; omega)).mono ?_
    rintro e w3 ⟨rfl, q, rfl⟩
    go_wp2_with fail
    go_ret
    refine ⟨rfl, ?_⟩
    have hz := B1.out.size
    have hb := B1.out.trans (B2.out.mono hz)
    exact ⟨hb.os, hb.tape, hb.output, hb.size, hb.block⟩
  · have hd : decide ((1073741824 : Int) < (s.size : Int)) = true := decide_eq_true (by omega)
    go_enter Tryd.func3, Tryd.ntmps3
    go_wp2_with fail
    go_ret
    exact ⟨rfl, Below.refl _ _⟩
end Go.Proofs.YtebddafnddmgjaaDoor.dec
