/-
  Contracts of the small functions: fault, more, Width.
-/
import Derived.Test.YtjbamlmdeopcaaaDoorDecode
import Derived.Test.YtjbamlmdeopcaaaDoorRows
import Derived.Handy
import Derived.Deep.DeepFit
namespace Go.Proofs.YtjbamlmdeopcaaaDoor.dec
open Go.RowKit Go.Lib

def faultZ (r k p : Int) : Int := if r = 65533 ∧ k = 1 then 101 else if r = 0 then 102 else if r = 65279 ∧ 0 < p then 103 else 0

set_option maxHeartbeats 400000 in
theorem fault_any (r k p : Int) (w : World) :
    Calls Tryd.prog 10 #[.int .i32 r, .int .i64 k, .int .i64 p] w fun e w' => e = .returned (.int .i64 (faultZ r k p)) ∧ w = w' := by
  by_cases h1 : r = 65533
  · subst h1
    by_cases h2 : k = 1
    · subst h2
      go_enter Tryd.func10, Tryd.ntmps10
      go_wp2
      go_ret
      exact ⟨rfl, rfl⟩
    · have h2' : (k == 1) = false := beq_eq_false_iff_ne.2 h2
      have e : faultZ 65533 k p = 0 := by unfold faultZ; rw [if_neg (by omega), if_neg (by omega), if_neg (by omega)]
      rw [e]
      clear e h2
      go_enter Tryd.func10, Tryd.ntmps10
      go_wp2
      go_ret
      exact ⟨rfl, rfl⟩
  · have h1' : (r == 65533) = false := beq_eq_false_iff_ne.2 h1
    by_cases h3 : r = 0
    · subst h3
      have e : faultZ 0 k p = 102 := by unfold faultZ; rw [if_neg (by omega), if_pos (by omega)]
      rw [e]
      clear e h1
      go_enter Tryd.func10, Tryd.ntmps10
      go_wp2
      go_ret
      exact ⟨rfl, rfl⟩
    · have h3' : (r == 0) = false := beq_eq_false_iff_ne.2 h3
      by_cases h4 : r = 65279
      · subst h4
        by_cases h5 : 0 < p
        · have e : faultZ 65279 k p = 103 := by unfold faultZ; rw [if_neg (by omega), if_neg (by omega), if_pos (by omega)]
          rw [e]
          clear e h1 h3
          have h5' : decide ((0 : Int) < p) = true := decide_eq_true h5
          go_enter Tryd.func10, Tryd.ntmps10
          go_wp2
          go_ret
          exact ⟨rfl, rfl⟩
        · have e : faultZ 65279 k p = 0 := by unfold faultZ; rw [if_neg (by omega), if_neg (by omega), if_neg (by omega)]
          rw [e]
          clear e h1 h3
          have h5' : decide ((0 : Int) < p) = false := decide_eq_false h5
          go_enter Tryd.func10, Tryd.ntmps10
          go_wp2
          go_ret
          exact ⟨rfl, rfl⟩
      · have h4' : (r == 65279) = false := beq_eq_false_iff_ne.2 h4
        have e : faultZ r k p = 0 := by unfold faultZ; rw [if_neg (by omega), if_neg (by omega), if_neg (by omega)]
        rw [e]
        clear e h1 h3 h4
        go_enter Tryd.func10, Tryd.ntmps10
        go_wp2
        go_ret
        exact ⟨rfl, rfl⟩

theorem get_lt (s : ByteArray) (i : Nat) (h : i < s.size) : s.get! i = s[i] := by
  show s.data[i]! = s.data[i]
  exact getElem!_pos s.data i h

/-- The same follower at an int's place. -/
def moreZ (s : ByteArray) (i lo hi : Int) : Bool := moreB s i.toNat lo.toNat hi.toNat

end Go.Proofs.YtjbamlmdeopcaaaDoor.dec
