/-
  Contracts of the small functions: fault, more, Width.
-/
import Derived.Test.YtebddafnddmgjaaDoorDecode
import Derived.Test.YtebddafnddmgjaaDoorRows
import Derived.Handy
import Derived.Deep.DeepFit
namespace Go.Proofs.YtebddafnddmgjaaDoor.dec
open Go.RowKit Go.Lib

def faultZ (r k p : Int) : Int := if r = 65533 ∧ k = 1 then 101 else if r = 0 then 102 else if r = 65279 ∧ 0 < p then 103 else 0

set_option maxHeartbeats 400000 in
theorem fault_any (r k p : Int) (w : World) :
    Calls Tryd.prog 8 #[.int .i32 r, .int .i64 k, .int .i64 p] w fun e w' => e = .returned (.int .i64 (faultZ r k p)) ∧ w = w' := by
  by_cases h1 : r = 65533
  · subst h1
    by_cases h2 : k = 1
    · subst h2
      go_enter Tryd.func8, Tryd.ntmps8
      go_wp2
      go_ret
      exact ⟨rfl, rfl⟩
    · have h2' : (k == 1) = false := beq_eq_false_iff_ne.2 h2
      have e : faultZ 65533 k p = 0 := by unfold faultZ; rw [if_neg (by omega), if_neg (by omega), if_neg (by omega)]
      rw [e]
      clear e h2
      go_enter Tryd.func8, Tryd.ntmps8
      go_wp2
      go_ret
      exact ⟨rfl, rfl⟩
  · have h1' : (r == 65533) = false := beq_eq_false_iff_ne.2 h1
    by_cases h3 : r = 0
    · subst h3
      have e : faultZ 0 k p = 102 := by unfold faultZ; rw [if_neg (by omega), if_pos (by omega)]
      rw [e]
      clear e h1
      go_enter Tryd.func8, Tryd.ntmps8
      go_wp2
      go_ret
      exact ⟨rfl, rfl⟩
    · have h3' : (r == 0) = false := beq_eq_false_iff_ne.2 h3
      by_cases h4 : r = 65279
      · subst h4
        by_cases h5 : 0 < p
        · have e : faultZ 65279 k p = 103 := by unfold faultZ; rw [if_neg (by omega), if_neg (by omega), if_pos (by omega)]
          rw [e]
          clear e h1 h3
          have h5' : decide ((0 : Int) < p) = true := decide_eq_true h5
          go_enter Tryd.func8, Tryd.ntmps8
          go_wp2
          go_ret
          exact ⟨rfl, rfl⟩
        · have e : faultZ 65279 k p = 0 := by unfold faultZ; rw [if_neg (by omega), if_neg (by omega), if_neg (by omega)]
          rw [e]
          clear e h1 h3
          have h5' : decide ((0 : Int) < p) = false := decide_eq_false h5
          go_enter Tryd.func8, Tryd.ntmps8
          go_wp2
          go_ret
          exact ⟨rfl, rfl⟩
      · have h4' : (r == 65279) = false := beq_eq_false_iff_ne.2 h4
        have e : faultZ r k p = 0 := by unfold faultZ; rw [if_neg (by omega), if_neg (by omega), if_neg (by omega)]
        rw [e]
        clear e h1 h3 h4
        go_enter Tryd.func8, Tryd.ntmps8
        go_wp2
        go_ret
        exact ⟨rfl, rfl⟩

theorem get_lt (s : ByteArray) (i : Nat) (h : i < s.size) : s.get! i = s[i] := by
  show s.data[i]! = s.data[i]
  exact getElem!_pos s.data i h

/-- The same follower at an int's place. -/
def moreZ (s : ByteArray) (i lo hi : Int) : Bool := moreB s i.toNat lo.toNat hi.toNat

set_option maxHeartbeats 400000 in
theorem more_any (s : ByteArray) (i : Int) (lo hi : Int) (w : World) (hi0 : 0 ≤ i) (h0 : 0 ≤ lo) (h1 : 0 ≤ hi) :
    Calls Tryd.prog 11 #[.string s, .int .i64 i, .int .u8 lo, .int .u8 hi] w fun e w' => e = .returned (.bool (moreZ s i lo hi)) ∧ w = w' := by
  obtain ⟨n, rfl⟩ := Int.eq_ofNat_of_zero_le hi0
  show Calls _ _ _ _ fun e w' => e = .returned (.bool (moreB s n lo.toNat hi.toNat)) ∧ w = w'
  by_cases hi' : n < s.size
  · have hg : s.get! n = s[n] := get_lt s n hi'
    by_cases hl : lo ≤ (s[n].toNat : Int)
    · by_cases hh : (s[n].toNat : Int) ≤ hi
      · have e : moreB s n lo.toNat hi.toNat = true := decide_eq_true (by rw [hg]; omega)
        rw [e]
        clear e hg
        go_enter Tryd.func11, Tryd.ntmps11
        go_wp2
        go_ret
        exact ⟨rfl, rfl⟩
      · have e : moreB s n lo.toNat hi.toNat = false := decide_eq_false (by rw [hg]; omega)
        rw [e]
        clear e hg
        go_enter Tryd.func11, Tryd.ntmps11
        go_wp2
        go_ret
        exact ⟨rfl, rfl⟩
    · have e : moreB s n lo.toNat hi.toNat = false := decide_eq_false (by rw [hg]; omega)
      rw [e]
      clear e hg
      go_enter Tryd.func11, Tryd.ntmps11
      go_wp2
      go_ret
      exact ⟨rfl, rfl⟩
  · have e : moreB s n lo.toNat hi.toNat = false := decide_eq_false (by omega)
    rw [e]
    clear e
    have hd : decide ((n : Int) < (s.size : Int)) = false := decide_eq_false (by omega)
    go_enter Tryd.func11, Tryd.ntmps11
    go_wp2
    go_ret
    exact ⟨rfl, rfl⟩
end Go.Proofs.YtebddafnddmgjaaDoor.dec
