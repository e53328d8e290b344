/-
  What a number is as a kind: token's functions and the reference's.
-/
import Derived.Test.YtjbamlmdeopcaaaDoorName
namespace Go.Proofs.YtjbamlmdeopcaaaDoor.tok
open Go.RowKit

def triviaOf (z : Int) : Bool := decide (1 ≤ z ∧ z ≤ 5)
def endsOf (z : Int) : Bool := [10, 11, 12, 13, 14, 70, 73, 77, 86, 44, 45, 62, 63, 64].contains z
def precOf (z : Int) : Int :=
  if [22, 23, 24, 25, 28, 29, 30].contains z then 5 else if [20, 21, 26, 27].contains z then 4 else if [46, 47, 48, 52, 53, 54].contains z then 3 else if z = 42 then 2 else if z = 43 then 1 else 0
def plainOf (z : Int) : Int := if 31 ≤ z ∧ z ≤ 41 then z - 11 else 0

set_option maxRecDepth 100000 in
set_option maxHeartbeats 2000000 in
theorem trivia_any (z : Int) (w : World) : Calls Tryd.prog 34 #[.int .i64 z] w fun e w' => e = .returned (.bool (triviaOf z)) ∧ w = w' := by
  go_enter Tryd.func34, Tryd.ntmps34
  go_wp2_with fail
  all_goals
    go_ret
    refine ⟨?_, rfl⟩
    simp_all [triviaOf]
  omega
set_option maxRecDepth 100000 in
set_option maxHeartbeats 2000000 in
theorem ends_any (z : Int) (w : World) : Calls Tryd.prog 5 #[.int .i64 z] w fun e w' => e = .returned (.bool (endsOf z)) ∧ w = w' := by
  go_enter Tryd.func5, Tryd.ntmps5
  go_wp2_with fail
  all_goals
    go_ret
    refine ⟨?_, rfl⟩
    simp_all [endsOf]
end Go.Proofs.YtjbamlmdeopcaaaDoor.tok
