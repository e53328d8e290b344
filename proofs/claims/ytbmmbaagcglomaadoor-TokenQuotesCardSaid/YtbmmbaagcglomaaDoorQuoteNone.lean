/-
  The law TokenQuotes: a list without bytes.
-/
import Derived.Test.YtbmmbaagcglomaaDoorQuoteBase
namespace Go.Proofs.YtbmmbaagcglomaaDoor.tok
open Go.RowKit

set_option maxRecDepth 100000 in
set_option maxHeartbeats 2000000 in
theorem quotes_none (oa : Option Addr) (cap : Nat) (wv : Value) (w : World) (HE : Hid (Env w))
    (HCV : Hid (∀ W : World, (convert 38 9 (.slice oa 0 cap)).run Tryd.prog W = .ok (.string (B [])) W)) :
    Calls Tryd.prog 9 #[.slice oa 0 cap, wv] w (Gives (.bool true) w) := by
  have k1 : Op.stringOp .add { data := #[34] } { data := #[] } = pure (.string (B [34])) := cat_eq (x := [34]) (y := []) (by simp)
  have k2 : Op.stringOp .add (B [34]) { data := #[34] } = pure (.string (B [34, 34])) := cat_eq (x := [34]) (y := [34]) (by simp)
  have k3 : Op.stringOp .add { data := #[96] } { data := #[] } = pure (.string (B [96])) := cat_eq (x := [96]) (y := []) (by simp)
  have k4 : Op.stringOp .add (B [96]) { data := #[96] } = pure (.string (B [96, 96])) := cat_eq (x := [96]) (y := [96]) (by simp)
  have U1 : UnqCalls [34, 34] [] 0 := unq_calls (by simp) (by kernel_rfl)
  have U2 : UnqCalls [96, 96] [] 0 := unq_calls (by simp) (by kernel_rfl)
  have U3 : UnqCalls [34] [] 106 := unq_calls (by simp) (by kernel_rfl)
  have U4 : UnqCalls [96] [] 106 := unq_calls (by simp) (by kernel_rfl)
  have he : (B []).toList = [] := blist []
  go_enter Tryd.func9, Tryd.ntmps9
  go_wp2_with (go_at_call 10; refine (shown_any _ HE.out).mono ?_; rintro e w1 ⟨rfl, hb1⟩; have B0 := Lib.hid hb1; have z0 := hb1.size; clear hb1)
  go_loopw [5, 6, 7, 35] (fun s r p i wr => s = .string { data := #[] } ∧ r = .string { data := #[] } ∧ p = .string { data := #[] } ∧ i = .int .i64 0 ∧ Below w.heap.size w wr) (fun _ _ _ _ _ => 0)
  case atStart => exact ⟨rfl, rfl, rfl, rfl, B0.out⟩
  obtain ⟨rfl, rfl, rfl, rfl, hbel⟩ := hrel
  have B0 := Lib.hid hbel
  have z0 := hbel.size
  clear hbel
  go_wp2_with fail
  refine (U1.out _ (HE.out.below B0.out)).mono ?_
  rintro e v1 ⟨rfl, b1⟩
  have B1 := Lib.hid (B0.out.trans (b1.mono z0))
  have z1 := B1.out.size
  clear b1 z0
  go_wp2_with fail
  refine (U2.out _ (HE.out.below B1.out)).mono ?_
  rintro e v2 ⟨rfl, b2⟩
  have B2 := Lib.hid (B1.out.trans (b2.mono z1))
  have z2 := B2.out.size
  clear b2 B1 z1
  go_wp2_with fail
  refine (U3.out _ (HE.out.below B2.out)).mono ?_
  rintro e v3 ⟨rfl, b3⟩
  have B3 := Lib.hid (B2.out.trans (b3.mono z2))
  have z3 := B3.out.size
  clear b3 B2 z2
  go_wp2_with fail
  refine (U4.out _ (HE.out.below B3.out)).mono ?_
  rintro e v4 ⟨rfl, b4⟩
  have B4 := Lib.hid (B3.out.trans (b4.mono z3))
  clear b4 B3 z3
  have hcv := HCV.out v4
  go_wp2_with fail
  go_ret
  exact ⟨rfl, B4.out⟩
set_option maxRecDepth 100000 in
set_option maxHeartbeats 2000000 in
theorem quotes_big (oa : Option Addr) (len cap : Nat) (wv : Value) (w : World) (h : 134217728 < len) :
    Calls Tryd.prog 9 #[.slice oa len cap, wv] w (Gives (.bool true) w) := by
  have hd : decide ((134217728 : Int) < (len : Int)) = true := decide_eq_true (by omega)
  go_enter Tryd.func9, Tryd.ntmps9
  go_wp2_with fail
  go_ret
  exact ⟨rfl, Below.refl _ _⟩
end Go.Proofs.YtbmmbaagcglomaaDoor.tok
