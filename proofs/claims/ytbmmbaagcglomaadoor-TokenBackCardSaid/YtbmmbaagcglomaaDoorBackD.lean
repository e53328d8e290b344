/-
  The law TokenBack: a name that begins with no sign.
-/
import Derived.Test.YtbmmbaagcglomaaDoorBackBase
namespace Go.Proofs.YtbmmbaagcglomaaDoor.tok
open Go.RowKit

set_option maxRecDepth 100000 in
set_option maxHeartbeats 4000000 in
theorem back_D (z p m : Int) (t N : List UInt8) (w : World) (hs : (B t).size ≤ 1073741824) (HE : Hid (Env w))
    (HN : Hid (∀ u : World, Calls Tryd.prog 11 #[.int .i64 z] u (Gives (.string (B N)) u)))
    (HK : Hid (∀ u : World, Calls Tryd.prog 23 #[.string (B N)] u (Gives (.int .i64 m) u)))
    (HO : Hid (∀ u : World, Calls Tryd.prog 21 #[.string (B N)] u (Gives (.tuple #[.int .i64 0, .int .i64 0]) u)))
    (HPL : Hid (∀ u : World, Calls Tryd.prog 19 #[.int .i64 z] u fun e w' => e = .returned (.int .i64 p) ∧ u = w'))
    (F4 : Hid (p ≠ 0 → PlainFacts z p N))
    (hm : m = 0) (g7 : ((0 : Int) == ((B N).size : Int)) = false) :
    Calls Tryd.prog 5 #[.int .i64 z, .string (B t)] w (Gives (.bool true) w) := by
  have hd : decide ((1073741824 : Int) < ((B t).size : Int)) = false := decide_eq_false (by omega)
  subst hm
  go_enter Tryd.func5, Tryd.ntmps5
  go_wp2_with (go_at_call 10; refine (shown_any _ HE.out).mono ?_; rintro e w1 ⟨rfl, hb1⟩; have B1 := Lib.hid hb1; have z1 := hb1.size; clear hb1)
  refine (HN.out _).mono ?_
  rintro e w2 ⟨rfl, hb2⟩
  have B2 := Lib.hid (B1.out.trans (hb2.mono z1))
  have z2 := B2.out.size
  clear hb2 B1 z1
  go_wp2_with fail
  refine (HO.out _).mono ?_
  rintro e w3 ⟨rfl, hb3⟩
  have B3 := Lib.hid (B2.out.trans (hb3.mono z2))
  have z3 := B3.out.size
  clear hb3 B2 z2
  go_wp2_with fail
  refine (HK.out _).mono ?_
  rintro e w4 ⟨rfl, hb4⟩
  have B4 := Lib.hid (B3.out.trans (hb4.mono z3))
  have z4 := B4.out.size
  clear hb4 B3 z3
  go_wp2_with fail
  refine (HK.out _).mono ?_
  rintro e w5 ⟨rfl, hb5⟩
  have B5 := Lib.hid (B4.out.trans (hb5.mono z4))
  have z5 := B5.out.size
  clear hb5 B4 z4
  go_wp2_with fail
  refine (HPL.out _).mono ?_
  rintro e wp ⟨rfl, rfl⟩
  by_cases hp0 : p = 0
  · subst hp0
    go_wp2_with fail
    go_ret
    exact ⟨rfl, B5.out⟩
  · have hpz : (p == 0) = false := by simpa using hp0
    obtain ⟨P, r, c1, c2, k1, k2', k3⟩ := F4.out hp0
    have HNP := Lib.hid k1
    have HPR := Lib.hid k2'
    have HPZ := Lib.hid k3
    clear hp0 k1 k2' k3
    go_wp2_with fail
    refine (HNP.out _).mono ?_
    rintro e wn ⟨rfl, hbn⟩
    have BN := Lib.hid (B5.out.trans (hbn.mono z5))
    clear hbn
    go_wp2_with fail
    refine (HPR.out _).mono ?_
    rintro e wq ⟨rfl, rfl⟩
    go_wp2_with fail
    refine (HPZ.out _).mono ?_
    rintro e wq ⟨rfl, rfl⟩
    go_wp2_with fail
    go_ret
    exact ⟨rfl, BN.out⟩
set_option maxRecDepth 100000 in
set_option maxHeartbeats 4000000 in
theorem back_D2 (z p m : Int) (t N : List UInt8) (w : World) (hs : (B t).size ≤ 1073741824) (HE : Hid (Env w))
    (HN : Hid (∀ u : World, Calls Tryd.prog 11 #[.int .i64 z] u (Gives (.string (B N)) u)))
    (HK : Hid (∀ u : World, Calls Tryd.prog 23 #[.string (B N)] u (Gives (.int .i64 m) u)))
    (HO : Hid (∀ u : World, Calls Tryd.prog 21 #[.string (B N)] u (Gives (.tuple #[.int .i64 0, .int .i64 0]) u)))
    (HPL : Hid (∀ u : World, Calls Tryd.prog 19 #[.int .i64 z] u fun e w' => e = .returned (.int .i64 p) ∧ u = w'))
    (F4 : Hid (p ≠ 0 → PlainFacts z p N))
    (hm : m = 0) (g7 : ((0 : Int) == ((B N).size : Int)) = true) :
    Calls Tryd.prog 5 #[.int .i64 z, .string (B t)] w (Gives (.bool true) w) := by
  have hd : decide ((1073741824 : Int) < ((B t).size : Int)) = false := decide_eq_false (by omega)
  subst hm
  go_enter Tryd.func5, Tryd.ntmps5
  go_wp2_with (go_at_call 10; refine (shown_any _ HE.out).mono ?_; rintro e w1 ⟨rfl, hb1⟩; have B1 := Lib.hid hb1; have z1 := hb1.size; clear hb1)
  refine (HN.out _).mono ?_
  rintro e w2 ⟨rfl, hb2⟩
  have B2 := Lib.hid (B1.out.trans (hb2.mono z1))
  have z2 := B2.out.size
  clear hb2 B1 z1
  go_wp2_with fail
  refine (HO.out _).mono ?_
  rintro e w3 ⟨rfl, hb3⟩
  have B3 := Lib.hid (B2.out.trans (hb3.mono z2))
  have z3 := B3.out.size
  clear hb3 B2 z2
  go_wp2_with fail
  refine (HK.out _).mono ?_
  rintro e w4 ⟨rfl, hb4⟩
  have B4 := Lib.hid (B3.out.trans (hb4.mono z3))
  have z4 := B4.out.size
  clear hb4 B3 z3
  go_wp2_with fail
  refine (HK.out _).mono ?_
  rintro e w5 ⟨rfl, hb5⟩
  have B5 := Lib.hid (B4.out.trans (hb5.mono z4))
  have z5 := B5.out.size
  clear hb5 B4 z4
  go_wp2_with fail
  refine (HPL.out _).mono ?_
  rintro e wp ⟨rfl, rfl⟩
  by_cases hp0 : p = 0
  · subst hp0
    go_wp2_with fail
    go_ret
    exact ⟨rfl, B5.out⟩
  · have hpz : (p == 0) = false := by simpa using hp0
    obtain ⟨P, r, c1, c2, k1, k2', k3⟩ := F4.out hp0
    have HNP := Lib.hid k1
    have HPR := Lib.hid k2'
    have HPZ := Lib.hid k3
    clear hp0 k1 k2' k3
    go_wp2_with fail
    refine (HNP.out _).mono ?_
    rintro e wn ⟨rfl, hbn⟩
    have BN := Lib.hid (B5.out.trans (hbn.mono z5))
    clear hbn
    go_wp2_with fail
    refine (HPR.out _).mono ?_
    rintro e wq ⟨rfl, rfl⟩
    go_wp2_with fail
    refine (HPZ.out _).mono ?_
    rintro e wq ⟨rfl, rfl⟩
    go_wp2_with fail
    go_ret
    exact ⟨rfl, BN.out⟩
end Go.Proofs.YtbmmbaagcglomaaDoor.tok
