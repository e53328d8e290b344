/-
  The law TokenBack: a sign, with whatever stands behind it.
-/
import Derived.Test.YtbmmbaagcglomaaDoorBackBase
import Derived.Deep.DeepCutAuto
import Derived.Deep.RegionHeld3
namespace Go.Proofs.YtbmmbaagcglomaaDoor.tok
open Go.RowKit

set_option maxRecDepth 100000 in
set_option maxHeartbeats 4000000 in
theorem back_A (z p m : Int) (t N : List UInt8) (k n : Nat) (w : World) (hs : (B t).size ≤ 1073741824) (HE : Hid (Env w))
    (HN : Hid (∀ u : World, Calls Tryd.prog 11 #[.int .i64 z] u (Gives (.string (B N)) u)))
    (HK : Hid (∀ u : World, Calls Tryd.prog 23 #[.string (B N)] u (Gives (.int .i64 m) u)))
    (HO : Hid (∀ u : World, Calls Tryd.prog 21 #[.string (B N)] u (Gives (.tuple #[.int .i64 (k : Nat), .int .i64 (n : Nat)]) u)))
    (HPL : Hid (∀ u : World, Calls Tryd.prog 19 #[.int .i64 z] u fun e w' => e = .returned (.int .i64 p) ∧ u = w'))
    (F4 : Hid (p ≠ 0 → PlainFacts z p N))
    (k2 n2 : Nat) (HO2 : Hid (∀ u : World, Calls Tryd.prog 21 #[.string (B (N ++ t))] u (Gives (.tuple #[.int .i64 (k2 : Nat), .int .i64 (n2 : Nat)]) u)))
    (HN2 : Hid (∀ u : World, Calls Tryd.prog 11 #[.int .i64 (k2 : Nat)] u (Gives (.string (B ((N ++ t).take n2))) u)))
    (HLE : Hid (n2 ≤ (N ++ t).length)) (HS : Hid (N.length ≤ 11)) (hm : m = 0) (g1 : ((n : Int) == ((B N).size : Int)) = true) (hn0 : 0 < n) (hk0 : 0 < k) (g3 : ((k : Int) != z) = false)
    (g6 : decide (n2 < n) = false) :
    Calls Tryd.prog 5 #[.int .i64 z, .string (B t)] w (Gives (.bool true) w) := by
  have hd : decide ((1073741824 : Int) < ((B t).size : Int)) = false := decide_eq_false (by omega)
  subst hm
  have hcat := cat_eq (x := N) (y := t) (by rw [bsize] at hs; have := HS.out; omega)
  go_enter Tryd.func5, Tryd.ntmps5
  go_wp2_with (go_at_call 10; refine (shown_any _ HE.out).mono ?_; rintro e w1 ⟨rfl, hb1⟩; have B1 := Lib.hid hb1; have z1 := hb1.size; clear hb1)
  refine (HN.out _).mono ?_
  rintro e w2 ⟨rfl, hb2⟩
  have B2 := Lib.hid (B1.out.trans (hb2.mono z1))
  have z2 := B2.out.size
  clear hb2 B1 z1
  go_wp2_with fail
  refine (HO.out _).mono ?_
  rintro e w3 ⟨rfl, hb3⟩
  have B3 := Lib.hid (B2.out.trans (hb3.mono z2))
  have z3 := B3.out.size
  clear hb3 B2 z2
  go_wp2_with fail
  refine (HK.out _).mono ?_
  rintro e w4 ⟨rfl, hb4⟩
  have B4 := Lib.hid (B3.out.trans (hb4.mono z3))
  have z4 := B4.out.size
  clear hb4 B3 z3
  go_wp2_with fail
  refine (HK.out _).mono ?_
  rintro e w5 ⟨rfl, hb5⟩
  have B5 := Lib.hid (B4.out.trans (hb5.mono z4))
  have z5 := B5.out.size
  clear hb5 B4 z4
  go_wp2_with fail
  refine (HO2.out _).mono ?_
  rintro e w6 ⟨rfl, hb6⟩
  have B6 := Lib.hid (B5.out.trans (hb6.mono z5))
  have z6 := B6.out.size
  clear hb6 B5 z5
  go_wp2_with fail
  have hsl : ∀ u : World, (Instr.slice 9 (.string (B (N ++ t))) none (some (.int .i64 (n2 : Int))) none).run Tryd.prog u = .ok (.string (B ((N ++ t).take n2))) u := fun u => by
    have := slice_to (B (N ++ t)) n2 (n2 : Int) rfl (by rw [bsize]; exact HLE.out) u
    rwa [bdata] at this
  have hqq : ((B ((N ++ t).take n2)).toList == (B ((N ++ t).take n2)).toList) = true := by simp
  go_cut [83] (fun u wx => u = .bool false ∧ Below w.heap.size w wx)
  case first =>
    go_region_held3 (fun _ => True) (first | trivial) (first | (go_at_call 11; refine (HN2.out _).mono ?_; rintro e w7 ⟨rfl, hb7⟩))
    all_goals (try go_wp2_with fail)
    all_goals go_meet
    all_goals exact ⟨rfl, B6.out.drew.trans (hb7.mono z6)⟩
  case rest =>
    obtain ⟨rfl, hq⟩ := hcut
    have BQ := Lib.hid hq
    have zq := hq.size
    clear hq hsl hqq hcat HN2
    go_wp2_with fail
    refine (HPL.out _).mono ?_
    rintro e wp ⟨rfl, rfl⟩
    by_cases hp0 : p = 0
    · subst hp0
      go_wp2_with fail
      go_ret
      exact ⟨rfl, BQ.out⟩
    · have hpz : (p == 0) = false := by simpa using hp0
      obtain ⟨P, r, c1, c2, k1, k2', k3⟩ := F4.out hp0
      have HNP := Lib.hid k1
      have HPR := Lib.hid k2'
      have HPZ := Lib.hid k3
      clear hp0 k1 k2' k3
      go_wp2_with fail
      refine (HNP.out _).mono ?_
      rintro e wn ⟨rfl, hbn⟩
      have BN := Lib.hid (BQ.out.trans (hbn.mono zq))
      clear hbn
      go_wp2_with fail
      refine (HPR.out _).mono ?_
      rintro e wq ⟨rfl, rfl⟩
      go_wp2_with fail
      refine (HPZ.out _).mono ?_
      rintro e wq ⟨rfl, rfl⟩
      go_wp2_with fail
      go_ret
      exact ⟨rfl, BN.out⟩
end Go.Proofs.YtbmmbaagcglomaaDoor.tok
