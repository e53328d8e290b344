/-
  The law TokenBack.
-/
import Derived.Test.YtbmmbaagcglomaaDoorBackA
import Derived.Test.YtbmmbaagcglomaaDoorBackC
import Derived.Test.YtbmmbaagcglomaaDoorBackD
import Derived.Test.YtbmmbaagcglomaaDoorBackE
namespace Go.Proofs.YtbmmbaagcglomaaDoor.tok
open Go.RowKit

set_option maxRecDepth 100000 in
theorem back_law (z : Int) (s : ByteArray) (w : World) (hE : Env w) : Calls Tryd.prog 5 #[.int .i64 z, .string s] w (Gives (.bool true) w) := by
  obtain ⟨t, rfl⟩ : ∃ t, s = B t := ⟨_, (bof s).symm⟩
  by_cases hs : (B t).size ≤ 1073741824
  · have hf := fine z
    have HE := Lib.hid hE
    have HN : Hid (∀ u : World, Calls Tryd.prog 11 #[.int .i64 z] u (Gives (.string (B (nameOf z))) u)) := Lib.hid (name_any z)
    have HK : Hid (∀ u : World, Calls Tryd.prog 23 #[.string (B (nameOf z))] u (Gives (.int .i64 (kwOf (nameOf z))) u)) := Lib.hid (fun u => by
      have := keyword_any (B (nameOf z)) u
      rwa [bdata] at this)
    have HO : ∀ k n : Nat, opOf (nameOf z) = (k, n) → Hid (∀ u : World, Calls Tryd.prog 21 #[.string (B (nameOf z))] u (Gives (.tuple #[.int .i64 k, .int .i64 n]) u)) := fun k n e => Lib.hid (fun u => by
      have := operator_any (B (nameOf z)) u
      rwa [bdata, e] at this)
    have HPL : Hid (∀ u : World, Calls Tryd.prog 19 #[.int .i64 z] u fun e w' => e = .returned (.int .i64 (plainOf z)) ∧ u = w') := Lib.hid (plain_any z)
    have F4 : Hid (plainOf z ≠ 0 → PlainFacts z (plainOf z) (nameOf z)) := Lib.hid (plain_facts z)
    obtain ⟨k, n, hkn⟩ : ∃ k n, opOf (nameOf z) = (k, n) := ⟨_, _, rfl⟩
    have HO1 := HO k n hkn
    obtain ⟨f1, f2, f3, _, f5, f6⟩ := hf
    have hmore := op_more (nameOf z) t
    rw [hkn] at f2 f3 f6 hmore
    simp only [] at f2 f3 f6 hmore
    have hbn : (B (nameOf z)).size = (nameOf z).length := bsize _
    by_cases hm : kwOf (nameOf z) = 0
    · by_cases hk0 : 0 < k
      · by_cases hnl : n = (nameOf z).length
        · have hn0 : 0 < n := by rcases Nat.eq_zero_or_pos n with e | e; exact absurd (f6.2 e) (by omega); exact e
          have hn2 := hmore hn0 hnl
          have hname := op_name (nameOf z ++ t) (by omega)
          refine back_A z (plainOf z) _ t (nameOf z) k n w hs HE HN HK HO1 HPL F4 (opOf (nameOf z ++ t)).1 (opOf (nameOf z ++ t)).2 (Lib.hid (fun u => ?_)) (Lib.hid (fun u => ?_)) (Lib.hid (op_le _)) (Lib.hid f5) hm (by rw [hbn, hnl]; simp) hn0 hk0 (by rw [f2 hnl hn0]; simp) (decide_eq_false (by omega))
          · have := operator_any (B (nameOf z ++ t)) u
            rwa [bdata] at this
          · have := name_any ((opOf (nameOf z ++ t)).1 : Nat) u
            rwa [hname] at this
        · exact back_C z (plainOf z) _ t (nameOf z) k n w hs HE HN HK HO1 HPL F4 hm (beq_eq_false_iff_ne.2 (by omega)) hk0
      · have hk00 : k = 0 := by omega
        have hn00 : n = 0 := f6.1 hk00
        rw [hk00, hn00] at hkn
        have HO0 : Hid (∀ u : World, Calls Tryd.prog 21 #[.string (B (nameOf z))] u (Gives (.tuple #[.int .i64 0, .int .i64 0]) u)) := HO 0 0 hkn
        by_cases hl : (nameOf z).length = 0
        · exact back_D2 z (plainOf z) _ t (nameOf z) w hs HE HN HK HO0 HPL F4 hm (by rw [hbn, hl]; rfl)
        · exact back_D z (plainOf z) _ t (nameOf z) w hs HE HN HK HO0 HPL F4 hm (beq_eq_false_iff_ne.2 (by omega))
    · have hn00 : n = 0 := f3.resolve_left hm
      have hk00 : k = 0 := f6.2 hn00
      rw [hk00, hn00] at hkn
      have HO0 : Hid (∀ u : World, Calls Tryd.prog 21 #[.string (B (nameOf z))] u (Gives (.tuple #[.int .i64 0, .int .i64 0]) u)) := HO 0 0 hkn
      have hl : (nameOf z).length ≠ 0 := fun g => hm (by rw [List.eq_nil_of_length_eq_zero g]; kernel_rfl)
      exact back_E z (plainOf z) _ t (nameOf z) w hs HE HN HK HO0 HPL F4 hm (f1.resolve_left hm) (beq_eq_false_iff_ne.2 (by omega))
  · have hd : decide ((1073741824 : Int) < ((B t).size : Int)) = true := decide_eq_true (by omega)
    go_enter Tryd.func5, Tryd.ntmps5
    go_wp2_with fail
    go_ret
    exact ⟨rfl, Below.refl _ _⟩
end Go.Proofs.YtbmmbaagcglomaaDoor.tok
