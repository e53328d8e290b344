/-
  The reference's Signs, Keywords, Name, Keyword, Operator.
-/
import Derived.Test.YtbmmbaagcglomaaDoorCuts
namespace Go.Proofs.YtbmmbaagcglomaaDoor.tok
open Go.RowKit

set_option maxRecDepth 100000 in
set_option maxHeartbeats 1000000 in
theorem refSigns_any (w : World) : Calls Tryd.prog 35 #[] w (MadeTexts signs w) := by
  go_enter Tryd.func35, Tryd.ntmps35
  go_wp2_with (go_at_call 34; refine (cut_any _ _ (by decide)).mono ?_; rintro e w1 ⟨v, rfl, ho, hb⟩; have HO := Lib.hid ho; have HB := Lib.hid hb; clear ho hb)
  go_ret
  exact ⟨_, rfl, HO.out, HB.out⟩
set_option maxRecDepth 100000 in
set_option maxHeartbeats 1000000 in
theorem refWords_any (w : World) : Calls Tryd.prog 36 #[] w (MadeTexts words w) := by
  go_enter Tryd.func36, Tryd.ntmps36
  go_wp2_with (go_at_call 34; refine (cut_any _ _ (by decide)).mono ?_; rintro e w1 ⟨v, rfl, ho, hb⟩; have HO := Lib.hid ho; have HB := Lib.hid hb; clear ho hb)
  go_ret
  exact ⟨_, rfl, HO.out, HB.out⟩

set_option maxRecDepth 100000 in
set_option maxHeartbeats 1000000 in
theorem refKeyword_any (s : ByteArray) (w : World) : Calls Tryd.prog 24 #[.string s] w fun e w' => e = .returned (.int .i64 (kwOf s.data.toList)) ∧ Below w.heap.size w w' := by
  go_enter Tryd.func24, Tryd.ntmps24
  go_wp2_with (go_at_call 36; refine (refWords_any _).mono ?_; rintro e w1 ⟨v, rfl, ho, hb⟩; obtain ⟨g, cap, rfl, hcell⟩ := ho.shape (by decide); rw [words_length] at hcell; rw [words_length]; have HC := Lib.hid hcell; have HB := Lib.hid hb; clear ho hb hcell)
  go_loop [7] (fun i => ∃ k : Nat, k ≤ 21 ∧ (∀ j, j < k → words.getD j [] ≠ s.data.toList) ∧ i = .int .i64 k) (fun i => 21 - (intOf i).toNat)
  case atStart => exact ⟨0, by omega, fun j hj => by omega, rfl⟩
  case round =>
    obtain ⟨k, hk, hbef, rfl⟩ := hrel
    have HF := Lib.hid hbef
    clear hbef
    by_cases hlt : k < 21
    · have hcell := HC.out k hlt
      obtain ⟨x, hx⟩ : ∃ x, B (words.getD k []) = x := ⟨_, rfl⟩
      rw [hx] at hcell
      have hxl : x.toList = words.getD k [] := by rw [← hx, blist]
      have HX := Lib.hid hxl
      clear hx hxl
      by_cases he : x.toList = s.toList
      · have he' : (x.toList == s.toList) = true := by simpa using he
        have HE : Hid (words.getD k [] = s.data.toList) := Lib.hid (by rw [← HX.out, he, Lib.toList_data])
        clear he
        go_wp2_with fail
        go_ret
        refine ⟨?_, HB.out⟩
        have := idx_here (l := words) (by rw [words_length]; exact hlt) HE.out HF.out
        unfold kwOf
        rw [this, if_pos hlt]
        rfl
      · have he' : (x.toList == s.toList) = false := by simpa using he
        have HE : Hid (words.getD k [] ≠ s.data.toList) := Lib.hid (by rw [← HX.out, ← Lib.toList_data]; exact he)
        clear he
        go_wp2_with fail
        go_round
        case rel => exact ⟨k + 1, by omega, fun j hj => by by_cases e : j = k; · subst e; exact HE.out
                                                           · exact HF.out j (by omega), by go_num⟩
        case measure => simp [intOf]; omega
    · go_wp2_with fail
      go_ret
      refine ⟨?_, HB.out⟩
      have := idx_none (l := words) (s := s.data.toList) (fun j hj => HF.out j (by rw [words_length] at hj; omega))
      unfold kwOf
      rw [this, words_length, if_neg (by omega)]
      rfl
end Go.Proofs.YtbmmbaagcglomaaDoor.tok
