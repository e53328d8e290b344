/-
  The law TextPlaces: every place is where its line and column are; every line is what stands between line feeds; all lines, with their line feeds, are the text.
-/
import Derived.Test.YteocdcknfhlfgaaPlaceAt
namespace Go.Proofs.Yteocdcknfhlfgaa.buf
open Go.RowKit

theorem InLine.to {T : List UInt8} {p l : Nat} (h : InLine T p l) (hp : p ≤ T.length) : p ≤ lineTo T l := by
  obtain ⟨hl, _, hb⟩ := h
  unfold lineTo
  split
  · next g => have := hb g; omega
  · exact hp
/-- Where the line k begins, and behind the last one: where one more would. -/
def allN (T : List UInt8) (k : Nat) : Nat := if h : k < (begins T).length then (begins T)[k] else T.length + 1
theorem allN_zero (T : List UInt8) : allN T 0 = 0 := by unfold allN; rw [dif_pos (begins_pos T)]; rfl
theorem allN_at (T : List UInt8) (k : Nat) (h : k < (begins T).length) : allN T k = (begins T)[k] := by unfold allN; rw [dif_pos h]
theorem allN_next (T : List UInt8) (k : Nat) : allN T (k + 1) = lineTo T k + 1 := by
  unfold allN
  by_cases g : k + 1 < (begins T).length
  · rw [dif_pos g, (line_feed T k g).2]
  · rw [dif_neg g, line_end T k g]
theorem allN_last (T : List UInt8) (k : Nat) (h : ¬ k < (begins T).length) : allN T k = T.length + 1 := by unfold allN; rw [dif_neg h]
theorem byte_at (s : ByteArray) (i : Nat) (_h : i < s.size) : s.data.toList[i]? = some s[i] := by
  rw [List.getElem?_eq_getElem (by rw [Array.length_toList]; exact _h)]
  rfl

set_option maxRecDepth 100000 in
set_option maxHeartbeats 4000000 in
theorem places_any (s : ByteArray) (w : World) :
    Calls Try.prog 5 #[.string s] w fun e w' => e = .returned (.bool true) ∧ Below w.heap.size w w' := by
  by_cases hs : 16384 < s.size
  · have hd : decide ((16384 : Int) < (s.size : Int)) = true := decide_eq_true (by omega)
    go_enter Try.func5, Try.ntmps5
    go_wp2_with fail
    go_ret
    exact ⟨rfl, Below.refl _ _⟩
  · have hd : decide ((16384 : Int) < (s.size : Int)) = false := decide_eq_false (by omega)
    have hsd := size_data s
    have HSD := Lib.hid hsd
    clear hsd
    go_enter Try.func5, Try.ntmps5
    go_wp2_with fail
    refine (new_any s _ (by omega)).mono ?_
    rintro e w1 ⟨rfl, na, nb⟩
    obtain ⟨g, hg⟩ : ∃ g, w.heap.size = g := ⟨_, rfl⟩
    rw [hg] at na ⊢
    have NA := Lib.hid na
    have NB := Lib.hid nb
    have HG := Lib.hid hg
    clear na nb hg
    go_wp2_with fail
    go_loopw [5] (fun p wr => ∃ k : Nat, p = .int .i64 k ∧ k ≤ s.size + 1 ∧ BufAt wr g s.data.toList ∧ Below w.heap.size w wr) (fun p _ => s.size + 1 - (intOf p).toNat)
    case atStart => exact ⟨0, rfl, by omega, NA.out, NB.out⟩
    case round =>
      obtain ⟨k, rfl, hk, hB, hW⟩ := hrel
      have HB := Lib.hid hB
      have HW := Lib.hid hW
      clear hB hW NA NB
      by_cases hlt : k ≤ s.size
      · go_wp2_with fail
        refine (place_ok g _ k _ HB.out (by rw [HSD.out]; exact hlt)).mono ?_
        rintro e w2 ⟨⟨l, F, hin, hF, rfl⟩, hst⟩
        have hto := hin.to (by rw [HSD.out]; exact hlt)
        have hat : ∀ u : World, BufAt u g s.data.toList → Calls Try.prog 21 #[.pointer (some ⟨g, 0, none⟩), .int .i64 l, .int .i64 ((k : Int) - (F : Int))] u fun e w' => e = .returned (.tuple #[.int .i64 k, .int .i64 0]) ∧ Still g s.data.toList u w' := fun u hu => by
          obtain ⟨hl, ha, _⟩ := hin
          rw [List.getElem?_eq_getElem hl] at hF
          have hF' := Option.some.inj hF
          have := at_ok g s.data.toList l ((k : Int) - (F : Int)) u hu hl (by omega) (by omega)
          rw [show (((begins s.data.toList)[l] : Nat) : Int) + ((k : Int) - (F : Int)) = k from by omega] at this
          exact this
        have HAT := Lib.hid hat
        have HS2 := Lib.hid hst
        have W2 := Lib.hid (HW.out.trans (hst.2.below HW.out.size (by have := HG.out; omega)))
        clear hin hF hto hat hst HB HW
        go_wp2_with fail
        refine (HAT.out _ HS2.out.1).mono ?_
        rintro e w3 ⟨rfl, hst⟩
        have HS3 := Lib.hid hst
        have W3 := Lib.hid (W2.out.trans (hst.2.below W2.out.size (by have := HG.out; omega)))
        clear hst HS2 W2
        go_wp2_with fail
        go_roundw
        case rel => exact ⟨k + 1, by go_num, by omega, HS3.out.1, W3.out⟩
        case measure => simp [intOf]; omega
      · go_wp2_with fail
        go_loopw [11, 12] (fun a n wr => ∃ j : Nat, n = .int .i64 j ∧ j ≤ (begins s.data.toList).length ∧ a = .int .i64 (allN s.data.toList j : Nat) ∧ BufAt wr g s.data.toList ∧ Below w.heap.size w wr)
          (fun _ n _ => (begins s.data.toList).length - (intOf n).toNat)
        case atStart => exact ⟨0, rfl, Nat.zero_le _, by rw [allN_zero]; rfl, HB.out, HW.out⟩
        case round =>
          obtain ⟨j, rfl, hj, rfl, hB, hW⟩ := hrel
          have HB2 := Lib.hid hB
          have HW2 := Lib.hid hW
          clear hB hW HB HW
          have hfew := begins_few s.data.toList
          rw [HSD.out] at hfew
          by_cases hjl : j < (begins s.data.toList).length
          · have hge := lineTo_ge s.data.toList j hjl
            have hln := fun u hu => line_ok g s.data.toList j u hu hjl
            have hall := allN_next s.data.toList j
            have hclean := fun i => line_clean s.data.toList j i hjl
            have hfeed : lineTo s.data.toList j < s.size → s.data.toList[lineTo s.data.toList j]? = some 10 := fun h => by
              by_cases c : j + 1 < (begins s.data.toList).length
              · exact (line_feed _ j c).1
              · have := line_end _ j c
                rw [HSD.out] at this
                omega
            rw [allN_at _ j hjl]
            obtain ⟨E, hE⟩ : ∃ E, lineTo s.data.toList j = E := ⟨_, rfl⟩
            obtain ⟨F, hF⟩ : ∃ F, (begins s.data.toList)[j] = F := ⟨_, rfl⟩
            rw [hE, hF] at hge hln
            simp only [hE, hF] at hclean
            rw [hE] at hall hfeed
            rw [hF]
            rw [HSD.out] at hge
            have HLN := Lib.hid hln
            have HALL := Lib.hid hall
            have HCL := Lib.hid hclean
            have HFD := Lib.hid hfeed
            clear hln hall hclean hfeed hE hF
            go_wp2_with fail
            refine (lines_any g _ _ HB2.out).mono ?_
            rintro e w2 ⟨rfl, hst⟩
            have HS2 := Lib.hid hst
            have W2 := Lib.hid (HW2.out.trans (hst.2.below HW2.out.size (by have := HG.out; omega)))
            clear hst HB2 HW2
            go_wp2_with fail
            refine (HLN.out _ HS2.out.1).mono ?_
            rintro e w3 ⟨rfl, hst⟩
            have HS3 := Lib.hid hst
            have W3 := Lib.hid (W2.out.trans (hst.2.below W2.out.size (by have := HG.out; omega)))
            clear hst HS2 W2
            go_wp2_with fail
            go_loop [15] (fun i => ∃ x : Nat, i = .int .i64 x ∧ F ≤ x ∧ x ≤ E) (fun i => E - (intOf i).toNat)
            case atStart => exact ⟨F, rfl, Nat.le_refl _, hge.1⟩
            case round =>
              obtain ⟨x, rfl, hx1, hx2⟩ := hrel
              by_cases hxl : x < E
              · have hb := HCL.out x hx1 hxl
                rw [byte_at s x (by omega)] at hb
                obtain ⟨c, hc⟩ : ∃ c, s[x]'(by omega) = c := ⟨_, rfl⟩
                rw [hc] at hb
                have hcz : ((c.toNat : Int) == 10) = false := beq_eq_false_iff_ne.2 (fun e => hb (by rw [show c = 10 from UInt8.toNat_inj.1 (by rw [show c.toNat = 10 from (by omega)]; rfl)]))
                clear hb
                have hxs : x < s.size := by omega
                go_wp2_with fail
                go_round
                case rel => exact ⟨x + 1, by go_num, by omega, by omega⟩
                case measure => simp [intOf]; omega
              · by_cases hEs : E < s.size
                · have hb := HFD.out hEs
                  rw [byte_at s E hEs] at hb
                  have hc : s[E] = 10 := Option.some.inj hb
                  have hEd : decide ((E : Int) < (s.size : Int)) = true := decide_eq_true (by omega)
                  clear hb
                  go_wp2_with fail
                  go_roundw
                  case rel => exact ⟨j + 1, by go_num, by omega, by rw [HALL.out]; rfl, HS3.out.1.below ((Below.refl _ _).alloc (Nat.le_refl _) _), W3.out.alloc W3.out.size _⟩
                  case measure => simp [intOf]; omega
                · have hEd : decide ((E : Int) < (s.size : Int)) = false := decide_eq_false (by omega)
                  go_wp2_with fail
                  go_roundw
                  case rel => exact ⟨j + 1, by go_num, by omega, by rw [HALL.out]; rfl, HS3.out.1.below ((Below.refl _ _).alloc (Nat.le_refl _) _), W3.out.alloc W3.out.size _⟩
                  case measure => simp [intOf]; omega
          · rw [allN_last _ j hjl, HSD.out]
            have hjd : decide ((j : Int) < ((begins s.data.toList).length : Int)) = false := decide_eq_false (by omega)
            go_wp2_with fail
            refine (lines_any g _ _ HB2.out).mono ?_
            rintro e w2 ⟨rfl, hst⟩
            have W2 := Lib.hid (HW2.out.trans (hst.2.below HW2.out.size (by have := HG.out; omega)))
            clear hst HB2 HW2
            go_wp2_with fail
            go_ret
            exact ⟨by simp, W2.out⟩
end Go.Proofs.Yteocdcknfhlfgaa.buf
