/-
  The law TextPieces: a piece is its two parts, wherever it is parted; the whole text is all its lines with line feeds between.
-/
import Derived.Test.YteocdcknfhlfgaaPlaceAt
import Derived.Lib.Strings
namespace Go.Proofs.Yteocdcknfhlfgaa.buf
open Go.RowKit

/-- What stands in the text up to the end of the line ahead of line j. -/
def upTo (T : List UInt8) (j : Nat) : List UInt8 := if j = 0 then [] else T.take (lineTo T (j - 1))
theorem upTo_zero (T : List UInt8) : upTo T 0 = [] := rfl
theorem upTo_first (T : List UInt8) : upTo T 1 = (T.take (lineTo T 0)).drop ((begins T)[0]'(begins_pos T)) := by
  rw [begins_zero]; rfl
theorem upTo_next (T : List UInt8) (j : Nat) (h : j + 1 < (begins T).length) : upTo T (j + 2) = (upTo T (j + 1) ++ [10]) ++ (T.take (lineTo T (j + 1))).drop (begins T)[j + 1] := by
  obtain ⟨h1, h2⟩ := line_feed T j h
  obtain ⟨h3, h4⟩ := lineTo_ge T (j + 1) h
  have h5 := (List.getElem?_eq_some_iff.1 h1)
  obtain ⟨h6, h7⟩ := h5
  have e1 : upTo T (j + 1) ++ [10] = T.take (begins T)[j + 1] := by
    rw [h2, List.take_succ_eq_append_getElem h6, h7]
    rfl
  have e2 : upTo T (j + 2) = T.take (lineTo T (j + 1)) := rfl
  rw [e1, e2]
  conv => lhs; rw [← List.take_append_drop (begins T)[j + 1] (T.take (lineTo T (j + 1)))]
  rw [List.take_take, Nat.min_eq_left h3]
theorem upTo_last (T : List UInt8) : upTo T (begins T).length = T := by
  have hp := begins_pos T
  obtain ⟨j, hj⟩ : ∃ j, (begins T).length = j + 1 := ⟨(begins T).length - 1, by omega⟩
  rw [hj]
  show T.take (lineTo T j) = T
  rw [line_end T j (by omega), List.take_length]
theorem upTo_short (T : List UInt8) (j : Nat) : (upTo T j).length ≤ T.length := by
  unfold upTo
  split
  · simp
  · rw [List.length_take]; omega
theorem mk_size (l : List UInt8) : (⟨l.toArray⟩ : ByteArray).size = l.length := by simp [ByteArray.size]
theorem same_text {a b : ByteArray} (h : a.data.toList = b.data.toList) : a = b := by
  cases a; cases b
  simp at h
  rw [h]

set_option maxRecDepth 100000 in
set_option maxHeartbeats 4000000 in
theorem pieces_any (s : ByteArray) (a b c : Int) (w : World) :
    Calls Try.prog 3 #[.string s, .int .i64 a, .int .i64 b, .int .i64 c] w fun e w' => e = .returned (.bool true) ∧ Below w.heap.size w w' := by
  by_cases hs : 16384 < s.size
  · have hd : decide ((16384 : Int) < (s.size : Int)) = true := decide_eq_true (by omega)
    go_enter Try.func3, Try.ntmps3
    go_wp2_with fail
    go_ret
    exact ⟨rfl, Below.refl _ _⟩
  · have hd : decide ((16384 : Int) < (s.size : Int)) = false := decide_eq_false (by omega)
    have hsd := size_data s
    have HSD := Lib.hid hsd
    obtain ⟨F, hF⟩ : ∃ F : Nat, min (max a 0) (s.size : Int) = F := ⟨(min (max a 0) (s.size : Int)).toNat, by omega⟩
    obtain ⟨E, hE⟩ : ∃ E : Nat, min (max b (F : Int)) (s.size : Int) = E := ⟨(min (max b (F : Int)) (s.size : Int)).toNat, by omega⟩
    obtain ⟨M, hM⟩ : ∃ M : Nat, min (max c (F : Int)) (E : Int) = M := ⟨(min (max c (F : Int)) (E : Int)).toNat, by omega⟩
    have hFM : F ≤ M := by omega
    have hME : M ≤ E := by omega
    have hEs : E ≤ s.size := by omega
    obtain ⟨X, hX⟩ : ∃ X : ByteArray, (⟨((s.data.toList.take M).drop F).toArray⟩ : ByteArray) = X := ⟨_, rfl⟩
    obtain ⟨Y, hY⟩ : ∃ Y : ByteArray, (⟨((s.data.toList.take E).drop M).toArray⟩ : ByteArray) = Y := ⟨_, rfl⟩
    obtain ⟨Z, hZ⟩ : ∃ Z : ByteArray, (⟨((s.data.toList.take E).drop F).toArray⟩ : ByteArray) = Z := ⟨_, rfl⟩
    have hXY : X ++ Y = Z := by
      rw [← hX, ← hY, ← hZ]
      apply same_text
      simp only [ByteArray.data_append, Array.toList_append]
      have e : (s.data.toList.take M).drop F = ((s.data.toList.take E).drop F).take (M - F) := by
        rw [← List.drop_take, List.take_take, Nat.min_eq_left hME]
      have e2 : (s.data.toList.take E).drop M = ((s.data.toList.take E).drop F).drop (M - F) := by
        rw [List.drop_drop, show F + (M - F) = M by omega]
      rw [e, e2, List.take_append_drop]
    have hZs : s.extract F E = Z := by
      rw [← hZ]
      apply same_text
      rw [Lib.extract_data, ← List.drop_take]
    have hx : X.size ≤ 16384 := by rw [← hX, mk_size, List.length_drop, List.length_take]; omega
    have hy : Y.size ≤ 16384 := by rw [← hY, mk_size, List.length_drop, List.length_take]; omega
    have hadd : ∀ u : World, (Op.stringOp .add X Y).run Try.prog u = .ok (.string Z) u := fun u => by
      rw [← hXY]
      exact run_string_add_sum u X Y (by omega)
    have hsl : ∀ u : World, (Instr.slice 9 (.string s) (some (.int .i64 (F : Int))) (some (.int .i64 (E : Int))) none).run Try.prog u = .ok (.string Z) u := fun u => by
      rw [← hZs]
      exact run_slice_string (P := Try.prog) u 9 s .i64 .i64 F E Try.underlying9 (by omega) (by omega) (by omega)
    have HX := Lib.hid hX
    have HY := Lib.hid hY
    have HZ := Lib.hid hZ
    clear hX hY hZ hXY hZs hx hy hsd
    go_enter Try.func3, Try.ntmps3
    go_wp2_with fail
    refine (new_any s _ (by omega)).mono ?_
    rintro e w1 ⟨rfl, na, nb⟩
    obtain ⟨g, hg⟩ : ∃ g, w.heap.size = g := ⟨_, rfl⟩
    rw [hg] at na ⊢
    have NA := Lib.hid na
    have NB := Lib.hid nb
    have HG := Lib.hid hg
    clear na nb hg
    go_wp2_with fail
    refine (piece_ok g _ F M _ NA.out hFM (by rw [HSD.out]; omega)).mono ?_
    rintro e w2 ⟨rfl, pb⟩
    rw [HX.out]
    have A2 := Lib.hid (NA.out.below pb)
    have W2 := Lib.hid (NB.out.trans (pb.mono NB.out.size))
    clear pb
    go_wp2_with fail
    refine (piece_ok g _ M E _ A2.out hME (by rw [HSD.out]; omega)).mono ?_
    rintro e w3 ⟨rfl, pb⟩
    rw [HY.out]
    have A3 := Lib.hid (A2.out.below pb)
    have W3 := Lib.hid (W2.out.trans (pb.mono W2.out.size))
    clear pb
    go_wp2_with fail
    refine (piece_ok g _ F E _ A3.out (by omega) (by rw [HSD.out]; omega)).mono ?_
    rintro e w4 ⟨rfl, pb⟩
    rw [HZ.out]
    have A4 := Lib.hid (A3.out.below pb)
    have W4 := Lib.hid (W3.out.trans (pb.mono W3.out.size))
    clear pb
    go_wp2_with fail
    clear hF hE hM hadd hsl
    go_loopw [20, 21] (fun av n wr => ∃ (j : Nat) (A : ByteArray), n = .int .i64 j ∧ j ≤ (begins s.data.toList).length ∧ av = .string A ∧ A.data.toList = upTo s.data.toList j ∧ BufAt wr g s.data.toList ∧ Below w.heap.size w wr)
      (fun _ n _ => (begins s.data.toList).length - (intOf n).toNat)
    case atStart => exact ⟨0, ⟨#[]⟩, rfl, Nat.zero_le _, rfl, rfl, A4.out, W4.out⟩
    case round =>
      obtain ⟨j, A, rfl, hj, rfl, hA, hB, hW⟩ := hrel
      have HB := Lib.hid hB
      have HW := Lib.hid hW
      have HA := Lib.hid hA
      have hfew := begins_few s.data.toList
      rw [HSD.out] at hfew
      have hAs : A.size ≤ 16384 := by
        rw [← size_data A, hA]
        have := upTo_short s.data.toList j
        rw [HSD.out] at this
        omega
      clear hA hB hW A2 A3 A4 W2 W3 W4 NA NB
      by_cases hjl : j < (begins s.data.toList).length
      · have hln := fun u hu => line_ok g s.data.toList j u hu hjl
        have hge := lineTo_ge s.data.toList j hjl
        have hnx : upTo s.data.toList (j + 1) = (if j = 0 then [] else upTo s.data.toList j ++ [10]) ++ (s.data.toList.take (lineTo s.data.toList j)).drop (begins s.data.toList)[j] := by
          cases j with
          | zero => exact upTo_first _
          | succ k => exact upTo_next _ k hjl
        obtain ⟨E2, hE2⟩ : ∃ E, lineTo s.data.toList j = E := ⟨_, rfl⟩
        obtain ⟨F2, hF2⟩ : ∃ F, (begins s.data.toList)[j] = F := ⟨_, rfl⟩
        rw [hE2, hF2] at hge hln hnx
        obtain ⟨P, hP⟩ : ∃ P : ByteArray, (⟨((s.data.toList.take E2).drop F2).toArray⟩ : ByteArray) = P := ⟨_, rfl⟩
        have hPd : P.data.toList = (s.data.toList.take E2).drop F2 := by rw [← hP]
        have hPs : P.size ≤ 16384 := by
          rw [← size_data P, hPd, List.length_drop, List.length_take, HSD.out]; omega
        rw [← hPd] at hnx
        rw [HSD.out] at hge
        have HLN := Lib.hid hln
        have HNX := Lib.hid hnx
        have HP := Lib.hid hP
        clear hln hnx hP hPd hE2 hF2
        by_cases hj0 : j = 0
        · subst hj0
          have hnx2 := HNX.out
          rw [if_pos rfl, List.nil_append] at hnx2
          have HN2 := Lib.hid hnx2
          have hA0 : A = ⟨#[]⟩ := same_text (HA.out.trans rfl)
          subst hA0
          have hadd : ∀ u : World, (Op.stringOp .add ⟨#[]⟩ P).run Try.prog u = .ok (.string P) u := fun u => by
            have h := run_string_add_sum (P := Try.prog) u ⟨#[]⟩ P (by have h0 : (ByteArray.mk #[]).size = 0 := rfl; omega)
            rw [h]
            have e : (⟨#[]⟩ : ByteArray) ++ P = P := same_text (by simp [ByteArray.data_append])
            rw [e]
          clear hnx2 HNX
          go_wp2_with fail
          refine (lines_any g _ _ HB.out).mono ?_
          rintro e w5 ⟨rfl, hst⟩
          have HS5 := Lib.hid hst
          have W5 := Lib.hid (HW.out.trans (hst.2.below HW.out.size (by have := HG.out; omega)))
          clear hst HB HW
          go_wp2_with fail
          refine (HLN.out _ HS5.out.1).mono ?_
          rintro e w6 ⟨rfl, hst⟩
          have HS6 := Lib.hid (hst.1.below (w' := w6.alloc (.cells #[.int .i64 (F2 : Nat), .int .i64 (E2 : Nat)] 30)) ((Below.refl _ _).alloc (Nat.le_refl _) _))
          have W6 := Lib.hid ((W5.out.trans (hst.2.below W5.out.size (by have := HG.out; omega))).trans (((Below.refl w.heap.size w6).alloc (Nat.le_trans W5.out.size hst.2.size) (.cells #[.int .i64 (F2 : Nat), .int .i64 (E2 : Nat)] 30))))
          clear hst HS5 W5
          go_wp2_with fail
          refine (piece_ok g _ F2 E2 _ HS6.out hge.1 (by rw [HSD.out]; exact hge.2)).mono ?_
          rintro e w7 ⟨rfl, pb⟩
          rw [HP.out]
          have HS7 := Lib.hid (HS6.out.below pb)
          have W7 := Lib.hid (W6.out.trans (pb.mono W6.out.size))
          clear pb HS6 W6
          go_wp2_with fail
          go_roundw
          case rel => exact ⟨1, P, by simp, by omega, rfl, HN2.out.symm, HS7.out, W7.out⟩
          case measure => simp [intOf]; omega
        · have hnx2 := HNX.out
          rw [if_neg hj0, ← HA.out] at hnx2
          obtain ⟨A1, hA1⟩ : ∃ A1, A ++ ⟨#[10]⟩ = A1 := ⟨_, rfl⟩
          obtain ⟨A2, hA2⟩ : ∃ A2, A1 ++ P = A2 := ⟨_, rfl⟩
          have hadd1 : ∀ u : World, (Op.stringOp .add A ⟨#[10]⟩).run Try.prog u = .ok (.string A1) u := fun u => by
            rw [← hA1]
            exact run_string_add_sum u A ⟨#[10]⟩ (by have : (ByteArray.mk #[10]).size = 1 := rfl; omega)
          have hadd2 : ∀ u : World, (Op.stringOp .add A1 P).run Try.prog u = .ok (.string A2) u := fun u => by
            rw [← hA2]
            exact run_string_add_sum u A1 P (by rw [← hA1, ByteArray.size_append]; have : (ByteArray.mk #[10]).size = 1 := rfl; omega)
          have HN2 := Lib.hid (show A2.data.toList = upTo s.data.toList (j + 1) by
            rw [hnx2, ← hA2, ← hA1]
            simp [ByteArray.data_append])
          have hj1 : decide ((0 : Int) < (j : Int)) = true := decide_eq_true (by omega)
          have hj2 : 0 < j := by omega
          clear hnx2 HNX hA1 hA2
          go_wp2_with fail
          refine (lines_any g _ _ HB.out).mono ?_
          rintro e w5 ⟨rfl, hst⟩
          have HS5 := Lib.hid hst
          have W5 := Lib.hid (HW.out.trans (hst.2.below HW.out.size (by have := HG.out; omega)))
          clear hst HB HW
          go_wp2_with fail
          refine (HLN.out _ HS5.out.1).mono ?_
          rintro e w6 ⟨rfl, hst⟩
          have HS6 := Lib.hid (hst.1.below (w' := w6.alloc (.cells #[.int .i64 (F2 : Nat), .int .i64 (E2 : Nat)] 30)) ((Below.refl _ _).alloc (Nat.le_refl _) _))
          have W6 := Lib.hid ((W5.out.trans (hst.2.below W5.out.size (by have := HG.out; omega))).trans (((Below.refl w.heap.size w6).alloc (Nat.le_trans W5.out.size hst.2.size) (.cells #[.int .i64 (F2 : Nat), .int .i64 (E2 : Nat)] 30))))
          clear hst HS5 W5
          go_wp2_with fail
          refine (piece_ok g _ F2 E2 _ HS6.out hge.1 (by rw [HSD.out]; exact hge.2)).mono ?_
          rintro e w7 ⟨rfl, pb⟩
          rw [HP.out]
          have HS7 := Lib.hid (HS6.out.below pb)
          have W7 := Lib.hid (W6.out.trans (pb.mono W6.out.size))
          clear pb HS6 W6
          go_wp2_with fail
          go_roundw
          case rel => exact ⟨j + 1, A2, by go_num, by omega, rfl, HN2.out, HS7.out, W7.out⟩
          case measure => simp [intOf]; omega
      · have hfin : A = s := same_text (by rw [HA.out, show j = (begins s.data.toList).length by omega]; exact upTo_last _)
        subst hfin
        have hjd : decide ((j : Int) < ((begins A.data.toList).length : Int)) = false := decide_eq_false (by omega)
        go_wp2_with fail
        refine (lines_any g _ _ HB.out).mono ?_
        rintro e w5 ⟨rfl, hst⟩
        have W5 := Lib.hid (HW.out.trans (hst.2.below HW.out.size (by have := HG.out; omega)))
        clear hst HB HW
        go_wp2_with fail
        go_ret
        exact ⟨by simp, W5.out⟩
end Go.Proofs.Yteocdcknfhlfgaa.buf
