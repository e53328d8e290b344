/-
  Layer 4: chunk.Kind, the reference's.
-/
import Derived.Test.YtlemecnmjhhbiaaCd
namespace Go.Proofs.Ytlemecnmjhhbiaa.ck
open Go.RowKit

/-- The kind of the first significant token in a row. -/
def kindOf (T : List Tk) (a b : Int) : Int := if a < 0 ∨ b < a ∨ (T.length : Int) < b then 0 else (fst ((T.drop a.toNat).take (b.toNat - a.toNat))).1
def Num (z : Int) (w : World) (e : Ending) (w' : World) : Prop := e = .returned (.int .i64 z) ∧ Below w.heap.size w w'

set_option maxRecDepth 100000 in
set_option maxHeartbeats 4000000 in
theorem kind_any (v : Value) (T : List Tk) (a b : Int) (w : World) (hr : Row tk w v T) (hn : T.length ≤ 140737488355328) :
    Calls Try.prog 13 #[v, .agg #[.int .i64 a, .int .i64 b]] w (Num (kindOf T a b) w) := by
  obtain ⟨o, cap, rfl⟩ := hr.len
  obtain ⟨len, hlen⟩ : ∃ len, T.length = len := ⟨_, rfl⟩
  have HR := Lib.hid hr
  have HN := Lib.hid hlen
  rw [hlen] at hn HR
  rw [hlen]
  clear hr hlen
  have hb := (Below.refl w.heap.size w).alloc (Nat.le_refl _) (.cells #[.int .i64 a, .int .i64 b] 30)
  have HB := Lib.hid hb
  clear hb
  by_cases ha : a < 0
  · have d1 : decide (a < 0) = true := decide_eq_true ha
    have HK : Hid (kindOf T a b = 0) := Lib.hid (by unfold kindOf; rw [if_pos (.inl ha)])
    rw [HK.out]
    clear ha HK
    go_enter Try.func13, Try.ntmps13
    go_wp2_with fail
    go_ret
    exact ⟨rfl, HB.out⟩
  have d1 : decide (a < 0) = false := decide_eq_false ha
  by_cases hab : b < a
  · have d2 : decide (b < a) = true := decide_eq_true hab
    have HK : Hid (kindOf T a b = 0) := Lib.hid (by unfold kindOf; rw [if_pos (.inr (.inl hab))])
    rw [HK.out]
    clear ha hab HK
    go_enter Try.func13, Try.ntmps13
    go_wp2_with fail
    go_ret
    exact ⟨rfl, HB.out⟩
  have d2 : decide (b < a) = false := decide_eq_false hab
  by_cases hbl : (len : Int) < b
  · have d3 : decide ((len : Int) < b) = true := decide_eq_true hbl
    have HK : Hid (kindOf T a b = 0) := Lib.hid (by unfold kindOf; rw [if_pos (.inr (.inr (by rw [HN.out]; exact hbl)))])
    rw [HK.out]
    clear ha hab hbl HK
    go_enter Try.func13, Try.ntmps13
    go_wp2_with fail
    go_ret
    exact ⟨rfl, HB.out⟩
  have d3 : decide ((len : Int) < b) = false := decide_eq_false hbl
  have HK : Hid (kindOf T a b = (fst ((T.drop a.toNat).take (b.toNat - a.toNat))).1) := Lib.hid (by unfold kindOf; rw [if_neg (by rw [HN.out]; omega)])
  rw [HK.out]
  clear HK
  obtain ⟨i, rfl⟩ : ∃ i : Nat, a = (i : Int) := ⟨a.toNat, by omega⟩
  obtain ⟨j, rfl⟩ : ∃ j : Nat, b = (j : Int) := ⟨b.toNat, by omega⟩
  rw [Int.toNat_natCast, Int.toNat_natCast]
  have e2 : decide (j < i) = false := decide_eq_false (by omega)
  have e3 : decide (len < j) = false := decide_eq_false (by omega)
  obtain ⟨v2, hs2, hr2⟩ := (HR.out.below HB.out).mid i j (by omega) (by rw [HN.out]; omega)
  have hs2 : ∀ u, (Instr.slice 22 (.slice o len cap) (some (.int .i64 (i : Int))) (some (.int .i64 (j : Int))) none).run Try.prog u = .ok v2 u := hs2
  have HF := Lib.hid (first_any v2 ((T.drop i).take (j - i)) _ hr2 (by rw [List.length_take, List.length_drop, HN.out]; omega))
  clear hr2 ha hab hbl
  go_enter Try.func13, Try.ntmps13
  go_wp2_with (go_at_call 23; refine HF.out.mono ?_; rintro e w2 ⟨rfl, hg⟩; have HG := Lib.hid (HB.out.grown hg (by simp) (fun r e => by cases e)); clear hg)
  go_ret
  exact ⟨rfl, HG.out⟩
set_option maxRecDepth 100000 in
set_option maxHeartbeats 4000000 in
theorem refKind_any (v : Value) (T : List Tk) (a b : Int) (w : World) (hr : Row tk w v T) (hn : T.length ≤ 140737488355328) :
    Calls Try.prog 14 #[v, .agg #[.int .i64 a, .int .i64 b]] w (Num (kindOf T a b) w) := by
  obtain ⟨o, cap, rfl⟩ := hr.len
  obtain ⟨len, hlen⟩ : ∃ len, T.length = len := ⟨_, rfl⟩
  have HR := Lib.hid hr
  have HN := Lib.hid hlen
  rw [hlen] at hn HR
  rw [hlen]
  clear hr hlen
  have hb := (Below.refl w.heap.size w).alloc (Nat.le_refl _) (.cells #[.int .i64 a, .int .i64 b] 30)
  have HB := Lib.hid hb
  clear hb
  by_cases ha : a < 0
  · have d1 : decide (a < 0) = true := decide_eq_true ha
    have HK : Hid (kindOf T a b = 0) := Lib.hid (by unfold kindOf; rw [if_pos (.inl ha)])
    rw [HK.out]
    clear ha HK
    go_enter Try.func14, Try.ntmps14
    go_wp2_with fail
    go_ret
    exact ⟨rfl, HB.out⟩
  have d1 : decide (a < 0) = false := decide_eq_false ha
  by_cases hab : b < a
  · have d2 : decide (b < a) = true := decide_eq_true hab
    have HK : Hid (kindOf T a b = 0) := Lib.hid (by unfold kindOf; rw [if_pos (.inr (.inl hab))])
    rw [HK.out]
    clear ha hab HK
    go_enter Try.func14, Try.ntmps14
    go_wp2_with fail
    go_ret
    exact ⟨rfl, HB.out⟩
  have d2 : decide (b < a) = false := decide_eq_false hab
  by_cases hbl : (len : Int) < b
  · have d3 : decide ((len : Int) < b) = true := decide_eq_true hbl
    have HK : Hid (kindOf T a b = 0) := Lib.hid (by unfold kindOf; rw [if_pos (.inr (.inr (by rw [HN.out]; exact hbl)))])
    rw [HK.out]
    clear ha hab hbl HK
    go_enter Try.func14, Try.ntmps14
    go_wp2_with fail
    go_ret
    exact ⟨rfl, HB.out⟩
  have d3 : decide ((len : Int) < b) = false := decide_eq_false hbl
  have HK : Hid (kindOf T a b = (fst ((T.drop a.toNat).take (b.toNat - a.toNat))).1) := Lib.hid (by unfold kindOf; rw [if_neg (by rw [HN.out]; omega)])
  rw [HK.out]
  clear HK
  obtain ⟨i, rfl⟩ : ∃ i : Nat, a = (i : Int) := ⟨a.toNat, by omega⟩
  obtain ⟨j, rfl⟩ : ∃ j : Nat, b = (j : Int) := ⟨b.toNat, by omega⟩
  rw [Int.toNat_natCast, Int.toNat_natCast]
  have e2 : decide (j < i) = false := decide_eq_false (by omega)
  have e3 : decide (len < j) = false := decide_eq_false (by omega)
  obtain ⟨v2, hs2, hr2⟩ := (HR.out.below HB.out).mid i j (by omega) (by rw [HN.out]; omega)
  have hs2 : ∀ u, (Instr.slice 22 (.slice o len cap) (some (.int .i64 (i : Int))) (some (.int .i64 (j : Int))) none).run Try.prog u = .ok v2 u := hs2
  have hm : ((T.drop i).take (j - i)).length ≤ 140737488355328 := by rw [List.length_take, List.length_drop, HN.out]; omega
  generalize (T.drop i).take (j - i) = S at *
  obtain ⟨g, off, o2, cap2, hc, rfl, ho, hcell⟩ := hr2
  have HC := Lib.hid hcell
  have HO := Lib.hid ho
  clear hcell ho ha hab hbl
  obtain ⟨m, hm'⟩ : ∃ m, S.length = m := ⟨_, rfl⟩
  rw [hm'] at hc hm hs2
  have HM := Lib.hid hm'
  clear hm'
  go_enter Try.func14, Try.ntmps14
  go_wp2
  obtain ⟨w1, hw1⟩ : ∃ w1, w.alloc (.cells #[.int .i64 (i : Int), .int .i64 (j : Int)] 30) = w1 := ⟨_, rfl⟩
  rw [hw1] at HC HB ⊢
  have hsz : w.heap.size ≤ w1.heap.size := HB.out.size
  clear hw1
  go_loopw [31] (fun p wr => ∃ n : Nat, n ≤ m ∧ p = .int .i64 n ∧ fst (S.drop n) = fst S ∧ w1.grownBy wr none) (fun p _ => m - (intOf p).toNat)
  case atStart => exact ⟨0, Nat.zero_le _, rfl, rfl, World.grownBy.refl _ _⟩
  case round =>
    obtain ⟨n, hnl, rfl, hle, hb⟩ := hrel
    have HB1 := Lib.hid hb
    have HL := Lib.hid hle
    clear hb hle
    by_cases hlt : n < m
    · have hltT : n < S.length := by rw [HM.out]; exact hlt
      have hd : decide ((n : Int) < (m : Int)) = true := decide_eq_true (by omega)
      have hne : S ≠ [] := by rintro rfl; simp at hltT
      have ho := HO.out hne
      subst ho
      have hB0 : Below w1.heap.size w1 wr := (Below.refl _ _).grown HB1.out (Nat.le_refl _) (fun k hk => by cases hk)
      obtain ⟨c0, c1, c2⟩ := cells_tk (HC.out.below hB0) n hltT
      rw [List.drop_eq_getElem_cons hltT, fst] at HL
      generalize S[n] = t at *
      obtain ⟨z, x1, x2⟩ := t
      simp only [] at c0 c1 c2 HL
      have HT := Lib.hid (fun u => refTrivia_any z u)
      clear hne hltT hB0
      cases h1 : triv z with
      | false =>
        rw [h1, if_neg (by simp)] at HL
        rw [h1] at HT
        clear h1
        go_wp2_with (go_at_call 21; refine (HT.out _).mono ?_; rintro e w' ⟨rfl, rfl⟩)
        go_ret
        exact ⟨by rw [← HL.out]; rfl, HB.out.grown (HB1.out.trans (World.grownBy_alloc _ _ _)) hsz (fun r e => by cases e)⟩
      | true =>
        rw [h1, if_pos rfl] at HL
        rw [h1] at HT
        clear h1
        go_wp2_with (go_at_call 21; refine (HT.out _).mono ?_; rintro e w' ⟨rfl, rfl⟩)
        go_roundw
        case rel => exact ⟨n + 1, by omega, by go_num, HL.out, HB1.out.trans (World.grownBy_alloc _ _ _)⟩
        case measure => simp [intOf]; omega
    · have hd : decide ((n : Int) < (m : Int)) = false := decide_eq_false (by omega)
      have hD : S.drop n = [] := List.drop_of_length_le (by rw [HM.out]; omega)
      rw [hD, fst] at HL
      clear hD
      go_wp2_with fail
      go_ret
      exact ⟨by rw [← HL.out]; rfl, HB.out.grown HB1.out hsz (fun r e => by cases e)⟩
end Go.Proofs.Ytlemecnmjhhbiaa.ck
