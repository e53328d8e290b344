/-
  Layer 4: the statements' own tokens; the examples at their head.
-/
import Derived.Test.YtlemecnmjhhbiaaCg
import Derived.Test.YtlemecnmjhhbiaaCh
import Derived.Test.YtlemecnmjhhbiaaCi
namespace Go.Proofs.Ytlemecnmjhhbiaa.ck
open Go.RowKit

def tkz (i : Nat) : List Int → List Tk
  | [] => []
  | k :: r => ⟨k, i, (i : Int) + 1⟩ :: tkz (i + 1) r
def MadeT (T : List Tk) (w : World) (e : Ending) (w' : World) : Prop := ∃ v', e = .returned v' ∧ Mine tk w' w.heap.size v' T ∧ Below w.heap.size w w'

set_option maxRecDepth 100000 in
set_option maxHeartbeats 4000000 in
theorem toks_any (v : Value) (K : List Int) (w : World) (hr : Row it w v K) (hn : K.length ≤ 1048576) :
    Calls Try.prog 19 #[v] w (MadeT (tkz 0 K) w) := by
  obtain ⟨g, off, o, cap, hc, rfl, ho, hcell⟩ := hr
  have HC := Lib.hid hcell
  have HO := Lib.hid ho
  clear hcell ho
  obtain ⟨len, hlen⟩ : ∃ len, K.length = len := ⟨_, rfl⟩
  rw [hlen] at hc hn
  have HN := Lib.hid hlen
  rw [HN.out]
  clear hlen
  obtain ⟨B0, hB0⟩ : ∃ B0, w.heap.size = B0 := ⟨_, rfl⟩
  have HZ := Lib.hid hB0
  have HQ : Hid (MadeT (tkz 0 K) w = fun e w' => ∃ v', e = .returned v' ∧ Mine tk w' B0 v' (tkz 0 K) ∧ Below B0 w w') := Lib.hid (by unfold MadeT; rw [hB0])
  rw [HQ.out]
  clear hB0 HQ
  go_enter Try.func19, Try.ntmps19
  go_wp2
  go_loopw [3, 8] (fun vv p wr => ∃ (n : Nat) (M : List Tk), n ≤ len ∧ M.length ≤ n ∧ p = .int .i64 n ∧ M ++ tkz n (K.drop n) = tkz 0 K ∧ Mine tk wr B0 vv M ∧ Below B0 w wr) (fun _ p _ => len - (intOf p).toNat)
  case atStart => exact ⟨0, [], Nat.zero_le _, Nat.le_refl _, rfl, rfl, Mine.nil _ _, Below.refl _ _⟩
  case round =>
    obtain ⟨n, M, hnl, hMn, rfl, hle, hown, hb⟩ := hrel
    have HB := Lib.hid hb
    have HL := Lib.hid hle
    have HM := Lib.hid hown
    have hsz : B0 ≤ wr.heap.size := by have := hb.size; rw [HZ.out] at this; exact this
    clear hb hle hown
    by_cases hlt : n < len
    · have hltT : n < K.length := by rw [HN.out]; exact hlt
      have hd : decide ((n : Int) < (len : Int)) = true := decide_eq_true (by omega)
      have hne : K ≠ [] := by rintro rfl; simp at hltT
      have ho := HO.out hne
      subst ho
      have c0 := cells_it (HC.out.below (by rw [HZ.out]; exact HB.out)) n hltT
      rw [List.drop_eq_getElem_cons hltT, tkz] at HL
      generalize K[n] = z at *
      clear hne hltT
      obtain ⟨v', w', hrun, hm', hbel⟩ := push_tk HM.out z (n : Int) ((n : Int) + 1) hsz (by omega)
      have HRUN := Lib.hid hrun
      have HM' := Lib.hid hm'
      have HB' := Lib.hid (hbel B0 w (Nat.le_refl _) HB.out)
      clear hrun hm' hbel
      go_wp2_with (at_builtin; refine Lib.wpList_append_run _ rfl _ _ _ _ rfl _ _ rfl rfl _ _ (HRUN.out _) ?_)
      go_roundw
      case rel => exact ⟨n + 1, M ++ [⟨z, (n : Int), (n : Int) + 1⟩], by omega, by simp; omega, by go_num, by rw [← HL.out]; simp, HM'.out, HB'.out⟩
      case measure => simp [intOf]; omega
    · have hd : decide ((n : Int) < (len : Int)) = false := decide_eq_false (by omega)
      have hD : K.drop n = [] := List.drop_of_length_le (by rw [HN.out]; omega)
      rw [hD, tkz, List.append_nil] at HL
      clear hD
      go_wp2_with fail
      go_ret
      exact ⟨_, rfl, by rw [← HL.out]; exact HM.out, HB.out⟩

def K14 : List Int := [84, 10, 16, 2, 79, 10, 57, 62, 59, 10, 15, 64, 16, 2]
def T14 : List Tk := tkz 0 K14
def R14 : List Sn := [⟨0, 3⟩, ⟨3, 13⟩]
theorem regs14 : regs T14 = R14 := by decide
theorem kind14 : kindOf T14 3 13 = 79 := by decide
theorem tou14 : (touA 2 R14 = 0 ∧ touB 2 4 R14 = 2) ∧ touA 3 R14 = 1 ∧ touB 3 3 R14 = 1 := by decide
def True1 (w : World) (e : Ending) (w' : World) : Prop := e = .returned (.bool true) ∧ Below w.heap.size w w'
theorem row14 {w : World} {v : Value} (h : Row sn w v R14) : ∃ g off cap, v = .slice (some ⟨g, off, none⟩) 2 cap ∧ (w.cell? ⟨g, off, none⟩ = some (.int .i64 0) ∧ w.cell? ⟨g, off + 1, none⟩ = some (.int .i64 3)) ∧ (w.cell? ⟨g, off + 2, none⟩ = some (.int .i64 3) ∧ w.cell? ⟨g, off + 2 + 1, none⟩ = some (.int .i64 13)) := by
  obtain ⟨g, off, o, cap, hc, rfl, ho, hcell⟩ := h
  have := ho (by simp [R14])
  subst this
  have h0 := cells_sn hcell 0 (by decide)
  have h1 := cells_sn hcell 1 (by decide)
  exact ⟨g, off, cap, rfl, h0, h1⟩

set_option maxRecDepth 100000 in
set_option maxHeartbeats 8000000 in
theorem shown_any (w : World) : Calls Try.prog 9 #[] w (True1 w) := by
  have hr : Row it (w.alloc (.cells #[.int .i64 84, .int .i64 10, .int .i64 16, .int .i64 2, .int .i64 79, .int .i64 10, .int .i64 57, .int .i64 62, .int .i64 59, .int .i64 10, .int .i64 15, .int .i64 64, .int .i64 16, .int .i64 2] 3)) (.slice (some ⟨w.heap.size, 0, none⟩) 14 14) K14 := Row.new (F := it) w K14
  have HT := Lib.hid (toks_any _ _ _ hr (by decide))
  have HX := Lib.hid ((Below.refl w.heap.size w).alloc (Nat.le_refl _) (.cells #[.int .i64 84, .int .i64 10, .int .i64 16, .int .i64 2, .int .i64 79, .int .i64 10, .int .i64 57, .int .i64 62, .int .i64 59, .int .i64 10, .int .i64 15, .int .i64 64, .int .i64 16, .int .i64 2] 3))
  clear hr
  go_enter Try.func9, Try.ntmps9
  go_wp2_with (go_at_call 19; refine HT.out.mono ?_; rintro e w1 ⟨v1, rfl, hm1, hb1⟩; have HR1 := Lib.hid hm1.row; have HB1 := Lib.hid (HX.out.trans (hb1.mono (by simp))); have HCU := Lib.hid (cut_any v1 T14 w1 HR1.out (by decide)); clear hm1 hb1 HX HT)
  go_wp2_with (go_at_call 10; refine HCU.out.mono ?_; rintro e w2 ⟨v2, rfl, hm2, hb2⟩; rw [regs14] at hm2; have HR2 := Lib.hid hm2.row; have HB2 := Lib.hid (HB1.out.trans (hb2.mono HB1.out.size)); have HR12 := Lib.hid (HR1.out.below hb2); clear hm2 hb2; obtain ⟨g, off, cap, rfl, ⟨a0, a1⟩, b0, b1⟩ := row14 HR2.out; have HK := Lib.hid (kind_any v1 T14 3 13 w2 HR12.out (by decide)); clear HCU HR12 HR1 HB1)
  rw [kind14] at HK
  go_wp2_with (go_at_call 13; refine HK.out.mono ?_; rintro e w3 ⟨rfl, hb3⟩; have HR3 := Lib.hid (HR2.out.below hb3); have HB3 := Lib.hid (HB2.out.trans (hb3.mono HB2.out.size)); have HT3 := Lib.hid (touched_any _ R14 2 4 w3 HR3.out (by decide)); rw [tou14.1.1, tou14.1.2] at HT3; clear hb3 HK HR2 HB2)
  go_wp2_with (go_at_call 15; refine HT3.out.mono ?_; rintro e w4 ⟨rfl, hb4⟩; have HR4 := Lib.hid (HR3.out.below hb4); have HB4 := Lib.hid (HB3.out.trans (hb4.mono HB3.out.size)); have HT4 := Lib.hid (touched_any _ R14 3 3 w4 HR4.out (by decide)); rw [tou14.2.1, tou14.2.2] at HT4; clear hb4 HT3 HR3 HB3)
  go_wp2_with (go_at_call 15; refine HT4.out.mono ?_; rintro e w5 ⟨rfl, hb5⟩; have HB5 := Lib.hid (HB4.out.trans (hb5.mono HB4.out.size)); clear hb5 HT4 HR4 HB4)
  go_ret
  exact ⟨rfl, HB5.out⟩
end Go.Proofs.Ytlemecnmjhhbiaa.ck
