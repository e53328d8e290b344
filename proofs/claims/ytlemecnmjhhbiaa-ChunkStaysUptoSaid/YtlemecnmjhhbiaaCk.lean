/-
  Layer 4: the laws ChunkKinds and ChunkTouched, as calls.
-/
import Derived.Test.YtlemecnmjhhbiaaCj
import Derived.Deep.DeepCutAuto
import Derived.Deep.RegionHeld3
namespace Go.Proofs.Ytlemecnmjhhbiaa.ck
open Go.RowKit

theorem calm {w0 u w' : World} {p q : Addr} {x y : Value} (h : Below w0.heap.size w0 u ∧ u.cell? p = some x ∧ u.cell? q = some y) (hb : Below u.heap.size u w') : Below w0.heap.size w0 w' ∧ w'.cell? p = some x ∧ w'.cell? q = some y :=
  ⟨h.1.trans (hb.mono h.1.size), (hb.cell (World.block_lt_of_cell? _ _ h.2.1)).trans h.2.1, (hb.cell (World.block_lt_of_cell? _ _ h.2.2)).trans h.2.2⟩

set_option maxRecDepth 100000 in
set_option maxHeartbeats 8000000 in
theorem kinds_law (v : Value) (T : List Tk) (a b : Int) (w : World) (hr : Row tk w v T) (hn : T.length ≤ 140737488355328) :
    Calls Try.prog 4 #[v, .agg #[.int .i64 a, .int .i64 b]] w (True1 w) := by
  obtain ⟨w0, hw0⟩ : ∃ w0, w.alloc (.cells #[.int .i64 a, .int .i64 b] 30) = w0 := ⟨_, rfl⟩
  have hb0 : Below w.heap.size w w0 := by rw [← hw0]; exact (Below.refl _ _).alloc (Nat.le_refl _) _
  have hh := heap_alloc_last w (.cells #[.int .i64 a, .int .i64 b] 30)
  rw [hw0] at hh
  have hc0 : w0.cell? ⟨w.heap.size, 0, none⟩ = some (.int .i64 a) := by rw [cell_of_row w0 _ 0 _ _ _ hh]; rfl
  have hc1 : w0.cell? ⟨w.heap.size, 1, none⟩ = some (.int .i64 b) := by rw [cell_of_row w0 _ 1 _ _ _ hh]; rfl
  have HR := Lib.hid (hr.below hb0)
  have HB := Lib.hid hb0
  have HS : Hid (∀ u, (Below w0.heap.size w0 u ∧ u.cell? ⟨w.heap.size, 0, none⟩ = some (.int .i64 a) ∧ u.cell? ⟨w.heap.size, 1, none⟩ = some (.int .i64 b)) → Calls Try.prog 9 #[] u fun e w' => e = .returned (.bool true) ∧ (Below w0.heap.size w0 w' ∧ w'.cell? ⟨w.heap.size, 0, none⟩ = some (.int .i64 a) ∧ w'.cell? ⟨w.heap.size, 1, none⟩ = some (.int .i64 b))) :=
    Lib.hid (fun u hu => (shown_any u).mono fun e w' ⟨he, hb⟩ => ⟨he, calm hu hb⟩)
  have HK : Hid (∀ u, (Below w0.heap.size w0 u ∧ u.cell? ⟨w.heap.size, 0, none⟩ = some (.int .i64 a) ∧ u.cell? ⟨w.heap.size, 1, none⟩ = some (.int .i64 b)) → Calls Try.prog 13 #[v, .agg #[.int .i64 a, .int .i64 b]] u fun e w' => e = .returned (.int .i64 (kindOf T a b)) ∧ (Below w0.heap.size w0 w' ∧ w'.cell? ⟨w.heap.size, 0, none⟩ = some (.int .i64 a) ∧ w'.cell? ⟨w.heap.size, 1, none⟩ = some (.int .i64 b))) :=
    Lib.hid (fun u hu => (kind_any v T a b u (HR.out.below hu.1) hn).mono fun e w' ⟨he, hb⟩ => ⟨he, calm hu hb⟩)
  have HQ : Hid (∀ u, (Below w0.heap.size w0 u ∧ u.cell? ⟨w.heap.size, 0, none⟩ = some (.int .i64 a) ∧ u.cell? ⟨w.heap.size, 1, none⟩ = some (.int .i64 b)) → Calls Try.prog 14 #[v, .agg #[.int .i64 a, .int .i64 b]] u fun e w' => e = .returned (.int .i64 (kindOf T a b)) ∧ (Below w0.heap.size w0 w' ∧ w'.cell? ⟨w.heap.size, 0, none⟩ = some (.int .i64 a) ∧ w'.cell? ⟨w.heap.size, 1, none⟩ = some (.int .i64 b))) :=
    Lib.hid (fun u hu => (refKind_any v T a b u (HR.out.below hu.1) hn).mono fun e w' ⟨he, hb⟩ => ⟨he, calm hu hb⟩)
  have hs0 : Below w0.heap.size w0 w0.drew ∧ w0.drew.cell? ⟨w.heap.size, 0, none⟩ = some (.int .i64 a) ∧ w0.drew.cell? ⟨w.heap.size, 1, none⟩ = some (.int .i64 b) := ⟨(Below.refl _ _).drew, hc0, hc1⟩
  have HW0 := Lib.hid hw0
  obtain ⟨o, cap, rfl⟩ := hr.len
  generalize T.length = len at *
  generalize kindOf T a b = kk at *
  clear hr hb0 hh hw0 HR
  go_enter Try.func4, Try.ntmps4
  go_wp2_with fail
  rw [HW0.out]
  clear HW0
  go_cut [4] (fun u wx => u = .bool true ∧ Below w0.heap.size w0 wx)
  case first =>
    go_region_held3 (fun W' => Below w0.heap.size w0 W' ∧ W'.cell? ⟨w.heap.size, 0, none⟩ = some (.int .i64 a) ∧ W'.cell? ⟨w.heap.size, 1, none⟩ = some (.int .i64 b))
      (first | exact hs0 | exact hs | assumption)
      (first
      | (go_at_call 9; refine (HS.out _ (by first | exact hs0 | assumption)).mono ?_; rintro e w2 ⟨rfl, hs⟩)
      | (go_at_call 13; refine (HK.out _ (by first | exact hs | assumption)).mono ?_; rintro e w2 ⟨rfl, hs⟩)
      | (go_at_call 14; refine (HQ.out _ (by first | exact hs | assumption)).mono ?_; rintro e w2 ⟨rfl, hs⟩))
    all_goals (try go_wp2_with fail)
    all_goals go_meet
    all_goals exact ⟨rfl, hs.1⟩
  case rest =>
    obtain ⟨rfl, hb6⟩ := hcut
    go_wp2_with fail
    go_ret
    exact ⟨rfl, HB.out.trans (hb6.mono HB.out.size)⟩
/-- A copy of a row. -/
theorem copy_row {α : Type} {F : Kd α} {w : World} {v : Value} {T : List α} (hr : Row F w v T) (hn : T.length * F.bytes ≤ 140737488355328) (hb : 0 < F.bytes) :
    ∃ v' w', (∀ ty, (Builtin.append_ #[F.t, F.t] ty #[.slice none 0 0, v]).run Try.prog w = .ok v' w') ∧ Mine F w' w.heap.size v' T ∧ Below w.heap.size w w' := by
  have hl : T.length ≤ 140737488355328 := Nat.le_trans (Nat.le_mul_of_pos_right _ hb) hn
  obtain ⟨v', w', h1, h2, h3⟩ := run_append_row (Mine.nil w w.heap.size) hr (Nat.le_refl _) (by simp [maxLen]; omega) (by simpa using hn)
  exact ⟨v', w', h1, h2, Mine.more (F := F) (Mine.nil w w.heap.size) (Below.refl _ _) (Nat.le_refl _) (Nat.le_refl _) h3⟩
theorem copy_sn {w : World} {v : Value} {T : List Sn} (hr : Row sn w v T) (hn : T.length * 16 ≤ 140737488355328) :
    ∃ v' w', (∀ ty, (Builtin.append_ #[26, 26] ty #[.slice none 0 0, v]).run Try.prog w = .ok v' w') ∧ Mine sn w' w.heap.size v' T ∧ Below w.heap.size w w' := copy_row hr hn (by decide)
theorem copy_tk {w : World} {v : Value} {T : List Tk} (hr : Row tk w v T) (hn : T.length * 24 ≤ 140737488355328) :
    ∃ v' w', (∀ ty, (Builtin.append_ #[22, 22] ty #[.slice none 0 0, v]).run Try.prog w = .ok v' w') ∧ Mine tk w' w.heap.size v' T ∧ Below w.heap.size w w' := copy_row hr hn (by decide)

set_option maxRecDepth 100000 in
set_option maxHeartbeats 8000000 in
theorem touched_law (v : Value) (T : List Sn) (x y : Int) (w : World) (hr : Row sn w v T) (hn : T.length * 16 ≤ 140737488355328) :
    Calls Try.prog 5 #[v, .int .i64 x, .int .i64 y] w (True1 w) := by
  have HR := Lib.hid hr
  have HS := Lib.hid (shown_any w)
  have hl : T.length ≤ 140737488355328 := by omega
  obtain ⟨o, cap, rfl⟩ := hr.len
  obtain ⟨len, hlen⟩ : ∃ len, T.length = len := ⟨_, rfl⟩
  rw [hlen] at HR
  have HN := Lib.hid hlen
  rw [HN.out]
  rw [hlen] at hl
  clear hr hlen
  go_enter Try.func5, Try.ntmps5
  go_wp2_with (first
    | (go_at_call 9; refine HS.out.mono ?_; rintro e w1 ⟨rfl, hb1⟩; have HB1 := Lib.hid hb1; have HR1 := Lib.hid (HR.out.below hb1); obtain ⟨v2, w2, hrun, hm2, hb2⟩ := copy_sn HR1.out hn; have HRUN := Lib.hid hrun; have HR2 := Lib.hid hm2.row; have HB2 := Lib.hid (HB1.out.trans (hb2.mono HB1.out.size)); have HL2 := Lib.hid (HR1.out.below hb2); clear hb1 hrun hm2 hb2 HR1 HB1; have HT2 := Lib.hid (touched_any v2 T x y w2 HR2.out (by rw [HN.out]; exact hl)))
    | (at_builtin; refine Lib.wpList_append_run _ rfl _ _ _ _ rfl _ _ rfl rfl _ _ (HRUN.out _) ?_)
    | (go_at_call 15; refine HT2.out.mono ?_; rintro e w3 ⟨rfl, hb3⟩; have HB3 := Lib.hid (HB2.out.trans (hb3.mono HB2.out.size)); have HR3 := Lib.hid (HR2.out.below hb3); have HL3 := Lib.hid (HL2.out.below hb3); clear hb3; have HT3 := Lib.hid (refTouched_any _ T x y w3 HL3.out (by rw [HN.out]; exact hl)); clear HT2 HR2 HB2 HL2)
    | (go_at_call 16; refine HT3.out.mono ?_; rintro e w4 ⟨rfl, hb4⟩; have HB4 := Lib.hid (HB3.out.trans (hb4.mono HB3.out.size)); have HQ := Lib.hid (spans_any (HR3.out.below hb4) (HL3.out.below hb4) (by rw [HN.out]; exact hl)); clear hb4; clear HT3 HR3 HB3 HL3)
    | (go_at_call 12; refine HQ.out.mono ?_; rintro e w5 ⟨rfl, hb5⟩; have HB5 := Lib.hid (HB4.out.trans (hb5.mono HB4.out.size)); clear hb5))
  go_ret
  exact ⟨rfl, HB5.out⟩
end Go.Proofs.Ytlemecnmjhhbiaa.ck
