/-
  Texts put together: Rdk, Rdl, LexerAgainCard.
-/
import Derived.Test.YtjbamlmdeopcaaaGreatDoorPb1
import Derived.Deep.RegionHeld3
import Derived.Deep.DeepCutAuto
import Derived.Test.YtjbamlmdeopcaaaGreatDoorPa11
import Derived.ChangeOld
import Derived.Carry
import Derived.Deep.Slices
import Derived.Deep.Fields
import Derived.Lib.SmallJoins
section
/-
  The law LexerAgain.
-/
namespace Go.Proofs.YtjbamlmdeopcaaaGreatDoor.lx
open Go.RowKit Go.Proofs.YtjbamlmdeopcaaaGreatDoor.tok

theorem two_row (w : World) (a b : Tr) : Row (w.alloc (.cells #[.int .i64 a.k, .int .i64 (a.i : Int), .int .i64 (a.j : Int), .int .i64 b.k, .int .i64 (b.i : Int), .int .i64 (b.j : Int)] 29)) (.slice (some ⟨w.heap.size, 0, none⟩) 2 2) [a, b] := by
  refine ⟨w.heap.size, 0, _, 2, Nat.le_refl _, rfl, fun _ => rfl, fun j hj => ?_⟩
  have h : j = 0 ∨ j = 1 := by simp at hj; omega
  rcases h with rfl | rfl
  · simp
  · simp
set_option maxRecDepth 100000 in
set_option maxHeartbeats 4000000 in
theorem again_no (s z : ByteArray) (x y : Int) (w : World) (hm : s.size ≤ 1048576) (hmz : z.size ≤ 1048576) (hb : x < 0 ∨ y < x ∨ (s.size : Int) < y) :
    Calls Tryz.prog 5 #[.string s, .agg #[.int .i64 x, .int .i64 y, .string z]] w (HoldsL w) := by
  have hd0 : decide ((1048576 : Int) < (s.size : Int)) = false := decide_eq_false (by omega)
  have hd1 : decide ((1048576 : Int) < (z.size : Int)) = false := decide_eq_false (by omega)
  have HSD := Lib.hid (sdata s)
  have HR := Lib.hid (fun u => refScan_any s u (by omega))
  have hln := scan_few (L := lang) s.data.toList
  rw [HSD.out] at hln
  generalize scan lang s.data.toList = T at *
  generalize dgs lang s.data.toList 0 = D at *
  have HRS := Lib.hid (fun (v : Value) (u : World) => rescan_no s z v x y u hb)
  have HRN := Lib.hid (fun (u : World) => right_no s z x y u hb)
  clear hb
  go_enter Tryz.func5, Tryz.ntmps5
  go_wp2_with fail
  go_at_call 7
  have hbx : Box3 w.heap.size (.int .i64 x) (.int .i64 y) (.string z) (w.alloc (.cells #[.int .i64 x, .int .i64 y, .string z] 35)) := ⟨by simp, by simp, by simp⟩
  have hBz : Below w.heap.size w (w.alloc (.cells #[.int .i64 x, .int .i64 y, .string z] 35)) := (Below.refl _ _).alloc (Nat.le_refl _) _
  (with_reducible refine (HR.out _).mono ?_)
  rintro e w1 ⟨v1, v2, rfl, hT1, _, hb1⟩
  have hB1 := hBz.trans (hb1.mono hBz.size)
  have hbx1 := hbx.below hb1
  obtain ⟨g1, off1, o1, c1, hc1, hv1, ho1, hcell1⟩ := row_of_any hT1
  have hrow1 := row_of_any hT1
  have h0 : OwnT (w1.alloc (.cells #[] 29)) w1.heap.size (.slice (some ⟨w1.heap.size, 0, none⟩) 0 0) [] := World.ownsRow_made w1 #[] 0 (Nat.le_refl _) (by decide) rfl
  have hBe : Below w1.heap.size w1 (w1.alloc (.cells #[] 29)) := (Below.refl _ _).alloc (Nat.le_refl _) _
  obtain ⟨v3, w3, hrun3, hO3, hgr3⟩ := run_append_row h0 (hrow1.below hBe) (by simp) (by simp; omega)
  have hB3 : Below w1.heap.size w1 w3 := hBe.grown hgr3 (by simp) (fun k hk => by cases hk; exact Nat.le_refl _)
  have hz3 := hB3.size
  rw [List.nil_append] at hO3
  obtain ⟨v5, w5, hrun5, hO5, hgr5⟩ := run_append_row (World.ownsRow.alloc hO3 (.cells #[.int .i64 (-7), .int .i64 0, .int .i64 0, .int .i64 (-8), .int .i64 0, .int .i64 0] 29)) (two_row w3 ⟨-7, 0, 0⟩ ⟨-8, 0, 0⟩) (by simp; omega) (by simp; omega)
  have hB5 : Below w1.heap.size w1 w5 := (hB3.alloc hz3 _).grown hgr5 (by simp; omega) (fun k hk => (World.ownsRow.lt hO3 k hk).1)
  have HRUN3 := Lib.hid hrun3
  have HRUN5 := Lib.hid hrun5
  have HB5 := Lib.hid (hB1.trans (hB5.mono hB1.size))
  have hbx5 := hbx1.below hB5
  have HBX := Lib.hid hbx5
  have HR1 := Lib.hid (hrow1.below hB5)
  have HR5 := Lib.hid (row_of_any hO5)
  obtain ⟨g5, off5, o5, c5, hc5, hv5, ho5, hcell5⟩ := row_of_any hO5
  have hl5 : (T ++ [(⟨-7, 0, 0⟩ : Tr), ⟨-8, 0, 0⟩]).length = T.length + 2 := by simp
  rw [hl5] at hc5 hv5
  have e5 := ho5 (by simp)
  subst e5
  subst hv5
  have k70 := (hcell5 T.length (by rw [hl5]; omega)).1
  have k80 := (hcell5 (T.length + 1) (by rw [hl5]; omega)).1
  rw [show (T ++ [(⟨-7, 0, 0⟩ : Tr), ⟨-8, 0, 0⟩])[T.length]'(by rw [hl5]; omega) = ⟨-7, 0, 0⟩ by simp] at k70
  rw [show (T ++ [(⟨-7, 0, 0⟩ : Tr), ⟨-8, 0, 0⟩])[T.length + 1]'(by rw [hl5]; omega) = ⟨-8, 0, 0⟩ by simp] at k80
  have HK7 := Lib.hid k70
  have HK8 := Lib.hid k80
  have hrt : Row w5 (.slice (some ⟨g5, off5, none⟩) T.length c5) T := ⟨g5, off5, _, c5, by omega, rfl, fun _ => rfl, by have := hcell5.take T.length; simpa using this⟩
  have HRT := Lib.hid hrt
  have hslt : ∀ u, (Instr.slice 22 (.slice (some ⟨g5, off5, none⟩) (T.length + 2) c5) none (some (.int .i64 (T.length : Int))) none).run Tryz.prog u = .ok (.slice (some ⟨g5, off5, none⟩) T.length c5) u := fun u => by
    rw [run_slice_to u _ _ c5 _ T.length rfl (by omega), if_neg (by omega)]
    simp [Addr.add]
  have hz5 := HB5.out.size
  obtain ⟨n1, hn1⟩ : ∃ n, T.length = n := ⟨_, rfl⟩
  have HN1 := Lib.hid hn1
  subst hv1
  rw [hn1] at hln hc1 hc5 hslt HK7 HK8 HRUN3 HRUN5 HR1 HR5 HRT ⊢
  clear hbx hBz hT1 hb1 hB1 hbx1 hrow1 h0 hBe hrun3 hO3 hgr3 hB3 hz3 hrun5 hO5 hgr5 hB5 hcell5 hcell1 ho5 ho1 hl5 k70 k80 hrt hn1 HR
  go_wp2_with (first | (at_builtin; refine Lib.wpList_append_run _ rfl _ _ _ _ rfl _ _ rfl rfl _ _ (HRUN3.out _) ?_) | (at_builtin; refine Lib.wpList_append_run _ rfl _ _ _ _ rfl _ _ rfl rfl _ _ (HRUN5.out _) ?_))
  obtain ⟨b0, b1, b2⟩ := HBX.out
  go_cut [8, 9, 10] (fun mm nn ff wx => mm = .slice none 0 0 ∧ nn = .int .i64 0 ∧ ff = .int .i64 10 ∧ Below w5.heap.size w5 wx)
  case first =>
    go_region_held3 (fun W' => W'.cell? ⟨w.heap.size, 0, none⟩ = some (.int .i64 x) ∧ W'.cell? ⟨w.heap.size, 1, none⟩ = some (.int .i64 y) ∧ W'.cell? ⟨w.heap.size, 2, none⟩ = some (.string z))
      (first | exact ⟨b0, b1, b2⟩ | go_keep)
      (first | (go_at_call 11; (with_reducible refine (HRS.out _ _).mono ?_); rintro e w6 ⟨rfl, hb6⟩; obtain ⟨d0, d1, d2⟩ := (show Box3 w.heap.size (.int .i64 x) (.int .i64 y) (.string z) (w5.drew) from HBX.out).below hb6))
    all_goals (try go_wp2_with fail)
    all_goals go_meet
    all_goals exact ⟨rfl, rfl, rfl, ((Below.refl w5.heap.size w5).drew).trans hb6⟩
  case rest =>
    obtain ⟨rfl, rfl, rfl, hb6⟩ := hcut
    have hz6 := hb6.size
    have HB6 := Lib.hid hb6
    obtain ⟨b0, b1, b2⟩ := HBX.out.below hb6
    have HRA := Lib.hid (HRT.out.below hb6)
    have HRB := Lib.hid (HR1.out.below hb6)
    have HKB : Hid (∀ u, Below wc.heap.size wc u → u.cell? ⟨g5, off5 + n1 * 3, none⟩ = some (.int .i64 (-7)) ∧ u.cell? ⟨g5, off5 + (n1 + 1) * 3, none⟩ = some (.int .i64 (-8)) ∧ u.cell? ⟨w.heap.size, 0, none⟩ = some (.int .i64 x) ∧ u.cell? ⟨w.heap.size, 1, none⟩ = some (.int .i64 y) ∧ u.cell? ⟨w.heap.size, 2, none⟩ = some (.string z)) := Lib.hid (fun u hu => by
      have hb := hb6.trans (hu.mono hz6)
      have l := World.block_lt_of_cell? _ _ HK7.out
      obtain ⟨x0, x1, x2⟩ := HBX.out.below hb
      exact ⟨(hb.cell (p := ⟨g5, off5 + n1 * 3, none⟩) l).trans HK7.out, (hb.cell (p := ⟨g5, off5 + (n1 + 1) * 3, none⟩) l).trans HK8.out, x0, x1, x2⟩)
    have e7 : ((Value.int .i64 (-7)) : Value) = Value.int .i64 (-7) := rfl
    clear hb6 e7
    go_wp2_with fail
    go_at_call 9
    refine (toks_any HRA.out HRB.out (by rw [HN1.out]; omega)).mono ?_
    rintro e w7 ⟨rfl, hb7⟩
    obtain ⟨k7, k8, x0, x1, x2⟩ := HKB.out _ hb7
    have HB7 := Lib.hid (HB6.out.trans (hb7.mono hz6))
    have hz7 := HB7.out.size
    clear hb7 b0 b1 b2
    go_wp2_with fail
    go_at_call 12
    (with_reducible refine (HRN.out _).mono ?_)
    rintro e w8 ⟨rfl, hb8⟩
    have HB8 := Lib.hid ((HB5.out.trans (HB7.out.mono hz5)).trans (hb8.mono (Nat.le_trans hz5 hz7)))
    clear hb8
    go_wp2_with fail
    go_ret
    exact ⟨rfl, HB8.out⟩
end Go.Proofs.YtjbamlmdeopcaaaGreatDoor.lx
end

section
/-
  The law LexerAgain at an edit that is in the text.
-/
namespace Go.Proofs.YtjbamlmdeopcaaaGreatDoor.lx
open Go.RowKit Go.Proofs.YtjbamlmdeopcaaaGreatDoor.tok

set_option maxRecDepth 100000 in
set_option maxHeartbeats 4000000 in
theorem again_yes (s z : ByteArray) (f y : Nat) (w : World) (hE : Env w) (hm : s.size ≤ 1048576) (hmz : z.size ≤ 1048576) (hfy : f ≤ y) (hys : y ≤ s.size) :
    Calls Tryz.prog 5 #[.string s, .agg #[.int .i64 (f : Int), .int .i64 (y : Int), .string z]] w (HoldsL w) := by
  have hd0 : decide ((1048576 : Int) < (s.size : Int)) = false := decide_eq_false (by omega)
  have hd1 : decide ((1048576 : Int) < (z.size : Int)) = false := decide_eq_false (by omega)
  have HSD := Lib.hid (sdata s)
  have HR := Lib.hid (fun u => refScan_any s u (by omega))
  have hln := scan_few (L := lang) s.data.toList
  rw [HSD.out] at hln
  have HZD := Lib.hid (sdata z)
  have hel := edit_len s.data.toList z.data.toList hfy (by rw [HSD.out]; exact hys)
  rw [HSD.out, HZD.out] at hel
  have hmu : (edit s.data.toList z.data.toList f y).length ≤ 2097152 := by omega
  have HRS := Lib.hid (fun (v : Value) (u : World) (hu : Below w.heap.size w u) (hr : Row u v (scan lang s.data.toList)) => rescan_yes s z v f y u (hE.below hu) hfy hys hm hmz hr)
  have HRN := Lib.hid (fun (u : World) => right_yes s z f y u hfy hys)
  have HED := Lib.hid (fun (u : World) => edited_yes s z f y u hfy hys (by omega) (by omega))
  have HR2 := Lib.hid (fun u => refScan_any (B (edit s.data.toList z.data.toList f y)) u (by rw [bsize]; omega))
  rw [bdata] at HR2
  have hl2 := scan_few (L := lang) (edit s.data.toList z.data.toList f y)
  have HMU := Lib.hid hmu
  generalize edit s.data.toList z.data.toList f y = m at *
  generalize hT2 : scan lang m = T2 at *
  have HT2 := Lib.hid hT2
  generalize dgs lang m 0 = D2 at *
  generalize scan lang s.data.toList = T at *
  generalize dgs lang s.data.toList 0 = D at *
  generalize B m = M at *
  clear hE hfy hys hel hT2
  go_enter Tryz.func5, Tryz.ntmps5
  go_wp2_with fail
  go_at_call 7
  have hbx : Box3 w.heap.size (.int .i64 (f : Int)) (.int .i64 (y : Int)) (.string z) (w.alloc (.cells #[.int .i64 (f : Int), .int .i64 (y : Int), .string z] 35)) := ⟨by simp, by simp, by simp⟩
  have hBz : Below w.heap.size w (w.alloc (.cells #[.int .i64 (f : Int), .int .i64 (y : Int), .string z] 35)) := (Below.refl _ _).alloc (Nat.le_refl _) _
  (with_reducible refine (HR.out _).mono ?_)
  rintro e w1 ⟨v1, v2, rfl, hT1, _, hb1⟩
  have hB1 := hBz.trans (hb1.mono hBz.size)
  have hbx1 := hbx.below hb1
  obtain ⟨g1, off1, o1, c1, hc1, hv1, ho1, hcell1⟩ := row_of_any hT1
  have hrow1 := row_of_any hT1
  have h0 : OwnT (w1.alloc (.cells #[] 29)) w1.heap.size (.slice (some ⟨w1.heap.size, 0, none⟩) 0 0) [] := World.ownsRow_made w1 #[] 0 (Nat.le_refl _) (by decide) rfl
  have hBe : Below w1.heap.size w1 (w1.alloc (.cells #[] 29)) := (Below.refl _ _).alloc (Nat.le_refl _) _
  obtain ⟨v3, w3, hrun3, hO3, hgr3⟩ := run_append_row h0 (hrow1.below hBe) (by simp) (by simp; omega)
  have hB3 : Below w1.heap.size w1 w3 := hBe.grown hgr3 (by simp) (fun k hk => by cases hk; exact Nat.le_refl _)
  have hz3 := hB3.size
  rw [List.nil_append] at hO3
  obtain ⟨v5, w5, hrun5, hO5, hgr5⟩ := run_append_row (World.ownsRow.alloc hO3 (.cells #[.int .i64 (-7), .int .i64 0, .int .i64 0, .int .i64 (-8), .int .i64 0, .int .i64 0] 29)) (two_row w3 ⟨-7, 0, 0⟩ ⟨-8, 0, 0⟩) (by simp; omega) (by simp; omega)
  have hB5 : Below w1.heap.size w1 w5 := (hB3.alloc hz3 _).grown hgr5 (by simp; omega) (fun k hk => (World.ownsRow.lt hO3 k hk).1)
  have HRUN3 := Lib.hid hrun3
  have HRUN5 := Lib.hid hrun5
  have HB5 := Lib.hid (hB1.trans (hB5.mono hB1.size))
  have hbx5 := hbx1.below hB5
  have HBX := Lib.hid hbx5
  have HR1 := Lib.hid (hrow1.below hB5)
  have HR5 := Lib.hid (row_of_any hO5)
  obtain ⟨g5, off5, o5, c5, hc5, hv5, ho5, hcell5⟩ := row_of_any hO5
  have hl5 : (T ++ [(⟨-7, 0, 0⟩ : Tr), ⟨-8, 0, 0⟩]).length = T.length + 2 := by simp
  rw [hl5] at hc5 hv5
  have e5 := ho5 (by simp)
  subst e5
  subst hv5
  have k70 := (hcell5 T.length (by rw [hl5]; omega)).1
  have k80 := (hcell5 (T.length + 1) (by rw [hl5]; omega)).1
  rw [show (T ++ [(⟨-7, 0, 0⟩ : Tr), ⟨-8, 0, 0⟩])[T.length]'(by rw [hl5]; omega) = ⟨-7, 0, 0⟩ by simp] at k70
  rw [show (T ++ [(⟨-7, 0, 0⟩ : Tr), ⟨-8, 0, 0⟩])[T.length + 1]'(by rw [hl5]; omega) = ⟨-8, 0, 0⟩ by simp] at k80
  have HK7 := Lib.hid k70
  have HK8 := Lib.hid k80
  have hrt : Row w5 (.slice (some ⟨g5, off5, none⟩) T.length c5) T := ⟨g5, off5, _, c5, by omega, rfl, fun _ => rfl, by have := hcell5.take T.length; simpa using this⟩
  have HRT := Lib.hid hrt
  have hslt : ∀ u, (Instr.slice 22 (.slice (some ⟨g5, off5, none⟩) (T.length + 2) c5) none (some (.int .i64 (T.length : Int))) none).run Tryz.prog u = .ok (.slice (some ⟨g5, off5, none⟩) T.length c5) u := fun u => by
    rw [run_slice_to u _ _ c5 _ T.length rfl (by omega), if_neg (by omega)]
    simp [Addr.add]
  have hz5 := HB5.out.size
  obtain ⟨n1, hn1⟩ : ∃ n, T.length = n := ⟨_, rfl⟩
  have HN1 := Lib.hid hn1
  subst hv1
  rw [hn1] at hln hc1 hc5 hslt HK7 HK8 HRUN3 HRUN5 HR1 HR5 HRT ⊢
  clear hbx hBz hT1 hb1 hB1 hbx1 hrow1 h0 hBe hrun3 hO3 hgr3 hB3 hz3 hrun5 hO5 hgr5 hB5 hcell5 hcell1 ho5 ho1 hl5 k70 k80 hrt hn1 HR
  go_wp2_with (first | (at_builtin; refine Lib.wpList_append_run _ rfl _ _ _ _ rfl _ _ rfl rfl _ _ (HRUN3.out _) ?_) | (at_builtin; refine Lib.wpList_append_run _ rfl _ _ _ _ rfl _ _ rfl rfl _ _ (HRUN5.out _) ?_))
  obtain ⟨b0, b1, b2⟩ := HBX.out
  have hl2b : T2.length ≤ 4194304 := by have := HMU.out; omega
  clear hl2 hmu
  go_cut [8, 9, 10] (fun mm nn ff wx => OwnT wx w5.heap.size mm T2 ∧ (∃ n : Nat, nn = .int .i64 (n : Int)) ∧ ff = .int .i64 0 ∧ Below w5.heap.size w5 wx)
  case first =>
    go_region_held3 (fun W' => W'.cell? ⟨w.heap.size, 0, none⟩ = some (.int .i64 (f : Int)) ∧ W'.cell? ⟨w.heap.size, 1, none⟩ = some (.int .i64 (y : Int)) ∧ W'.cell? ⟨w.heap.size, 2, none⟩ = some (.string z))
      (first | exact ⟨b0, b1, b2⟩ | go_keep)
      (first | (go_at_call 11; (with_reducible refine (HRS.out _ _ ?_ ?_).mono ?_); (exact HB5.out.drew); (exact HRT.out.below (Below.refl w5.heap.size w5).drew); rintro e w6 ⟨vm, nm, rfl, hO6, hb6⟩; obtain ⟨d0, d1, d2⟩ := (show Box3 w.heap.size (.int .i64 (f : Int)) (.int .i64 (y : Int)) (.string z) (w5.drew) from HBX.out).below hb6))
    all_goals (try go_wp2_with fail)
    all_goals go_meet
    all_goals exact ⟨by rw [← HT2.out]; exact hO6, ⟨nm, rfl⟩, rfl, ((Below.refl w5.heap.size w5).drew).trans hb6⟩
  case rest =>
    obtain ⟨hO6, ⟨nm, rfl⟩, rfl, hb6⟩ := hcut
    have hz6 := hb6.size
    have HB6 := Lib.hid hb6
    have HO6 := Lib.hid hO6
    obtain ⟨b0, b1, b2⟩ := HBX.out.below hb6
    have HRA := Lib.hid (HRT.out.below hb6)
    have HRB := Lib.hid (HR1.out.below hb6)
    have HKB : Hid (∀ u, Below wc.heap.size wc u → u.cell? ⟨g5, off5 + n1 * 3, none⟩ = some (.int .i64 (-7)) ∧ u.cell? ⟨g5, off5 + (n1 + 1) * 3, none⟩ = some (.int .i64 (-8)) ∧ u.cell? ⟨w.heap.size, 0, none⟩ = some (.int .i64 (f : Int)) ∧ u.cell? ⟨w.heap.size, 1, none⟩ = some (.int .i64 (y : Int)) ∧ u.cell? ⟨w.heap.size, 2, none⟩ = some (.string z)) := Lib.hid (fun u hu => by
      have hb := hb6.trans (hu.mono hz6)
      have l := World.block_lt_of_cell? _ _ HK7.out
      obtain ⟨x0, x1, x2⟩ := HBX.out.below hb
      exact ⟨(hb.cell (p := ⟨g5, off5 + n1 * 3, none⟩) l).trans HK7.out, (hb.cell (p := ⟨g5, off5 + (n1 + 1) * 3, none⟩) l).trans HK8.out, x0, x1, x2⟩)
    clear hb6 hO6
    go_wp2_with fail
    go_at_call 9
    refine (toks_any HRA.out HRB.out (by rw [HN1.out]; omega)).mono ?_
    rintro e w7 ⟨rfl, hb7⟩
    obtain ⟨k7, k8, x0, x1, x2⟩ := HKB.out _ hb7
    have HB7c := Lib.hid hb7
    have hz7 := hb7.size
    clear hb7 b0 b1 b2
    go_wp2_with fail
    go_at_call 12
    (with_reducible refine (HRN.out _).mono ?_)
    rintro e w8 ⟨rfl, hb8⟩
    have HB8c := Lib.hid (HB7c.out.trans (hb8.mono hz7))
    have hz8 := HB8c.out.size
    clear hb8 k7 k8 x0 x1 x2 HB7c hz7
    obtain ⟨k7, k8, x0, x1, x2⟩ := HKB.out _ HB8c.out
    go_wp2_with fail
    go_at_call 13
    (with_reducible refine (HED.out _).mono ?_)
    rintro e w9 ⟨rfl, hb9⟩
    have HB9c := Lib.hid (HB8c.out.trans (hb9.mono hz8))
    have hz9 := HB9c.out.size
    clear hb9 k7 k8 x0 x1 x2 HB8c hz8
    go_wp2_with fail
    go_at_call 7
    (with_reducible refine (HR2.out _).mono ?_)
    rintro e w10 ⟨va, vb, rfl, hTa, _, hb10⟩
    have HBac := Lib.hid (HB9c.out.trans (hb10.mono hz9))
    have HTA := Lib.hid (row_of_any hTa)
    have HO10 := Lib.hid (dec.own_below HO6.out HBac.out)
    clear hb10 hTa HB9c hz9
    go_wp2_with fail
    go_at_call 9
    refine (toks_any (row_of_any HO10.out) HTA.out (by omega)).mono ?_
    rintro e w11 ⟨rfl, hb11⟩
    have HB11 := Lib.hid ((HB6.out).trans ((HBac.out.trans (hb11.mono HBac.out.size)).mono hz6))
    have HO11 := Lib.hid (dec.own_below HO10.out hb11)
    have hz11 := HB11.out.size
    have HL11 := Lib.hid (World.ownsRow.lt HO11.out)
    clear hb11 HBac HO10 HTA
    obtain ⟨o, cap, g, hv, hcap, hgo, hgs⟩ := own_split w11.heap.size HO11.out
    obtain ⟨n2, hn2⟩ : ∃ n, T2.length = n := ⟨_, rfl⟩
    have hgB : w5.heap.size ≤ g := by
      rcases hgs with ⟨h, _⟩ | ⟨_, h, _⟩ <;> omega
    subst hv
    have HGO := Lib.hid hgo
    have HN2 := Lib.hid hn2
    rw [hn2] at hcap hl2b HGO ⊢
    clear hgo hn2 hgs
    go_wp2_with fail
    go_loopw [13] (fun p wr => ∃ n : Nat, n ≤ n2 ∧ p = .int .i64 n ∧ (n2 ≠ 0 → Wide wr g (n2 * 3)) ∧ Save w11.heap.size g w11 wr) (fun p _ => n2 - (intOf p).toNat)
    case atStart => exact ⟨0, Nat.zero_le _, rfl, fun h => (HGO.out h).2, Save.refl _ _ _⟩
    case round =>
      obtain ⟨n, hnl, rfl, hwd, hsv⟩ := hrel
      have HSV := Lib.hid hsv
      have HWD := Lib.hid hwd
      clear hwd hsv
      by_cases hlt : n < n2
      · have hd : decide ((n : Int) < (n2 : Int)) = true := decide_eq_true (by omega)
        have ho := (HGO.out (by omega)).1
        subst ho
        have hw := HWD.out (by omega)
        obtain ⟨⟨x0, c0⟩, f0⟩ := hw.at (j := n * 3) (by omega)
        obtain ⟨⟨x1, c1'⟩, f1⟩ := hw.at (j := n * 3 + 1) (by omega)
        obtain ⟨⟨x2, c2⟩, f2⟩ := hw.at (j := n * 3 + 2) (by omega)
        have HW := Lib.hid hw
        clear hw
        go_wp2_with fail
        go_roundw
        case rel => exact ⟨n + 1, by omega, by go_num, fun _ => ((HW.out.set _ _).set _ _).set _ _, ((HSV.out.setCell _ _).setCell _ _).setCell _ _⟩
        case measure => simp [intOf]; omega
      · have hd : decide ((n : Int) < (n2 : Int)) = false := decide_eq_false (by omega)
        have hbr := HB11.out.trans (HSV.out.below hz11 hgB)
        have HRA2 := Lib.hid (HRT.out.below hbr)
        have HRB2 := Lib.hid (HR1.out.below hbr)
        have HBR := Lib.hid (HB5.out.trans (hbr.mono hz5))
        have hzr := hbr.size
        clear hbr
        go_wp2_with fail
        go_at_call 9
        refine (toks_any HRA2.out HRB2.out (by rw [HN1.out]; omega)).mono ?_
        rintro e w12 ⟨rfl, hb12⟩
        have HB12 := Lib.hid (HBR.out.trans (hb12.mono (Nat.le_trans hz5 hzr)))
        clear hb12
        go_wp2_with fail
        go_ret
        exact ⟨rfl, HB12.out⟩

set_option maxRecDepth 100000 in
set_option maxHeartbeats 4000000 in
theorem again_law (s z : ByteArray) (x y : Int) (w : World) (hE : Env w) :
    Calls Tryz.prog 5 #[.string s, .agg #[.int .i64 x, .int .i64 y, .string z]] w (HoldsL w) := by
  by_cases hs : s.size ≤ 1048576
  · by_cases hz : z.size ≤ 1048576
    · by_cases h : 0 ≤ x ∧ x ≤ y ∧ y ≤ (s.size : Int)
      · obtain ⟨f, rfl⟩ := Int.eq_ofNat_of_zero_le h.1
        obtain ⟨q, rfl⟩ := Int.eq_ofNat_of_zero_le (Int.le_trans h.1 h.2.1)
        exact again_yes s z f q w hE hs hz (by omega) (by omega)
      · exact again_no s z x y w hs hz (by omega)
    · have hd0 : decide ((1048576 : Int) < (s.size : Int)) = false := decide_eq_false (by omega)
      have hd1 : decide ((1048576 : Int) < (z.size : Int)) = true := decide_eq_true (by omega)
      go_enter Tryz.func5, Tryz.ntmps5
      go_wp2_with fail
      go_ret
      exact ⟨rfl, (Below.refl _ _).alloc (Nat.le_refl _) _⟩
  · have hd0 : decide ((1048576 : Int) < (s.size : Int)) = true := decide_eq_true (by omega)
    go_enter Tryz.func5, Tryz.ntmps5
    go_wp2_with fail
    go_ret
    exact ⟨rfl, (Below.refl _ _).alloc (Nat.le_refl _) _⟩
end Go.Proofs.YtjbamlmdeopcaaaGreatDoor.lx
end

section
/-
  Of any text of at most 1048576 bytes and any edit whose text has at most 1048576 bytes: handed the document's own tokens of the text, lexer.Rescan tells the document's own tokens of the text behind the edit, or, if the edit's piece is not in the text, ErrRange and nothing else; the tokens that were handed in, and what stands behind them, are not changed, neither by the call nor by writing over what came out (the law LexerAgain, its tied card).
  Conditions: none beyond the card's own (the two tables of unicode/utf8 as their initialisers lay them, tied to the program's text).
-/
namespace Go.Proofs.YtjbamlmdeopcaaaGreatDoor.again
open Go.ChangeShapes Go.WideShapes Go.ChangeAt Go.RowKit
open Go.ChangeMaps (open_string shut_string)
open Go.Proofs.YtjbamlmdeopcaaaGreatDoor.tok (own env_of laidWorld)

theorem laidOut : laidOutB Tryz.prog = true := by kernel_rfl
set_option maxRecDepth 100000 in
theorem contract (H : Type) (enc : TypeId × Value → H) (W : World) (base : Nat) (args : Array Value) (ds gs : List (DataW H)) (before : List MemPlace)
    (hval : ∀ (j : Nat) t v, Tryz.f5.params[j]? = some t → args[j]? = some v → Value.okWide Tryz.prog W .any base t v)
    (hW : DataW.Whole enc Tryz.prog Tryz.f5.params.toList Rows.lexerAgainSpec.vars false W args.toList ds gs before) (hL : laidMetH Tryz.prog Rows.lexerAgainRow.laid W) (hS : W.ShapedOpen Tryz.prog) :
    Calls Tryz.prog 5 args W fun e W' => ∃ v, e = .returned v ∧ Rows.lexerAgainSpec.post enc Tryz.prog Tryz.f5 false true false false W args v W' := by
  have hW' := hW
  obtain ⟨p, q, hA0, hV, rfl, hfz, hnd⟩ := hW
  have hA : DataW.TrodAll enc Tryz.prog W 0 (fun _ => true) true Tryz.f5.params.toList args.toList ds p := hA0
  rw [Tryz.params5] at hA hval
  obtain ⟨v0, vs0, d0, ds0, p0, q0, hargs, rfl, rfl, h0, r0⟩ := trodAll_cons hA
  obtain ⟨v1, vs1, d1, ds1, p1, q1, rfl, rfl, rfl, h1, r1⟩ := trodAll_cons r0
  obtain ⟨rfl, rfl, rfl⟩ := trodAll_nil r1
  obtain rfl : args = #[v0, v1] := by cases args; simp_all
  obtain ⟨rfl, rfl⟩ := trodVars_none hV
  have k0 := hval 0 9 v0 (by simp) (by simp)
  have k1 := hval 1 35 v1 (by simp) (by simp)
  obtain ⟨s0, rfl, rfl, rfl, hmax0⟩ := open_string Tryz.underlying9 k0 h0
  have lt1 : ∀ x ∈ p1, x.block < W.heap.size := by obtain ⟨m, hm⟩ := h1; exact DataW.trod_lt m _ _ _ hm
  obtain ⟨x0, x1, x2, y0, y1, y2, n, rfl, _, _, g0, g1, g2⟩ := Go.Joins.open_agg3 Tryz.underlying35 (by kernel_rfl) (by kernel_rfl) k1 h1
  obtain ⟨p, hp, _⟩ := DataW.trod_int Tryz.underlying3 (x := y0) g0
  obtain ⟨q, hq, _⟩ := DataW.trod_int Tryz.underlying3 (x := y1) g1
  obtain ⟨z, hz, _⟩ := DataW.trod_string Tryz.underlying9 (x := y2) g2
  simp only [List.cons.injEq, and_true] at hp hq hz
  subst hp; subst hq; subst hz
  clear hA0
  simp only [List.append_nil] at hW'
  refine (lx.again_law s0 z p q W (env_of hL hS)).mono fun e W' ⟨he, hb⟩ => ?_
  subst he
  exact ⟨_, rfl, _, _, _, [], _, [], hW', trodAll_cons_mk (shut_bool Tryz.underlying4 _) trodAll_mk0, trodAll_cons_mk (shut_string Tryz.underlying9 hmax0) (trodAll_cons_mk (Below.trod laidOut (by kernel_rfl) (of_decide_eq_true (by kernel_rfl)) h1 hb lt1) trodAll_mk0), rfl, hb.frame _, fun h => by cases h⟩

theorem laid_met (os : Os) : laidMet Tryz.prog Rows.lexerAgainRow.laid ((laidWorld os).forCall (fun _ _ => 0) ⟨#[], #[.string .empty, .agg #[.int .i64 0, .int .i64 0, .string .empty]], []⟩).memory :=
  laidMet_of_run' 8 (by kernel_rfl) (by kernel_rfl)
theorem reads (os : Os) {H : Type} (enc : TypeId × Value → H) : ∃ places, DataW.whole enc Tryz.prog ((laidWorld os).forCall (fun _ _ => 0) ⟨#[], #[.string .empty, .agg #[.int .i64 0, .int .i64 0, .string .empty]], []⟩).memory Tryz.f5.params.toList Rows.lexerAgainSpec.vars false #[Value.string .empty, Value.agg #[.int .i64 0, .int .i64 0, .string .empty]].toList 8 = some ([.lit (.string []), .agg [.lit (.int .i64 0), .lit (.int .i64 0), .lit (.string [])]], [], places) :=
  ⟨[], by kernel_rfl⟩

set_option maxRecDepth 100000 in
theorem lifted (os : Os) (started : os.Started) (H : Type) (enc : TypeId × Value → H) (F : Stop.Interp) :
    ReturnsInHanded {} Tryz.checked os 5 .any ((OpenSpec.ofChange Rows.lexerAgainSpec).preRow enc Tryz.prog Tryz.f5 Rows.lexerAgainRow.domain false Rows.lexerAgainRow.laid) (((OpenSpec.ofChange Rows.lexerAgainSpec).at F).post enc Tryz.prog Tryz.f5 false true false false) := by
  obtain ⟨places, hx⟩ := reads os enc
  refine returnsInHanded_of_row (C := Tryz.checked) (s := OpenSpec.ofChange Rows.lexerAgainSpec) own started (by kernel_rfl) Tryz.func5
    (witness_row_at (enc := enc) (C := Tryz.checked) false (laidWorld os) #[.string .empty, .agg #[.int .i64 0, .int .i64 0, .string .empty]] rfl (by kernel_rfl) (by kernel_rfl) (by kernel_rfl)
      (OpenSpec.preRow_of_cond 8 hx (by kernel_rfl) (fun k hk => by cases hk) (by kernel_rfl) (laid_met os))) ?_
  intro W base args ds gs before hval hW _ _ _ hL hS _
  exact contract H enc W base args ds gs before hval hW hL hS

theorem said : Rows.LexerAgainSaid :=
  OpenClaim.holds_of_cond 5 Tryz.f5 rfl rfl rfl rfl rfl rfl rfl ⟨rfl, rfl, rfl, rfl, rfl⟩ rfl rfl rfl rfl rfl (by kernel_rfl) Tryz.func5 (by kernel_rfl)
    (of_decide_eq_true (by kernel_rfl)) (by unfold Func.isWrapper; first | (rw [if_pos (by decide +kernel)]; kernel_rfl) | (rw [if_neg (by decide +kernel)]; exact ⟨rfl, rfl⟩))
    (fun os started H enc _ F => by rw [OpenClaim.pre_eq_preRow]; exact lifted os started H enc F)

theorem plain (f : FuncId) (fn : Func) (hf : Tryz.pinned.checked.prog.funcNamed Rows.lexerAgainRow.func = some f) (hfn : Tryz.pinned.checked.prog.funcs[f]? = some fn) :
    false = Tryz.pinned.checked.prog.looks [] ∧ ∀ (j : Nat) t, fn.params[j]? = some t → Tryz.pinned.checked.prog.wantsStandIn t = false := by
  obtain rfl : f = 5 := Option.some.inj ((show Tryz.prog.funcNamed Rows.lexerAgainRow.func = some 5 by kernel_rfl).symm.trans hf) |>.symm
  obtain rfl : fn = Tryz.f5 := (Option.some.inj (Tryz.func5.symm.trans hfn)).symm
  refine ⟨by kernel_rfl, fun j t ht => ?_⟩
  rw [Tryz.params5] at ht
  have ht' : t = 9 ∨ t = 35 := by simpa using Array.mem_of_getElem? ht
  rcases ht' with rfl | rfl
  · exact (show Tryz.prog.wantsStandIn 9 = false by kernel_rfl)
  · exact (show Tryz.prog.wantsStandIn 35 = false by kernel_rfl)

theorem card : Rows.LexerAgainCardSaid :=
  Claim7.holds_tied_plain_at .later [] _ _ _ _ said (fun _ h => by cases h) (by kernel_rfl) (fun _ h => by cases h) lexerAgain_row_tie rfl ⟨rfl, rfl⟩ (by kernel_rfl) rfl plain (by kernel_rfl)
end Go.Proofs.YtjbamlmdeopcaaaGreatDoor.again
end
