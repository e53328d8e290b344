/-
  strings.ReplaceAll of one byte by nothing, of any length.
-/
import Derived.Test.YtbmmbaagcglomaaDoorRaw
import Derived.Lib.SlicesS
namespace Go.Proofs.YtbmmbaagcglomaaDoor.tok
open Go.RowKit

theorem noCR_app (x y : List UInt8) : noCR (x ++ y) = noCR x ++ noCR y := List.filter_append ..
theorem no_count {l : List UInt8} (h : l.count 13 = 0) : noCR l = l := noCR_none (fun k e => by
  obtain ⟨hk, e⟩ := List.getElem?_eq_some_iff.1 e
  exact (List.count_eq_zero.1 h) (e ▸ List.getElem_mem hk))
/-- From one return to the next. -/
theorem cr_step {l : List UInt8} {a j : Nat} (h : Lib.indexByte (l.drop a) 13 = j) : a + j < l.length ∧ noCR (l.take (a + j + 1)) = noCR (l.take a) ++ (l.drop a).take j ∧ (l.drop a).count 13 = (l.drop (a + j + 1)).count 13 + 1 := by
  obtain ⟨h1, h2⟩ := Lib.indexByte_some h
  obtain ⟨hj, e⟩ := List.getElem?_eq_some_iff.1 h1
  have hl := hj
  rw [List.length_drop] at hl
  have hno : ∀ k : Nat, ((l.drop a).take j)[k]? ≠ some 13 := fun k => by
    by_cases hk : k < j
    · rw [List.getElem?_take_of_lt hk]; exact h2 k hk
    · rw [List.getElem?_eq_none (by rw [List.length_take]; omega)]; simp
  have hone : (l.drop a).take (j + 1) = (l.drop a).take j ++ [13] := by rw [List.take_succ_eq_append_getElem hj, e]
  refine ⟨by omega, ?_, ?_⟩
  · rw [Nat.add_assoc, List.take_add, noCR_app, hone, noCR_app, noCR_none hno]
    simp [noCR]
  · have hsplit : l.drop a = (l.drop a).take (j + 1) ++ l.drop (a + j + 1) := by
      rw [Nat.add_assoc, ← List.drop_drop, List.take_append_drop]
    have h0 : ((l.drop a).take j).count 13 = 0 := List.count_eq_zero.2 (fun hm => by
      obtain ⟨k, hk, e⟩ := List.getElem_of_mem hm
      exact hno k (by rw [List.getElem?_eq_getElem hk, e]))
    rw [hsplit, List.count_append, hone, List.count_append, h0]
    simp
    omega
theorem slice_mid (s : ByteArray) (a b : Nat) (z y : Int) (hz : z = (a : Int)) (hy : y = (b : Int)) (h1 : a ≤ b) (h2 : b ≤ s.size) (u : World) :
    (Instr.slice 9 (.string s) (some (.int .i64 z)) (some (.int .i64 y)) none).run Tryd.prog u = .ok (.string (B ((s.data.toList.drop a).take (b - a)))) u := by
  subst hz hy
  rw [← b_extract]
  exact run_slice_string (P := Tryd.prog) u 9 s .i64 .i64 a (b : Int) Tryd.underlying9 (by omega) (by omega) (by omega)
theorem writeString (G b : Nat) (bs : List Value) (x : ByteArray) (w : World) (h : Lib.IsBuilder 77 5 G b bs w) (hlen : bs.length + x.size ≤ 140737488355328) (hBw : G ≤ w.heap.size) :
    Calls Tryd.prog 71 #[.pointer (some ⟨b, 0, none⟩), .string x] w fun e w' => e = .returned (.tuple #[.int .i64 x.size, .nilIface]) ∧ (Lib.BuilderAt 77 5 G b (.pointer (some ⟨b, 0, none⟩)) (bs ++ Lib.strCells x) w' ∧ Below G w w') :=
  Any.Builder_WriteString { Tryd.lays155 with } Tryd.Builder_Extra_155 G b bs x w h hlen hBw

set_option maxRecDepth 1000000 in
set_option maxHeartbeats 16000000 in
theorem replace_some (s : ByteArray) (w : World) (hs : s.size ≤ 140737488351232) (K : Nat) (hK : s.data.toList.count 13 = K) (h1 : 1 ≤ K) :
    Calls Tryd.prog 62 #[.string s, .string { data := #[13] }, .string { data := #[] }, .int .i64 (-1)] w (OneText (noCR s.data.toList) w) := by
  have HC := Lib.hid (Tryd.strings_Count_one s 13)
  unfold Lib.countByte at HC
  rw [hK] at HC
  have hKs : K ≤ s.size := by rw [← hK, ← sdata]; exact List.count_le_length
  have hcz : ((K : Int) == 0) = false := beq_eq_false_iff_ne.2 (by omega)
  have hga : (s.size : Int) + -(K : Int) = ((s.size - K : Nat) : Int) := by omega
  have HL := Lib.hid (sdata s)
  go_enter Tryd.func62, Tryd.ntmps62
  go_wp2_with (go_at_call 68; refine (HC.out _).mono ?_; rintro e w' ⟨rfl, hw⟩; rw [hw])
  refine (Tryd.Builder_Grow_fresh w.heap.size w.heap.size _ _ (Nat.le_refl _) (heap_alloc_new w _) (by simp) (by omega)).mono ?_
  rintro e w1 ⟨rfl, hb0, hb1⟩
  have H1 : Hid (Lib.IsBuilder 77 5 w.heap.size w.heap.size (Lib.byteCells []) w1) := Lib.hid (Or.inr hb0)
  have HB1 := Lib.hid (((Below.refl w.heap.size w).alloc (Nat.le_refl _) _).trans hb1)
  clear hb0 hb1 hga HC
  go_wp2_with fail
  go_loopw [11, 53] (fun s11 s53 wr => ∃ i a : Nat, s53 = .int .i64 i ∧ s11 = .int .i64 a ∧ a ≤ s.size ∧ (s.data.toList.drop a).count 13 + i = K ∧ Hid (Lib.IsBuilder 77 5 w.heap.size w.heap.size (Lib.byteCells (noCR (s.data.toList.take a))) wr) ∧ Hid (Below w.heap.size w wr)) (fun _ s53 _ => K - (intOf s53).toNat)
  case atStart => exact ⟨0, 0, rfl, rfl, by omega, by rw [List.drop_zero]; omega, H1, HB1⟩
  case round =>
    obtain ⟨i, a, rfl, rfl, ha, hcount, HI, HB⟩ := hrel
    have hsz := HB.out.size
    have hna : (noCR (s.data.toList.take a)).length ≤ a := Nat.le_trans (List.length_filter_le _ _) (by rw [List.length_take]; omega)
    have hsl := slice_from s a ha
    by_cases hi : i < K
    · obtain ⟨j, hj⟩ : ∃ j : Nat, Lib.indexByte (s.data.toList.drop a) 13 = j := by
        have hg := Lib.indexByte_ge (s.data.toList.drop a) 13
        refine ⟨(Lib.indexByte (s.data.toList.drop a) 13).toNat, ?_⟩
        by_cases hn : Lib.indexByte (s.data.toList.drop a) 13 = -1
        · have h0 : (s.data.toList.drop a).count 13 = 0 := List.count_eq_zero.2 (fun hm => by
            obtain ⟨k, hk, e⟩ := List.getElem_of_mem hm
            exact Lib.indexByte_none hn k (by rw [List.getElem?_eq_getElem hk, e]))
          omega
        · omega
      obtain ⟨c1, c2, c3⟩ := cr_step hj
      rw [sdata] at c1
      have HX : Hid (∀ u : World, Calls Tryd.prog 70 #[.string (B (s.data.toList.drop a)), .string { data := #[13] }] u fun e w' => e = .returned (.int .i64 (j : Nat)) ∧ w' = u) := Lib.hid (fun u => by
        refine (Tryd.strings_Index_one (B (s.data.toList.drop a)) 13 u).mono ?_
        rintro e w' ⟨rfl, hw⟩
        rw [bdata, hj]
        exact ⟨rfl, hw⟩)
      have hsm := slice_mid s a (a + j) (a : Int) ((a : Int) + (j : Int)) rfl (by omega) (by omega) (by omega)
      rw [Nat.add_sub_cancel_left] at hsm
      obtain ⟨x, hx⟩ : ∃ x, (s.data.toList.drop a).take j = x := ⟨_, rfl⟩
      have hxl : x.length ≤ j := by rw [← hx, List.length_take]; omega
      obtain ⟨y, hy⟩ : ∃ y, s.data.toList.drop a = y := ⟨_, rfl⟩
      rw [hx] at hsm c2
      rw [hy] at hsl HX
      have HN : Hid (Lib.byteCells (noCR (s.data.toList.take a)) ++ Lib.strCells (B x) ++ Lib.strCells { data := #[] } = Lib.byteCells (noCR (s.data.toList.take (a + j + 1)))) := Lib.hid (by
        rw [c2, Lib.byteCells_append, Lib.strCells_eq, Lib.strCells_eq, bdata]
        simp [Lib.byteCells])
      have HCT : Hid ((s.data.toList.drop (a + j + 1)).count 13 + (i + 1) = K) := Lib.hid (by omega)
      have hbx : (B x).size = x.length := bsize x
      clear hx hy hj c2 c3 hcount
      go_wp2_with (go_at_call 70; refine (HX.out _).mono ?_; rintro e w' ⟨rfl, hw⟩; rw [hw]; clear hw)
      refine (writeString _ _ _ (B x) _ HI.out (by rw [Lib.byteCells_length, hbx]; omega) hsz).mono ?_
      rintro e w2 ⟨rfl, h2, hb2⟩
      have H2 := Lib.hid h2
      have HB2 := Lib.hid hb2
      have hsz2 : w.heap.size ≤ w2.heap.size := Nat.le_trans hsz hb2.size
      clear h2 hb2
      go_wp2_with fail
      refine (writeString _ _ _ { data := #[] } _ (Or.inr H2.out) (by rw [List.length_append, Lib.byteCells_length, Lib.strCells_length, hbx]; show _ + _ + 0 ≤ _; omega) hsz2).mono ?_
      rintro e w3 ⟨rfl, h3, hb3⟩
      rw [HN.out] at h3
      have H3 : Hid (Lib.IsBuilder 77 5 w.heap.size w.heap.size (Lib.byteCells (noCR (s.data.toList.take (a + j + 1)))) w3) := Lib.hid (Or.inr h3)
      have HB3 := Lib.hid ((HB.out.trans HB2.out).trans hb3)
      clear h3 hb3
      go_wp2_with fail
      go_roundw
      case rel => exact ⟨i + 1, a + j + 1, by go_num, by go_num, by omega, HCT.out, H3, HB3⟩
      case measure => simp [intOf]; omega
    · have hend : noCR (s.data.toList.take a) ++ s.data.toList.drop a = noCR s.data.toList := by
        have h0 : (s.data.toList.drop a).count 13 = 0 := by omega
        conv => rhs; rw [← List.take_append_drop a s.data.toList, noCR_app, no_count h0]
      obtain ⟨y, hy⟩ : ∃ y, s.data.toList.drop a = y := ⟨_, rfl⟩
      have hyl : y.length + a ≤ s.size := by have := HL.out; rw [← hy, List.length_drop]; omega
      rw [hy] at hsl hend
      have HN : Hid (Lib.byteCells (noCR (s.data.toList.take a)) ++ Lib.strCells (B y) = Lib.byteCells (noCR s.data.toList)) := Lib.hid (by
        rw [← hend, Lib.byteCells_append, Lib.strCells_eq, bdata])
      have hby : (B y).size = y.length := bsize y
      clear hy hend hcount
      go_wp2_with fail
      refine (writeString _ _ _ (B y) _ HI.out (by rw [Lib.byteCells_length, hby]; omega) hsz).mono ?_
      rintro e w2 ⟨rfl, h2, hb2⟩
      rw [HN.out] at h2
      have H2 : Hid (Lib.IsBuilder 77 5 w.heap.size w.heap.size (Lib.byteCells (noCR s.data.toList)) w2) := Lib.hid (Or.inr h2)
      have HB2 := Lib.hid (HB.out.trans hb2)
      have hsz2 : w.heap.size ≤ w2.heap.size := Nat.le_trans hsz hb2.size
      clear h2 hb2
      go_wp2_with fail
      refine (Tryd.Builder_String_any _ _ _ _ H2.out hsz2).mono ?_
      rintro e w3 ⟨rfl, hb3⟩
      have HB3 := Lib.hid (HB2.out.trans hb3)
      clear hb3
      go_wp2_with fail
      go_ret
      exact ⟨rfl, HB3.out⟩
end Go.Proofs.YtbmmbaagcglomaaDoor.tok
