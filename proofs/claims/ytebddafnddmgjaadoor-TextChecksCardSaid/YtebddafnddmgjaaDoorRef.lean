/-
  The contract of the reference's Check.
-/
import Derived.Test.YtebddafnddmgjaaDoorMarks
namespace Go.Proofs.YtebddafnddmgjaaDoor.dec
open Go.RowKit

theorem width_is {s : ByteArray} {i n : Nat} {z : Int} (w : World) (hs : s.size ≤ 1073741824) (hi : i < s.size) (h : widthS s i = n) (hz : z = n) :
    Calls Tryd.prog 9 #[.string s, .int .i64 i] w fun e w' => e = .returned (.int .i64 z) ∧ w = w' := by
  have := width_any s i w hs hi
  unfold WidthGoal at this
  rw [h] at this
  rw [hz]
  exact this

set_option maxRecDepth 100000 in
set_option maxHeartbeats 2000000 in
theorem ref_any (s : ByteArray) (w : World) (hs : s.size ≤ 1073741824) :
    Calls Tryd.prog 6 #[.string s] w (Made s w) := by
  obtain ⟨i0, hi, hz0, hz1, hz2⟩ := info_parts infoD
  go_enter Tryd.func6, Tryd.ntmps6
  go_wp2
  go_loopw [3, 4] (fun v p wr => ∃ (i : Nat) (D : List Dg), p = .int .i64 i ∧ Far s i D ∧ wr.ownsRow w.heap.size 27 3 v D.length (cellsOf D) ∧ Below w.heap.size w wr)
    (fun _ p _ => s.size - (intOf p).toNat)
  case atStart => exact ⟨0, [], rfl, Far.zero s, World.ownsRow_made w #[] 0 (Nat.le_refl _) (by decide) rfl, (Below.refl _ _).alloc (Nat.le_refl _) _⟩
  case round =>
    obtain ⟨i, D, rfl, hF, hown, hb⟩ := hrel
    have hle := hF.le
    have hfew := hF.few
    have HF := Lib.hid hF
    have HO := Lib.hid hown
    have HB := Lib.hid hb
    have hsz := hb.size
    clear hF hown hb
    by_cases hlt : i < s.size
    · by_cases hbad : widthS s i = 0
      · have HC := Lib.hid (codeAt_bad hbad)
        have HW := Lib.hid hbad
        clear hbad
        go_wp2_with (first | (go_at_call 9; refine (width_is _ hs hlt HW.out rfl).mono ?_; rintro e w' ⟨rfl, rfl⟩) | (at_builtin; refine wpList_append_own _ rfl _ _ 23 rfl w.heap.size 27 i0 (.agg #[.int .i64 0, .int .i64 0, .int .i64 0]) 3 24 Tryd.underlying23 hi hz0 hz1 hz2 rfl (by decide) _ _ _ rfl (HO.out.alloc _) ⟨wr.heap.size, 0, none⟩ 1 1 [.int .i64 101, .int .i64 i, .int .i64 ((i : Int) + 1)] rfl rfl ?c1 ?c2 ?c3 ?c4 ?c5 ?_))
        case c1 => exact three_new wr _ _ _ 27
        case c2 => intro u hu; simp only [List.mem_cons, List.not_mem_nil, or_false] at hu; rcases hu with rfl | rfl | rfl <;> rfl
        case c3 => unfold maxLen; omega
        case c4 => omega
        case c5 => simp; omega
        intro v' w2 hown2 hg _
        have HR := Lib.hid (rel_ref (wide := 1) HF.out hlt HC.out (by decide) HO.out HB.out hown2 hg)
        clear hown2 hg HO HB HF HC
        go_wp2
        go_roundw
        case rel =>
          obtain ⟨D', r1, r2, r3⟩ := HR.out
          exact ⟨i + 1, D', by go_num, r1, r2, r3⟩
        case measure => simp [intOf]; omega
      · obtain ⟨c, hc⟩ : ∃ c, s[i] = c := ⟨_, rfl⟩
        have hg0 : s.get! i = c := (get_lt s i hlt).trans hc
        have hgood := wide_good hbad
        have hwl := wide_le s i hlt
        by_cases hz : (c.toNat : Int) = 0
        · have hn := code_nul hbad (by rw [hg0]; omega)
          have HC := Lib.hid (show codeAt s i = 102 ∧ wideAt s i = 1 from ⟨hn.1, by rw [hgood.1]; exact hn.2⟩)
          have HW := Lib.hid hn.2
          have hz' : ((c.toNat : Int) == 0) = true := beq_iff_eq.2 hz
          clear hz hn hgood hbad hg0 hwl
          go_wp2_with (first | (go_at_call 9; refine (width_is _ hs hlt HW.out rfl).mono ?_; rintro e w' ⟨rfl, rfl⟩) | (at_builtin; refine wpList_append_own _ rfl _ _ 23 rfl w.heap.size 27 i0 (.agg #[.int .i64 0, .int .i64 0, .int .i64 0]) 3 24 Tryd.underlying23 hi hz0 hz1 hz2 rfl (by decide) _ _ _ rfl (HO.out.alloc _) ⟨wr.heap.size, 0, none⟩ 1 1 [.int .i64 102, .int .i64 i, .int .i64 ((i : Int) + 1)] rfl rfl ?c1 ?c2 ?c3 ?c4 ?c5 ?_))
          case c1 => exact three_new wr _ _ _ 27
          case c2 => intro u hu; simp only [List.mem_cons, List.not_mem_nil, or_false] at hu; rcases hu with rfl | rfl | rfl <;> rfl
          case c3 => unfold maxLen; omega
          case c4 => omega
          case c5 => simp; omega
          intro v' w2 hown2 hg _
          have HR := Lib.hid (rel_ref (wide := 1) HF.out hlt HC.out (by decide) HO.out HB.out hown2 hg)
          clear hown2 hg HO HB HF HC
          go_wp2
          go_roundw
          case rel =>
            obtain ⟨D', r1, r2, r3⟩ := HR.out
            exact ⟨i + 1, D', by go_num, r1, r2, r3⟩
          case measure => simp [intOf]; omega
        · have hz' : ((c.toNat : Int) == 0) = false := beq_eq_false_iff_ne.2 hz
          by_cases hm : runeAt s i = 65279 ∧ 0 < i
          · have hn := code_mark hbad hm.2 hm.1
            have hi2 : 0 < i := hm.2
            have hx0 := mark_yes hbad hm.1
            have hb3 : (i : Int) + 3 ≤ (s.size : Int) := by omega
            have HC := Lib.hid (show codeAt s i = 103 ∧ wideAt s i = 3 from ⟨hn.1, by rw [hgood.1]; exact hn.2⟩)
            have HW := Lib.hid hn.2
            rw [hn.2] at hx0
            obtain ⟨x, hx⟩ : ∃ x, s.extract i (i + 3) = x := ⟨_, rfl⟩
            rw [hx] at hx0
            have hsl : ∀ u : World, (Instr.slice 9 (.string s) (some (.int .i64 (i : Int))) (some (.int .i64 ((i : Int) + 3))) none).run Tryd.prog u = .ok (.string x) u := fun u => by
              rw [← hx]
              exact run_slice_string (P := Tryd.prog) u 9 s .i64 .i64 i ((i : Int) + 3) Tryd.underlying9 (by omega) (by omega) hb3
            clear hz hn hgood hbad hg0 hwl hm hx
            go_wp2_with (first | (go_at_call 9; refine (width_is _ hs hlt HW.out rfl).mono ?_; rintro e w' ⟨rfl, rfl⟩) | (at_builtin; refine wpList_append_own _ rfl _ _ 23 rfl w.heap.size 27 i0 (.agg #[.int .i64 0, .int .i64 0, .int .i64 0]) 3 24 Tryd.underlying23 hi hz0 hz1 hz2 rfl (by decide) _ _ _ rfl (HO.out.alloc _) ⟨wr.heap.size, 0, none⟩ 1 1 [.int .i64 103, .int .i64 i, .int .i64 ((i : Int) + 3)] rfl rfl ?c1 ?c2 ?c3 ?c4 ?c5 ?_))
            case c1 => exact three_new wr _ _ _ 27
            case c2 => intro u hu; simp only [List.mem_cons, List.not_mem_nil, or_false] at hu; rcases hu with rfl | rfl | rfl <;> rfl
            case c3 => unfold maxLen; omega
            case c4 => omega
            case c5 => simp; omega
            intro v' w2 hown2 hg _
            have HR := Lib.hid (rel_ref (wide := 3) HF.out hlt HC.out (by decide) HO.out HB.out hown2 hg)
            clear hown2 hg HO HB HF HC
            go_wp2
            go_roundw
            case rel =>
              obtain ⟨D', r1, r2, r3⟩ := HR.out
              exact ⟨i + 3, D', by go_num, r1, r2, r3⟩
            case measure => simp [intOf]; omega
          · have hn := code_none hbad (by rw [hg0]; omega) (by omega)
            have hwd := hgood.1
            have hpos := wide_pos s i
            obtain ⟨n, hn'⟩ : ∃ n, widthS s i = n := ⟨_, rfl⟩
            have HC := Lib.hid hn
            have HW := Lib.hid hn'
            have HD := Lib.hid (hwd.trans hn')
            have hb3 : (i : Int) + (n : Int) ≤ (s.size : Int) := by omega
            have hnp : 1 ≤ n := by omega
            by_cases hi0 : 0 < i
            · have hx0 := mark_no hlt hbad (fun e => hm ⟨e, hi0⟩)
              rw [hn'] at hx0
              obtain ⟨x, hx⟩ : ∃ x, s.extract i (i + n) = x := ⟨_, rfl⟩
              rw [hx] at hx0
              have hsl : ∀ u : World, (Instr.slice 9 (.string s) (some (.int .i64 (i : Int))) (some (.int .i64 ((i : Int) + (n : Int)))) none).run Tryd.prog u = .ok (.string x) u := fun u => by
                rw [← hx]
                exact run_slice_string (P := Tryd.prog) u 9 s .i64 .i64 i ((i : Int) + (n : Int)) Tryd.underlying9 (by omega) (by omega) hb3
              have hbz : ((n : Int) == 0) = false := beq_eq_false_iff_ne.2 (by omega)
              clear hz hn hgood hbad hg0 hwl hm hx hn' hwd hpos
              go_wp2_with (first | (go_at_call 9; refine (width_is _ hs hlt HW.out rfl).mono ?_; rintro e w' ⟨rfl, rfl⟩))
              go_roundw
              case rel => exact ⟨i + n, D, by go_num, by have := HF.out.none hlt HC.out; rw [HD.out] at this; exact this, HO.out, HB.out⟩
              case measure => simp [intOf]; omega
            · obtain rfl : i = 0 := by omega
              have hbz : ((n : Int) == 0) = false := beq_eq_false_iff_ne.2 (by omega)
              clear hz hn hgood hbad hg0 hwl hm hn' hwd hpos
              go_wp2_with (first | (go_at_call 9; refine (width_is _ hs hlt HW.out rfl).mono ?_; rintro e w' ⟨rfl, rfl⟩))
              go_roundw
              case rel => exact ⟨0 + n, D, by simp, by have := HF.out.none hlt HC.out; rw [HD.out] at this; exact this, HO.out, HB.out⟩
              case measure => simp [intOf]; omega
    · go_wp2
      go_ret
      refine ⟨_, rfl, ?_, HB.out⟩
      rw [← HF.out.done hlt]
      exact HO.out
end Go.Proofs.YtebddafnddmgjaaDoor.dec
