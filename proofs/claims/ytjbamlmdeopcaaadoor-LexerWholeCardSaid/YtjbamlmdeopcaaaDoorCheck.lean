/-
  The contract of text.Check.
-/
import Derived.Test.YtjbamlmdeopcaaaDoorOwn
namespace Go.Proofs.YtjbamlmdeopcaaaDoor.dec
open Go.RowKit

set_option maxRecDepth 100000 in
set_option maxHeartbeats 2000000 in
theorem check_any (s : ByteArray) (w : World) (hs : s.size ≤ 1073741824) (hT : Lib.Utf8Tabs 0 1 w) :
    Calls Tryd.prog 6 #[.string s] w (Made s w) := by
  obtain ⟨i0, hi, hz0, hz1, hz2⟩ := info_parts infoD
  go_enter Tryd.func6, Tryd.ntmps6
  go_wp2
  go_loopw [3, 4] (fun v p wr => ∃ (i : Nat) (D : List Dg), p = .int .i64 i ∧ Far s i D ∧ wr.ownsRow w.heap.size 30 3 v D.length (cellsOf D) ∧ Below w.heap.size w wr)
    (fun _ p _ => s.size - (intOf p).toNat)
  case atStart => exact ⟨0, [], rfl, Far.zero s, World.ownsRow_nil _ _ _ _, Below.refl _ _⟩
  case round =>
    obtain ⟨i, D, rfl, hF, hown, hb⟩ := hrel
    have hle := hF.le
    have hfew := hF.few
    have HF := Lib.hid hF
    have HT := Lib.hid (tabs_below hT hb)
    have HO := Lib.hid hown
    have HB := Lib.hid hb
    have hsz := hb.size
    clear hF hown hT hb
    by_cases hlt : i < s.size
    · have hw1 := wide_pos s i
      have hw2 := wide_le s i hlt
      have hr := rune_lt s i
      by_cases hc : codeAt s i = 0
      · have ht : (faultZ (runeAt s i) (wideAt s i) i != 0) = false := by rw [show faultZ (runeAt s i) (wideAt s i) i = 0 from hc]; rfl
        have HC := Lib.hid hc
        clear hc
        go_wp2_with (first | (go_at_call 9; refine (decode_calls s i hlt _ HT.out).mono ?_; rintro e w1 ⟨rfl, hb1⟩) | (go_at_call 10; refine (fault_any _ _ _ _).mono ?_; rintro e w' ⟨rfl, rfl⟩))
        go_roundw
        case rel => exact ⟨i + wideAt s i, D, by go_num, HF.out.none hlt HC.out, own_below HO.out hb1, HB.out.trans (hb1.mono hsz)⟩
        case measure => simp [intOf]; omega
      · have ht : (faultZ (runeAt s i) (wideAt s i) i != 0) = true := by rw [bne_iff_ne]; exact hc
        have HC := Lib.hid hc
        clear hc
        go_wp2_with (first | (go_at_call 9; refine (decode_calls s i hlt _ HT.out).mono ?_; rintro e w1 ⟨rfl, hb1⟩; have hsz1 := hb1.size) | (go_at_call 10; refine (fault_any _ _ _ _).mono ?_; rintro e w' ⟨rfl, rfl⟩) | (at_builtin; refine wpList_append_own _ rfl _ _ 23 rfl w.heap.size 30 i0 (.agg #[.int .i64 0, .int .i64 0, .int .i64 0]) 3 24 Tryd.underlying23 hi hz0 hz1 hz2 rfl (by decide) _ _ _ rfl ((own_below HO.out hb1).alloc _) ⟨w1.heap.size, 0, none⟩ 1 1 [.int .i64 (codeAt s i), .int .i64 i, .int .i64 ((i : Int) + (wideAt s i : Int))] rfl rfl ?c1 ?c2 ?c3 ?c4 ?c5 ?_))
        case c1 => exact three_new w1 _ _ _ 30
        case c2 => intro u hu; simp only [List.mem_cons, List.not_mem_nil, or_false] at hu; rcases hu with rfl | rfl | rfl <;> rfl
        case c3 => unfold maxLen; omega
        case c4 => omega
        case c5 => simp; omega
        intro v' w2 hown2 hg _
        have R := rel_some HF.out hlt HC.out HO.out (fun k hk => (HO.out.lt k hk).1) HB.out hb1 hown2 hg
        have HR := Lib.hid R
        clear R hown2 hg HO HB HF HC HT hb1
        go_wp2
        go_roundw
        case rel => exact ⟨i + wideAt s i, _, by go_num, HR.out.1, HR.out.2.1, HR.out.2.2⟩
        case measure => simp [intOf]; omega
    · go_wp2
      go_ret
      refine ⟨_, rfl, ?_, HB.out⟩
      rw [← HF.out.done hlt]
      exact HO.out
end Go.Proofs.YtjbamlmdeopcaaaDoor.dec
