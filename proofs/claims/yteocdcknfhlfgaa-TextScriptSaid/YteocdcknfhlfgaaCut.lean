/-
  The contract of cut: what stands from .. to in a text that lies in pieces, behind a list.
-/
import Derived.Test.YteocdcknfhlfgaaBase
import Derived.Lib.Strings
namespace Go.Proofs.Yteocdcknfhlfgaa.buf
open Go.RowKit

theorem textOf_take_succ (ps : List ByteArray) (k : Nat) (h : k < ps.length) : textOf (ps.take (k + 1)) = textOf (ps.take k) ++ ps[k].data.toList := by
  rw [List.take_succ_eq_append_getElem h, textOf_append, textOf_one]
theorem textOf_split (ps : List ByteArray) (k : Nat) (h : k < ps.length) : textOf ps = textOf (ps.take k) ++ (ps[k].data.toList ++ textOf (ps.drop (k + 1))) := by
  conv => lhs; rw [← List.take_append_drop k ps, List.drop_eq_getElem_cons h]
  rw [textOf_append, textOf_cons]

/-- The bytes of a piece that the cut takes, in the whole text's places. -/
theorem cut_step (T A P R : List UInt8) (from' to : Nat) (hT : T = A ++ (P ++ R)) (h2 : A.length < to) :
    (T.take (min (A.length + P.length) to)).drop from' = (T.take (min A.length to)).drop from' ++ (P.drop (from' - A.length)).take (min (to - A.length) P.length - (from' - A.length)) := by
  subst hT
  have e1 : min A.length to = A.length := by omega
  rw [e1, List.take_left]
  have e2 : (A ++ (P ++ R)).take (min (A.length + P.length) to) = A ++ P.take (min (to - A.length) P.length) := by
    rw [List.take_append, List.take_of_length_le (by omega)]
    congr 1
    rw [List.take_append, show min (A.length + P.length) to - A.length = min (to - A.length) P.length by omega]
    rw [show min (to - A.length) P.length - P.length = 0 by omega, List.take_zero, List.append_nil]
  rw [e2, List.drop_append, List.drop_take]
theorem cut_skip (T A P : List UInt8) (from' to : Nat) (h3 : ¬ from' < A.length + P.length) :
    (T.take (min (A.length + P.length) to)).drop from' = (T.take (min A.length to)).drop from' := by
  rw [List.drop_of_length_le (by rw [List.length_take]; omega), List.drop_of_length_le (by rw [List.length_take]; omega)]

/-- How far a cut has come: behind k pieces. -/
structure CutFar (ps l : List ByteArray) (from' to k : Nat) (c : List ByteArray) : Prop where
  le : k ≤ ps.length
  text : textOf c = textOf l ++ ((textOf ps).take (min (textOf (ps.take k)).length to)).drop from'
  few : c.length ≤ l.length + k
theorem CutFar.zero (ps l : List ByteArray) (from' to : Nat) : CutFar ps l from' to 0 l := ⟨Nat.zero_le _, by simp [textOf], Nat.le_refl _⟩
theorem CutFar.take {ps l c : List ByteArray} {from' to k : Nat} (h : CutFar ps l from' to k c) (hk : k < ps.length) (h2 : (textOf (ps.take k)).length < to)
    (s : ByteArray) (hs : s = ps[k].extract (from' - (textOf (ps.take k)).length) (min (to - (textOf (ps.take k)).length) ps[k].size)) : CutFar ps l from' to (k + 1) (addL c s) := by
  refine ⟨hk, ?_, by have := addL_length c s; have := h.few; omega⟩
  have hd := size_data ps[k]
  rw [textOf_addL, h.text, textOf_take_succ ps k hk, List.length_append, cut_step _ _ _ _ from' to (textOf_split ps k hk) h2, List.append_assoc, hs, Lib.extract_data, hd]
theorem CutFar.skip {ps l c : List ByteArray} {from' to k : Nat} (h : CutFar ps l from' to k c) (hk : k < ps.length) (h3 : ¬ from' < (textOf (ps.take k)).length + ps[k].size) : CutFar ps l from' to (k + 1) c := by
  refine ⟨hk, ?_, by have := h.few; omega⟩
  have hd := size_data ps[k]
  rw [h.text, textOf_take_succ ps k hk, List.length_append, cut_skip _ _ _ from' to (by omega)]
theorem CutFar.stop {ps l c : List ByteArray} {from' to k : Nat} (h : CutFar ps l from' to k c) (h2 : ¬ (textOf (ps.take k)).length < to) : textOf c = textOf l ++ ((textOf ps).take to).drop from' := by
  rw [h.text, show min (textOf (ps.take k)).length to = to by omega]
theorem CutFar.last {ps l c : List ByteArray} {from' to k : Nat} (h : CutFar ps l from' to k c) (hk : ¬ k < ps.length) : textOf c = textOf l ++ ((textOf ps).take to).drop from' := by
  rw [h.text, List.take_of_length_le (l := ps) (by omega)]
  congr 2
  by_cases c' : to ≤ (textOf ps).length
  · rw [Nat.min_eq_right c']
  · rw [Nat.min_eq_left (by omega), List.take_length, List.take_of_length_le (by omega)]
theorem prefix_le (ps : List ByteArray) (k : Nat) (h : k < ps.length) : (textOf (ps.take k)).length + ps[k].size ≤ (textOf ps).length := by
  have e := congrArg List.length (textOf_split ps k h)
  simp only [List.length_append] at e
  have := size_data ps[k]
  omega

def Cut (B : Nat) (w : World) (l ps : List ByteArray) (from' to : Nat) (e : Ending) (w' : World) : Prop :=
  ∃ v' c, e = .returned v' ∧ Strs w' B v' c ∧ textOf c = textOf l ++ ((textOf ps).take to).drop from' ∧ c.length ≤ l.length + ps.length ∧ Mine B w w'

set_option maxRecDepth 100000 in
set_option maxHeartbeats 2000000 in
theorem cut_any (B g n cap : Nat) (v : Value) (l ps : List ByteArray) (from' to : Nat) (w : World) (hB : B ≤ w.heap.size) (ho : Strs w B v l) (hl : l.length ≤ 549755813888) (hn : n = ps.length) (hp : ps.length ≤ 536870912)
    (hg : g < B) (hc : ∀ j (hj : j < ps.length), w.cell? ⟨g, j, none⟩ = some (.string ps[j])) (hft : from' ≤ to) (ht : (textOf ps).length ≤ 1073741824) (hto : to ≤ 1073741824) :
    Calls Try.prog 28 #[v, .slice (some ⟨g, 0, none⟩) n cap, .int .i64 from', .int .i64 to] w (Cut B w l ps from' to) := by
  subst hn
  have HO := Lib.hid ho
  have HC := Lib.hid hc
  clear ho hc
  go_enter Try.func28, Try.ntmps28
  go_wp2
  go_loopw [0, 9, 15] (fun u b i wr => ∃ (k : Nat) (c : List ByteArray), i = .int .i64 k ∧ b = .int .i64 ((textOf (ps.take k)).length : Nat) ∧ CutFar ps l from' to k c ∧ Strs wr B u c ∧ Mine B w wr)
    (fun _ _ i _ => ps.length - (intOf i).toNat)
  case atStart => exact ⟨0, l, rfl, rfl, CutFar.zero ps l from' to, HO.out, Mine.refl _ _⟩
  case round =>
    obtain ⟨k, c, rfl, rfl, hF, hown, hb⟩ := hrel
    have hk := hF.le
    have hfew := hF.few
    have hsz := hb.below.size
    have HF := Lib.hid hF
    have HS := Lib.hid hown
    have HB := Lib.hid hb
    clear hF hown hb HO
    obtain ⟨b, hbb⟩ : ∃ b, (textOf (ps.take k)).length = b := ⟨_, rfl⟩
    rw [hbb]
    by_cases hlt : k < ps.length
    · have hcell : wr.cell? ⟨g, k, none⟩ = some (.string ps[k]) := (HB.out.below.cell (p := ⟨g, k, none⟩) hg).trans (HC.out k hlt)
      have hpl := prefix_le ps k hlt
      rw [hbb] at hpl
      obtain ⟨p, hpp⟩ : ∃ p, ps[k] = p := ⟨_, rfl⟩
      rw [hpp] at hcell hpl
      have HP := Lib.hid hpp
      have HBB := Lib.hid hbb
      clear hpp hbb
      by_cases h2 : b < to
      · by_cases h3 : from' < b + p.size
        · go_wp2_with fail
          obtain ⟨s', hs'⟩ : ∃ s', p.extract (max ((from' : Int) - (b : Int)) 0).toNat (min ((to : Int) - (b : Int)) (p.size : Int)).toNat = s' := ⟨_, rfl⟩
          rw [hs']
          have hf : CutFar ps l from' to (k + 1) (addL c s') := by
            refine HF.out.take hlt (by rw [HBB.out]; exact h2) s' ?_
            rw [HBB.out, HP.out, ← hs']
            congr 1 <;> omega
          have HF2 := Lib.hid hf
          clear hf hs' HF
          refine (add_any B _ c s' _ (by omega) HS.out (by omega)).mono ?_
          rintro e w1 ⟨v1, rfl, hs1, hb1⟩
          have HS1 := Lib.hid hs1
          have HB1 := Lib.hid (HB.out.trans hb1)
          clear hs1 hb1 HS HB
          go_wp2_with fail
          go_roundw
          case rel => exact ⟨k + 1, addL c s', by go_num, by rw [textOf_take_succ ps k hlt, List.length_append, size_data, HBB.out, HP.out]; rfl, HF2.out, HS1.out, HB1.out⟩
          case measure => simp [intOf]; omega
        · go_wp2_with fail
          go_roundw
          case rel => exact ⟨k + 1, c, by go_num, by rw [textOf_take_succ ps k hlt, List.length_append, size_data, HBB.out, HP.out]; rfl, HF.out.skip hlt (by rw [HBB.out, HP.out]; exact h3), HS.out, HB.out⟩
          case measure => simp [intOf]; omega
      · go_wp2_with fail
        go_ret
        exact ⟨_, c, rfl, HS.out, HF.out.stop (by rw [HBB.out]; exact h2), by omega, HB.out⟩
    · go_wp2_with fail
      go_ret
      exact ⟨_, c, rfl, HS.out, HF.out.last hlt, by omega, HB.out⟩

set_option maxRecDepth 100000 in
set_option maxHeartbeats 1000000 in
/-- The same of no piece. -/
theorem cut_none (B cap : Nat) (oa : Option Addr) (v : Value) (l : List ByteArray) (from' to : Nat) (w : World) (ho : Strs w B v l) :
    Calls Try.prog 28 #[v, .slice oa 0 cap, .int .i64 from', .int .i64 to] w (Cut B w l [] from' to) := by
  have HO := Lib.hid ho
  clear ho
  go_enter Try.func28, Try.ntmps28
  go_wp2
  go_rounds 1
  go_ret
  exact ⟨_, l, rfl, HO.out, by simp [textOf], by simp, Mine.refl _ _⟩

/-- Both: the pieces are such a row. -/
theorem cut_row (B : Nat) (v pv : Value) (l ps : List ByteArray) (from' to : Nat) (w : World) (hB : B ≤ w.heap.size) (ho : Strs w B v l) (hl : l.length ≤ 549755813888) (hps : Strs w 0 pv ps) (hlt : ∀ k, pv.ownBlock = some k → k < B) (hp : ps.length ≤ 536870912)
    (hft : from' ≤ to) (ht : (textOf ps).length ≤ 1073741824) (hto : to ≤ 1073741824) :
    Calls Try.prog 28 #[v, pv, .int .i64 from', .int .i64 to] w (Cut B w l ps from' to) := by
  rcases hps.shape with ⟨rfl, rfl⟩ | ⟨g, cap, rfl, _, _, _, hc⟩
  · exact cut_none B 0 none v l from' to w ho
  · exact cut_any B g ps.length cap v l ps from' to w hB ho hl rfl hp (hlt g rfl) hc hft ht hto
end Go.Proofs.Yteocdcknfhlfgaa.buf
