/-
  The contract of findBegins: where a text's lines begin.
-/
import Derived.Test.YteocdcknfhlfgaaSet
namespace Go.Proofs.Yteocdcknfhlfgaa.buf
open Go.RowKit

theorem feeds_append (a b : List UInt8) (i : Nat) : feeds (a ++ b) i = feeds a i ++ feeds b (i + a.length) := by
  induction a generalizing i with
  | nil => rfl
  | cons c r ih =>
    simp only [List.cons_append, feeds, ih, List.length_cons]
    rw [show i + 1 + r.length = i + (r.length + 1) by omega]
    split <;> simp
theorem feeds_length (a : List UInt8) (i : Nat) : (feeds a i).length ≤ a.length := by
  induction a generalizing i with
  | nil => simp [feeds]
  | cons c r ih =>
    simp only [feeds]
    split
    · have := ih (i + 1); simp; omega
    · have := ih (i + 1); simp; omega

def intCells (l : List Nat) : List Value := l.map fun (n : Nat) => Value.int .i64 (n : Int)
def Ints (w : World) (B : Nat) (v : Value) (l : List Nat) : Prop := w.ownsRow B 3 1 v l.length (intCells l)
theorem infoI : (Try.prog.info? 3).map (fun i => (i.zero, i.size, i.bytes)) = some (some (.int .i64 0), 1, 8) := by kernel_rfl

theorem begins_piece (T P : List UInt8) (j : Nat) (hj : j < P.length) :
    0 :: feeds (T ++ P.take (j + 1)) 0 = (0 :: feeds (T ++ P.take j) 0) ++ (if P[j] = 10 then [T.length + j + 1] else []) := by
  rw [List.take_succ_eq_append_getElem hj, ← List.append_assoc, feeds_append (T ++ P.take j)]
  have : (T ++ P.take j).length = T.length + j := by rw [List.length_append, List.length_take]; omega
  rw [Nat.zero_add, this]
  by_cases c : P[j] = 10
  · rw [if_pos c]; simp [feeds, c]
  · rw [if_neg c]; simp [feeds, c]

/-- a row of the call's own, appended to -/
theorem ints_grown {w w2 : World} {o : Obj} {B : Nat} {v v' : Value} {l : List Nat} {n : Nat} (hB : B ≤ w.heap.size) (ho : Ints w B v l) (hown : w2.ownsRow B 3 1 v' (l.length + 1) (intCells l ++ [.int .i64 (n : Int)])) (hg : (w.alloc o).grownBy w2 v.ownBlock) :
    Ints w2 B v' (l ++ [n]) ∧ Below B w w2 := by
  have hlt := World.ownsRow.lt ho
  refine ⟨?_, ((Below.refl B w).alloc hB _).grown hg (by simp; omega) (fun k hk => (hlt k hk).1)⟩
  unfold Ints intCells
  rw [List.length_append, List.map_append]
  exact hown

def Found (B : Nat) (w : World) (T : List UInt8) (e : Ending) (w' : World) : Prop := ∃ v, e = .returned v ∧ Ints w' B v (begins T) ∧ Below B w w'

set_option maxRecDepth 100000 in
set_option maxHeartbeats 4000000 in
theorem find_any (g n cap : Nat) (ps : List ByteArray) (w : World) (hn : n = ps.length) (hp : ps.length ≤ 1073741824) (ht : (textOf ps).length ≤ 1073741824)
    (hg : g < w.heap.size) (hc : ∀ j (hj : j < ps.length), w.cell? ⟨g, j, none⟩ = some (.string ps[j])) :
    Calls Try.prog 45 #[.slice (some ⟨g, 0, none⟩) n cap] w (Found w.heap.size w (textOf ps)) := by
  subst hn
  obtain ⟨i0, hi, hz0, hz1, hz2⟩ := info_parts infoI
  have HC := Lib.hid hc
  clear hc
  go_enter Try.func45, Try.ntmps45
  go_wp2
  go_loopw [3, 4, 11] (fun v b i wr => ∃ (k : Nat), i = .int .i64 k ∧ k ≤ ps.length ∧ b = .int .i64 ((textOf (ps.take k)).length : Nat) ∧ Ints wr w.heap.size v (0 :: feeds (textOf (ps.take k)) 0) ∧ Below w.heap.size w wr)
    (fun _ _ i _ => ps.length - (intOf i).toNat)
  case atStart =>
    refine ⟨0, rfl, Nat.zero_le _, rfl, ⟨rfl, .inr ⟨w.heap.size, 1, _, rfl, Nat.le_refl _, heap_alloc_new w _, by simp [textOf, feeds], by unfold maxLen; omega, rfl, rfl⟩⟩, (Below.refl _ _).alloc (Nat.le_refl _) _⟩
  case round =>
    obtain ⟨k, rfl, hk, rfl, hown, hb⟩ := hrel
    have hsz := hb.size
    have HS := Lib.hid hown
    have HB := Lib.hid hb
    clear hown hb
    by_cases hlt : k < ps.length
    · have hcell : wr.cell? ⟨g, k, none⟩ = some (.string ps[k]) := (HB.out.cell (p := ⟨g, k, none⟩) hg).trans (HC.out k hlt)
      have hpl : (textOf (ps.take k)).length + ps[k].size ≤ (textOf ps).length := prefix_le ps k hlt
      have HN := Lib.hid (textOf_take_succ ps k hlt)
      obtain ⟨T, hT⟩ : ∃ T, textOf (ps.take k) = T := ⟨_, rfl⟩
      obtain ⟨p, hpp⟩ : ∃ p, ps[k] = p := ⟨_, rfl⟩
      rw [hT] at HS HN hpl ⊢
      rw [hpp] at hcell HN hpl
      clear hT hpp
      obtain ⟨wo, rfl⟩ : ∃ wo : World, wo = wr := ⟨_, rfl⟩
      go_wp2_with fail
      go_loopw [3, 17] (fun v i wr => ∃ (j : Nat), i = .int .i64 j ∧ j ≤ p.size ∧ Ints wr w.heap.size v (0 :: feeds (T ++ p.data.toList.take j) 0) ∧ Below w.heap.size w wr)
        (fun _ i _ => p.size - (intOf i).toNat)
      case atStart => exact ⟨0, rfl, Nat.zero_le _, by simpa using HS.out, HB.out⟩
      case round =>
        obtain ⟨j, rfl, hj, hown2, hb2⟩ := hrel
        have hsz2 := hb2.size
        have HS2 := Lib.hid hown2
        have HB2 := Lib.hid hb2
        clear hown2 hb2 HS HB
        by_cases hjlt : j < p.size
        · have hpd := size_data p
          have hjd : j < p.data.toList.length := by omega
          have HNX := Lib.hid (begins_piece T p.data.toList j hjd)
          obtain ⟨c, hcc⟩ : ∃ c, p[j]'hjlt = c := ⟨_, rfl⟩
          have hdc : p.data.toList[j] = c := by rw [← hcc]; rfl
          rw [hdc] at HNX
          have hfl := feeds_length (T ++ p.data.toList.take j) 0
          have hTj : (T ++ p.data.toList.take j).length ≤ 1073741824 := by rw [List.length_append, List.length_take]; omega
          have hbound : (0 :: feeds (T ++ p.data.toList.take j) 0).length ≤ 1073741825 := by rw [List.length_cons]; omega
          clear hdc hpd hjd hfl hTj
          by_cases h10 : c = 10
          · have hcz : ((c.toNat : Int) == 10) = true := by rw [h10]; rfl
            have HX := Lib.hid (show 0 :: feeds (T ++ p.data.toList.take (j + 1)) 0 = (0 :: feeds (T ++ p.data.toList.take j) 0) ++ [T.length + j + 1] by rw [HNX.out, if_pos h10])
            clear h10 HNX
            obtain ⟨L, hL⟩ : ∃ L, 0 :: feeds (T ++ p.data.toList.take j) 0 = L := ⟨_, rfl⟩
            rw [hL] at HX HS2 hbound
            clear hL
            go_wp2_with (at_builtin; refine wpList_append_own _ rfl _ _ 75 rfl w.heap.size 3 i0 (.int .i64 0) 1 8 Try.underlying75 hi hz0 hz1 hz2 rfl (by decide) _ _ _ rfl (World.ownsRow.alloc HS2.out _) ⟨wr.heap.size, 0, none⟩ 1 1 [.int .i64 ((T.length : Int) + (j : Int) + 1)] rfl rfl ?c1 ?c2 ?c3 ?c4 ?c5 ?_)
            case c1 => exact one_new wr _ _
            case c2 => intro u hu; simp only [List.mem_cons, List.not_mem_nil, or_false] at hu; subst hu; rfl
            case c3 => unfold maxLen; omega
            case c4 => omega
            case c5 => simp; omega
            intro v' w2 hown3 hg3 _
            have HR := Lib.hid (ints_grown (n := T.length + j + 1) hsz2 HS2.out hown3 hg3)
            clear hown3 hg3 HS2
            go_wp2_with fail
            go_roundw
            case rel => exact ⟨j + 1, by go_num, by omega, by rw [HX.out]; exact HR.out.1, HB2.out.trans HR.out.2⟩
            case measure => simp [intOf]; omega
          · have hcz : ((c.toNat : Int) == 10) = false := beq_eq_false_iff_ne.2 (fun e => h10 (UInt8.toNat_inj.1 (by rw [show c.toNat = 10 from (by omega)]; rfl)))
            have HX := Lib.hid (show 0 :: feeds (T ++ p.data.toList.take (j + 1)) 0 = 0 :: feeds (T ++ p.data.toList.take j) 0 by rw [HNX.out, if_neg h10, List.append_nil])
            clear h10 HNX
            go_wp2_with fail
            go_roundw
            case rel => exact ⟨j + 1, by go_num, by omega, by rw [HX.out]; exact HS2.out, HB2.out⟩
            case measure => simp [intOf]; omega
        · have hpd := size_data p
          have HX := Lib.hid (show T ++ p.data.toList.take j = textOf (ps.take (k + 1)) by rw [HN.out, List.take_of_length_le (by omega)])
          have HL := Lib.hid (show (textOf (ps.take (k + 1))).length = T.length + p.size by rw [HN.out, List.length_append, hpd])
          clear hpd
          go_wp2_with fail
          go_roundw
          case rel => exact ⟨k + 1, by go_num, by omega, by rw [HL.out]; rfl, by rw [← HX.out]; exact HS2.out, HB2.out⟩
          case measure => simp [intOf]; omega
    · go_wp2_with fail
      go_ret
      refine ⟨_, rfl, ?_, HB.out⟩
      have := HS.out
      rw [List.take_of_length_le (by omega)] at this
      exact this

set_option maxRecDepth 100000 in
set_option maxHeartbeats 1000000 in
theorem find_none (cap : Nat) (oa : Option Addr) (w : World) : Calls Try.prog 45 #[.slice oa 0 cap] w (Found w.heap.size w []) := by
  go_enter Try.func45, Try.ntmps45
  go_wp2
  go_rounds 1
  go_ret
  exact ⟨_, rfl, ⟨rfl, .inr ⟨w.heap.size, 1, _, rfl, Nat.le_refl _, heap_alloc_new w _, by simp [begins, feeds], by unfold maxLen; omega, rfl, rfl⟩⟩, (Below.refl _ _).alloc (Nat.le_refl _) _⟩

theorem find_row (pv : Value) (ps : List ByteArray) (w : World) (hps : Strs w 0 pv ps) (hp : ps.length ≤ 1073741824) (ht : (textOf ps).length ≤ 1073741824) :
    Calls Try.prog 45 #[pv] w (Found w.heap.size w (textOf ps)) := by
  rcases hps.shape with ⟨rfl, rfl⟩ | ⟨g, cap, rfl, _, hg, _, hc⟩
  · exact find_none 0 none w
  · exact find_any g ps.length cap ps w rfl hp ht hg hc
end Go.Proofs.Yteocdcknfhlfgaa.buf
