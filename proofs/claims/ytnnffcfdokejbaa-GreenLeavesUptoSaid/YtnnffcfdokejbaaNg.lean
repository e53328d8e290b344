/-
  Layer 8: the reference's Leaves.
-/
import Derived.Test.YtnnffcfdokejbaaNf
namespace Go.Proofs.Ytnnffcfdokejbaa.rd
open Go.RowKit

mutual
/-- The leaves of a tree, as tokens. -/
def leavesT : Tree → List Tk
  | .mk k i j l => if leafK k then [⟨k, i, j⟩] else leavesTs l
def leavesTs : List Tree → List Tk
  | [] => []
  | t :: l => leavesT t ++ leavesTs l
end
theorem leavesTs_append : ∀ (l m : List Tree), leavesTs (l ++ m) = leavesTs l ++ leavesTs m
  | [], m => by rw [leavesTs]; rfl
  | t :: l, m => by
    show leavesTs (t :: (l ++ m)) = _
    rw [leavesTs, leavesTs, leavesTs_append l m, List.append_assoc]
theorem leavesTs_snoc {l : List Tree} {q : Nat} (h : q < l.length) : leavesTs (l.take (q + 1)) = leavesTs (l.take q) ++ leavesT l[q] := by
  rw [List.take_add_one, List.getElem?_eq_getElem h, leavesTs_append]
  show _ ++ leavesTs [l[q]] = _
  rw [leavesTs, leavesTs, List.append_nil]
theorem leavesTs_few {l : List Tree} {q : Nat} (h : q < l.length) : (leavesTs (l.take q)).length + (leavesT l[q]).length ≤ (leavesTs l).length := by
  have e : leavesTs l = leavesTs (l.take (q + 1)) ++ leavesTs (l.drop (q + 1)) := by rw [← leavesTs_append, List.take_append_drop]
  rw [e, leavesTs_snoc h, List.length_append, List.length_append]
  omega
theorem Mine.lit {α : Type} {F : Kd α} (w : World) (T : List α) {B : Nat} (hb : B ≤ w.heap.size) (hm : T.length ≤ maxLen) : Mine F (w.alloc (.cells (flat F T).toArray F.e)) B (.slice (some ⟨w.heap.size, 0, none⟩) T.length T.length) T := by
  have := World.ownsRow_lit (base := B) (e := F.e) (size := F.k) w (flat F T).toArray T.length hb hm (by rw [List.size_toArray, flat_length])
  simpa [Mine] using this
/-- What Leaves is held to. -/
def LeavesC (f : Nat) (t : Tree) : Prop := ∀ (w : World) (n : Rn), Hid (TieB w t n) → (leavesT t).length ≤ 1099511627776 → Calls Try.prog f #[n.v] w fun e w' => ∃ v, e = .returned v ∧ Below w.heap.size w w' ∧ Mine tk w' w.heap.size v (leavesT t)
set_option maxRecDepth 100000 in
set_option maxHeartbeats 4000000 in
theorem leaves_node (k i j : Int) (l : List Tree) (ih : ∀ t ∈ l, LeavesC 33 t) : LeavesC 33 (.mk k i j l) := by
  intro w n hT hfew
  obtain ⟨o, c, g, off, R, rfl, hc, hl, hlR, ho, HC, HT⟩ := TieB.out hT
  obtain ⟨len, hlen⟩ : ∃ len, l.length = len := ⟨_, rfl⟩
  have HLN := Lib.hid (And.intro hlen hlR)
  have HIH := Lib.hid ih
  have HO := Lib.hid ho
  have hb1 : Below w.heap.size w (w.alloc (.cells #[.int .i64 k, .int .i64 i, .int .i64 j, .slice o l.length c] 24)) := (Below.refl _ _).alloc (Nat.le_refl _) _
  have hx := heap_alloc_last w (.cells #[.int .i64 k, .int .i64 i, .int .i64 j, .slice o l.length c] 24)
  have hz := World.size_alloc w (.cells #[.int .i64 k, .int .i64 i, .int .i64 j, .slice o l.length c] 24)
  obtain ⟨lk, hlk⟩ : ∃ b, leafK k = b := ⟨_, rfl⟩
  have HLF : Hid (∀ w, Calls Try.prog 44 #[.int .i64 k] w fun e w' => e = .returned (.bool lk) ∧ w = w') := Lib.hid (fun w => by rw [← hlk]; exact leaf_any k w)
  show Calls Try.prog 33 #[.agg #[.int .i64 k, .int .i64 i, .int .i64 j, .slice o l.length c]] w _
  rw [hlen] at hb1 hx hl hz ⊢
  rw [leavesT, hlk] at hfew ⊢
  obtain ⟨W1, hW1⟩ : ∃ W1, w.alloc (.cells #[.int .i64 k, .int .i64 i, .int .i64 j, .slice o len c] 24) = W1 := ⟨_, rfl⟩
  have HW1 := Lib.hid hW1
  have HB1 := Lib.hid hb1
  rw [hW1] at hx hz
  obtain ⟨X, hX⟩ : ∃ X, w.heap.size = X := ⟨_, rfl⟩
  have HX := Lib.hid hX
  rw [hX] at hx hz
  have HA := Lib.hid hx
  have HZ1 := Lib.hid hz
  clear hT hlen hlR ho hc ih hlk hX hb1 hx hW1 hz
  cases lk with
  | true =>
    clear hfew
    go_enter Try.func33, Try.ntmps33
    go_wp2_with (go_at_call 44; refine (HLF.out _).mono ?_; rintro e w' ⟨rfl, rfl⟩)
    go_ret
    refine ⟨_, rfl, HB1.out.alloc HB1.out.size _, ?_⟩
    have := Mine.lit (F := tk) (w.alloc (.cells #[.int .i64 k, .int .i64 i, .int .i64 j, .slice o len c] 24)) [⟨k, i, j⟩] HB1.out.size (by show 1 ≤ maxLen; decide)
    rw [World.size_alloc] at this
    exact this
  | false =>
    simp only [Bool.false_eq_true, if_false] at hfew ⊢
    have HFEW := Lib.hid hfew
    clear hfew
    go_enter Try.func33, Try.ntmps33
    go_wp2_with (go_at_call 44; refine (HLF.out _).mono ?_; rintro e w' ⟨rfl, rfl⟩)
    rw [HW1.out, HX.out]
    go_loopw [20, 3] (fun p a wr => ∃ (q : Nat) (v : Value), q ≤ len ∧ p = .int .i64 (q : Int) ∧ v = a ∧ Below w.heap.size w wr ∧ X + 1 ≤ wr.heap.size ∧ Mine tk wr (X + 1) v (leavesTs (l.take q))) (fun p _ _ => len - (intOf p).toNat)
    case atStart => exact ⟨0, _, Nat.zero_le _, rfl, rfl, by rw [← HW1.out]; exact HB1.out, by rw [HZ1.out]; exact Nat.le_refl _, Mine.nil _ _⟩
    case round =>
      obtain ⟨q, vL3, hql, rfl, rfl, hb, hzz, hm⟩ := hrel
      by_cases hlt : q < len
      · have hil : q < l.length := by rw [HLN.out.1]; exact hlt
        have hiR : q < R.length := by rw [HLN.out.2]; exact hil
        obtain ⟨ho, hg⟩ := HO.out (by intro e; rw [e] at hil; simp at hil)
        subst ho
        obtain ⟨a0, a1, a2, a3⟩ := cells_nd HC.out q hiR
        have HFW := Lib.hid (leavesTs_few hil)
        have HSN := Lib.hid (leavesTs_snoc hil)
        have HCALL : Hid (∀ u, Below wr.heap.size wr u → Calls Try.prog 33 #[R[q].v] u fun e w' => ∃ v, e = .returned v ∧ Below u.heap.size u w' ∧ Mine tk w' u.heap.size v (leavesT l[q])) := Lib.hid (fun u hu => HIH.out l[q] (List.getElem_mem hil) u R[q] (HT.out u (hb.trans (hu.mono hb.size)) q hil hiR) (by have := HFW.out; have := HFEW.out; omega))
        have HB := Lib.hid hb
        have HM := Lib.hid hm
        have HGO : Hid (∀ w9 v, Below wr.heap.size wr w9 → Mine tk w9 0 v (leavesT l[q]) → ∃ v' w', (∀ ty, (Builtin.append_ #[63, 63] ty #[vL3, v]).run Try.prog w9 = .ok v' w') ∧ Below w.heap.size w w' ∧ X + 1 ≤ w'.heap.size ∧ Mine tk w' (X + 1) v' (leavesTs (l.take (q + 1)))) := Lib.hid (fun w9 v hw9 hv => by
          have h1 := HFW.out
          have h2 := HFEW.out
          have hx := HX.out
          obtain ⟨v', w', e1, e2, e3⟩ := run_append_row (F := tk) (HM.out.below hw9) hv.row (by have := hw9.size; omega) (by simp [maxLen]; omega) (by show (_ + _) * 24 ≤ _; omega)
          refine ⟨v', w', e1, Mine.more (HM.out.below hw9) (HB.out.trans (hw9.mono HB.out.size)) (by omega) (by have := (HB.out.trans (hw9.mono HB.out.size)).size; omega) e3, by have := e3.size; have := hw9.size; omega, by rw [HSN.out]; exact e2⟩)
        obtain ⟨⟨nk, ni, nj, no, nn, nc⟩, hn1⟩ : ∃ n, R[q] = n := ⟨_, rfl⟩
        rw [hn1] at a0 a1 a2 a3 HCALL
        rw [show (Rn.mk nk ni nj no nn nc).v = .agg #[.int .i64 nk, .int .i64 ni, .int .i64 nj, .slice no nn nc] from rfl] at HCALL
        have c0 := (hb.cell (p := ⟨g, off + q * 4, none⟩) hg).trans a0
        have c1 := (hb.cell (p := ⟨g, off + q * 4 + 1, none⟩) hg).trans a1
        have c2 := (hb.cell (p := ⟨g, off + q * 4 + 2, none⟩) hg).trans a2
        have c3 := (hb.cell (p := ⟨g, off + q * 4 + 3, none⟩) hg).trans a3
        have hgw : g < wr.heap.size := Nat.lt_of_lt_of_le hg hb.size
        have hq0 : (0 : Int) ≤ (q : Int) := by omega
        have hww : (q : Int) + 1 ≤ 2932031007318 := by omega
        have hd : decide ((q : Int) < (len : Int)) = true := decide_eq_true (by omega)
        have hd' : decide (q < len) = true := decide_eq_true hlt
        have HZ : Hid (Below wr.heap.size wr (wr.alloc (.cells #[.int .i64 nk, .int .i64 ni, .int .i64 nj, .slice no nn nc] 24))) := Lib.hid ((Below.refl _ _).alloc (Nat.le_refl _) _)
        simp only [] at c0 c1 c2 c3
        clear a0 a1 a2 a3 hn1 hb hm hzz
        go_wp2_with (first
          | (go_at_call 33; refine (HCALL.out _ HZ.out).mono ?_; rintro e w9 ⟨v, rfl, hb9, hm9⟩; obtain ⟨v', w', hrun, hB', hs', hM'⟩ := HGO.out w9 v (HZ.out.trans (hb9.mono HZ.out.size)) (hm9.mono (Nat.zero_le _)); have HRUN := Lib.hid hrun; have HB' := Lib.hid (And.intro hB' (And.intro hs' hM')); clear hb9 hm9 hrun hB' hs' hM')
          | (at_builtin; refine Lib.wpList_append_run _ rfl _ _ _ _ rfl _ _ rfl rfl _ _ (HRUN.out _) ?_))
        go_roundw
        case rel => exact ⟨q + 1, _, by omega, by go_num, rfl, HB'.out.1, HB'.out.2.1, HB'.out.2.2⟩
        case measure => simp [intOf]; omega
      · obtain rfl : q = len := by omega
        have hd : decide ((q : Int) < (q : Int)) = false := decide_eq_false (by omega)
        rw [List.take_of_length_le (by rw [HLN.out.1]; exact Nat.le_refl _)] at hm
        have HF := Lib.hid (And.intro hb (hm.mono (show w.heap.size ≤ X + 1 by rw [HX.out]; omega)))
        clear hb hm hzz
        go_wp2_with fail
        go_ret
        exact ⟨_, rfl, HF.out.1, HF.out.2⟩
mutual
theorem leaves_t : ∀ t : Tree, LeavesC 33 t
  | .mk k i j l => leaves_node k i j l (leaves_l l)
theorem leaves_l : ∀ (l : List Tree), ∀ t ∈ l, LeavesC 33 t
  | [], t, h => by cases h
  | u :: l, t, h => by
    rcases List.mem_cons.1 h with h | h
    · rw [h]; exact leaves_t u
    · exact leaves_l l t h
end
end Go.Proofs.Ytnnffcfdokejbaa.rd
