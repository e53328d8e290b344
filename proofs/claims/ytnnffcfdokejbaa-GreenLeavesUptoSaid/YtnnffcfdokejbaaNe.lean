/-
  Layer 8: the reference's Shift, Copy.
-/
import Derived.Test.YtnnffcfdokejbaaNd
namespace Go.Proofs.Ytnnffcfdokejbaa.rd
open Go.RowKit

theorem step_append_ex {P : Program} {w : World} {ops : Array Oper} {o : Oper} {a : Act} {K : Act → World → Prop} {Q : Exit → Act → World → Prop} {E : Prop} (hgd : o.guard = none) (s x : Operand) (t tn : TypeId)
    (ho : o.op = .call { callee := .builtin .append, args := #[s, x], argTypes := #[t, tn] }) (vs vx : Value) (hs : a.eval s = vs) (hx : a.eval x = vx)
    {R : Value → World → Prop} (hr : ∃ v' w', (∀ ty, (Builtin.append_ #[t, tn] ty #[vs, vx]).run P w = .ok v' w') ∧ R v' w') (h : ∀ v' w', R v' w' → K (a.put o.dst v') w') :
    if Region.wanted o (yielded ops a.tmps) = true then Oper.wp P o a w K Q else E := by
  have hw : Region.wanted o (yielded ops a.tmps) = true := by simp [Region.wanted, hgd]
  rw [if_pos hw]
  obtain ⟨v', w', h1, h2⟩ := hr
  exact Lib.wp_append_run w s x t tn ho vs vx hs hx v' w' (h1 _) (h v' w' h2)
theorem step_append_wp {P : Program} {w : World} {o : Oper} {a : Act} {K : Act → World → Prop} {Q : Exit → Act → World → Prop} (s x : Operand) (t tn : TypeId)
    (ho : o.op = .call { callee := .builtin .append, args := #[s, x], argTypes := #[t, tn] }) (vs vx : Value) (hs : a.eval s = vs) (hx : a.eval x = vx)
    {R : Value → World → Prop} (hr : ∃ v' w', (∀ ty, (Builtin.append_ #[t, tn] ty #[vs, vx]).run P w = .ok v' w') ∧ R v' w') (h : ∀ v' w', R v' w' → K (a.put o.dst v') w') : Oper.wp P o a w K Q := by
  obtain ⟨v', w', h1, h2⟩ := hr
  exact Lib.wp_append_run w s x t tn ho vs vx hs hx v' w' (h1 _) (h v' w' h2)
theorem three_node_boxes (w : World) (k i j k2 i2 j2 : Int) (o : Option Addr) (n c : Nat) : ∃ W2, ((w.alloc (.cells #[.int .i64 k, .int .i64 i, .int .i64 j, .slice o n c] 24)).alloc (.cells #[.int .i64 0, .int .i64 0, .int .i64 0, .slice none 0 0] 24)).alloc (.cells #[.int .i64 k2, .int .i64 i2, .int .i64 j2, .slice none 0 0] 24) = W2 ∧ W2.heap[w.heap.size]? = some (.cells #[.int .i64 k, .int .i64 i, .int .i64 j, .slice o n c] 24 (0, 0)) ∧ W2.heap[w.heap.size + 1]? = some (.cells #[.int .i64 0, .int .i64 0, .int .i64 0, .slice none 0 0] 24 (0, 0)) ∧ W2.heap[w.heap.size + 2]? = some (.cells #[.int .i64 k2, .int .i64 i2, .int .i64 j2, .slice none 0 0] 24 (0, 0)) ∧ Below w.heap.size w W2 := by
  obtain ⟨W1, h1, h2, h3, h4⟩ := two_node_boxes w k i j 0 0 0 o none n c 0 0
  rw [h1]
  have z1 : W1.heap.size = w.heap.size + 2 := by rw [← h1, World.size_alloc, World.size_alloc]
  have a2 := heap_alloc_last W1 (.cells #[.int .i64 k2, .int .i64 i2, .int .i64 j2, .slice none 0 0] 24)
  rw [z1] at a2
  exact ⟨_, rfl, (heap_alloc_old W1 _ (by omega)).trans h2, (heap_alloc_old W1 _ (by omega)).trans h3, a2, h4.alloc h4.size _⟩
/-- What Shift is held to. -/
def ShiftC (f : Nat) (t : Tree) : Prop := ∀ (w : World) (n : Rn) (d : Int), Hid (TieB w t n) → Calls Try.prog f #[n.v, .int .i64 d] w fun e w' => ∃ n', e = .returned n'.v ∧ Below w.heap.size w w' ∧ Fresh w.heap.size w' (shiftT d t) n'
set_option maxRecDepth 100000 in
set_option maxHeartbeats 4000000 in
theorem shift_node (k i j : Int) (l : List Tree) (ih : ∀ t ∈ l, ShiftC 31 t) : ShiftC 31 (.mk k i j l) := by
  intro w n d hT
  obtain ⟨o, c, g, off, R, rfl, hc, hl, hlR, ho, HC, HT⟩ := TieB.out hT
  obtain ⟨W3, hW3, hx0, hx1, hx2, hb3⟩ := three_node_boxes w k i j k (wrap64 (i + d)) (wrap64 (j + d)) o l.length c
  have hst : Sh w W3 w.heap.size d k i j l (.slice o l.length c) 0 [] (fun _ => False) (.slice none 0 0) := ⟨rfl, hb3, hx0, hx1, hx2, Mine.nil _ _, rfl, OTies.nil, fun h hh => hh.elim⟩
  obtain ⟨X, hX⟩ : ∃ X, w.heap.size = X := ⟨_, rfl⟩
  have HX := Lib.hid hX
  rw [hX] at hst hx0 hx1 hx2
  obtain ⟨len, hlen⟩ : ∃ len, l.length = len := ⟨_, rfl⟩
  have HLN := Lib.hid (And.intro hlen hlR)
  have HIH := Lib.hid ih
  have HO := Lib.hid ho
  rw [hlen] at hst hl hW3
  have HST := Lib.hid hst
  have HW3 := Lib.hid hW3
  have hXz := (Array.getElem?_eq_some_iff.1 hst.x0).1
  have hXz1 := (Array.getElem?_eq_some_iff.1 hst.x1).1
  have hXz2 := (Array.getElem?_eq_some_iff.1 hst.x2).1
  show Calls Try.prog 31 #[.agg #[.int .i64 k, .int .i64 i, .int .i64 j, .slice o l.length c], .int .i64 d] w _
  rw [hlen]
  clear hT hlen hlR ho hc ih hst hW3 hx0 hx1 hx2 hb3 hX
  go_enter Try.func31, Try.ntmps31
  go_wp2_with fail
  rw [HW3.out, HX.out]
  go_loopw [22] (fun p wr => ∃ (q : Nat) (R' : List Rn) (E : Nat → Prop) (vo : Value), q ≤ len ∧ p = .int .i64 (q : Int) ∧ Sh w wr X d k i j l (.slice o len c) q R' E vo) (fun p _ => len - (intOf p).toNat)
  case atStart => exact ⟨0, [], _, _, Nat.zero_le _, rfl, HST.out⟩
  case round =>
    obtain ⟨q, R', E, vo, hql, rfl, hs⟩ := hrel
    have q0 := (Array.getElem?_eq_some_iff.1 hs.x0).1
    have q1 := (Array.getElem?_eq_some_iff.1 hs.x1).1
    have q2 := (Array.getElem?_eq_some_iff.1 hs.x2).1
    by_cases hlt : q < len
    · have hil : q < l.length := by rw [HLN.out.1]; exact hlt
      have hiR : q < R.length := by rw [HLN.out.2]; exact hil
      obtain ⟨ho, hg⟩ := HO.out (by intro e; rw [e] at hil; simp at hil)
      subst ho
      have hbw := hs.below
      obtain ⟨a0, a1, a2, a3⟩ := cells_nd HC.out q hiR
      have HPUT := Lib.hid (fun w9 n h1 h2 => hs.put (w9 := w9) (n := n) hil (by rw [HLN.out.1]; exact hl) h1 h2)
      have HCALL : Hid (∀ u, Below wr.heap.size wr u → Calls Try.prog 31 #[R[q].v, .int .i64 d] u fun e w' => ∃ n', e = .returned n'.v ∧ Below u.heap.size u w' ∧ Fresh wr.heap.size w' (shiftT d l[q]) n') := Lib.hid (fun u hu => (HIH.out l[q] (List.getElem_mem hil) u R[q] d (HT.out u (hbw.trans (hu.mono hbw.size)) q hil hiR)).mono fun e w' ⟨n', h1, h2, h3⟩ => ⟨n', h1, h2, h3.mono hu.size⟩)
      have HX2 : Hid (∀ u, Below wr.heap.size wr u → u.cell? ⟨X + 1 + 1, 3, none⟩ = some vo ∧ X + 1 + 1 < u.heap.size) := Lib.hid (fun u hu => by
        obtain ⟨⟨_, _, _, b3⟩, _⟩ := four_cells0 hs.x2
        exact ⟨(hu.cell (p := ⟨X + 2, 3, none⟩) q2).trans b3, Nat.lt_of_lt_of_le q2 hu.size⟩)
      obtain ⟨⟨nk, ni, nj, no, nn, nc⟩, hn1⟩ : ∃ n, R[q] = n := ⟨_, rfl⟩
      rw [hn1] at a0 a1 a2 a3 HCALL
      rw [show (Rn.mk nk ni nj no nn nc).v = .agg #[.int .i64 nk, .int .i64 ni, .int .i64 nj, .slice no nn nc] from rfl] at HCALL
      have c0 := (hbw.cell (p := ⟨g, off + q * 4, none⟩) hg).trans a0
      have c1 := (hbw.cell (p := ⟨g, off + q * 4 + 1, none⟩) hg).trans a1
      have c2 := (hbw.cell (p := ⟨g, off + q * 4 + 2, none⟩) hg).trans a2
      have c3 := (hbw.cell (p := ⟨g, off + q * 4 + 3, none⟩) hg).trans a3
      have hgw : g < wr.heap.size := Nat.lt_of_lt_of_le hg hbw.size
      have hq0 : (0 : Int) ≤ (q : Int) := by omega
      have hww : (q : Int) + 1 ≤ 2932031007318 := by omega
      have hd : decide ((q : Int) < (len : Int)) = true := decide_eq_true (by omega)
      have hd' : decide (q < len) = true := decide_eq_true hlt
      simp only [] at c0 c1 c2 c3
      clear a0 a1 a2 a3 hn1 hbw hs
      go_wp2_with fail
      have hZ : Below wr.heap.size wr (wr.alloc (.cells #[.int .i64 nk, .int .i64 ni, .int .i64 nj, .slice no nn nc] 24)) := (Below.refl _ _).alloc (Nat.le_refl _) _
      obtain ⟨y3, hz3⟩ := HX2.out _ hZ
      have y3' := (HX2.out _ hZ.drew).1
      go_region_law (first
        | (go_simp; go_at_call 31; refine (HCALL.out _ ?_).mono ?_; (first | exact hZ.drew | exact hZ); rintro e w9 ⟨⟨mk, mi, mj, mo, mn, mc⟩, rfl, hb9, hf9⟩; have hbb : Below wr.heap.size wr w9 := (by first | exact hZ.drew.trans (hb9.mono hZ.drew.size) | exact hZ.trans (hb9.mono hZ.size)); have HP := Lib.hid (HPUT.out w9 _ hbb hf9); obtain ⟨y4, hz4⟩ := HX2.out _ hbb; clear hb9 hf9 hbb; dsimp only [Rn.v])
        | ((first | refine step_append_ex rfl _ _ _ _ rfl _ _ rfl rfl (HP.out _ ((Below.refl _ _).alloc (Nat.le_refl _) _) _ (heap_alloc_last _ _)) ?_ | refine step_append_wp _ _ _ _ rfl _ _ rfl rfl (HP.out _ ((Below.refl _ _).alloc (Nat.le_refl _) _) _ (heap_alloc_last _ _)) ?_); rintro v' w' ⟨⟨g', cap', rfl⟩, c4, f4, hbw4, E', hs'⟩; have HS' := Lib.hid hs'; clear hs'))
      all_goals (try go_wp2_with fail)
      all_goals (go_roundw; (case rel => exact ⟨q + 1, _, _, _, by omega, by go_num, HS'.out⟩); (case measure => simp [intOf]; omega))
    · obtain rfl : q = len := by omega
      have hd : decide ((q : Int) < (q : Int)) = false := decide_eq_false (by omega)
      obtain ⟨gv, ov, cv, rfl, hov, hgv⟩ := Mine.shape hs.row
      rw [hs.len] at hs
      obtain ⟨⟨n0, n1, n2, n3⟩, _⟩ := four_cells0 hs.x2
      obtain ⟨⟨m0, m1, m2, m3⟩, fm⟩ := four_cells0 hs.x1
      have f0 := fm 0
      have f1 := fm 1
      have f2 := fm 2
      have f3 := fm 3
      have n0' : wr.cell? ⟨X + 1 + 1, 0, none⟩ = some (.int .i64 k) := n0
      have n1' : wr.cell? ⟨X + 1 + 1, 1, none⟩ = some (.int .i64 (wrap64 (i + d))) := n1
      have n2' : wr.cell? ⟨X + 1 + 1, 2, none⟩ = some (.int .i64 (wrap64 (j + d))) := n2
      have n3' : wr.cell? ⟨X + 1 + 1, 3, none⟩ = some (.slice ov q cv) := n3
      have q2' : X + 1 + 1 < wr.heap.size := q2
      have hbox : ((((wr.setCell ⟨X + 1, 0, none⟩ (.int .i64 k)).setCell ⟨X + 1, 1, none⟩ (.int .i64 (wrap64 (i + d)))).setCell ⟨X + 1, 2, none⟩ (.int .i64 (wrap64 (j + d)))).setCell ⟨X + 1, 3, none⟩ (.slice ov q cv)).heap[X + 1]? = some (.cells #[.int .i64 k, .int .i64 (wrap64 (i + d)), .int .i64 (wrap64 (j + d)), .slice ov q cv] 24 (0, 0)) := heap_setCell_same _ _ 3 _ _ _ (heap_setCell_same _ _ 2 _ _ _ (heap_setCell_same _ _ 1 _ _ _ (heap_setCell_same _ _ 0 _ _ _ hs.x1)))
      have hsm : ∀ k', k' ≠ X + 1 → ((((wr.setCell ⟨X + 1, 0, none⟩ (.int .i64 k)).setCell ⟨X + 1, 1, none⟩ (.int .i64 (wrap64 (i + d)))).setCell ⟨X + 1, 2, none⟩ (.int .i64 (wrap64 (j + d)))).setCell ⟨X + 1, 3, none⟩ (.slice ov q cv)).heap[k']? = wr.heap[k']? := fun k' hk => by
        rw [set_one _ _ _ _ _ hk, set_one _ _ _ _ _ hk, set_one _ _ _ _ _ hk, set_one _ _ _ _ _ hk]
      have hz : ((((wr.setCell ⟨X + 1, 0, none⟩ (.int .i64 k)).setCell ⟨X + 1, 1, none⟩ (.int .i64 (wrap64 (i + d)))).setCell ⟨X + 1, 2, none⟩ (.int .i64 (wrap64 (j + d)))).setCell ⟨X + 1, 3, none⟩ (.slice ov q cv)).heap.size = wr.heap.size := by rw [size_set, size_set, size_set, size_set]
      have HH := Lib.hid (And.intro hs (And.intro hbox (And.intro hsm hz)))
      clear hs hbox hsm hz fm n0 n1 n2 n3 hov hgv
      go_wp2_with fail
      obtain ⟨hs, hbox, hsm, hz⟩ := HH.out
      have hbase := hs.base
      refine bodyPost_ret (v := .agg #[.int .i64 k, .int .i64 (wrap64 (i + d)), .int .i64 (wrap64 (j + d)), .slice ov q cv]) (results_cell_row rfl _ _ (X + 1) 24 _ (0, 0) _ rfl hbox Try.underlying24 rfl (by as_aux_lemma => kernel_rfl)) rfl ?_
      have hbl := hs.below
      have hown : ∀ g, (Value.slice ov q cv).ownBlock = some g → X + 3 ≤ g ∧ g < wr.heap.size := fun g hg => World.ownsRow.lt hs.row g hg
      refine ⟨⟨k, wrap64 (i + d), wrap64 (j + d), ov, q, cv⟩, rfl, ⟨hbl.os, hbl.tape, hbl.output, by rw [hz]; exact hbl.size, fun k' hk => (hsm k' (by omega)).trans (hbl.block k' hk)⟩, fun g => E g ∨ (Value.slice ov q cv).ownBlock = some g, ?_, fun g hg => ?_⟩
      · rw [shiftT, OTie]
        have hlm : (shiftTs d l).length = q := by rw [shiftTs_map, List.length_map]; exact HLN.out.1
        refine ⟨rfl, rfl, rfl, hlm.symm, by rw [hlm]; exact hl, R', E, (hs.row.mono (Nat.zero_le _)).keep (fun g hg _ => hsm g (by have := hown g hg; omega)), fun g hg => ⟨.inr hg, fun he => (hs.dead g he).2.2 hg⟩, fun g hg => .inl hg, ?_⟩
        rw [shiftTs_map]
        have ho := hs.own
        rw [List.take_of_length_le (by rw [HLN.out.1]; exact Nat.le_refl _)] at ho
        exact OTies.keep (fun g hg => hsm g (by have := (hs.dead g hg).1; omega)) (fun _ h => h) _ _ ho
      · rw [hz]
        rcases hg with hg | hg
        · have := hs.dead g hg
          omega
        · have := hown g hg
          omega
mutual
theorem shift_t : ∀ t : Tree, ShiftC 31 t
  | .mk k i j l => shift_node k i j l (shift_l l)
theorem shift_l : ∀ (l : List Tree), ∀ t ∈ l, ShiftC 31 t
  | [], t, h => by cases h
  | u :: l, t, h => by
    rcases List.mem_cons.1 h with h | h
    · rw [h]; exact shift_t u
    · exact shift_l l t h
end
end Go.Proofs.Ytnnffcfdokejbaa.rd
