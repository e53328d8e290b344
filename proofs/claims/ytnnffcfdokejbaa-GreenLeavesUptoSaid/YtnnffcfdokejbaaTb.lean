/-
  Layer 8: the program's Shift.
-/
import Derived.Test.YtnnffcfdokejbaaNe
import Derived.Laws.MakeOwn
import Derived.Laws.OwnMore
namespace Go.Proofs.Ytnnffcfdokejbaa.rd
open Go.RowKit

/-- make of a row of any element. -/
theorem run_make_kd {α : Type} {F : Kd α} (z0 : α) (hz : F.z.cells = (F.c z0).toArray) (w : World) (n : Nat) (hby : n * F.bytes ≤ 281474976710656) (hn : n ≤ maxLen) :
    (Instr.makeSlice F.t (.int .i64 n) (.int .i64 n)).run Try.prog w = .ok (.slice (some ⟨w.heap.size, 0, none⟩) n n) (w.alloc (.cells (flat F (List.replicate n z0)).toArray F.e)) := by
  obtain ⟨i0, hi, hz0, hz1, hz2⟩ := info_parts F.hi
  have hb' : (i0.bytes : Int) * (n : Int) ≤ 281474976710656 := by
    rw [hz2, ← Int.natCast_mul, Nat.mul_comm]
    omega
  have h63 : (n : Int) ≤ 9223372036854775807 := by
    have h := hn
    simp [maxLen] at h
    omega
  have hr := run_make (P := Try.prog) w F.t F.e i0 F.z F.ht hi hz0 .i64 .i64 n n (by omega) (Int.le_refl _) hb' h63
  simp only [Int.toNat_natCast] at hr
  rw [hr, hz1]
  have e : madeCells F.z.cells (n * F.k) = (flat F (List.replicate n z0)).toArray := by
    rw [hz]
    apply Array.ext
    · rw [size_madeCells, List.size_toArray, flat_length, List.length_replicate]
    · intro j h1 h2
      rw [size_madeCells] at h1
      have hk := F.hk
      have hq : j / F.k < n := Nat.div_lt_of_lt_mul (by rw [Nat.mul_comm]; exact h1)
      have hm : j % F.k < F.k := Nat.mod_lt _ hk
      have hf := flat_at F (List.replicate n z0) (j / F.k) (by rw [List.length_replicate]; exact hq) (j % F.k) hm
      rw [show j / F.k * F.k + j % F.k = j by rw [Nat.mul_comm]; exact Nat.div_add_mod j F.k, List.getElem_replicate] at hf
      have hl := F.len z0
      have h3 : (flat F (List.replicate n z0)).toArray[j]? = (F.c z0)[j % F.k]? := by rw [List.getElem?_toArray]; exact hf
      have h4 : (madeCells (F.c z0).toArray (n * F.k))[j]? = (F.c z0)[j % F.k]? := by
        unfold madeCells
        rw [Array.getElem?_map, Array.getElem?_range, if_pos h1, Option.map_some, List.size_toArray, hl, getElem!_pos _ _ (by rw [List.size_toArray, hl]; exact hm), List.getElem_toArray, List.getElem?_eq_getElem (by rw [hl]; exact hm)]
      have h5 := h4.trans h3.symm
      rw [Array.getElem?_eq_getElem (by rw [size_madeCells]; exact h1), Array.getElem?_eq_getElem h2] at h5
      exact Option.some.inj h5
  rw [e]
theorem Mine.made {α : Type} {F : Kd α} (z0 : α) (w : World) (n B : Nat) (hB : B ≤ w.heap.size) (hn : n ≤ maxLen) : Mine F (w.alloc (.cells (flat F (List.replicate n z0)).toArray F.e)) B (.slice (some ⟨w.heap.size, 0, none⟩) n n) (List.replicate n z0) := by
  unfold Mine
  rw [List.length_replicate]
  exact World.ownsRow_lit w _ n hB hn (by rw [List.size_toArray, flat_length, List.length_replicate])
abbrev noNode : Rn := ⟨0, 0, 0, none, 0, 0⟩
/-- Within the program's Shift: so many kids are laid elsewhere. -/
structure Shp (w wr : World) (X Y : Nat) (k i j d : Int) (l : List Tree) (vn : Value) (len q : Nat) (R' : List Rn) (E : Nat → Prop) : Prop where
  base : w.heap.size = X ∧ X + 2 = Y
  below : Below w.heap.size w wr
  x0 : wr.heap[X]? = some (.cells #[.int .i64 k, .int .i64 i, .int .i64 j, vn] 24 (0, 0))
  x1 : wr.heap[X + 1]? = some (.cells #[.int .i64 0, .int .i64 0, .int .i64 0, .slice none 0 0] 24 (0, 0))
  row : Mine nd wr Y (.slice (some ⟨Y, 0, none⟩) len len) (R' ++ List.replicate (len - q) noNode)
  len : R'.length = q
  own : OTies wr E ((l.take q).map (shiftT d)) R'
  dead : ∀ h, E h → Y < h ∧ h < wr.heap.size
theorem Shp.more {w wr w2 : World} {X Y : Nat} {k i j d : Int} {l : List Tree} {vn : Value} {len q : Nat} {R' : List Rn} {E : Nat → Prop} (h : Shp w wr X Y k i j d l vn len q R' E) (hb : Below wr.heap.size wr w2) : Shp w w2 X Y k i j d l vn len q R' E := by
  have hlt : ∀ k o, wr.heap[k]? = some o → w2.heap[k]? = some o := fun k o hk => (hb.block k (Array.getElem?_eq_some_iff.1 hk).1).trans hk
  exact ⟨h.base, h.below.trans (hb.mono h.below.size), hlt _ _ h.x0, hlt _ _ h.x1, h.row.below hb, h.len, OTies.keep (fun g hg => hb.block g (h.dead g hg).2) (fun _ h => h) _ _ h.own, fun g hg => ⟨(h.dead g hg).1, Nat.lt_of_lt_of_le (h.dead g hg).2 hb.size⟩⟩
/-- One more kid. -/
theorem Shp.put {w wr w9 : World} {X Y : Nat} {k i j d : Int} {l : List Tree} {vn : Value} {len q : Nat} {R' : List Rn} {E : Nat → Prop} {n : Rn} (h : Shp w wr X Y k i j d l vn len q R' E) (hq : q < l.length) (hql : q < len) (hb : Below wr.heap.size wr w9) (hf : Fresh wr.heap.size w9 (shiftT d l[q]) n) :
    ∃ E', Shp w ((((w9.setCell ⟨Y, q * 4, none⟩ (.int .i64 n.k)).setCell ⟨Y, q * 4 + 1, none⟩ (.int .i64 n.i)).setCell ⟨Y, q * 4 + 2, none⟩ (.int .i64 n.j)).setCell ⟨Y, q * 4 + 3, none⟩ (.slice n.o n.n n.c)) X Y k i j d l vn len (q + 1) (R' ++ [n]) E' := by
  have h2 := h.more hb
  obtain ⟨D2, ho2, hd2⟩ := hf
  have hle := h.len
  have hgl := World.ownsRow.lt h2.row Y rfl
  have hg0 := World.ownsRow.lt h.row Y rfl
  have hsm : ∀ k', k' ≠ Y → ((((w9.setCell ⟨Y, q * 4, none⟩ (.int .i64 n.k)).setCell ⟨Y, q * 4 + 1, none⟩ (.int .i64 n.i)).setCell ⟨Y, q * 4 + 2, none⟩ (.int .i64 n.j)).setCell ⟨Y, q * 4 + 3, none⟩ (.slice n.o n.n n.c)).heap[k']? = w9.heap[k']? := fun k' hk => by
    rw [set_one _ _ _ _ _ hk, set_one _ _ _ _ _ hk, set_one _ _ _ _ _ hk, set_one _ _ _ _ _ hk]
  have hz : ((((w9.setCell ⟨Y, q * 4, none⟩ (.int .i64 n.k)).setCell ⟨Y, q * 4 + 1, none⟩ (.int .i64 n.i)).setCell ⟨Y, q * 4 + 2, none⟩ (.int .i64 n.j)).setCell ⟨Y, q * 4 + 3, none⟩ (.slice n.o n.n n.c)).heap.size = w9.heap.size := by rw [size_set, size_set, size_set, size_set]
  have hbase := h2.base
  have hbz := hb.size
  refine ⟨fun g => E g ∨ D2 g, hbase, ⟨h2.below.os, h2.below.tape, h2.below.output, by rw [hz]; exact h2.below.size, fun k' hk => (hsm k' (by omega)).trans (h2.below.block k' hk)⟩, (hsm X (by omega)).trans h2.x0, (hsm (X + 1) (by omega)).trans h2.x1, ?_, by rw [List.length_append, hle]; rfl, ?_, ?_⟩
  · have hp := h2.row.put_nd (by rw [List.length_append, List.length_replicate]; omega) q (by rw [List.length_append, List.length_replicate]; omega) n
    have e : (R' ++ List.replicate (len - q) noNode).set q n = (R' ++ [n]) ++ List.replicate (len - (q + 1)) noNode := by
      rw [show len - q = (len - (q + 1)) + 1 by omega, List.replicate_succ, List.set_append_right _ _ (by omega), hle, Nat.sub_self, List.set_cons_zero, List.append_assoc]
      rfl
    rw [e] at hp
    exact hp
  · rw [List.take_add_one, List.getElem?_eq_getElem hq, List.map_append]
    refine OTies.keep (w := w9) (fun g hg => hsm g ?_) (fun _ h => h) _ _ (OTies.snoc ho2 h2.own (fun g h1 h2' => ?_))
    · rcases hg with hg | hg
      · have := (h.dead g hg).1; omega
      · have := (hd2 g hg).1; omega
    · have := (h.dead g h1).2
      have := (hd2 g h2').1
      omega
  · intro g hg
    rw [hz]
    rcases hg with hg | hg
    · exact h2.dead g hg
    · have := hd2 g hg; omega
theorem infoNd : (Try.prog.info? nd.e).map (fun i => (i.zero, i.size, i.bytes)) = some (some nd.z, nd.k, nd.bytes) := nd.hi
set_option maxRecDepth 100000 in
set_option maxHeartbeats 4000000 in
theorem gshift_node (k i j : Int) (l : List Tree) (ih : ∀ t ∈ l, ShiftC 40 t) : ShiftC 40 (.mk k i j l) := by
  intro w n d hT
  obtain ⟨o, c, g, off, R, rfl, hc, hl, hlR, ho, HC, HT⟩ := TieB.out hT
  obtain ⟨W2, hW2, hx0, hx1, hb2⟩ := two_node_boxes w k i j 0 0 0 o none l.length c 0 0
  have hz2 : W2.heap.size = w.heap.size + 2 := by rw [← hW2, World.size_alloc, World.size_alloc]
  obtain ⟨X, hX⟩ : ∃ X, w.heap.size = X := ⟨_, rfl⟩
  have HX := Lib.hid hX
  rw [hX] at hx0 hx1 hz2
  obtain ⟨len, hlen⟩ : ∃ len, l.length = len := ⟨_, rfl⟩
  have HLN := Lib.hid (And.intro hlen hlR)
  have HIH := Lib.hid ih
  have HO := Lib.hid ho
  rw [hlen] at hl hW2 hx0
  obtain ⟨Y, hY⟩ : ∃ Y, W2.heap.size = Y := ⟨_, rfl⟩
  have HY := Lib.hid (And.intro hY (show X + 2 = Y by omega))
  have HW2 := Lib.hid hW2
  have H2 := Lib.hid (And.intro hx0 (And.intro hx1 hb2))
  show Calls Try.prog 40 #[.agg #[.int .i64 k, .int .i64 i, .int .i64 j, .slice o l.length c], .int .i64 d] w _
  rw [hlen]
  obtain ⟨⟨y0, y1, y2, y3⟩, _⟩ := four_cells0 hx0
  have xz := (Array.getElem?_eq_some_iff.1 hx0).1
  clear hT hlen hlR ho hc ih hW2 hx0 hx1 hb2 hX hz2 hY
  by_cases hl0 : len = 0
  case pos =>
    subst hl0
    obtain rfl : l = [] := List.eq_nil_of_length_eq_zero HLN.out.1
    go_enter Try.func40, Try.ntmps40
    have hW2 := HW2.out
    have hX := HX.out
    go_wp2_with fail
    clear hW2 hX
    clear y0 y1 y2 y3 xz
    go_loopw [19] (fun p wr => p = .int .i64 0 ∧ wr = W2) (fun _ _ => 0)
    case atStart => exact ⟨rfl, rfl⟩
    case round =>
      obtain ⟨rfl, rfl⟩ := hrel
      obtain ⟨h0, h1, hbl⟩ := H2.out
      obtain ⟨⟨n0, n1, n2, n3⟩, _⟩ := four_cells0 h0
      obtain ⟨⟨m0, m1, m2, m3⟩, fm⟩ := four_cells0 h1
      have q0 := (Array.getElem?_eq_some_iff.1 h0).1
      have q1 := (Array.getElem?_eq_some_iff.1 h1).1
      have f0 := fm 0
      have f1 := fm 1
      have f2 := fm 2
      have f3 := fm 3
      have hbox : ((((wr.setCell ⟨X + 1, 0, none⟩ (.int .i64 k)).setCell ⟨X + 1, 1, none⟩ (.int .i64 (wrap64 (i + d)))).setCell ⟨X + 1, 2, none⟩ (.int .i64 (wrap64 (j + d)))).setCell ⟨X + 1, 3, none⟩ (.slice none 0 0)).heap[X + 1]? = some (.cells #[.int .i64 k, .int .i64 (wrap64 (i + d)), .int .i64 (wrap64 (j + d)), .slice none 0 0] 24 (0, 0)) := heap_setCell_same _ _ 3 _ _ _ (heap_setCell_same _ _ 2 _ _ _ (heap_setCell_same _ _ 1 _ _ _ (heap_setCell_same _ _ 0 _ _ _ h1)))
      have hsm : ∀ k', k' ≠ X + 1 → ((((wr.setCell ⟨X + 1, 0, none⟩ (.int .i64 k)).setCell ⟨X + 1, 1, none⟩ (.int .i64 (wrap64 (i + d)))).setCell ⟨X + 1, 2, none⟩ (.int .i64 (wrap64 (j + d)))).setCell ⟨X + 1, 3, none⟩ (.slice none 0 0)).heap[k']? = wr.heap[k']? := fun k' hk => by
        rw [set_one _ _ _ _ _ hk, set_one _ _ _ _ _ hk, set_one _ _ _ _ _ hk, set_one _ _ _ _ _ hk]
      have hz : ((((wr.setCell ⟨X + 1, 0, none⟩ (.int .i64 k)).setCell ⟨X + 1, 1, none⟩ (.int .i64 (wrap64 (i + d)))).setCell ⟨X + 1, 2, none⟩ (.int .i64 (wrap64 (j + d)))).setCell ⟨X + 1, 3, none⟩ (.slice none 0 0)).heap.size = wr.heap.size := by rw [size_set, size_set, size_set, size_set]
      have HH := Lib.hid (And.intro hbl (And.intro hbox (And.intro hsm hz)))
      clear h0 h1 hbl hbox hsm hz fm
      go_wp2_with fail
      obtain ⟨hbl, hbox, hsm, hz⟩ := HH.out
      have hbase := HX.out
      refine bodyPost_ret (v := .agg #[.int .i64 k, .int .i64 (wrap64 (i + d)), .int .i64 (wrap64 (j + d)), .slice none 0 0]) (results_cell_row rfl _ _ (X + 1) 24 _ (0, 0) _ rfl hbox Try.underlying24 rfl (by as_aux_lemma => kernel_rfl)) rfl ?_
      refine ⟨⟨k, wrap64 (i + d), wrap64 (j + d), none, 0, 0⟩, rfl, ⟨hbl.os, hbl.tape, hbl.output, by rw [hz]; exact hbl.size, fun k' hk => (hsm k' (by omega)).trans (hbl.block k' hk)⟩, fun _ => False, ?_, fun g hg => hg.elim⟩
      rw [shiftT, shiftTs, OTie]
      exact ⟨rfl, rfl, rfl, rfl, Nat.zero_le _, [], fun _ => False, Mine.nil _ _, fun g hg => by simp [Value.ownBlock] at hg, fun g hg => hg.elim, OTies.nil⟩
  case neg =>
  have hpos : decide (0 < (len : Int)) = true := decide_eq_true (by omega)
  have hpos' : decide (0 < len) = true := decide_eq_true (by omega)
  have hmk := run_make_kd (F := nd) noNode rfl W2 len (by show len * 48 ≤ _; omega) (by simp [maxLen]; omega)
  rw [HY.out.1] at hmk
  obtain ⟨W3, hW3⟩ : ∃ W3, W2.alloc (.cells (flat nd (List.replicate len noNode)).toArray nd.e) = W3 := ⟨_, rfl⟩
  have hst : Shp w W3 X Y k i j d l (.slice o len c) len 0 [] (fun _ => False) := by
    obtain ⟨h0, h1, hbl⟩ := H2.out
    have hm := Mine.made (F := nd) noNode W2 len Y (by rw [HY.out.1]; exact Nat.le_refl _) (by simp [maxLen]; omega)
    rw [hW3, HY.out.1] at hm
    have hb3 : Below W2.heap.size W2 W3 := by rw [← hW3]; exact (Below.refl _ _).alloc (Nat.le_refl _) _
    exact ⟨⟨HX.out, HY.out.2⟩, hbl.trans (hb3.mono hbl.size), (hb3.block _ (Array.getElem?_eq_some_iff.1 h0).1).trans h0, (hb3.block _ (Array.getElem?_eq_some_iff.1 h1).1).trans h1, hm, rfl, OTies.nil, fun h hh => hh.elim⟩
  rw [hW3] at hmk
  have HST := Lib.hid hst
  have hmk' : (Instr.makeSlice 22 (.int .i64 (len : Int)) (.int .i64 (len : Int))).run Try.prog W2 = .ok (.slice (some ⟨Y, 0, none⟩) len len) W3 := hmk
  obtain ⟨⟨z0, z1, z2, z3⟩, _⟩ := four_cells0 hst.x0
  have zz := (Array.getElem?_eq_some_iff.1 hst.x0).1
  clear hmk hst hW3
  go_enter Try.func40, Try.ntmps40
  have hW2 := HW2.out
  have hX := HX.out
  go_wp2_with fail
  clear hW2 hX
  clear y0 y1 y2 y3 xz z0 z1 z2 z3 zz hmk'
  go_loopw [19] (fun p wr => ∃ (q : Nat) (R' : List Rn) (E : Nat → Prop), q ≤ len ∧ p = .int .i64 (q : Int) ∧ Shp w wr X Y k i j d l (.slice o len c) len q R' E) (fun p _ => len - (intOf p).toNat)
  case atStart => exact ⟨0, [], _, Nat.zero_le _, rfl, HST.out⟩
  case round =>
    obtain ⟨q, R', E, hql, rfl, hs⟩ := hrel
    have q0 := (Array.getElem?_eq_some_iff.1 hs.x0).1
    have q1 := (Array.getElem?_eq_some_iff.1 hs.x1).1
    by_cases hlt : q < len
    · have hil : q < l.length := by rw [HLN.out.1]; exact hlt
      have hiR : q < R.length := by rw [HLN.out.2]; exact hil
      obtain ⟨ho, hg⟩ := HO.out (by intro e; rw [e] at hil; simp at hil)
      subst ho
      have hbw := hs.below
      obtain ⟨a0, a1, a2, a3⟩ := cells_nd HC.out q hiR
      have HPUT := Lib.hid (fun w9 n h1 h2 => hs.put (w9 := w9) (n := n) hil hlt h1 h2)
      have HCALL : Hid (∀ u, Below wr.heap.size wr u → Calls Try.prog 40 #[R[q].v, .int .i64 d] u fun e w' => ∃ n', e = .returned n'.v ∧ Below u.heap.size u w' ∧ Fresh wr.heap.size w' (shiftT d l[q]) n') := Lib.hid (fun u hu => (HIH.out l[q] (List.getElem_mem hil) u R[q] d (HT.out u (hbw.trans (hu.mono hbw.size)) q hil hiR)).mono fun e w' ⟨n', h1, h2, h3⟩ => ⟨n', h1, h2, h3.mono hu.size⟩)
      have hrow := hs.row
      have hle := hs.len
      have hgl := World.ownsRow.lt hrow Y rfl
      obtain ⟨v0, v1, v2, v3⟩ := cells_nd hrow.cells q (by rw [List.length_append, List.length_replicate]; omega)
      have hget : (R' ++ List.replicate (len - q) noNode)[q]'(by rw [List.length_append, List.length_replicate]; omega) = noNode := by
        rw [List.getElem_append_right (by omega)]
        simp
      rw [hget] at v0 v1 v2 v3
      simp only [Nat.zero_add] at v0 v1 v2 v3
      have HTELL : Hid (∀ u, Below wr.heap.size wr u → (u.cell? ⟨Y, q * 4, none⟩ = some (.int .i64 0) ∧ u.cell? ⟨Y, q * 4 + 1, none⟩ = some (.int .i64 0) ∧ u.cell? ⟨Y, q * 4 + 2, none⟩ = some (.int .i64 0) ∧ u.cell? ⟨Y, q * 4 + 3, none⟩ = some (.slice none 0 0)) ∧ Y < u.heap.size ∧ ∀ j, u.frozen? ⟨Y, j, none⟩ = false) := Lib.hid (fun u hu =>
        ⟨⟨(hu.cell (p := ⟨Y, q * 4, none⟩) hgl.2).trans v0, (hu.cell (p := ⟨Y, q * 4 + 1, none⟩) hgl.2).trans v1, (hu.cell (p := ⟨Y, q * 4 + 2, none⟩) hgl.2).trans v2, (hu.cell (p := ⟨Y, q * 4 + 3, none⟩) hgl.2).trans v3⟩, Nat.lt_of_lt_of_le hgl.2 hu.size, fun j => (hrow.below hu).free j⟩)
      obtain ⟨⟨nk, ni, nj, no, nn, nc⟩, hn1⟩ : ∃ n, R[q] = n := ⟨_, rfl⟩
      rw [hn1] at a0 a1 a2 a3 HCALL
      rw [show (Rn.mk nk ni nj no nn nc).v = .agg #[.int .i64 nk, .int .i64 ni, .int .i64 nj, .slice no nn nc] from rfl] at HCALL
      have c0 := (hbw.cell (p := ⟨g, off + q * 4, none⟩) hg).trans a0
      have c1 := (hbw.cell (p := ⟨g, off + q * 4 + 1, none⟩) hg).trans a1
      have c2 := (hbw.cell (p := ⟨g, off + q * 4 + 2, none⟩) hg).trans a2
      have c3 := (hbw.cell (p := ⟨g, off + q * 4 + 3, none⟩) hg).trans a3
      have hgw : g < wr.heap.size := Nat.lt_of_lt_of_le hg hbw.size
      have hq0 : (0 : Int) ≤ (q : Int) := by omega
      have hww : (q : Int) + 1 ≤ 2932031007318 := by omega
      have hd : decide ((q : Int) < (len : Int)) = true := decide_eq_true (by omega)
      have hd' : decide (q < len) = true := decide_eq_true hlt
      simp only [] at c0 c1 c2 c3
      have hZ : Hid (Below wr.heap.size wr (wr.alloc (.cells #[.int .i64 nk, .int .i64 ni, .int .i64 nj, .slice no nn nc] 24))) := Lib.hid ((Below.refl _ _).alloc (Nat.le_refl _) _)
      clear a0 a1 a2 a3 hn1 hbw hs hget v0 v1 v2 v3 hrow hle hgl
      go_wp2_with (go_at_call 40; refine (HCALL.out _ hZ.out).mono ?_; rintro e w9 ⟨⟨mk, mi, mj, mo, mn, mc⟩, rfl, hb9, hf9⟩; have hbb : Below wr.heap.size wr w9 := hZ.out.trans (hb9.mono hZ.out.size); have HP := Lib.hid (HPUT.out w9 _ hbb hf9); obtain ⟨⟨t4, t5, t6, t7⟩, tz, tf⟩ := HTELL.out _ hbb; have u0 := tf (q * 4); have u1 := tf (q * 4 + 1); have u2 := tf (q * 4 + 2); have u3 := tf (q * 4 + 3); clear tf hb9 hf9 hbb; dsimp only [Rn.v])
      all_goals (obtain ⟨E', hs'⟩ := HP.out)
      all_goals (go_roundw; (case rel => exact ⟨q + 1, _, _, by omega, by go_num, hs'⟩); (case measure => simp [intOf]; omega))
    · obtain rfl : q = len := by omega
      have hd : decide ((q : Int) < (q : Int)) = false := decide_eq_false (by omega)
      have hrow := hs.row
      rw [Nat.sub_self, List.replicate_zero, List.append_nil] at hrow
      obtain ⟨⟨n0, n1, n2, n3⟩, _⟩ := four_cells0 hs.x0
      obtain ⟨⟨m0, m1, m2, m3⟩, fm⟩ := four_cells0 hs.x1
      have f0 := fm 0
      have f1 := fm 1
      have f2 := fm 2
      have f3 := fm 3
      have hbox : ((((wr.setCell ⟨X + 1, 0, none⟩ (.int .i64 k)).setCell ⟨X + 1, 1, none⟩ (.int .i64 (wrap64 (i + d)))).setCell ⟨X + 1, 2, none⟩ (.int .i64 (wrap64 (j + d)))).setCell ⟨X + 1, 3, none⟩ (.slice (some ⟨Y, 0, none⟩) q q)).heap[X + 1]? = some (.cells #[.int .i64 k, .int .i64 (wrap64 (i + d)), .int .i64 (wrap64 (j + d)), .slice (some ⟨Y, 0, none⟩) q q] 24 (0, 0)) := heap_setCell_same _ _ 3 _ _ _ (heap_setCell_same _ _ 2 _ _ _ (heap_setCell_same _ _ 1 _ _ _ (heap_setCell_same _ _ 0 _ _ _ hs.x1)))
      have hsm : ∀ k', k' ≠ X + 1 → ((((wr.setCell ⟨X + 1, 0, none⟩ (.int .i64 k)).setCell ⟨X + 1, 1, none⟩ (.int .i64 (wrap64 (i + d)))).setCell ⟨X + 1, 2, none⟩ (.int .i64 (wrap64 (j + d)))).setCell ⟨X + 1, 3, none⟩ (.slice (some ⟨Y, 0, none⟩) q q)).heap[k']? = wr.heap[k']? := fun k' hk => by
        rw [set_one _ _ _ _ _ hk, set_one _ _ _ _ _ hk, set_one _ _ _ _ _ hk, set_one _ _ _ _ _ hk]
      have hz : ((((wr.setCell ⟨X + 1, 0, none⟩ (.int .i64 k)).setCell ⟨X + 1, 1, none⟩ (.int .i64 (wrap64 (i + d)))).setCell ⟨X + 1, 2, none⟩ (.int .i64 (wrap64 (j + d)))).setCell ⟨X + 1, 3, none⟩ (.slice (some ⟨Y, 0, none⟩) q q)).heap.size = wr.heap.size := by rw [size_set, size_set, size_set, size_set]
      have HH := Lib.hid (And.intro hs (And.intro hrow (And.intro hbox (And.intro hsm hz))))
      clear hs hrow hbox hsm hz fm
      go_wp2_with fail
      obtain ⟨hs, hrow, hbox, hsm, hz⟩ := HH.out
      have hbase := hs.base
      refine bodyPost_ret (v := .agg #[.int .i64 k, .int .i64 (wrap64 (i + d)), .int .i64 (wrap64 (j + d)), .slice (some ⟨Y, 0, none⟩) q q]) (results_cell_row rfl _ _ (X + 1) 24 _ (0, 0) _ rfl hbox Try.underlying24 rfl (by as_aux_lemma => kernel_rfl)) rfl ?_
      have hbl := hs.below
      have hgl := World.ownsRow.lt hrow Y rfl
      refine ⟨⟨k, wrap64 (i + d), wrap64 (j + d), some ⟨Y, 0, none⟩, q, q⟩, rfl, ⟨hbl.os, hbl.tape, hbl.output, by rw [hz]; exact hbl.size, fun k' hk => (hsm k' (by omega)).trans (hbl.block k' hk)⟩, fun g => E g ∨ g = Y, ?_, fun g hg => ?_⟩
      · rw [shiftT, OTie]
        have hlm : (shiftTs d l).length = q := by rw [shiftTs_map, List.length_map]; exact HLN.out.1
        refine ⟨rfl, rfl, rfl, hlm.symm, by rw [hlm]; exact hl, R', E, (hrow.mono (Nat.zero_le _)).keep (fun g hg _ => hsm g (by simp only [Value.ownBlock, Option.some.injEq] at hg; omega)), fun g hg => ?_, fun g hg => .inl hg, ?_⟩
        · simp only [Value.ownBlock, Option.some.injEq] at hg
          exact ⟨.inr hg.symm, fun he => by have := (hs.dead g he).1; omega⟩
        · rw [shiftTs_map]
          have ho := hs.own
          rw [List.take_of_length_le (by rw [HLN.out.1]; exact Nat.le_refl _)] at ho
          exact OTies.keep (fun g hg => hsm g (by have := (hs.dead g hg).1; omega)) (fun _ h => h) _ _ ho
      · rw [hz]
        rcases hg with hg | rfl
        · have := hs.dead g hg
          omega
        · omega
mutual
theorem gshift_t : ∀ t : Tree, ShiftC 40 t
  | .mk k i j l => gshift_node k i j l (gshift_l l)
theorem gshift_l : ∀ (l : List Tree), ∀ t ∈ l, ShiftC 40 t
  | [], t, h => by cases h
  | u :: l, t, h => by
    rcases List.mem_cons.1 h with h | h
    · rw [h]; exact gshift_t u
    · exact gshift_l l t h
end
end Go.Proofs.Ytnnffcfdokejbaa.rd
