/-
  Layer 8: the program's placed, Node.
-/
import Derived.Test.YtnnffcfdokejbaaTs
import Derived.Test.YtnnffcfdokejbaaQf
namespace Go.Proofs.Ytnnffcfdokejbaa.rd
open Go.RowKit

/-- A node that grows: two boxes ahead of it, its kids in blocks of their own. -/
structure Gro (w wr : World) (X : Nat) (y0 y1 : Obj) (k i j : Int) (q : Nat) (TL : List Tree) (R' : List Rn) (E : Nat → Prop) (vo : Value) : Prop where
  base : w.heap.size = X
  below : Below w.heap.size w wr
  x0 : wr.heap[X]? = some y0
  x1 : wr.heap[X + 1]? = some y1
  x2 : wr.heap[X + 2]? = some (.cells #[.int .i64 k, .int .i64 i, .int .i64 j, vo] 24 (0, 0))
  row : Mine nd wr (X + 3) vo R'
  len : R'.length = q
  own : OTies wr E TL R'
  dead : ∀ h, E h → X + 3 ≤ h ∧ h < wr.heap.size ∧ vo.ownBlock ≠ some h
section
variable {w wr w2 w9 : World} {X : Nat} {y0 y1 : Obj} {k i j : Int} {q : Nat} {TL : List Tree} {R' : List Rn} {E : Nat → Prop} {vo : Value}
theorem Gro.more (h : Gro w wr X y0 y1 k i j q TL R' E vo) (hb : Below wr.heap.size wr w2) : Gro w w2 X y0 y1 k i j q TL R' E vo := by
  have hlt : ∀ k o, wr.heap[k]? = some o → w2.heap[k]? = some o := fun k o hk => (hb.block k (Array.getElem?_eq_some_iff.1 hk).1).trans hk
  exact ⟨h.base, h.below.trans (hb.mono h.below.size), hlt _ _ h.x0, hlt _ _ h.x1, hlt _ _ h.x2, h.row.below hb, h.len, OTies.keep (fun g hg => hb.block g (h.dead g hg).2.1) (fun _ h => h) _ _ h.own, fun g hg => ⟨(h.dead g hg).1, Nat.lt_of_lt_of_le (h.dead g hg).2.1 hb.size, (h.dead g hg).2.2⟩⟩
/-- One more kid. -/
theorem Gro.put {t : Tree} {n : Rn} (h : Gro w wr X y0 y1 k i j q TL R' E vo) (hq : q + 1 ≤ 2932031007317) (hb : Below wr.heap.size wr w9) (hf : Fresh wr.heap.size w9 t n) :
    ∀ u, Below w9.heap.size w9 u → ∀ ad, u.heap[ad]? = some (.cells #[.int .i64 n.k, .int .i64 n.i, .int .i64 n.j, .slice n.o n.n n.c] 24 (0, 0)) →
      ∃ v' w', (∀ ty, (Builtin.append_ #[22, 22] ty #[vo, .slice (some ⟨ad, 0, none⟩) 1 1]).run Try.prog u = .ok v' w') ∧
        (∃ g cap', v' = .slice (some ⟨g, 0, none⟩) (q + 1) cap') ∧ w'.cell? ⟨X + 1 + 1, 3, none⟩ = some vo ∧ w'.frozen? ⟨X + 1 + 1, 3, none⟩ = false ∧ X + 1 + 1 < w'.heap.size ∧
        ∃ E', Gro w (w'.setCell ⟨X + 1 + 1, 3, none⟩ v') X y0 y1 k i j (q + 1) (TL ++ [t]) (R' ++ [n]) E' v' ∧ ∀ z, z < wr.heap.size → vo.ownBlock ≠ some z → z ≠ X + 2 → (w'.setCell ⟨X + 1 + 1, 3, none⟩ v').heap[z]? = wr.heap[z]? := by
  intro u hu ad had
  have hbu := hb.trans (hu.mono hb.size)
  have h2 := h.more hbu
  obtain ⟨D2, ho2, hd2⟩ := hf
  have hX2 := (Array.getElem?_eq_some_iff.1 h.x2).1
  have hle := h.len
  have hbase := h.base
  have hzz := hbu.size
  obtain ⟨g, cap', w', h3, h4, h5, h6⟩ := app_lies (F := nd) (x := n) h2.row had (by omega) (by simp [maxLen]; omega) (by show (R'.length + 1) * 48 ≤ _; omega)
  have hown : ∀ g, vo.ownBlock = some g → X + 3 ≤ g ∧ g < wr.heap.size := fun g hg => World.ownsRow.lt h.row g hg
  have hg : (vo.ownBlock = some g ∧ X + 3 ≤ g ∧ g < wr.heap.size) ∨ g = u.heap.size := by
    rcases h6 with h6 | h6
    · exact .inl ⟨h6, hown g h6⟩
    · exact .inr h6
  have hold : ∀ k, k < u.heap.size → vo.ownBlock ≠ some k → w'.heap[k]? = u.heap[k]? := fun k hk hn => h5.block k hk (fun e => hn e.symm)
  have hrun : ∀ k, k ≠ X + 2 → (w'.setCell ⟨X + 2, 3, none⟩ (.slice (some ⟨g, 0, none⟩) (R'.length + 1) cap')).heap[k]? = w'.heap[k]? := fun k hk => set_one _ _ _ _ _ hk
  have hnX : ∀ k, k < X + 3 → vo.ownBlock ≠ some k := fun k hk e => by have := hown k e; omega
  have hx2 : w'.heap[X + 2]? = some (.cells #[.int .i64 k, .int .i64 i, .int .i64 j, vo] 24 (0, 0)) := (hold _ (by omega) (hnX _ (by omega))).trans h2.x2
  obtain ⟨⟨_, _, _, b3⟩, bf⟩ := four_cells0 hx2
  have hgX : X + 3 ≤ g := by omega
  have hw' := h5.size
  have hE : ∀ k, (E k ∨ D2 k) → X + 3 ≤ k ∧ k < u.heap.size ∧ vo.ownBlock ≠ some k ∧ k ≠ g := by
    intro k hk
    rcases hk with hk | hk
    · obtain ⟨a1, a2, a3⟩ := h.dead k hk
      refine ⟨a1, by omega, a3, ?_⟩
      rintro rfl
      rcases hg with hg | hg
      · exact a3 hg.1
      · omega
    · obtain ⟨a1, a2⟩ := hd2 k hk
      have := hu.size
      refine ⟨by omega, by omega, fun e => by have := hown k e; omega, ?_⟩
      rintro rfl
      rcases hg with hg | hg <;> omega
  have hb2 := h2.below
  rw [hle] at h3 h4 hrun
  refine ⟨_, w', h3, ⟨g, cap', rfl⟩, b3, bf 3, by omega, fun k => E k ∨ D2 k, ⟨hbase, ⟨h5.os.trans hb2.os, h5.tape.trans hb2.tape, h5.output.trans hb2.output, by rw [size_set]; omega, fun k hk => ?_⟩, ?_, ?_, ?_, ?_, by rw [List.length_append, hle]; rfl, ?_, ?_⟩, fun z hz hv h2z => (hrun z h2z).trans ((hold z (by omega) hv).trans (hbu.block z hz))⟩
  · exact (hrun k (by omega)).trans ((hold k (by omega) (hnX k (by omega))).trans (hb2.block k hk))
  · exact (hrun X (by omega)).trans ((hold X (by omega) (hnX X (by omega))).trans h2.x0)
  · exact (hrun (X + 1) (by omega)).trans ((hold (X + 1) (by omega) (hnX (X + 1) (by omega))).trans h2.x1)
  · exact heap_setCell_same _ _ 3 _ _ _ hx2
  · exact h4.keep (fun k hk _ => hrun k (by simp only [Value.ownBlock, Option.some.injEq] at hk; omega))
  · refine OTies.keep (w := u) (fun k hk => ?_) (fun _ h => h) _ _ (OTies.snoc (OTie.keep (fun g hg => hu.block g (hd2 g hg).2) (fun _ h => h) _ _ ho2) h2.own (fun g h1 h2' => ?_))
    · obtain ⟨a1, a2, a3, _⟩ := hE k hk
      exact (hrun k (by omega)).trans (hold k a2 a3)
    · have := (h.dead g h1).2.1
      have := (hd2 g h2').1
      omega
  · intro k hk
    obtain ⟨a1, a2, a3, a4⟩ := hE k hk
    refine ⟨a1, by rw [size_set]; omega, fun e => ?_⟩
    simp only [Value.ownBlock, Option.some.injEq] at e
    exact a4 e.symm
end
theorem kidsT_len (L : List Gr) (F : Nat → Int → Tree) : ∀ (l : List Int) (a : Int), (kidsT L F l a).length = l.length
  | [], _ => rfl
  | x :: l, a => by show (kidsT L F l _).length + 1 = l.length + 1; rw [kidsT_len L F l]
theorem kidsT_get (L : List Gr) (F : Nat → Int → Tree) : ∀ (l : List Int) (a : Int) (q : Nat) (h : q < l.length), (kidsT L F l a)[q]'(by rw [kidsT_len]; exact h) = F l[q].toNat (a + ((cat L (l.take q)).length : Int))
  | [], _, _, h => by simp at h
  | x :: l, a, 0, _ => by
    show F x.toNat a = F x.toNat (a + ((cat L []).length : Int))
    simp [cat]
  | x :: l, a, q + 1, h => by
    show (kidsT L F l (a + ((L[x.toNat]?.map fun g => (g.s.size : Int)).getD 0)))[q]'_ = F (l[q]'(by simpa using h)).toNat (a + ((cat L (x :: l.take q)).length : Int))
    rw [kidsT_get L F l _ q (by simpa using h)]
    have e : cat L (x :: l.take q) = ((L[x.toNat]?).map fun g => g.s.data.toList).getD [] ++ cat L (l.take q) := rfl
    rw [e, List.length_append]
    cases L[x.toNat]? with
    | none => simp
    | some g => simp only [Option.map_some, Option.getD_some, sdata]; congr 1; omega
theorem kidsT_snoc (L : List Gr) (F : Nat → Int → Tree) (l : List Int) (a : Int) {q : Nat} (h : q < l.length) : (kidsT L F l a).take (q + 1) = (kidsT L F l a).take q ++ [F l[q].toNat (a + ((cat L (l.take q)).length : Int))] := by
  have hk : q < (kidsT L F l a).length := by rw [kidsT_len]; exact h
  rw [List.take_add_one, List.getElem?_eq_getElem hk, kidsT_get L F l a q h]
  rfl
/-- What placed is held to. -/
def PlacedC (id : Nat) : Prop := ∀ (w : World) (b m : Nat) (vN : Value) (L : List Gr) (a : Int) (f : Nat) (hlt : id < L.length), PoolG w b m vN L → id < f → 0 ≤ a → a + (L[id].s.size : Int) ≤ 4611686020574871551 →
  Calls Try.prog 53 #[.pointer (some ⟨b, 0, none⟩), .int .i64 (id : Int), .int .i64 a] w fun e w' => ∃ n : Rn, e = .returned n.v ∧ Below w.heap.size w w' ∧ Fresh w.heap.size w' (nodeT L f id a) n
theorem placed_boxes (w : World) (k i j z : Int) (x y : ByteArray) : ∃ W3, ((w.alloc (.cells #[.int .i64 0, .int .i64 0, .int .i64 0, .slice none 0 0] 24)).alloc (.cells #[.int .i64 k, .string x, .string y, .int .i64 z] 90)).alloc (.cells #[.int .i64 k, .int .i64 i, .int .i64 j, .slice none 0 0] 24) = W3 ∧ W3.heap[w.heap.size]? = some (.cells #[.int .i64 0, .int .i64 0, .int .i64 0, .slice none 0 0] 24 (0, 0)) ∧ W3.heap[w.heap.size + 1]? = some (.cells #[.int .i64 k, .string x, .string y, .int .i64 z] 90 (0, 0)) ∧ W3.heap[w.heap.size + 2]? = some (.cells #[.int .i64 k, .int .i64 i, .int .i64 j, .slice none 0 0] 24 (0, 0)) ∧ Below w.heap.size w W3 := by
  have z1 : (w.alloc (.cells #[.int .i64 0, .int .i64 0, .int .i64 0, .slice none 0 0] 24)).heap.size = w.heap.size + 1 := World.size_alloc _ _
  have b1 : Below w.heap.size w (w.alloc (.cells #[.int .i64 0, .int .i64 0, .int .i64 0, .slice none 0 0] 24)) := (Below.refl _ _).alloc (Nat.le_refl _) _
  have a1 := heap_alloc_last w (.cells #[.int .i64 0, .int .i64 0, .int .i64 0, .slice none 0 0] 24)
  generalize w.alloc (.cells #[.int .i64 0, .int .i64 0, .int .i64 0, .slice none 0 0] 24) = W1 at *
  have a2 := heap_alloc_last W1 (.cells #[.int .i64 k, .string x, .string y, .int .i64 z] 90)
  have z2 : (W1.alloc (.cells #[.int .i64 k, .string x, .string y, .int .i64 z] 90)).heap.size = w.heap.size + 2 := by rw [World.size_alloc, z1]
  have a1' := (heap_alloc_old W1 (.cells #[.int .i64 k, .string x, .string y, .int .i64 z] 90) (by omega)).trans a1
  have b2 : Below w.heap.size w (W1.alloc (.cells #[.int .i64 k, .string x, .string y, .int .i64 z] 90)) := b1.alloc b1.size _
  rw [z1] at a2
  generalize W1.alloc (.cells #[.int .i64 k, .string x, .string y, .int .i64 z] 90) = W2 at *
  have a3 := heap_alloc_last W2 (.cells #[.int .i64 k, .int .i64 i, .int .i64 j, .slice none 0 0] 24)
  rw [z2] at a3
  exact ⟨_, rfl, (heap_alloc_old W2 _ (by omega)).trans a1', (heap_alloc_old W2 _ (by omega)).trans a2, a3, b2.alloc b2.size _⟩
set_option maxRecDepth 100000 in
set_option maxHeartbeats 4000000 in
theorem placed_step (id : Nat) (ih : ∀ j, j < id → PlacedC j) : PlacedC id := by
  intro w b m vN L a f hlt hp hf ha0 hab
  obtain ⟨f, rfl⟩ : ∃ f', f = f' + 1 := ⟨f - 1, by omega⟩
  obtain ⟨g, o, c, rfl, ho, ⟨c0, c1⟩, hbz, hcell⟩ := hp.out
  obtain ⟨rfl, hg⟩ := ho (by intro e; rw [e] at hlt; simp at hlt)
  obtain ⟨a0, a1, a2, a3⟩ := cells_gk hcell id (by rw [List.length_map]; exact hlt)
  rw [List.getElem_map] at a0 a1 a2 a3
  simp only [Nat.zero_add] at a0 a1 a2 a3
  have hgood := hp.ok.all id hlt
  have hfew := hp.ok.few
  have hi0 : (0 : Int) ≤ (id : Int) := by omega
  have hin : (id : Int) < (L.length : Int) := by omega
  have hnode : nodeT L (f + 1) id a = .mk L[id].k a (a + (L[id].s.size : Int)) (kidsT L (nodeT L f) L[id].l a) := by
    rw [nodeT, List.getElem?_eq_getElem hlt]
  have hcatl : (cat L L[id].l).length ≤ L[id].s.size := by
    cases hk : leafK L[id].k with
    | true => rw [hgood.leaf hk]; simp [cat]
    | false => rw [← hgood.node hk, sdata]; exact Nat.le_refl _
  rw [hnode]
  obtain ⟨kk, hkk⟩ : ∃ x, L[id].k = x := ⟨_, rfl⟩
  obtain ⟨tx, htx⟩ : ∃ x, leafS L[id] = x := ⟨_, rfl⟩
  obtain ⟨ids, hids⟩ : ∃ x, L[id].l = x := ⟨_, rfl⟩
  obtain ⟨pk, hpk⟩ : ∃ x, B (packL ids) = x := ⟨_, rfl⟩
  obtain ⟨wd, hwd⟩ : ∃ x : Int, (L[id].s.size : Int) = x := ⟨_, rfl⟩
  change w.cell? ⟨g, id * 4, none⟩ = some (.int .i64 L[id].k) at a0
  change w.cell? ⟨g, id * 4 + 1, none⟩ = some (.string (leafS L[id])) at a1
  change w.cell? ⟨g, id * 4 + 2, none⟩ = some (.string (B (packL L[id].l))) at a2
  change w.cell? ⟨g, id * 4 + 3, none⟩ = some (.int .i64 (L[id].s.size : Int)) at a3
  have hsmall := hgood.small (by omega)
  have hlow := hgood.low
  have hkids := hgood.kids
  rw [hids] at hsmall hlow hkids a2 hcatl
  rw [hpk] at a2
  rw [hkk] at a0
  rw [htx] at a1
  rw [hwd] at a3 hab
  rw [hkk, hids, hwd]
  have hwd0 : 0 ≤ wd := by omega
  have hcatw : ((cat L ids).length : Int) ≤ wd := by omega
  obtain ⟨W3, hW3, hx0, hx1, hx2, hb3⟩ := placed_boxes w kk a (a + wd) wd tx pk
  have HU := Lib.hid (fun u => unpacked_any u ids hsmall (by omega))
  rw [hpk] at HU
  have HP := Lib.hid (And.intro c1 (And.intro hbz hg))
  have HG := Lib.hid (And.intro hlow (And.intro hkids (And.intro hab (And.intro hcatw hfew))))
  -- one kid
  have HKID : Hid (∀ (q : Nat) (hq : q < ids.length) (wr : World), Below w.heap.size w wr → (Calls Try.prog 53 #[.pointer (some ⟨b, 0, none⟩), .int .i64 ids[q], .int .i64 (a + ((cat L (ids.take q)).length : Int))] wr fun e w' => ∃ n : Rn, e = .returned n.v ∧ Below wr.heap.size wr w' ∧ Fresh wr.heap.size w' (nodeT L f ids[q].toNat (a + ((cat L (ids.take q)).length : Int))) n) ∧ (0 ≤ ids[q] ∧ ids[q] < (L.length : Int)) ∧ ∃ wx : Int, wr.cell? ⟨g, ids[q].toNat * 4 + 3, none⟩ = some (.int .i64 wx) ∧ (a + ((cat L (ids.take q)).length : Int)) + wx = a + ((cat L (ids.take (q + 1))).length : Int) ∧ a + ((cat L (ids.take (q + 1))).length : Int) ≤ 4611686020574871551) := Lib.hid (fun q hq wr hw => by
    have hx := hlow ids[q] (List.getElem_mem hq)
    have hxl : ids[q].toNat < L.length := by omega
    have hc1 := cat_snoc L ids hq
    rw [List.getElem?_eq_getElem hxl] at hc1
    simp only [Option.map_some, Option.getD_some] at hc1
    have hc2 := cat_le L ids (q + 1)
    have hc3 := congrArg List.length hc1
    rw [List.length_append, sdata] at hc3
    have h := ih ids[q].toNat (by omega) wr b m _ L (a + ((cat L (ids.take q)).length : Int)) f hxl (hp.below hw) (by omega) (by omega) (by omega)
    rw [show ((ids[q].toNat : Nat) : Int) = ids[q] by omega] at h
    obtain ⟨_, _, _, d3⟩ := cells_gk hcell ids[q].toNat (by rw [List.length_map]; exact hxl)
    rw [List.getElem_map] at d3
    simp only [Nat.zero_add] at d3
    exact ⟨h, ⟨by omega, by omega⟩, _, (hw.cell (p := ⟨g, ids[q].toNat * 4 + 3, none⟩) hg).trans d3, by show _ + (L[ids[q].toNat].s.size : Int) = _; omega, by omega⟩)
  obtain ⟨X, hX⟩ : ∃ X, w.heap.size = X := ⟨_, rfl⟩
  have hst : Gro w W3 w.heap.size _ _ kk a (a + wd) 0 [] [] (fun _ => False) (.slice none 0 0) := ⟨rfl, hb3, hx0, hx1, hx2, Mine.nil _ _, rfl, OTies.nil, fun h hh => hh.elim⟩
  rw [hX] at hst hx1 hbz hg
  have HX := Lib.hid hX
  have HST := Lib.hid hst
  have HW3 := Lib.hid hW3
  obtain ⟨⟨x0, x1, x2, x3⟩, _⟩ := four_cells0 hx1
  have xz := (Array.getElem?_eq_some_iff.1 hx1).1
  have hwrap : wrap64 (a + wd) = a + wd := by unfold wrap64; omega
  clear hp hcell ho hgood hfew hkk htx hids hpk hwd hsmall hlow hkids hb3 hx0 hx1 hx2 ih hX hst hW3 hab hcatw hcatl hnode hf
  go_enter Try.func53, Try.ntmps53
  have hX := HX.out
  go_wp2_with (go_at_call 49; rw [HW3.out]; (with_reducible refine (HU.out _).mono ?_); rintro e w4 ⟨v4, rfl, hb4, hm4⟩; obtain ⟨g4, o4, c4, rfl, ho4, hg4, hg4z⟩ := Mine.shape hm4; have HE4 := Lib.hid (And.intro hb4 (And.intro hm4 (And.intro ho4 (And.intro hg4 hg4z)))); clear hb4 hm4 ho4 hg4 hg4z)
  clear hX x0 x1 x2 x3 xz c0 c1 a0 a1 a2 a3 hwrap
  -- the pool stays
  have HPOOL : Hid (∀ wr, Below w.heap.size w wr → (wr.cell? ⟨b, 1, none⟩ = some (.slice (some ⟨g, 0, none⟩) L.length c)) ∧ b < wr.heap.size ∧ g < wr.heap.size) := Lib.hid (fun wr hw => ⟨(hw.cell (p := ⟨b, 1, none⟩) HP.out.2.1).trans HP.out.1, Nat.lt_of_lt_of_le HP.out.2.1 hw.size, Nat.lt_of_lt_of_le HP.out.2.2 hw.size⟩)
  have HROW : Hid (∀ wr, Mine it wr 0 (.slice o4 ids.length c4) ids → ∀ (q : Nat) (hq : q < ids.length), o4 = some ⟨g4, 0, none⟩ ∧ wr.cell? ⟨g4, q, none⟩ = some (.int .i64 ids[q]) ∧ g4 < wr.heap.size) := Lib.hid (fun wr hm q hq => by
    have hne : ids ≠ [] := by intro e; rw [e] at hq; simp at hq
    obtain rfl := HE4.out.2.2.1 hne
    have e1 := cells_it (Mine.cells hm) q hq
    rw [Nat.zero_add] at e1
    exact ⟨rfl, e1, hm.lt g4 rfl⟩)
  go_loopw [32, 2] (fun p az wr => ∃ (q : Nat) (R' : List Rn) (E : Nat → Prop) (vo : Value), q ≤ ids.length ∧ p = .int .i64 (q : Int) ∧ az = .int .i64 (a + ((cat L (ids.take q)).length : Int)) ∧ Mine it wr 0 (.slice o4 ids.length c4) ids ∧ Gro w wr X (.cells #[.int .i64 0, .int .i64 0, .int .i64 0, .slice none 0 0] 24 (0, 0)) (.cells #[.int .i64 kk, .string tx, .string pk, .int .i64 wd] 90 (0, 0)) kk a (a + wd) q ((kidsT L (nodeT L f) ids a).take q) R' E vo) (fun p _ _ => ids.length - (intOf p).toNat)
  case atStart => exact ⟨0, [], _, _, Nat.zero_le _, rfl, by rw [List.take_zero]; show _ = Value.int .i64 (a + ((cat L []).length : Int)); simp [cat], HE4.out.2.1.mono (Nat.zero_le _), HST.out.more HE4.out.1⟩
  case round =>
    obtain ⟨q, R', E, vo, hql, rfl, rfl, hrow, hs⟩ := hrel
    have hkl := HG.out.2.1
    by_cases hlt2 : q < ids.length
    · obtain ⟨ho4, e2, hgz⟩ := HROW.out wr hrow q hlt2
      subst ho4
      have hbw := hs.below
      obtain ⟨hcall, ⟨hx0, hxl⟩, wx, hwx, hsum, hbnd⟩ := HKID.out q hlt2 wr hbw
      have hsn := kidsT_snoc L (nodeT L f) ids a hlt2
      have q2 := (Array.getElem?_eq_some_iff.1 hs.x2).1
      obtain ⟨⟨_, _, _, b3⟩, _⟩ := four_cells0 hs.x2
      obtain ⟨x, hx⟩ : ∃ x, ids[q] = x := ⟨_, rfl⟩
      obtain ⟨tk, htk⟩ : ∃ t, nodeT L f ids[q].toNat (a + ((cat L (ids.take q)).length : Int)) = t := ⟨_, rfl⟩
      obtain ⟨az, haz⟩ : ∃ z, a + ((cat L (ids.take q)).length : Int) = z := ⟨_, rfl⟩
      obtain ⟨az2, haz2⟩ : ∃ z, a + ((cat L (ids.take (q + 1))).length : Int) = z := ⟨_, rfl⟩
      rw [htk] at hcall hsn
      rw [haz] at hcall hsum ⊢
      rw [haz2] at hsum hbnd
      rw [hx] at e2 hcall hx0 hxl hwx
      have HPUT := Lib.hid (fun w9 n h1 h2 => hs.put (w9 := w9) (t := tk) (n := n) (by omega) h1 h2)
      have HCALL : Hid (∀ u, Below wr.heap.size wr u → Calls Try.prog 53 #[.pointer (some ⟨b, 0, none⟩), .int .i64 x, .int .i64 az] u fun e w' => ∃ n : Rn, e = .returned n.v ∧ Below u.heap.size u w' ∧ Fresh wr.heap.size w' tk n) := Lib.hid (fun u hu => by
        obtain ⟨hc, _⟩ := HKID.out q hlt2 u (hbw.trans (hu.mono hbw.size))
        rw [htk, haz, hx] at hc
        exact hc.mono fun e w' ⟨n', h1, h2, h3⟩ => ⟨n', h1, h2, h3.mono hu.size⟩)
      have HX2 : Hid (∀ u, Below wr.heap.size wr u → u.cell? ⟨X + 1 + 1, 3, none⟩ = some vo ∧ X + 1 + 1 < u.heap.size) := Lib.hid (fun u hu => ⟨(hu.cell (p := ⟨X + 2, 3, none⟩) q2).trans b3, Nat.lt_of_lt_of_le q2 hu.size⟩)
      have HKEEP : Hid (∀ (V : World), (∀ z, z < wr.heap.size → vo.ownBlock ≠ some z → z ≠ X + 2 → V.heap[z]? = wr.heap[z]?) → Mine it V 0 (.slice (some ⟨g4, 0, none⟩) ids.length c4) ids) := Lib.hid (fun V hV => hrow.keep (fun z hz hzl => hV z hzl (hrow.differs hs.row (by decide) z hz) (fun e => hrow.ne hs.x2 (by decide) (e ▸ hz))))
      have HSN := Lib.hid (And.intro hsn (And.intro haz2 (And.intro hsum (And.intro hbnd haz))))
      have HXX := Lib.hid (And.intro hx0 (And.intro hxl hx))
      have hq0 : (0 : Int) ≤ (q : Int) := by omega
      have hww : (q : Int) + 1 ≤ 2932031007318 := by omega
      have hd : decide ((q : Int) < (ids.length : Int)) = true := decide_eq_true (by omega)
      have hd' : decide (q < ids.length) = true := decide_eq_true hlt2
      clear hs hrow hcall hsn htk haz haz2 hx hbw hsum hbnd hwx q2 b3 hx0 hxl
      go_wp2_with fail
      obtain ⟨y3, hz3⟩ := HX2.out _ (Below.refl _ _)
      have y3' := (HX2.out _ (Below.refl _ _).drew).1
      go_cut [] (fun wx => ∃ n E' vo', Gro w wx X (.cells #[.int .i64 0, .int .i64 0, .int .i64 0, .slice none 0 0] 24 (0, 0)) (.cells #[.int .i64 kk, .string tx, .string pk, .int .i64 wd] 90 (0, 0)) kk a (a + wd) (q + 1) ((kidsT L (nodeT L f) ids a).take q ++ [tk]) (R' ++ [n]) E' vo' ∧ Mine it wx 0 (.slice (some ⟨g4, 0, none⟩) ids.length c4) ids)
      case first =>
        go_region_law (first
          | (go_simp; go_at_call 53; (with_reducible refine (HCALL.out _ ?_).mono ?_); (first | exact (Below.refl _ _).drew | exact Below.refl _ _); rintro e w9 ⟨⟨mk, mi, mj, mo, mn, mc⟩, rfl, hb9, hf9⟩; have hbb : Below wr.heap.size wr w9 := (by first | exact (Below.refl _ _).drew.trans hb9 | exact hb9); have HP9 := Lib.hid (HPUT.out w9 _ hbb hf9); obtain ⟨y4, hz4⟩ := HX2.out _ hbb; clear hb9 hf9 hbb; dsimp only [Rn.v])
          | ((first | refine step_append_ex rfl _ _ _ _ rfl _ _ rfl rfl (HP9.out _ ((Below.refl _ _).alloc (Nat.le_refl _) _) _ (heap_alloc_last _ _)) ?_ | refine step_append_wp _ _ _ _ rfl _ _ rfl rfl (HP9.out _ ((Below.refl _ _).alloc (Nat.le_refl _) _) _ (heap_alloc_last _ _)) ?_); rintro v' w' ⟨⟨g', cap', rfl⟩, c4', f4, hbw4, E', hs', hkp⟩; have HS' := Lib.hid (And.intro hs' (HKEEP.out _ hkp)); clear hs' hkp))
        all_goals (try go_wp2_with fail)
        all_goals go_meet
        all_goals first
          | exact ⟨_, _, _, HS'.out.1, HS'.out.2⟩
          | exact ⟨_, _, _, HS'.out.1.more (Below.refl _ _).drew, HS'.out.2.below (Below.refl _ _).drew⟩
      case rest =>
        obtain ⟨n, E', vo', hs', hrow'⟩ := hcut
        clear y3 hz3 y3'
        obtain ⟨p1, pbz, pgz⟩ := HPOOL.out wc hs'.below
        obtain ⟨_, _, wx2, hwx2, hsum2, _⟩ := HKID.out q hlt2 wc hs'.below
        rw [HXX.out.2.2] at hwx2
        obtain ⟨hx0, hxl, _⟩ := HXX.out
        have HS' := Lib.hid (And.intro hs' hrow')
        have hwxe : wx2 = wx := by
          have h1 := HSN.out.2.2.1
          have h2 := HSN.out.2.1
          have h3 := HSN.out.2.2.2.2
          omega
        subst hwxe
        have hwr : wrap64 (az + wx2) = az2 := by
          have h1 := HSN.out.2.2.1
          have h4 := HSN.out.2.2.2.1
          have h5 := HSN.out.2.2.2.2
          unfold wrap64
          omega
        have hd1 : decide (x < (L.length : Int)) = true := decide_eq_true hxl
        clear hs' hrow' hsum2
        go_wp2_with fail
        go_roundw
        case rel => exact ⟨q + 1, _, _, _, by omega, by go_num, by rw [HSN.out.2.1, hwr], HS'.out.2, by rw [HSN.out.1]; exact HS'.out.1⟩
        case measure => simp [intOf]; omega
    · obtain rfl : q = ids.length := by omega
      have hd : decide ((ids.length : Int) < (ids.length : Int)) = false := decide_eq_false (by omega)
      rw [List.take_of_length_le (by rw [kidsT_len]; exact Nat.le_refl _)] at hs
      obtain ⟨gv, ov, cv, rfl, hov, hgv⟩ := Mine.shape hs.row
      rw [hs.len] at hs
      obtain ⟨⟨n0, n1, n2, n3⟩, _⟩ := four_cells0 hs.x2
      obtain ⟨⟨m0, m1, m2, m3⟩, fm⟩ := four_cells0 hs.x0
      have q0 := (Array.getElem?_eq_some_iff.1 hs.x0).1
      have q2 := (Array.getElem?_eq_some_iff.1 hs.x2).1
      have f0 := fm 0
      have f1 := fm 1
      have f2 := fm 2
      have f3 := fm 3
      have n0' : wr.cell? ⟨X + 1 + 1, 0, none⟩ = some (.int .i64 kk) := n0
      have n1' : wr.cell? ⟨X + 1 + 1, 1, none⟩ = some (.int .i64 a) := n1
      have n2' : wr.cell? ⟨X + 1 + 1, 2, none⟩ = some (.int .i64 (a + wd)) := n2
      have n3' : wr.cell? ⟨X + 1 + 1, 3, none⟩ = some (.slice ov ids.length cv) := n3
      have q2' : X + 1 + 1 < wr.heap.size := q2
      have hbox : ((((wr.setCell ⟨X, 0, none⟩ (.int .i64 kk)).setCell ⟨X, 1, none⟩ (.int .i64 a)).setCell ⟨X, 2, none⟩ (.int .i64 (a + wd))).setCell ⟨X, 3, none⟩ (.slice ov ids.length cv)).heap[X]? = some (.cells #[.int .i64 kk, .int .i64 a, .int .i64 (a + wd), .slice ov ids.length cv] 24 (0, 0)) := heap_setCell_same _ _ 3 _ _ _ (heap_setCell_same _ _ 2 _ _ _ (heap_setCell_same _ _ 1 _ _ _ (heap_setCell_same _ _ 0 _ _ _ hs.x0)))
      have hsm : ∀ k', k' ≠ X → ((((wr.setCell ⟨X, 0, none⟩ (.int .i64 kk)).setCell ⟨X, 1, none⟩ (.int .i64 a)).setCell ⟨X, 2, none⟩ (.int .i64 (a + wd))).setCell ⟨X, 3, none⟩ (.slice ov ids.length cv)).heap[k']? = wr.heap[k']? := fun k' hk => by
        rw [set_one _ _ _ _ _ hk, set_one _ _ _ _ _ hk, set_one _ _ _ _ _ hk, set_one _ _ _ _ _ hk]
      have hz : ((((wr.setCell ⟨X, 0, none⟩ (.int .i64 kk)).setCell ⟨X, 1, none⟩ (.int .i64 a)).setCell ⟨X, 2, none⟩ (.int .i64 (a + wd))).setCell ⟨X, 3, none⟩ (.slice ov ids.length cv)).heap.size = wr.heap.size := by rw [size_set, size_set, size_set, size_set]
      have HH := Lib.hid (And.intro hs (And.intro hbox (And.intro hsm hz)))
      clear hs hbox hsm hz fm n0 n1 n2 n3 hov hgv hrow q2
      go_wp2_with fail
      obtain ⟨hs, hbox, hsm, hz⟩ := HH.out
      have hbase := hs.base
      refine bodyPost_ret (v := .agg #[.int .i64 kk, .int .i64 a, .int .i64 (a + wd), .slice ov ids.length cv]) (results_cell_row rfl _ _ X 24 _ (0, 0) _ rfl hbox Try.underlying24 rfl (by as_aux_lemma => kernel_rfl)) rfl ?_
      have hbl := hs.below
      have hown : ∀ g, (Value.slice ov ids.length cv).ownBlock = some g → X + 3 ≤ g ∧ g < wr.heap.size := fun g hg => World.ownsRow.lt hs.row g hg
      refine ⟨⟨kk, a, a + wd, ov, ids.length, cv⟩, rfl, ⟨hbl.os, hbl.tape, hbl.output, by rw [hz]; exact hbl.size, fun k' hk => (hsm k' (by omega)).trans (hbl.block k' hk)⟩, fun g => E g ∨ (Value.slice ov ids.length cv).ownBlock = some g, ?_, fun g hg => ?_⟩
      · rw [OTie]
        refine ⟨rfl, rfl, rfl, (kidsT_len _ _ _ _).symm, by rw [kidsT_len]; exact hkl, R', E, (hs.row.mono (Nat.zero_le _)).keep (fun g hg _ => hsm g (by have := hown g hg; omega)), fun g hg => ⟨.inr hg, fun he => (hs.dead g he).2.2 hg⟩, fun g hg => .inl hg, ?_⟩
        exact OTies.keep (fun g hg => hsm g (by have := (hs.dead g hg).1; omega)) (fun _ h => h) _ _ hs.own
      · rw [hz]
        rcases hg with hg | hg
        · have := hs.dead g hg
          omega
        · have := hown g hg
          omega
theorem placed_any (id : Nat) : PlacedC id := by
  induction id using Nat.strongRecOn with
  | _ id ih => exact placed_step id ih
end Go.Proofs.Ytnnffcfdokejbaa.rd
