/-
  Layer 8: the program's write, Text.
-/
import Derived.Test.YtnnffcfdokejbaaTp
import Derived.Test.YtnnffcfdokejbaaTk
namespace Go.Proofs.Ytnnffcfdokejbaa.rd
open Go.RowKit

theorem Bld.below {Bs bb : Nat} {l : List UInt8} {w w' : World} (h : Bld Bs bb l w) (hb : Below w.heap.size w w') : Bld Bs bb l w' := by
  have k : ∀ {p : Value}, Lib.BuilderAtF 95 5 Bs bb p (Lib.byteCells l) w → Lib.BuilderAtF 95 5 Bs bb p (Lib.byteCells l) w' := fun ⟨h1, v, h2, h3, h4⟩ =>
    ⟨h1, v, (hb.block _ (Array.getElem?_eq_some_iff.1 h2).1).trans h2, h3.kept (row := none) ⟨hb.os, hb.tape, hb.output, hb.size, fun i hi _ => hb.block i hi⟩ (by cases v.ownBlock <;> simp), h4⟩
  exact h.elim (fun x => .inl (k x)) (fun x => .inr (k x))
/-- What a builder's writing leaves alone. -/
structure Wr (Bs bb : Nat) (w w' : World) : Prop where
  below : Below Bs w w'
  others : Lib.OthersKept 5 (some bb) w w'
theorem Wr.trans {Bs bb : Nat} {w w1 w2 : World} (h : Wr Bs bb w w1) (h2 : Wr Bs bb w1 w2) : Wr Bs bb w w2 := ⟨h.below.trans h2.below, h.others.trans h2.others⟩
theorem Wr.of_below {Bs bb : Nat} {w w' : World} (h : Below w.heap.size w w') (hB : Bs ≤ w.heap.size) : Wr Bs bb w w' :=
  ⟨h.mono hB, fun k _ hk _ _ => (h.block k (Array.getElem?_eq_some_iff.1 hk).1).trans hk⟩
theorem Wr.block {Bs bb : Nat} {w w' : World} (h : Wr Bs bb w w') {X : Nat} {y : Array Value} {t : TypeId} {z : Nat × Nat} (hX : w.heap[X]? = some (.cells y t z)) (hne : X ≠ bb) (ht : t ≠ 5) : w'.heap[X]? = some (.cells y t z) :=
  h.others X _ hX (fun e => hne (Option.some.inj e)) (fun c fz e => by
    simp only [Obj.cells.injEq] at e
    exact ht e.2.1)
theorem cat_snoc (L : List Gr) (l : List Int) {q : Nat} (h : q < l.length) : cat L (l.take (q + 1)) = cat L (l.take q) ++ ((L[l[q].toNat]?).map fun g => g.s.data.toList).getD [] := by
  rw [List.take_add_one, List.getElem?_eq_getElem h, cat_append]
  simp [cat]
theorem cat_le (L : List Gr) (l : List Int) (q : Nat) : (cat L (l.take q)).length ≤ (cat L l).length := by
  have e := cat_append L (l.take q) (l.drop q)
  rw [List.take_append_drop] at e
  rw [e, List.length_append]
  omega
theorem row_block {α : Type} {F : Kd α} {w : World} {B0 g n c : Nat} {T : List α} (h : Mine F w B0 (.slice (some ⟨g, 0, none⟩) n c) T) : ∃ cur, w.heap[g]? = some (.cells cur F.e (0, 0)) := by
  rcases h.2 with ⟨e, _⟩ | ⟨q, cap, cur, e, _, hh, _⟩
  · cases e
  · simp only [Value.slice.injEq, Option.some.injEq, Addr.mk.injEq] at e
    obtain ⟨⟨rfl, _⟩, _⟩ := e
    exact ⟨cur, hh⟩
/-- What write is held to. -/
def WriteC (id : Nat) : Prop := ∀ (w : World) (b m : Nat) (vN : Value) (L : List Gr) (Bs bb : Nat) (acc : List UInt8) (hlt : id < L.length), PoolG w b m vN L → Bld Bs bb acc w → (∀ k, dd b m vN k → k < Bs) → Bs ≤ w.heap.size → acc.length + L[id].s.size ≤ 140737488355328 →
  Calls Try.prog 51 #[.pointer (some ⟨b, 0, none⟩), .pointer (some ⟨bb, 0, none⟩), .int .i64 (id : Int)] w fun e w' => e = .returned (.tuple #[]) ∧ Bld Bs bb (acc ++ L[id].s.data.toList) w' ∧ Wr Bs bb w w'
theorem gk_box (w : World) (k z : Int) (x y : ByteArray) : (w.alloc (.cells #[.int .i64 k, .string x, .string y, .int .i64 z] 90)).heap[w.heap.size]? = some (.cells #[.int .i64 k, .string x, .string y, .int .i64 z] 90 (0, 0)) := heap_alloc_last w _
set_option maxRecDepth 100000 in
set_option maxHeartbeats 4000000 in
theorem write_step (id : Nat) (ih : ∀ j, j < id → WriteC j) : WriteC id := by
  intro w b m vN L Bs bb acc hlt hp hbd hdd hBs hlen
  obtain ⟨g, o, c, rfl, ho, ⟨c0, c1⟩, hbz, hcell⟩ := hp.out
  obtain ⟨rfl, hg⟩ := ho (by intro e; rw [e] at hlt; simp at hlt)
  obtain ⟨a0, a1, a2, a3⟩ := cells_gk hcell id (by rw [List.length_map]; exact hlt)
  rw [List.getElem_map] at a0 a1 a2 a3
  simp only [Nat.zero_add] at a0 a1 a2 a3
  have hgood := hp.ok.all id hlt
  have hfew := hp.ok.few
  have hi0 : (0 : Int) ≤ (id : Int) := by omega
  have hin : (id : Int) < (L.length : Int) := by omega
  obtain ⟨kk, hkk⟩ : ∃ x, L[id].k = x := ⟨_, rfl⟩
  obtain ⟨tx, htx⟩ : ∃ x, leafS L[id] = x := ⟨_, rfl⟩
  obtain ⟨ids, hids⟩ : ∃ x, L[id].l = x := ⟨_, rfl⟩
  obtain ⟨pk, hpk⟩ : ∃ x, B (packL ids) = x := ⟨_, rfl⟩
  obtain ⟨wd, hwd⟩ : ∃ x : Int, (L[id].s.size : Int) = x := ⟨_, rfl⟩
  change w.cell? ⟨g, id * 4, none⟩ = some (.int .i64 L[id].k) at a0
  change w.cell? ⟨g, id * 4 + 1, none⟩ = some (.string (leafS L[id])) at a1
  change w.cell? ⟨g, id * 4 + 2, none⟩ = some (.string (B (packL L[id].l))) at a2
  change w.cell? ⟨g, id * 4 + 3, none⟩ = some (.int .i64 (L[id].s.size : Int)) at a3
  have hsmall := hgood.small (by omega)
  have hlow := hgood.low
  have hkids := hgood.kids
  -- the bytes: the node's own, then the kids'
  have hbytes : L[id].s.data.toList = tx.data.toList ++ cat L ids := by
    rw [← htx, ← hids]
    unfold leafS
    cases hk : leafK L[id].k with
    | true => rw [hgood.leaf hk]; simp [cat]
    | false => rw [hgood.node hk]; rfl
  have hsz : tx.size + (cat L ids).length = L[id].s.size := by
    have := congrArg List.length hbytes
    rw [List.length_append, sdata, sdata] at this
    omega
  rw [hids] at hsmall hlow hkids a2
  rw [hpk] at a2
  rw [hkk] at a0
  rw [htx] at a1
  rw [hwd] at a3
  rw [hbytes]
  have hb1 : Below w.heap.size w (w.alloc (.cells #[.int .i64 kk, .string tx, .string pk, .int .i64 wd] 90)) := (Below.refl _ _).alloc (Nat.le_refl _) _
  have hx1 := gk_box w kk wd tx pk
  have hbbz : bb < w.heap.size := by
    rcases hbd with h | h
    · exact h.lt
    · exact h.lt
  have HW := Lib.hid (writeS_any Bs bb acc tx _ (hbd.below hb1) (by omega) (Nat.le_trans hBs hb1.size))
  have HU := Lib.hid (fun u => unpacked_any u ids hsmall (by omega))
  rw [hpk] at HU
  have HB1 := Lib.hid (And.intro hb1 (And.intro hx1 hbbz))
  have HP := Lib.hid (And.intro hp (And.intro hdd hBs))
  have HG := Lib.hid (And.intro hlow (And.intro hkids (And.intro hsz (And.intro hlen hfew))))
  -- one kid
  have HKID : Hid (∀ (q : Nat) (hq : q < ids.length) (wr : World), Wr Bs bb w wr → Bld Bs bb (acc ++ tx.data.toList ++ cat L (ids.take q)) wr → Calls Try.prog 51 #[.pointer (some ⟨b, 0, none⟩), .pointer (some ⟨bb, 0, none⟩), .int .i64 ids[q]] wr fun e w' => e = .returned (.tuple #[]) ∧ Bld Bs bb (acc ++ tx.data.toList ++ cat L (ids.take (q + 1))) w' ∧ Wr Bs bb wr w') := Lib.hid (fun q hq wr hw hbl => by
    have hx := hlow ids[q] (List.getElem_mem hq)
    have hxl : ids[q].toNat < L.length := by omega
    have hc1 := cat_snoc L ids hq
    rw [List.getElem?_eq_getElem hxl] at hc1
    simp only [Option.map_some, Option.getD_some] at hc1
    have hc2 := cat_le L ids (q + 1)
    rw [hc1, List.length_append, sdata] at hc2
    have h := ih ids[q].toNat (by omega) wr b m _ L Bs bb _ hxl (hp.keep (fun k hk => hw.below.block k (hdd k hk))) hbl hdd (Nat.le_trans hBs hw.below.size) (by rw [List.length_append, List.length_append, sdata]; omega)
    rw [show ((ids[q].toNat : Nat) : Int) = ids[q] by omega] at h
    rw [hc1, ← List.append_assoc]
    exact h)
  obtain ⟨X, hX⟩ : ∃ X, w.heap.size = X := ⟨_, rfl⟩
  rw [hX] at hx1
  have HX := Lib.hid hX
  obtain ⟨W1, hW1⟩ : ∃ W1, w.alloc (.cells #[.int .i64 kk, .string tx, .string pk, .int .i64 wd] 90) = W1 := ⟨_, rfl⟩
  rw [hW1] at hx1 HW
  obtain ⟨⟨x0, x1, x2, x3⟩, _⟩ := four_cells0 hx1
  have xz := (Array.getElem?_eq_some_iff.1 hx1).1
  have HW1 := Lib.hid hW1
  have HXX := Lib.hid hx1
  have HCT := Lib.hid (show acc ++ (tx.data.toList ++ cat L ids) = acc ++ tx.data.toList ++ cat L (ids.take ids.length) by rw [List.take_of_length_le (Nat.le_refl _), List.append_assoc])
  clear hp hcell ho hgood hfew hkk htx hids hpk hwd hsmall hlow hkids hbytes hsz hb1 hx1 hdd hBs hlen ih hbd hbbz hX
  rw [HCT.out]
  go_enter Try.func51, Try.ntmps51
  have hX := HX.out
  go_wp2_with (first
    | (go_at_call 67; (with_reducible refine HW.out.mono ?_); rintro e w2 ⟨rfl, hbl2, hbe2, hoth2⟩; have hx2 : w2.heap[X]? = _ := (Wr.mk hbe2 hoth2).block HXX.out (by have := HB1.out.2.2; omega) (by decide); obtain ⟨⟨y0, y1, y2, y3⟩, _⟩ := four_cells0 hx2; have yz := (Array.getElem?_eq_some_iff.1 hx2).1; have HE2 := Lib.hid (And.intro hbl2 (Wr.mk hbe2 hoth2)); clear hbl2 hbe2 hoth2 hx2)
    | (go_at_call 49; (with_reducible refine (HU.out _).mono ?_); rintro e w3 ⟨v3, rfl, hb3, hm3⟩; obtain ⟨g3, o3, c3, rfl, ho3, hg3, hg3z⟩ := Mine.shape hm3; have HE3 := Lib.hid (And.intro hb3 (And.intro hm3 (And.intro ho3 (And.intro hg3 hg3z)))); clear hb3 hm3 ho3 hg3 hg3z))
  clear hX x0 x1 x2 x3 xz y0 y1 y2 y3 yz c0 c1 a0 a1 a2 a3
  have hw3 : Wr Bs bb w w3 := by
    obtain ⟨hb1, _, _⟩ := HB1.out
    rw [HW1.out] at hb1
    have h2 := HE2.out.2
    have hs := HP.out.2.2
    have h1 : Wr Bs bb w W1 := Wr.of_below hb1 hs
    have h3 := HE3.out.1
    have hz2 : Bs ≤ w2.heap.size := Nat.le_trans hs (h1.trans h2).below.size
    exact (h1.trans h2).trans (Wr.of_below h3 hz2)
  have HW3 := Lib.hid hw3
  clear hw3
  go_loopw [26] (fun p wr => ∃ q : Nat, q ≤ ids.length ∧ p = .int .i64 (q : Int) ∧ Wr Bs bb w3 wr ∧ Bld Bs bb (acc ++ tx.data.toList ++ cat L (ids.take q)) wr) (fun p _ => ids.length - (intOf p).toNat)
  case atStart => exact ⟨0, Nat.zero_le _, rfl, ⟨Below.refl _ _, Lib.OthersKept.refl _ _ _⟩, by rw [List.take_zero]; show Bld Bs bb (acc ++ tx.data.toList ++ []) w3; rw [List.append_nil]; exact Bld.below HE2.out.1 HE3.out.1⟩
  case round =>
    obtain ⟨q, hql, rfl, hw, hbl⟩ := hrel
    have hkl := HG.out.2.1
    by_cases hlt : q < ids.length
    · have hne : ids ≠ [] := by intro e; rw [e] at hlt; simp at hlt
      have hm3 := HE3.out.2.1
      obtain rfl := HE3.out.2.2.1 hne
      obtain ⟨cur, hcur⟩ := row_block hm3
      have hgb : g3 ≠ bb := by
        have h1 := HE3.out.2.2.2.1
        have h2 := HB1.out.2.2
        have h4 := HE2.out.2.others
        have h5 : bb < w2.heap.size := by
          rcases HE2.out.1 with h | h
          · exact h.lt
          · exact h.lt
        omega
      have hg3 := hw.block hcur hgb (by decide)
      have e1 := cells_it (Mine.cells hm3) q hlt
      rw [Nat.zero_add] at e1
      have e2 : wr.cell? ⟨g3, q, none⟩ = some (.int .i64 ids[q]) := (cell_same (hg3.trans hcur.symm) q).trans e1
      have hgz := (Array.getElem?_eq_some_iff.1 hg3).1
      have HCALL := Lib.hid (HKID.out q hlt wr (HW3.out.trans hw) hbl)
      obtain ⟨x, hx⟩ : ∃ x, ids[q] = x := ⟨_, rfl⟩
      rw [hx] at e2 HCALL
      have HWW := Lib.hid hw
      have hq0 : (0 : Int) ≤ (q : Int) := by omega
      have hww : (q : Int) + 1 ≤ 2932031007318 := by omega
      have hd : decide ((q : Int) < (ids.length : Int)) = true := decide_eq_true (by omega)
      have hd' : decide (q < ids.length) = true := decide_eq_true hlt
      clear hm3 hcur hg3 e1 hx hw hbl hne hgb hkl
      go_wp2_with (go_at_call 51; (with_reducible refine HCALL.out.mono ?_); rintro e w9 ⟨rfl, hbl9, hw9⟩; have HE9 := Lib.hid (And.intro hbl9 hw9); clear hbl9 hw9)
      go_roundw
      case rel => exact ⟨q + 1, by omega, by go_num, HWW.out.trans HE9.out.2, HE9.out.1⟩
      case measure => simp [intOf]; omega
    · obtain rfl : q = ids.length := by omega
      have hd : decide ((ids.length : Int) < (ids.length : Int)) = false := decide_eq_false (by omega)
      have HE := Lib.hid (And.intro hbl (HW3.out.trans hw))
      clear hw hbl
      go_wp2_with fail
      go_end0
      exact ⟨rfl, HE.out⟩
theorem write_any (id : Nat) : WriteC id := by
  induction id using Nat.strongRecOn with
  | _ id ih => exact write_step id ih
end Go.Proofs.Ytnnffcfdokejbaa.rd
