/-
  Layer 8: the law GreenTells, over what the program's functions are held to.
-/
import Derived.Test.YtmnnjmjdggjlmaaQe
namespace Go.Proofs.Ytmnnjmjdggjlmaa.rd
open Go.RowKit

set_option maxRecDepth 100000 in
set_option maxHeartbeats 4000000 in
theorem tells_law (HSH : ShownC) (HPA : PartsC 38) (HSI : ∀ t, ShiftC 40 t) (HSA : ∀ t, SameC 41 t) (t t2 : Tree) (w : World) (n n2 : Rn) (d : Int) (ht : Hid (TieB w t n)) (ht2 : Hid (TieB w t2 n2)) (hin : InR t) :
    Calls Try.prog 9 #[n.v, n2.v, .int .i64 d] w fun e w' => e = .returned (.bool true) ∧ Below w.heap.size w w' := by
  obtain ⟨nk, ni, nj, no, nn, nc⟩ := n
  obtain ⟨pk, pi, pj, po, pn, pc⟩ := n2
  have HSN := Lib.hid HSH
  have HASK := Lib.hid (fun (u : World) (X X2 Y : Nat) (m : Rn) (h : Tl w u X X2 Y ⟨nk, ni, nj, no, nn, nc⟩ ⟨pk, pi, pj, po, pn, pc⟩ m t t2) => h.asks HPA HSI HSA d)
  have hcp : ∀ u, Below w.heap.size w u → Calls Try.prog 11 #[.agg #[.int .i64 nk, .int .i64 ni, .int .i64 nj, .slice no nn nc]] u fun e w' => ∃ n', e = .returned n'.v ∧ Below u.heap.size u w' ∧ Fresh u.heap.size w' t n' := fun u hu => by
    have h := copy_any t u ⟨nk, ni, nj, no, nn, nc⟩ (TieB.below ht hu)
    rw [shiftT_zero t hin] at h
    exact h
  have HCP := Lib.hid hcp
  obtain ⟨W1, hW1, hx1, hy1, hbx⟩ := two_node_boxes w nk ni nj pk pi pj no po nn nc pn pc
  obtain ⟨X, hX⟩ : ∃ X, w.heap.size = X := ⟨_, rfl⟩
  obtain ⟨X2, hX2⟩ : ∃ X2, w.heap.size + 1 = X2 := ⟨_, rfl⟩
  rw [hX2] at hy1
  have HT := Lib.hid (And.intro ht ht2)
  have HB := Lib.hid (And.intro hW1 (And.intro hbx (And.intro (show Box W1 w.heap.size ⟨nk, ni, nj, no, nn, nc⟩ from hx1) (And.intro (show Box W1 X2 ⟨pk, pi, pj, po, pn, pc⟩ from hy1) (And.intro hX hX2)))))
  clear ht ht2 hin hcp hW1 hx1 hy1 hbx hX hX2 HSH HPA HSI HSA
  show Calls Try.prog 9 #[.agg #[.int .i64 nk, .int .i64 ni, .int .i64 nj, .slice no nn nc], .agg #[.int .i64 pk, .int .i64 pi, .int .i64 pj, .slice po pn pc], .int .i64 d] w _
  go_enter Try.func9, Try.ntmps9
  go_wp2_with (first
    | (go_at_call 10; rw [HB.out.1]; refine (HSN.out _).mono ?_; rintro e w1 ⟨rfl, hb1⟩; obtain ⟨⟨x0, x1, x2, x3⟩, xz⟩ := (HB.out.2.2.1.below hb1).cells; have HB1 := Lib.hid hb1; clear hb1)
    | (go_at_call 11; refine (HCP.out _ (HB.out.2.1.trans (HB1.out.mono HB.out.2.1.size))).mono ?_; rintro e w2 ⟨⟨mk, mi, mj, mo, mn, mc⟩, rfl, hb2, hf2⟩; have HF := Lib.hid (And.intro hb2 hf2); clear hb2 hf2; dsimp only [Rn.v]))
  have hw2 : Below w.heap.size w w2 := HB.out.2.1.trans ((HB1.out.trans (HF.out.1.mono HB1.out.size)).mono HB.out.2.1.size)
  have hb3 : Below w2.heap.size w2 (w2.alloc (.cells #[.int .i64 mk, .int .i64 mi, .int .i64 mj, .slice mo mn mc] 24)) := (Below.refl _ _).alloc (Nat.le_refl _) _
  have hy3 : Box (w2.alloc (.cells #[.int .i64 mk, .int .i64 mi, .int .i64 mj, .slice mo mn mc] 24)) w2.heap.size ⟨mk, mi, mj, mo, mn, mc⟩ := heap_alloc_last w2 _
  have hx3 := (HB.out.2.2.1.below (HB1.out.trans (HF.out.1.mono HB1.out.size))).below hb3
  have hz3 := (HB.out.2.2.2.1.below (HB1.out.trans (HF.out.1.mono HB1.out.size))).below hb3
  obtain ⟨W3, hW3⟩ : ∃ W3, w2.alloc (.cells #[.int .i64 mk, .int .i64 mi, .int .i64 mj, .slice mo mn mc] 24) = W3 := ⟨_, rfl⟩
  obtain ⟨Y, hY⟩ : ∃ Y, w2.heap.size = Y := ⟨_, rfl⟩
  have hfm := (HF.out.2.below hb3).tieB
  rw [hW3] at hb3 hy3 hx3 hz3 hfm
  have hw3 := hw2.trans (hb3.mono hw2.size)
  rw [hY] at hy3
  rw [HB.out.2.2.2.2.1] at hx3
  have HTL : Hid (Tl w W3 X X2 Y ⟨nk, ni, nj, no, nn, nc⟩ ⟨pk, pi, pj, po, pn, pc⟩ ⟨mk, mi, mj, mo, mn, mc⟩ t t2) := Lib.hid ⟨hw3, hx3, hz3, hy3, TieB.below HT.out.1 hw3, TieB.below HT.out.2 hw3, hfm⟩
  have HXX := Lib.hid HB.out.2.2.2.2
  rw [hW3, hY, HXX.out.2, HXX.out.1]
  clear hw2 hb3 hy3 hx3 hz3 hW3 hfm hw3 hY x0 x1 x2 x3 xz HF HB1 HB HT HCP HSN
  obtain ⟨Z3, hZ3⟩ : ∃ Z3, W3.heap.size = Z3 := ⟨_, rfl⟩
  have HZ3 := Lib.hid hZ3
  clear hZ3
  have HAT := Lib.hid (fun (u : World) (hu : Below W3.heap.size W3 u) => And.intro (HASK.out u X X2 Y ⟨mk, mi, mj, mo, mn, mc⟩ (HTL.out.below hu)) (And.intro (HTL.out.below hu).a.cells (And.intro (HTL.out.below hu).b.cells (HTL.out.below hu).o.cells)))
  go_cut [8, 9] (fun v u wx => (PR Z3 wx v (partsL t.l) ∧ PR Z3 wx u (partsL t.l)) ∧ Below W3.heap.size W3 wx)
  case first =>
    obtain ⟨_, ⟨⟨q0, q1, q2, q3⟩, qz⟩, _, ⟨⟨r0, r1, r2, r3⟩, rz⟩⟩ := HAT.out W3 (Below.refl _ _)
    obtain ⟨_, ⟨⟨s0, s1, s2, s3⟩, sz⟩, _, ⟨⟨t0, t1, t2, t3⟩, tz⟩⟩ := HAT.out W3.drew (Below.refl _ _).drew
    go_region_law (first
      | (go_simp; go_at_call 38; refine ((HAT.out _ ?_).1.pp).mono ?_; (first | exact (Below.refl _ _).drew | exact Below.refl _ _); rintro e w9 ⟨v9, rfl, hb9, hp9⟩; have HC : Hid (Below W3.heap.size W3 w9 ∧ PR Z3 w9 v9 (partsL t.l)) := Lib.hid (by rw [← HZ3.out]; first | exact ⟨(Below.refl _ _).drew.trans hb9, hp9⟩ | exact ⟨hb9, hp9⟩); obtain ⟨_, ⟨⟨_, _, _, _⟩, _⟩, _, ⟨⟨_, _, _, _⟩, _⟩⟩ := HAT.out _ HC.out.1; clear hb9 hp9; dsimp only)
      | (go_simp; go_at_call 39; refine ((HAT.out _ HC.out.1).1.pr).mono ?_; rintro e w8 ⟨v8, rfl, hb8, hp8⟩; have HD : Hid ((PR Z3 w8 v9 (partsL t.l) ∧ PR Z3 w8 v8 (partsL t.l)) ∧ Below W3.heap.size W3 w8) := Lib.hid ⟨⟨HC.out.2.below hb8, hp8.mono (by rw [← HZ3.out]; exact HC.out.1.size)⟩, HC.out.1.trans (hb8.mono HC.out.1.size)⟩; clear hb8 hp8; dsimp only))
    all_goals (go_simp; (try go_wp2_with fail); go_meet)
    all_goals exact HD.out
  case rest =>
  obtain ⟨wA, hwA⟩ : ∃ wA, wA = wc := ⟨_, rfl⟩
  subst hwA
  obtain ⟨⟨hp, hq⟩, hbc⟩ := hcut
  obtain ⟨po1, pc1, rfl⟩ := hp.shape
  obtain ⟨qo1, qc1, rfl⟩ := hq.shape
  obtain ⟨K, hK⟩ : ∃ K, (partsL t.l).length = K := ⟨_, rfl⟩
  rw [hK] at hp hq ⊢
  have HK := Lib.hid hK
  have HP := Lib.hid (And.intro (And.intro hp hq) hbc)
  obtain ⟨_, ⟨⟨q0, q1, q2, q3⟩, qz⟩, _, ⟨⟨r0, r1, r2, r3⟩, rz⟩⟩ := HAT.out wA hbc
  clear hp hq hbc hK
  go_wp2_with (go_at_call 40; refine ((HAT.out _ HP.out.2).1.sp).mono ?_; rintro e w4 ⟨⟨sk, si, sj, so, sn, sc⟩, rfl, hb4, hf4⟩; have HS := Lib.hid (And.intro hb4 hf4); clear hb4 hf4; dsimp only [Rn.v])
  have hwc4 : Below wA.heap.size wA w4 := HS.out.1
  have hZA := hwc4.size
  have hb5 : Below w4.heap.size w4 (w4.alloc (.cells #[.int .i64 sk, .int .i64 si, .int .i64 sj, .slice so sn sc] 24)) := (Below.refl _ _).alloc (Nat.le_refl _) _
  have hs5 : Box (w4.alloc (.cells #[.int .i64 sk, .int .i64 si, .int .i64 sj, .slice so sn sc] 24)) w4.heap.size ⟨sk, si, sj, so, sn, sc⟩ := heap_alloc_last w4 _
  have hf5 := HS.out.2.below hb5
  obtain ⟨W4, hW4⟩ : ∃ W4, w4.alloc (.cells #[.int .i64 sk, .int .i64 si, .int .i64 sj, .slice so sn sc] 24) = W4 := ⟨_, rfl⟩
  obtain ⟨Z, hZ⟩ : ∃ Z, w4.heap.size = Z := ⟨_, rfl⟩
  rw [hW4] at hb5 hs5 hf5
  have hwc5 := hwc4.trans (hb5.mono hwc4.size)
  have h35 := HP.out.2.trans (hwc5.mono HP.out.2.size)
  rw [hZ] at hs5 hZA
  rw [hW4, hZ]
  have hall : ∀ u, Below W4.heap.size W4 u → Below W4.heap.size W4 u ∧ u.cell? ⟨X, 0, none⟩ = some (.int .i64 nk) ∧ u.cell? ⟨X, 1, none⟩ = some (.int .i64 ni) ∧ u.cell? ⟨X, 2, none⟩ = some (.int .i64 nj) ∧ u.cell? ⟨X, 3, none⟩ = some (.slice no nn nc) ∧ u.cell? ⟨X2, 0, none⟩ = some (.int .i64 pk) ∧ u.cell? ⟨X2, 1, none⟩ = some (.int .i64 pi) ∧ u.cell? ⟨X2, 2, none⟩ = some (.int .i64 pj) ∧ u.cell? ⟨X2, 3, none⟩ = some (.slice po pn pc) ∧ u.cell? ⟨Y, 0, none⟩ = some (.int .i64 mk) ∧ u.cell? ⟨Y, 1, none⟩ = some (.int .i64 mi) ∧ u.cell? ⟨Y, 2, none⟩ = some (.int .i64 mj) ∧ u.cell? ⟨Y, 3, none⟩ = some (.slice mo mn mc) ∧ u.cell? ⟨Z, 0, none⟩ = some (.int .i64 sk) ∧ u.cell? ⟨Z, 1, none⟩ = some (.int .i64 si) ∧ u.cell? ⟨Z, 2, none⟩ = some (.int .i64 sj) ∧ u.cell? ⟨Z, 3, none⟩ = some (.slice so sn sc) := fun u hu => by
    have h := HTL.out.below (h35.trans (hu.mono h35.size))
    exact ⟨hu, h.a.cells.1.1, h.a.cells.1.2.1, h.a.cells.1.2.2.1, h.a.cells.1.2.2.2, h.b.cells.1.1, h.b.cells.1.2.1, h.b.cells.1.2.2.1, h.b.cells.1.2.2.2, h.o.cells.1.1, h.o.cells.1.2.1, h.o.cells.1.2.2.1, h.o.cells.1.2.2.2, (hs5.below hu).cells.1.1, (hs5.below hu).cells.1.2.1, (hs5.below hu).cells.1.2.2.1, (hs5.below hu).cells.1.2.2.2⟩
  have hask : ∀ u, Below W4.heap.size W4 u → Asks u ⟨nk, ni, nj, no, nn, nc⟩ ⟨pk, pi, pj, po, pn, pc⟩ ⟨mk, mi, mj, mo, mn, mc⟩ t t2 d := fun u hu => (HAT.out u (h35.trans (hu.mono h35.size))).1
  obtain ⟨bb, hbb⟩ : ∃ bb, sameT t t2 = bb := ⟨_, rfl⟩
  have HSR : Hid (∀ u, (Below W4.heap.size W4 u ∧ u.cell? ⟨X, 0, none⟩ = some (.int .i64 nk) ∧ u.cell? ⟨X, 1, none⟩ = some (.int .i64 ni) ∧ u.cell? ⟨X, 2, none⟩ = some (.int .i64 nj) ∧ u.cell? ⟨X, 3, none⟩ = some (.slice no nn nc) ∧ u.cell? ⟨X2, 0, none⟩ = some (.int .i64 pk) ∧ u.cell? ⟨X2, 1, none⟩ = some (.int .i64 pi) ∧ u.cell? ⟨X2, 2, none⟩ = some (.int .i64 pj) ∧ u.cell? ⟨X2, 3, none⟩ = some (.slice po pn pc) ∧ u.cell? ⟨Y, 0, none⟩ = some (.int .i64 mk) ∧ u.cell? ⟨Y, 1, none⟩ = some (.int .i64 mi) ∧ u.cell? ⟨Y, 2, none⟩ = some (.int .i64 mj) ∧ u.cell? ⟨Y, 3, none⟩ = some (.slice mo mn mc) ∧ u.cell? ⟨Z, 0, none⟩ = some (.int .i64 sk) ∧ u.cell? ⟨Z, 1, none⟩ = some (.int .i64 si) ∧ u.cell? ⟨Z, 2, none⟩ = some (.int .i64 sj) ∧ u.cell? ⟨Z, 3, none⟩ = some (.slice so sn sc)) → Calls Try.prog 31 #[.agg #[.int .i64 nk, .int .i64 ni, .int .i64 nj, .slice no nn nc], .int .i64 d] u fun e w' => ∃ n', e = .returned n'.v ∧ (Below W4.heap.size W4 w' ∧ w'.cell? ⟨X, 0, none⟩ = some (.int .i64 nk) ∧ w'.cell? ⟨X, 1, none⟩ = some (.int .i64 ni) ∧ w'.cell? ⟨X, 2, none⟩ = some (.int .i64 nj) ∧ w'.cell? ⟨X, 3, none⟩ = some (.slice no nn nc) ∧ w'.cell? ⟨X2, 0, none⟩ = some (.int .i64 pk) ∧ w'.cell? ⟨X2, 1, none⟩ = some (.int .i64 pi) ∧ w'.cell? ⟨X2, 2, none⟩ = some (.int .i64 pj) ∧ w'.cell? ⟨X2, 3, none⟩ = some (.slice po pn pc) ∧ w'.cell? ⟨Y, 0, none⟩ = some (.int .i64 mk) ∧ w'.cell? ⟨Y, 1, none⟩ = some (.int .i64 mi) ∧ w'.cell? ⟨Y, 2, none⟩ = some (.int .i64 mj) ∧ w'.cell? ⟨Y, 3, none⟩ = some (.slice mo mn mc) ∧ w'.cell? ⟨Z, 0, none⟩ = some (.int .i64 sk) ∧ w'.cell? ⟨Z, 1, none⟩ = some (.int .i64 si) ∧ w'.cell? ⟨Z, 2, none⟩ = some (.int .i64 sj) ∧ w'.cell? ⟨Z, 3, none⟩ = some (.slice so sn sc)) ∧ Hid (TieB w' (shiftT d t) n')) := Lib.hid (fun u hu => (hask u hu.1).sr.mono fun e w' ⟨n', h1, h2, h3⟩ => ⟨n', h1, hall w' (hu.1.trans (h2.mono hu.1.size)), h3.tieB⟩)
  have HSS : Hid (∀ u (zk zi zj : Int) (zo : Option Addr) (zn zc : Nat), (Below W4.heap.size W4 u ∧ u.cell? ⟨X, 0, none⟩ = some (.int .i64 nk) ∧ u.cell? ⟨X, 1, none⟩ = some (.int .i64 ni) ∧ u.cell? ⟨X, 2, none⟩ = some (.int .i64 nj) ∧ u.cell? ⟨X, 3, none⟩ = some (.slice no nn nc) ∧ u.cell? ⟨X2, 0, none⟩ = some (.int .i64 pk) ∧ u.cell? ⟨X2, 1, none⟩ = some (.int .i64 pi) ∧ u.cell? ⟨X2, 2, none⟩ = some (.int .i64 pj) ∧ u.cell? ⟨X2, 3, none⟩ = some (.slice po pn pc) ∧ u.cell? ⟨Y, 0, none⟩ = some (.int .i64 mk) ∧ u.cell? ⟨Y, 1, none⟩ = some (.int .i64 mi) ∧ u.cell? ⟨Y, 2, none⟩ = some (.int .i64 mj) ∧ u.cell? ⟨Y, 3, none⟩ = some (.slice mo mn mc) ∧ u.cell? ⟨Z, 0, none⟩ = some (.int .i64 sk) ∧ u.cell? ⟨Z, 1, none⟩ = some (.int .i64 si) ∧ u.cell? ⟨Z, 2, none⟩ = some (.int .i64 sj) ∧ u.cell? ⟨Z, 3, none⟩ = some (.slice so sn sc)) → Hid (TieB u (shiftT d t) ⟨zk, zi, zj, zo, zn, zc⟩) → Calls Try.prog 14 #[.agg #[.int .i64 sk, .int .i64 si, .int .i64 sj, .slice so sn sc], .agg #[.int .i64 zk, .int .i64 zi, .int .i64 zj, .slice zo zn zc]] u fun e w' => e = .returned (.bool true) ∧ (Below W4.heap.size W4 w' ∧ w'.cell? ⟨X, 0, none⟩ = some (.int .i64 nk) ∧ w'.cell? ⟨X, 1, none⟩ = some (.int .i64 ni) ∧ w'.cell? ⟨X, 2, none⟩ = some (.int .i64 nj) ∧ w'.cell? ⟨X, 3, none⟩ = some (.slice no nn nc) ∧ w'.cell? ⟨X2, 0, none⟩ = some (.int .i64 pk) ∧ w'.cell? ⟨X2, 1, none⟩ = some (.int .i64 pi) ∧ w'.cell? ⟨X2, 2, none⟩ = some (.int .i64 pj) ∧ w'.cell? ⟨X2, 3, none⟩ = some (.slice po pn pc) ∧ w'.cell? ⟨Y, 0, none⟩ = some (.int .i64 mk) ∧ w'.cell? ⟨Y, 1, none⟩ = some (.int .i64 mi) ∧ w'.cell? ⟨Y, 2, none⟩ = some (.int .i64 mj) ∧ w'.cell? ⟨Y, 3, none⟩ = some (.slice mo mn mc) ∧ w'.cell? ⟨Z, 0, none⟩ = some (.int .i64 sk) ∧ w'.cell? ⟨Z, 1, none⟩ = some (.int .i64 si) ∧ w'.cell? ⟨Z, 2, none⟩ = some (.int .i64 sj) ∧ w'.cell? ⟨Z, 3, none⟩ = some (.slice so sn sc))) := Lib.hid (fun u zk zi zj zo zn zc hu hz => by
    have h := same_t (shiftT d t) (shiftT d t) u ⟨sk, si, sj, so, sn, sc⟩ ⟨zk, zi, zj, zo, zn, zc⟩ (TieB.below hf5.tieB hu.1) hz
    rw [sameT_refl] at h
    exact h.mono fun e w' ⟨h1, h2⟩ => ⟨h1, hall w' (hu.1.trans (h2.mono hu.1.size))⟩)
  have HGB : Hid (∀ u, (Below W4.heap.size W4 u ∧ u.cell? ⟨X, 0, none⟩ = some (.int .i64 nk) ∧ u.cell? ⟨X, 1, none⟩ = some (.int .i64 ni) ∧ u.cell? ⟨X, 2, none⟩ = some (.int .i64 nj) ∧ u.cell? ⟨X, 3, none⟩ = some (.slice no nn nc) ∧ u.cell? ⟨X2, 0, none⟩ = some (.int .i64 pk) ∧ u.cell? ⟨X2, 1, none⟩ = some (.int .i64 pi) ∧ u.cell? ⟨X2, 2, none⟩ = some (.int .i64 pj) ∧ u.cell? ⟨X2, 3, none⟩ = some (.slice po pn pc) ∧ u.cell? ⟨Y, 0, none⟩ = some (.int .i64 mk) ∧ u.cell? ⟨Y, 1, none⟩ = some (.int .i64 mi) ∧ u.cell? ⟨Y, 2, none⟩ = some (.int .i64 mj) ∧ u.cell? ⟨Y, 3, none⟩ = some (.slice mo mn mc) ∧ u.cell? ⟨Z, 0, none⟩ = some (.int .i64 sk) ∧ u.cell? ⟨Z, 1, none⟩ = some (.int .i64 si) ∧ u.cell? ⟨Z, 2, none⟩ = some (.int .i64 sj) ∧ u.cell? ⟨Z, 3, none⟩ = some (.slice so sn sc)) → Calls Try.prog 41 #[.agg #[.int .i64 mk, .int .i64 mi, .int .i64 mj, .slice mo mn mc], .agg #[.int .i64 pk, .int .i64 pi, .int .i64 pj, .slice po pn pc]] u fun e w' => e = .returned (.bool bb) ∧ (Below W4.heap.size W4 w' ∧ w'.cell? ⟨X, 0, none⟩ = some (.int .i64 nk) ∧ w'.cell? ⟨X, 1, none⟩ = some (.int .i64 ni) ∧ w'.cell? ⟨X, 2, none⟩ = some (.int .i64 nj) ∧ w'.cell? ⟨X, 3, none⟩ = some (.slice no nn nc) ∧ w'.cell? ⟨X2, 0, none⟩ = some (.int .i64 pk) ∧ w'.cell? ⟨X2, 1, none⟩ = some (.int .i64 pi) ∧ w'.cell? ⟨X2, 2, none⟩ = some (.int .i64 pj) ∧ w'.cell? ⟨X2, 3, none⟩ = some (.slice po pn pc) ∧ w'.cell? ⟨Y, 0, none⟩ = some (.int .i64 mk) ∧ w'.cell? ⟨Y, 1, none⟩ = some (.int .i64 mi) ∧ w'.cell? ⟨Y, 2, none⟩ = some (.int .i64 mj) ∧ w'.cell? ⟨Y, 3, none⟩ = some (.slice mo mn mc) ∧ w'.cell? ⟨Z, 0, none⟩ = some (.int .i64 sk) ∧ w'.cell? ⟨Z, 1, none⟩ = some (.int .i64 si) ∧ w'.cell? ⟨Z, 2, none⟩ = some (.int .i64 sj) ∧ w'.cell? ⟨Z, 3, none⟩ = some (.slice so sn sc))) := Lib.hid (fun u hu => (hask u hu.1).gb.mono fun e w' ⟨h1, h2⟩ => ⟨by rw [← hbb]; exact h1, hall w' (hu.1.trans (h2.mono hu.1.size))⟩)
  have HRB : Hid (∀ u, (Below W4.heap.size W4 u ∧ u.cell? ⟨X, 0, none⟩ = some (.int .i64 nk) ∧ u.cell? ⟨X, 1, none⟩ = some (.int .i64 ni) ∧ u.cell? ⟨X, 2, none⟩ = some (.int .i64 nj) ∧ u.cell? ⟨X, 3, none⟩ = some (.slice no nn nc) ∧ u.cell? ⟨X2, 0, none⟩ = some (.int .i64 pk) ∧ u.cell? ⟨X2, 1, none⟩ = some (.int .i64 pi) ∧ u.cell? ⟨X2, 2, none⟩ = some (.int .i64 pj) ∧ u.cell? ⟨X2, 3, none⟩ = some (.slice po pn pc) ∧ u.cell? ⟨Y, 0, none⟩ = some (.int .i64 mk) ∧ u.cell? ⟨Y, 1, none⟩ = some (.int .i64 mi) ∧ u.cell? ⟨Y, 2, none⟩ = some (.int .i64 mj) ∧ u.cell? ⟨Y, 3, none⟩ = some (.slice mo mn mc) ∧ u.cell? ⟨Z, 0, none⟩ = some (.int .i64 sk) ∧ u.cell? ⟨Z, 1, none⟩ = some (.int .i64 si) ∧ u.cell? ⟨Z, 2, none⟩ = some (.int .i64 sj) ∧ u.cell? ⟨Z, 3, none⟩ = some (.slice so sn sc)) → Calls Try.prog 14 #[.agg #[.int .i64 nk, .int .i64 ni, .int .i64 nj, .slice no nn nc], .agg #[.int .i64 pk, .int .i64 pi, .int .i64 pj, .slice po pn pc]] u fun e w' => e = .returned (.bool bb) ∧ (Below W4.heap.size W4 w' ∧ w'.cell? ⟨X, 0, none⟩ = some (.int .i64 nk) ∧ w'.cell? ⟨X, 1, none⟩ = some (.int .i64 ni) ∧ w'.cell? ⟨X, 2, none⟩ = some (.int .i64 nj) ∧ w'.cell? ⟨X, 3, none⟩ = some (.slice no nn nc) ∧ w'.cell? ⟨X2, 0, none⟩ = some (.int .i64 pk) ∧ w'.cell? ⟨X2, 1, none⟩ = some (.int .i64 pi) ∧ w'.cell? ⟨X2, 2, none⟩ = some (.int .i64 pj) ∧ w'.cell? ⟨X2, 3, none⟩ = some (.slice po pn pc) ∧ w'.cell? ⟨Y, 0, none⟩ = some (.int .i64 mk) ∧ w'.cell? ⟨Y, 1, none⟩ = some (.int .i64 mi) ∧ w'.cell? ⟨Y, 2, none⟩ = some (.int .i64 mj) ∧ w'.cell? ⟨Y, 3, none⟩ = some (.slice mo mn mc) ∧ w'.cell? ⟨Z, 0, none⟩ = some (.int .i64 sk) ∧ w'.cell? ⟨Z, 1, none⟩ = some (.int .i64 si) ∧ w'.cell? ⟨Z, 2, none⟩ = some (.int .i64 sj) ∧ w'.cell? ⟨Z, 3, none⟩ = some (.slice so sn sc))) := Lib.hid (fun u hu => (hask u hu.1).rb.mono fun e w' ⟨h1, h2⟩ => ⟨by rw [← hbb]; exact h1, hall w' (hu.1.trans (h2.mono hu.1.size))⟩)
  have HGA : Hid (∀ u, (Below W4.heap.size W4 u ∧ u.cell? ⟨X, 0, none⟩ = some (.int .i64 nk) ∧ u.cell? ⟨X, 1, none⟩ = some (.int .i64 ni) ∧ u.cell? ⟨X, 2, none⟩ = some (.int .i64 nj) ∧ u.cell? ⟨X, 3, none⟩ = some (.slice no nn nc) ∧ u.cell? ⟨X2, 0, none⟩ = some (.int .i64 pk) ∧ u.cell? ⟨X2, 1, none⟩ = some (.int .i64 pi) ∧ u.cell? ⟨X2, 2, none⟩ = some (.int .i64 pj) ∧ u.cell? ⟨X2, 3, none⟩ = some (.slice po pn pc) ∧ u.cell? ⟨Y, 0, none⟩ = some (.int .i64 mk) ∧ u.cell? ⟨Y, 1, none⟩ = some (.int .i64 mi) ∧ u.cell? ⟨Y, 2, none⟩ = some (.int .i64 mj) ∧ u.cell? ⟨Y, 3, none⟩ = some (.slice mo mn mc) ∧ u.cell? ⟨Z, 0, none⟩ = some (.int .i64 sk) ∧ u.cell? ⟨Z, 1, none⟩ = some (.int .i64 si) ∧ u.cell? ⟨Z, 2, none⟩ = some (.int .i64 sj) ∧ u.cell? ⟨Z, 3, none⟩ = some (.slice so sn sc)) → Calls Try.prog 41 #[.agg #[.int .i64 mk, .int .i64 mi, .int .i64 mj, .slice mo mn mc], .agg #[.int .i64 nk, .int .i64 ni, .int .i64 nj, .slice no nn nc]] u fun e w' => e = .returned (.bool true) ∧ (Below W4.heap.size W4 w' ∧ w'.cell? ⟨X, 0, none⟩ = some (.int .i64 nk) ∧ w'.cell? ⟨X, 1, none⟩ = some (.int .i64 ni) ∧ w'.cell? ⟨X, 2, none⟩ = some (.int .i64 nj) ∧ w'.cell? ⟨X, 3, none⟩ = some (.slice no nn nc) ∧ w'.cell? ⟨X2, 0, none⟩ = some (.int .i64 pk) ∧ w'.cell? ⟨X2, 1, none⟩ = some (.int .i64 pi) ∧ w'.cell? ⟨X2, 2, none⟩ = some (.int .i64 pj) ∧ w'.cell? ⟨X2, 3, none⟩ = some (.slice po pn pc) ∧ w'.cell? ⟨Y, 0, none⟩ = some (.int .i64 mk) ∧ w'.cell? ⟨Y, 1, none⟩ = some (.int .i64 mi) ∧ w'.cell? ⟨Y, 2, none⟩ = some (.int .i64 mj) ∧ w'.cell? ⟨Y, 3, none⟩ = some (.slice mo mn mc) ∧ w'.cell? ⟨Z, 0, none⟩ = some (.int .i64 sk) ∧ w'.cell? ⟨Z, 1, none⟩ = some (.int .i64 si) ∧ w'.cell? ⟨Z, 2, none⟩ = some (.int .i64 sj) ∧ w'.cell? ⟨Z, 3, none⟩ = some (.slice so sn sc))) := Lib.hid (fun u hu => (hask u hu.1).ga.mono fun e w' ⟨h1, h2⟩ => ⟨h1, hall w' (hu.1.trans (h2.mono hu.1.size))⟩)
  have HRA : Hid (∀ u, (Below W4.heap.size W4 u ∧ u.cell? ⟨X, 0, none⟩ = some (.int .i64 nk) ∧ u.cell? ⟨X, 1, none⟩ = some (.int .i64 ni) ∧ u.cell? ⟨X, 2, none⟩ = some (.int .i64 nj) ∧ u.cell? ⟨X, 3, none⟩ = some (.slice no nn nc) ∧ u.cell? ⟨X2, 0, none⟩ = some (.int .i64 pk) ∧ u.cell? ⟨X2, 1, none⟩ = some (.int .i64 pi) ∧ u.cell? ⟨X2, 2, none⟩ = some (.int .i64 pj) ∧ u.cell? ⟨X2, 3, none⟩ = some (.slice po pn pc) ∧ u.cell? ⟨Y, 0, none⟩ = some (.int .i64 mk) ∧ u.cell? ⟨Y, 1, none⟩ = some (.int .i64 mi) ∧ u.cell? ⟨Y, 2, none⟩ = some (.int .i64 mj) ∧ u.cell? ⟨Y, 3, none⟩ = some (.slice mo mn mc) ∧ u.cell? ⟨Z, 0, none⟩ = some (.int .i64 sk) ∧ u.cell? ⟨Z, 1, none⟩ = some (.int .i64 si) ∧ u.cell? ⟨Z, 2, none⟩ = some (.int .i64 sj) ∧ u.cell? ⟨Z, 3, none⟩ = some (.slice so sn sc)) → Calls Try.prog 14 #[.agg #[.int .i64 mk, .int .i64 mi, .int .i64 mj, .slice mo mn mc], .agg #[.int .i64 nk, .int .i64 ni, .int .i64 nj, .slice no nn nc]] u fun e w' => e = .returned (.bool true) ∧ (Below W4.heap.size W4 w' ∧ w'.cell? ⟨X, 0, none⟩ = some (.int .i64 nk) ∧ w'.cell? ⟨X, 1, none⟩ = some (.int .i64 ni) ∧ w'.cell? ⟨X, 2, none⟩ = some (.int .i64 nj) ∧ w'.cell? ⟨X, 3, none⟩ = some (.slice no nn nc) ∧ w'.cell? ⟨X2, 0, none⟩ = some (.int .i64 pk) ∧ w'.cell? ⟨X2, 1, none⟩ = some (.int .i64 pi) ∧ w'.cell? ⟨X2, 2, none⟩ = some (.int .i64 pj) ∧ w'.cell? ⟨X2, 3, none⟩ = some (.slice po pn pc) ∧ w'.cell? ⟨Y, 0, none⟩ = some (.int .i64 mk) ∧ w'.cell? ⟨Y, 1, none⟩ = some (.int .i64 mi) ∧ w'.cell? ⟨Y, 2, none⟩ = some (.int .i64 mj) ∧ w'.cell? ⟨Y, 3, none⟩ = some (.slice mo mn mc) ∧ w'.cell? ⟨Z, 0, none⟩ = some (.int .i64 sk) ∧ w'.cell? ⟨Z, 1, none⟩ = some (.int .i64 si) ∧ w'.cell? ⟨Z, 2, none⟩ = some (.int .i64 sj) ∧ w'.cell? ⟨Z, 3, none⟩ = some (.slice so sn sc))) := Lib.hid (fun u hu => (hask u hu.1).ra.mono fun e w' ⟨h1, h2⟩ => ⟨h1, hall w' (hu.1.trans (h2.mono hu.1.size))⟩)
  have hs0 := hall W4.drew (Below.refl _ _).drew
  have H45 := Lib.hid (And.intro hwc5 (And.intro h35 (And.intro hs5 (And.intro hf5 hZA))))
  have HALL := Lib.hid hall
  clear hZA hwc4 hb5 hs5 hf5 hW4 hZ hwc5 h35 hall hask hbb q0 q1 q2 q3 qz r0 r1 r2 r3 rz
  go_cut [11] (fun u wx => u = .bool true ∧ Below W4.heap.size W4 wx)
  case first =>
    go_region_held3 (fun W' => Below W4.heap.size W4 W' ∧ W'.cell? ⟨X, 0, none⟩ = some (.int .i64 nk) ∧ W'.cell? ⟨X, 1, none⟩ = some (.int .i64 ni) ∧ W'.cell? ⟨X, 2, none⟩ = some (.int .i64 nj) ∧ W'.cell? ⟨X, 3, none⟩ = some (.slice no nn nc) ∧ W'.cell? ⟨X2, 0, none⟩ = some (.int .i64 pk) ∧ W'.cell? ⟨X2, 1, none⟩ = some (.int .i64 pi) ∧ W'.cell? ⟨X2, 2, none⟩ = some (.int .i64 pj) ∧ W'.cell? ⟨X2, 3, none⟩ = some (.slice po pn pc) ∧ W'.cell? ⟨Y, 0, none⟩ = some (.int .i64 mk) ∧ W'.cell? ⟨Y, 1, none⟩ = some (.int .i64 mi) ∧ W'.cell? ⟨Y, 2, none⟩ = some (.int .i64 mj) ∧ W'.cell? ⟨Y, 3, none⟩ = some (.slice mo mn mc) ∧ W'.cell? ⟨Z, 0, none⟩ = some (.int .i64 sk) ∧ W'.cell? ⟨Z, 1, none⟩ = some (.int .i64 si) ∧ W'.cell? ⟨Z, 2, none⟩ = some (.int .i64 sj) ∧ W'.cell? ⟨Z, 3, none⟩ = some (.slice so sn sc))
      (first | exact hs0 | exact hs | assumption)
      (first
      | (go_at_call 31; (with_reducible refine (HSR.out _ (by first | exact hs0 | assumption)).mono ?_); rintro e w5 ⟨⟨zk, zi, zj, zo, zn, zc⟩, rfl, hs, hz⟩; have HZ5 := Lib.hid hz; clear hz; dsimp only [Rn.v])
      | (go_at_call 14; (with_reducible refine (HSS.out _ zk zi zj zo zn zc (by first | exact hs | assumption) HZ5.out).mono ?_); rintro e w6 ⟨rfl, hs⟩)
      | (go_at_call 41; (with_reducible refine (HGB.out _ (by first | exact hs | assumption)).mono ?_); rintro e w6 ⟨rfl, hs⟩)
      | (go_at_call 14; (with_reducible refine (HRB.out _ (by first | exact hs | assumption)).mono ?_); rintro e w6 ⟨rfl, hs⟩)
      | (go_at_call 41; (with_reducible refine (HGA.out _ (by first | exact hs | assumption)).mono ?_); rintro e w6 ⟨rfl, hs⟩)
      | (go_at_call 14; (with_reducible refine (HRA.out _ (by first | exact hs | assumption)).mono ?_); rintro e w6 ⟨rfl, hs⟩))
    all_goals (try go_wp2_with fail)
    all_goals go_meet
    all_goals exact ⟨by simp, hs.1⟩
  case rest =>
  obtain ⟨rfl, hbB⟩ := hcut
  obtain ⟨wB, hwB⟩ : ∃ wB, wB = wc := ⟨_, rfl⟩
  subst hwB
  have HBB := Lib.hid hbB
  clear hbB hs0 HSR HSS HGB HRB HGA HRA HALL
  have hAB : Below wA.heap.size wA wB := H45.out.1.trans (HBB.out.mono H45.out.1.size)
  have h3B : Below W3.heap.size W3 wB := H45.out.2.1.trans (HBB.out.mono H45.out.2.1.size)
  have HPB := Lib.hid (And.intro (HP.out.1.1.below hAB) (HP.out.1.2.below hAB))
  have hKl : K ≤ 2932031007317 := by
    obtain ⟨tk, ti, tj, tl⟩ := t
    have h := HTL.out.ta.out
    obtain ⟨D, h, _⟩ := h
    rw [Tie] at h
    obtain ⟨_, _, _, _, _, _, _, ⟨_, h5⟩, _⟩ := h
    have h6 := partsL_few tl tl.length
    rw [List.take_length] at h6
    have h7 := HK.out
    simp only [Tree.l] at h7
    omega
  have HAB := Lib.hid (And.intro hAB h3B)
  clear hAB h3B
  go_wp2_with fail
  go_loopw [11, 12] (fun o p wr => ∃ q : Nat, q ≤ K ∧ o = .bool true ∧ p = .int .i64 (q : Int) ∧ Below wB.heap.size wB wr) (fun _ p _ => K - (intOf p).toNat)
  case atStart => exact ⟨0, Nat.zero_le _, rfl, rfl, Below.refl _ _⟩
  case round =>
    obtain ⟨q, hql, rfl, rfl, hb⟩ := hrel
    by_cases hlt : q < K
    · obtain ⟨g, gk, gi, gj, go', gn, gc, rfl, hg, c0, c1, c2, c3, htg⟩ := (HPB.out.1.below hb).at HK.out q hlt
      obtain ⟨h, hk, hi, hj, ho, hn, hc, rfl, hh, d0, d1, d2, d3, hth⟩ := (HPB.out.2.below hb).at HK.out q hlt
      have hall : ∀ u, Below wr.heap.size wr u → Below wr.heap.size wr u ∧ u.cell? ⟨g, q * 4, none⟩ = some (.int .i64 gk) ∧ u.cell? ⟨g, q * 4 + 1, none⟩ = some (.int .i64 gi) ∧ u.cell? ⟨g, q * 4 + 2, none⟩ = some (.int .i64 gj) ∧ u.cell? ⟨g, q * 4 + 3, none⟩ = some (.slice go' gn gc) ∧ u.cell? ⟨h, q * 4, none⟩ = some (.int .i64 hk) ∧ u.cell? ⟨h, q * 4 + 1, none⟩ = some (.int .i64 hi) ∧ u.cell? ⟨h, q * 4 + 2, none⟩ = some (.int .i64 hj) ∧ u.cell? ⟨h, q * 4 + 3, none⟩ = some (.slice ho hn hc) := fun u hu => ⟨hu, (hu.cell (p := ⟨g, q * 4, none⟩) hg).trans c0, (hu.cell (p := ⟨g, q * 4 + 1, none⟩) hg).trans c1, (hu.cell (p := ⟨g, q * 4 + 2, none⟩) hg).trans c2, (hu.cell (p := ⟨g, q * 4 + 3, none⟩) hg).trans c3, (hu.cell (p := ⟨h, q * 4, none⟩) hh).trans d0, (hu.cell (p := ⟨h, q * 4 + 1, none⟩) hh).trans d1, (hu.cell (p := ⟨h, q * 4 + 2, none⟩) hh).trans d2, (hu.cell (p := ⟨h, q * 4 + 3, none⟩) hh).trans d3⟩
      have HSM : Hid (∀ u, (Below wr.heap.size wr u ∧ u.cell? ⟨g, q * 4, none⟩ = some (.int .i64 gk) ∧ u.cell? ⟨g, q * 4 + 1, none⟩ = some (.int .i64 gi) ∧ u.cell? ⟨g, q * 4 + 2, none⟩ = some (.int .i64 gj) ∧ u.cell? ⟨g, q * 4 + 3, none⟩ = some (.slice go' gn gc) ∧ u.cell? ⟨h, q * 4, none⟩ = some (.int .i64 hk) ∧ u.cell? ⟨h, q * 4 + 1, none⟩ = some (.int .i64 hi) ∧ u.cell? ⟨h, q * 4 + 2, none⟩ = some (.int .i64 hj) ∧ u.cell? ⟨h, q * 4 + 3, none⟩ = some (.slice ho hn hc)) → Calls Try.prog 14 #[.agg #[.int .i64 gk, .int .i64 gi, .int .i64 gj, .slice go' gn gc], .agg #[.int .i64 hk, .int .i64 hi, .int .i64 hj, .slice ho hn hc]] u fun e w' => e = .returned (.bool true) ∧ (Below wr.heap.size wr w' ∧ w'.cell? ⟨g, q * 4, none⟩ = some (.int .i64 gk) ∧ w'.cell? ⟨g, q * 4 + 1, none⟩ = some (.int .i64 gi) ∧ w'.cell? ⟨g, q * 4 + 2, none⟩ = some (.int .i64 gj) ∧ w'.cell? ⟨g, q * 4 + 3, none⟩ = some (.slice go' gn gc) ∧ w'.cell? ⟨h, q * 4, none⟩ = some (.int .i64 hk) ∧ w'.cell? ⟨h, q * 4 + 1, none⟩ = some (.int .i64 hi) ∧ w'.cell? ⟨h, q * 4 + 2, none⟩ = some (.int .i64 hj) ∧ w'.cell? ⟨h, q * 4 + 3, none⟩ = some (.slice ho hn hc))) := Lib.hid (fun u hu => by
        have h := same_t _ _ u ⟨gk, gi, gj, go', gn, gc⟩ ⟨hk, hi, hj, ho, hn, hc⟩ (TieB.below htg hu.1) (TieB.below hth hu.1)
        rw [sameT_refl] at h
        exact h.mono fun e w' ⟨h1, h2⟩ => ⟨h1, hall w' (hu.1.trans (h2.mono hu.1.size))⟩)
      have HB := Lib.hid hb
      have hs0 := hall wr.drew (Below.refl _ _).drew
      have hq0 : (0 : Int) ≤ (q : Int) := by omega
      have hww : (q : Int) + 1 ≤ 2932031007318 := by omega
      have hdd : decide ((q : Int) < (K : Int)) = true := decide_eq_true (by omega)
      have hdd' : decide (q < K) = true := decide_eq_true hlt
      clear hb htg hth hall
      go_wp2_with fail
      go_region_held3 (fun W' => Below wr.heap.size wr W' ∧ W'.cell? ⟨g, q * 4, none⟩ = some (.int .i64 gk) ∧ W'.cell? ⟨g, q * 4 + 1, none⟩ = some (.int .i64 gi) ∧ W'.cell? ⟨g, q * 4 + 2, none⟩ = some (.int .i64 gj) ∧ W'.cell? ⟨g, q * 4 + 3, none⟩ = some (.slice go' gn gc) ∧ W'.cell? ⟨h, q * 4, none⟩ = some (.int .i64 hk) ∧ W'.cell? ⟨h, q * 4 + 1, none⟩ = some (.int .i64 hi) ∧ W'.cell? ⟨h, q * 4 + 2, none⟩ = some (.int .i64 hj) ∧ W'.cell? ⟨h, q * 4 + 3, none⟩ = some (.slice ho hn hc))
        (first | exact hs0 | exact hs | assumption)
        (first
        | (go_at_call 14; (with_reducible refine (HSM.out _ (by first | exact hs0 | assumption)).mono ?_); rintro e w6 ⟨rfl, hs⟩))
      all_goals (try go_wp2_with fail)
      all_goals (
        go_roundw
        case rel => exact ⟨q + 1, by omega, rfl, by go_num, HB.out.trans (hs.1.mono HB.out.size)⟩
        case measure => simp [intOf]; omega)
    · obtain rfl : q = K := by omega
      have hdd : decide ((q : Int) < (q : Int)) = false := decide_eq_false (by omega)
      have HB := Lib.hid hb
      clear hb
      go_wp2_with fail
      obtain ⟨wC, hwC⟩ : ∃ wC, wC = wr := ⟨_, rfl⟩
      subst hwC
      obtain ⟨R, E, hm, hot, hE⟩ := HP.out.1.1
      have hRq : R.length = q := by rw [hot.length]; exact HK.out
      have hAC := HAB.out.1.trans (HB.out.mono HAB.out.1.size)
      have hAz := hAC.size
      have h3A := HP.out.2.size
      have hst : Mk2 Z3 wC wC E (.slice po1 q pc1) (partsL t.l) R 0 := ⟨Marked.of_below (Below.refl _ _), hm.below hAC, E, OTies.keep (fun g hg => hAC.block g (hE g hg).2.1) (fun _ h => h) _ _ hot, fun _ h => h⟩
      have HST := Lib.hid hst
      have HE : Hid ((∀ g, E g → g < wC.heap.size ∧ (Value.slice po1 q pc1).ownBlock ≠ some g) ∧ (∀ g, E g → Z3 ≤ g ∧ g < wA.heap.size) ∧ R.length = q) := Lib.hid ⟨fun g hg => ⟨Nat.lt_of_lt_of_le (hE g hg).2.1 hAz, (hE g hg).2.2⟩, fun g hg => ⟨(hE g hg).1, (hE g hg).2.1⟩, hRq⟩
      have HOW : Hid (∀ g, (Value.slice po1 q pc1).ownBlock = some g → g < wA.heap.size) := Lib.hid (fun g hg => hm.lt g hg)
      clear hst hm hot hE hRq hAC hAz h3A
      go_loopw [77] (fun p wr => ∃ j : Nat, j ≤ q ∧ p = .int .i64 (j : Int) ∧ Mk2 Z3 wC wr E (.slice po1 q pc1) (partsL t.l) R j) (fun p _ => q - (intOf p).toNat)
      case atStart => exact ⟨0, Nat.zero_le _, rfl, HST.out⟩
      case round =>
        obtain ⟨j, hjl, rfl, hs⟩ := hrel
        by_cases hlt : j < q
        · obtain ⟨g, gk, gi, gj, go', gn, gc, rfl, hg, c0, c1, c2, c3, hcall⟩ := hs.go HK.out HE.out.2.2 HE.out.1 hlt
          have HC := Lib.hid hcall
          have HZ : Hid (Below wr.heap.size wr (wr.alloc (.cells #[.int .i64 gk, .int .i64 gi, .int .i64 gj, .slice go' gn gc] 24))) := Lib.hid ((Below.refl _ _).alloc (Nat.le_refl _) _)
          have hq0 : (0 : Int) ≤ (j : Int) := by omega
          have hww : (j : Int) + 1 ≤ 2932031007318 := by omega
          have hd : decide ((j : Int) < (q : Int)) = true := decide_eq_true (by omega)
          have hd' : decide (j < q) = true := decide_eq_true hlt
          clear hs hcall
          go_wp2_with (go_at_call 23; (with_reducible refine (HC.out _ HZ.out).mono ?_); rintro e w9 ⟨⟨v, rfl⟩, hm9⟩; have HMK := Lib.hid hm9; clear hm9)
          go_roundw
          case rel => exact ⟨j + 1, by omega, by go_num, HMK.out⟩
          case measure => simp [intOf]; omega
        · obtain rfl : j = q := by omega
          have hd : decide ((j : Int) < (j : Int)) = false := decide_eq_false (by omega)
          -- what stands behind the marks
          have hzA := H45.out.2.2.2.2
          have hAC := HAB.out.1.trans (HB.out.mono HAB.out.1.size)
          have h3C := HAB.out.2.trans (HB.out.mono HAB.out.2.size)
          have h4C : Below W4.heap.size W4 wC := HBB.out.trans (HB.out.mono HBB.out.size)
          have h3A := HP.out.2.size
          have hZz := HZ3.out
          have hAz := hAC.size
          have h3r : Below W3.heap.size W3 wr := h3C.trans ((hs.m.low (B := W3.heap.size) (fun g hg => by have := (HE.out.2.1 g hg).1; omega) (by omega)))
          have hbx : Box wr Z ⟨sk, si, sj, so, sn, sc⟩ := by
            have h := H45.out.2.2.1.below h4C
            exact (hs.m.keep Z (Array.getElem?_eq_some_iff.1 h).1 (fun e => by have := (HE.out.2.1 Z e).2; omega)).trans h
          obtain ⟨Ds, hds, hdb⟩ := H45.out.2.2.2.1
          have hdr : OTie wr Ds (shiftT d t) ⟨sk, si, sj, so, sn, sc⟩ := OTie.keep (fun g hg => (hs.m.keep g (Nat.lt_of_lt_of_le (hdb g hg).2 h4C.size) (fun e => by have := (HE.out.2.1 g e).2; have := (hdb g hg).1; omega)).trans (h4C.block g (hdb g hg).2)) (fun _ h => h) _ _ hds
          have hrz : W4.heap.size ≤ wr.heap.size := Nat.le_trans h4C.size hs.m.size
          have hms : Calls Try.prog 23 #[.agg #[.int .i64 sk, .int .i64 si, .int .i64 sj, .slice so sn sc]] wr fun e w' => (∃ v, e = .returned v) ∧ Below W3.heap.size W3 w' ∧ Mine nd w' Z3 (.slice po1 j pc1) R :=
            (mark_t (shiftT d t) wr Ds ⟨sk, si, sj, so, sn, sc⟩ hdr (fun g hg => Nat.lt_of_lt_of_le (hdb g hg).2 hrz)).mono fun e w' ⟨h1, h2⟩ => ⟨h1, h3r.trans (h2.low (fun g hg => by have := (hdb g hg).1; omega) (by have := h3r.size; omega)), hs.row.keep (fun k hk hlt => h2.keep k hlt (fun e => by have := HOW.out k hk; have := (hdb k e).1; omega))⟩
          obtain ⟨⟨z0, z1, z2, z3⟩, zz⟩ := hbx.cells
          have HMS := Lib.hid hms
          have HPE := Lib.hid (fun (w6 : World) (h1 : Below W3.heap.size W3 w6) (h2 : Mine nd w6 Z3 (.slice po1 j pc1) R) => push_end HZ3.out h1 h2 HE.out.2.2 hKl ⟨-3, 0, 0, none, 0, 0⟩)
          clear hs hzA hAC h3C h4C h3A hZz hAz h3r hbx hds hdb hdr hrz hms
          go_wp2_with (first
            | (go_at_call 23; (with_reducible refine HMS.out.mono ?_); rintro e w6 ⟨⟨v, rfl⟩, h6, hm6⟩; have H6 := Lib.hid (And.intro h6 hm6); clear h6 hm6)
            | (at_builtin; obtain ⟨g', cap', w7, hrun, hb7⟩ := HPE.out w6 H6.out.1 H6.out.2 _ ((Below.refl _ _).alloc (Nat.le_refl _) _) _ (heap_alloc_last w6 _); have HB7 := Lib.hid hb7; obtain ⟨hask7, ⟨⟨b0, b1, b2, b3⟩, bz⟩, _, ⟨⟨e0, e1, e2, e3⟩, ez⟩⟩ := HAT.out w7 hb7; have HRA7 : Hid (Calls Try.prog 14 #[.agg #[.int .i64 mk, .int .i64 mi, .int .i64 mj, .slice mo mn mc], .agg #[.int .i64 nk, .int .i64 ni, .int .i64 nj, .slice no nn nc]] w7 fun e w' => e = .returned (.bool true) ∧ Below w7.heap.size w7 w') := Lib.hid hask7.ra; clear hb7 hask7; refine Lib.wpList_append_run _ rfl _ _ _ _ rfl _ _ rfl rfl _ _ (hrun _) ?_; clear hrun)
            | (go_at_call 14; (with_reducible refine HRA7.out.mono ?_); rintro e w8 ⟨rfl, hb8⟩; have HB8 := Lib.hid (HTL.out.bl.trans ((HB7.out.trans (hb8.mono HB7.out.size)).mono HTL.out.bl.size)); clear hb8))
          all_goals (try (first | go_ret | go_end0))
          all_goals (first | exact ⟨rfl, HB8.out⟩ | exact ⟨by simp; omega, HB8.out⟩)
end Go.Proofs.Ytmnnjmjdggjlmaa.rd
