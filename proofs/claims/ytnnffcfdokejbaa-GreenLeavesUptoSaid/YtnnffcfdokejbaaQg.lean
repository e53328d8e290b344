/-
  Layer 8: the document's first examples, over what the program's functions are held to.
-/
import Derived.Test.YtnnffcfdokejbaaQf
namespace Go.Proofs.Ytnnffcfdokejbaa.rd
open Go.RowKit

theorem PoolC.put_ex {Pl : World → Nat → (Nat → Prop) → List Gr → Prop} (HC : PoolC Pl) {u0 u1 : World} {b : Nat} {D : Nat → Prop} {L L' : List Gr} {t : Tree} {nk ni nj : Int} {no : Option Addr} {nn nc : Nat} {s : ByteArray} {id : Nat} {z : Int} (hz : (id : Int) = z) (hp : Pl u0 b D L) (hb : Below u0.heap.size u0 u1) (hf : Fresh u0.heap.size u1 t ⟨nk, ni, nj, no, nn, nc⟩) (hput : putT s t L = (L', id)) (hfit : fitT s.size t = true) (hin : InR t) (hs : s.size ≤ 281474976710656) (hl : L'.length ≤ 1000) :
    Calls Try.prog 18 #[.pointer (some ⟨b, 0, none⟩), .string s, .agg #[.int .i64 nk, .int .i64 ni, .int .i64 nj, .slice no nn nc]] u1 fun e w' => e = .returned (.tuple #[.int .i64 z, .int .i64 0]) ∧ ∃ D', Pl w' b D' L' ∧ Marked D u1 w' ∧ ∀ k, D' k → D k ∨ u0.heap.size ≤ k := by
  obtain ⟨T, hT, hTb⟩ := hf
  have hd := HC.dead hp
  have h := HC.put (s := s) (HC.keep hp hb.size (fun k hk => hb.block k (hd k hk))) (OTie.tie _ _ hT) (fun k hk => ⟨(hTb k hk).2, fun e => by have := hd k e; have := (hTb k hk).1; omega⟩) hin hs (by rw [hput]; exact Nat.le_trans hl (by decide))
  rw [hput, hfit] at h
  rw [← hz]
  exact h.mono fun e w' ⟨h1, D', h2, h3, h4⟩ => ⟨h1, D', h2, h3, fun k hk => (h4 k hk).imp (fun e => e) (fun e => Nat.le_trans hb.size e)⟩
theorem PoolC.kids_ex {Pl : World → Nat → (Nat → Prop) → List Gr → Prop} (HC : PoolC Pl) {u : World} {b : Nat} {D : Nat → Prop} (hp : Pl u b D exL) : Calls Try.prog 27 #[.pointer (some ⟨b, 0, none⟩), .int .i64 3] u fun e w' => ∃ g c, e = .returned (.tuple #[.slice (some ⟨g, 0, none⟩) 3 c, .int .i64 0]) ∧ Below u.heap.size u w' ∧ (u.heap.size ≤ g ∧ g < w'.heap.size) ∧ w'.cell? ⟨g, 0, none⟩ = some (.int .i64 1) ∧ w'.cell? ⟨g, 1, none⟩ = some (.int .i64 2) ∧ w'.cell? ⟨g, 2, none⟩ = some (.int .i64 1) :=
  (HC.kids hp 3 (by decide)).mono fun e w' ⟨v, h1, h2, h3⟩ => by
    obtain ⟨g, o, c, rfl, ho, hg, _⟩ := h3.shape
    obtain rfl := ho (by decide)
    exact ⟨g, c, h1, h2, ⟨hg, h3.lt g rfl⟩, cells_it h3.cells 0 (by decide), cells_it h3.cells 1 (by decide), cells_it h3.cells 2 (by decide)⟩
theorem PoolC.text_ex {Pl : World → Nat → (Nat → Prop) → List Gr → Prop} (HC : PoolC Pl) {u : World} {b : Nat} {D : Nat → Prop} (hp : Pl u b D exL) : Calls Try.prog 28 #[.pointer (some ⟨b, 0, none⟩), .int .i64 3] u fun e w' => e = .returned (.tuple #[.string { data := #[97, 43, 97] }, .int .i64 0]) ∧ Below u.heap.size u w' := HC.text hp 3 (by decide) (by decide)
theorem PoolC.len_ex {Pl : World → Nat → (Nat → Prop) → List Gr → Prop} (HC : PoolC Pl) {u : World} {b : Nat} {D : Nat → Prop} (hp : Pl u b D exL) : Calls Try.prog 17 #[.pointer (some ⟨b, 0, none⟩)] u fun e w' => e = .returned (.int .i64 4) ∧ Below u.heap.size u w' := HC.len hp
theorem PoolC.node_ex {Pl : World → Nat → (Nat → Prop) → List Gr → Prop} (HC : PoolC Pl) {u : World} {b : Nat} {D : Nat → Prop} (hp : Pl u b D exL) : Calls Try.prog 29 #[.pointer (some ⟨b, 0, none⟩), .int .i64 3, .int .i64 4] u fun e w' => ∃ nk ni nj no nn nc, e = .returned (.tuple #[.agg #[.int .i64 nk, .int .i64 ni, .int .i64 nj, .slice no nn nc], .int .i64 0]) ∧ Below u.heap.size u w' ∧ Fresh u.heap.size w' (sumT 4) ⟨nk, ni, nj, no, nn, nc⟩ :=
  (HC.node hp 3 4 (by decide) (by decide) (by decide)).mono fun e w' ⟨⟨nk, ni, nj, no, nn, nc⟩, h1, h2, h3⟩ => by
    rw [ex_node2] at h3
    exact ⟨nk, ni, nj, no, nn, nc, h1, h2, h3⟩
theorem find_ex (HF : FindC 35 (sumT 0)) {u : World} {nk ni nj : Int} {no : Option Addr} {nn nc : Nat} (h : Hid (TieB u (sumT 0) ⟨nk, ni, nj, no, nn, nc⟩)) : Calls Try.prog 35 #[.agg #[.int .i64 nk, .int .i64 ni, .int .i64 nj, .slice no nn nc], .int .i64 2, .int .i64 3] u fun e w' => ∃ g c, e = .returned (.tuple #[.slice (some ⟨g, 0, none⟩) 2 c, .bool true]) ∧ Below u.heap.size u w' ∧ g < w'.heap.size ∧ w'.cell? ⟨g, 0, none⟩ = some (.int .i64 2) ∧ w'.cell? ⟨g, 1, none⟩ = some (.int .i64 0) := by
  have h := HF u ⟨nk, ni, nj, no, nn, nc⟩ 2 3 h (by rw [ex_find]; decide)
  rw [ex_find] at h
  refine h.mono fun e w' ⟨v, h1, h2, h3⟩ => ?_
  obtain ⟨g, o, c, rfl, ho, hg, _⟩ := Mine.shape h3
  obtain rfl := ho (by decide)
  exact ⟨g, c, h1, h2, Mine.lt h3 g rfl, cells_it (Mine.cells h3) 0 (by decide), cells_it (Mine.cells h3) 1 (by decide)⟩
theorem thru {w4 w8 w9 : World} {D : Nat → Prop} (h48 : Below w4.heap.size w4 w8) (hm : Marked D w8 w9) {z : Nat} (hD : ∀ k, D k → k < z) : ∀ u, Below w9.heap.size w9 u → ∀ g, z ≤ g → g < w4.heap.size → u.heap[g]? = w4.heap[g]? := fun u hu g h1 h2 => by
  have := h48.size
  have := hm.size
  rw [hu.block g (by omega), hm.keep g (by omega) (fun e => by have := hD g e; omega), h48.block g h2]

set_option maxRecDepth 100000 in
set_option maxHeartbeats 4000000 in
theorem shown_law {Pl : World → Nat → (Nat → Prop) → List Gr → Prop} (HC : PoolC Pl) (HFI : FindC 35 (sumT 0)) : ShownC := by
  intro w
  have HPC := Lib.hid HC
  have HSU := Lib.hid sum_any
  have HNW := Lib.hid (HC.new w)
  have HW := Lib.hid HFI
  clear HC HFI
  go_enter Try.func10, Try.ntmps10
  go_wp2_with (go_at_call 15; (with_reducible refine HNW.out.mono ?_); rintro e w1 ⟨b, D, rfl, hb1, hp1, hd1⟩; have H1 := Lib.hid (And.intro hb1 (And.intro hp1 hd1)); clear hb1 hp1 hd1)
  go_wp2_with (first
    | (go_at_call 42; (with_reducible refine (HSU.out 0 (by omega) (by omega) w1).mono ?_); rintro e w2 ⟨⟨nk, ni, nj, no, nn, nc⟩, rfl, hb2, hf2⟩; have H2 := Lib.hid (And.intro hb2 hf2); clear hb2 hf2; dsimp only [Rn.v])
    | (go_at_call 18; (with_reducible refine (HPC.out.put_ex (s := { data := #[97, 43, 97] }) (z := 3) rfl H1.out.2.1 H2.out.1 H2.out.2 ex_put ex_fit ex_in0 (by decide) (by decide)).mono ?_); rintro e w3 ⟨rfl, D3, hp3, hm3, hd3⟩; have H3 := Lib.hid (And.intro hp3 (And.intro hm3 hd3)); clear hp3 hm3 hd3)
    | (go_at_call 27; (with_reducible refine (HPC.out.kids_ex H3.out.1).mono ?_); rintro e w4 ⟨g4, c4, rfl, hb4, hg4, k0, k1, k2⟩; have H4 := Lib.hid (And.intro hb4 (And.intro hg4 (And.intro (k0 : w4.cell? ⟨g4, 0, none⟩ = _) (And.intro (k1 : w4.cell? ⟨g4, 1, none⟩ = _) (k2 : w4.cell? ⟨g4, 2, none⟩ = _))))); clear hb4 hg4 k0 k1 k2)
    | (go_at_call 28; (with_reducible refine (HPC.out.text_ex (HPC.out.keep H3.out.1 H4.out.1.size (fun k hk => H4.out.1.block k (HPC.out.dead H3.out.1 k hk)))).mono ?_); rintro e w5 ⟨rfl, hb5⟩; have H5 := Lib.hid (H4.out.1.trans (hb5.mono H4.out.1.size)); have H5' := Lib.hid hb5; clear hb5)
    | (go_at_call 29; (with_reducible refine (HPC.out.node_ex (HPC.out.keep H3.out.1 H5.out.size (fun k hk => H5.out.block k (HPC.out.dead H3.out.1 k hk)))).mono ?_); rintro e w6 ⟨mk, mi, mj, mo, mn, mc, rfl, hb6, hf6⟩; have H6 := Lib.hid (And.intro hb6 hf6); clear hb6 hf6))
  have hb7 : Below w6.heap.size w6 (w6.alloc (.cells #[.int .i64 mk, .int .i64 mi, .int .i64 mj, .slice mo mn mc] 24)) := (Below.refl _ _).alloc (Nat.le_refl _) _
  have hy7 : Box (w6.alloc (.cells #[.int .i64 mk, .int .i64 mi, .int .i64 mj, .slice mo mn mc] 24)) w6.heap.size ⟨mk, mi, mj, mo, mn, mc⟩ := heap_alloc_last w6 _
  have hf7 := H6.out.2.below hb7
  have h37 := H5.out.trans ((H6.out.1.trans (hb7.mono H6.out.1.size)).mono H5.out.size)
  have h47 := H5'.out.trans ((H6.out.1.trans (hb7.mono H6.out.1.size)).mono H5'.out.size)
  have hyz : w3.heap.size ≤ w6.heap.size := Nat.le_trans H5.out.size H6.out.1.size
  have h5z := H5.out.size
  obtain ⟨W7, hW7⟩ : ∃ W7, w6.alloc (.cells #[.int .i64 mk, .int .i64 mi, .int .i64 mj, .slice mo mn mc] 24) = W7 := ⟨_, rfl⟩
  obtain ⟨Y, hY⟩ : ∃ Y, w6.heap.size = Y := ⟨_, rfl⟩
  rw [hW7] at hy7 hf7 h37 h47
  rw [hY] at hy7 hyz
  rw [hW7, hY]
  have H7 := Lib.hid (And.intro h37 (And.intro h47 (And.intro hy7 (And.intro hf7 (And.intro hyz h5z)))))
  have HP7 := Lib.hid (HPC.out.keep H3.out.1 h37.size (fun k hk => h37.block k (HPC.out.dead H3.out.1 k hk)))
  clear hb7 hy7 hf7 h37 h47 hyz h5z hW7 hY
  go_wp2_with (first
    | (go_at_call 42; (with_reducible refine (HSU.out 3 (by omega) (by omega) W7).mono ?_); rintro e w8 ⟨⟨pk, pi, pj, po, pn, pc⟩, rfl, hb8, hf8⟩; have H8 := Lib.hid (And.intro hb8 hf8); clear hb8 hf8; dsimp only [Rn.v])
    | (go_at_call 18; (with_reducible refine (HPC.out.put_ex (s := { data := #[120, 121, 122, 97, 43, 97] }) (z := 3) rfl HP7.out H8.out.1 H8.out.2 ex_put2 ex_fit2 ex_in3 (by decide) (by decide)).mono ?_); rintro e w9 ⟨rfl, D9, hp9, hm9, hd9⟩; have H9 := Lib.hid (And.intro hp9 (And.intro hm9 hd9)); clear hp9 hm9 hd9)
    | (go_at_call 42; (with_reducible refine (HSU.out 0 (by omega) (by omega) w9).mono ?_); rintro e w10 ⟨⟨qk, qi, qj, qo, qn, qc⟩, rfl, hb10, hf10⟩; have H10 := Lib.hid (And.intro hb10 hf10); clear hb10 hf10; dsimp only [Rn.v])
    | (go_at_call 35; (with_reducible refine (find_ex HW.out H10.out.2.tieB).mono ?_); rintro e w11 ⟨g11, c11, rfl, hb11, hg11, r0, r1⟩; have H11 := Lib.hid (And.intro (H10.out.1.trans (hb11.mono H10.out.1.size)) (And.intro hg11 (And.intro (r0 : w11.cell? ⟨g11, 0, none⟩ = _) (r1 : w11.cell? ⟨g11, 1, none⟩ = _)))); clear hb11 hg11 r0 r1))
  have hd3 := HPC.out.dead H3.out.1
  have hw2 : Below w.heap.size w w2 := H1.out.1.trans (H2.out.1.mono H1.out.1.size)
  have hw3 : Below w.heap.size w w3 := hw2.trans (H3.out.2.1.low H1.out.2.2 hw2.size)
  have hw8 : Below w.heap.size w w8 := hw3.trans ((H7.out.1.trans (H8.out.1.mono H7.out.1.size)).mono hw3.size)
  have hD3 : ∀ k, D3 k → w.heap.size ≤ k := fun k hk => (H3.out.2.2 k hk).elim (H1.out.2.2 k) (fun e => Nat.le_trans H1.out.1.size e)
  have hw9 : Below w.heap.size w w9 := hw8.trans (H9.out.2.1.low hD3 hw8.size)
  have hw11 : Below w.heap.size w w11 := hw9.trans (H11.out.1.mono hw9.size)
  have ht4 := thru (H7.out.2.1.trans (H8.out.1.mono H7.out.2.1.size)) H9.out.2.1 hd3
  have ht7 := thru H8.out.1 H9.out.2.1 hd3
  have hg4 := H4.out.2.1
  have hYz := (Array.getElem?_eq_some_iff.1 H7.out.2.2.1).1
  have hall : ∀ u, Below w11.heap.size w11 u → Below w11.heap.size w11 u ∧ u.cell? ⟨g4, 0, none⟩ = some (.int .i64 1) ∧ u.cell? ⟨g4, 1, none⟩ = some (.int .i64 2) ∧ u.cell? ⟨g4, 2, none⟩ = some (.int .i64 1) ∧ u.cell? ⟨Y, 0, none⟩ = some (.int .i64 mk) ∧ u.cell? ⟨Y, 1, none⟩ = some (.int .i64 mi) ∧ u.cell? ⟨Y, 2, none⟩ = some (.int .i64 mj) ∧ u.cell? ⟨Y, 3, none⟩ = some (.slice mo mn mc) ∧ u.cell? ⟨g11, 0, none⟩ = some (.int .i64 2) ∧ u.cell? ⟨g11, 1, none⟩ = some (.int .i64 0) := fun u hu => by
    have h9u := H11.out.1.trans (hu.mono H11.out.1.size)
    have e4 := ht4 u h9u g4 hg4.1 hg4.2
    have e7 := ht7 u h9u Y H7.out.2.2.2.2.1 hYz
    have hbx : Box u Y ⟨mk, mi, mj, mo, mn, mc⟩ := e7.trans H7.out.2.2.1
    exact ⟨hu, (cell_same e4 _).trans H4.out.2.2.1, (cell_same e4 _).trans H4.out.2.2.2.1, (cell_same e4 _).trans H4.out.2.2.2.2, hbx.cells.1.1, hbx.cells.1.2.1, hbx.cells.1.2.2.1, hbx.cells.1.2.2.2, (hu.cell (p := ⟨g11, 0, none⟩) H11.out.2.1).trans H11.out.2.2.1, (hu.cell (p := ⟨g11, 1, none⟩) H11.out.2.1).trans H11.out.2.2.2⟩
  have htm : ∀ u, Below w11.heap.size w11 u → Hid (TieB u (sumT 4) ⟨mk, mi, mj, mo, mn, mc⟩) := fun u hu => by
    have h9u := H11.out.1.trans (hu.mono H11.out.1.size)
    obtain ⟨T, h1, h2⟩ := H7.out.2.2.2.1
    have h5z := H7.out.2.2.2.2.2
    have z1 := H8.out.1.size
    have z2 := H9.out.2.1.size
    have z3 := h9u.size
    exact Lib.hid ⟨T, Tie.keep (fun k hk => ht7 u h9u k (by have := (h2 k hk).1; omega) (h2 k hk).2) (fun _ h => h) _ _ (OTie.tie _ _ h1), fun k hk => by have := (h2 k hk).2; omega⟩
  have HLN : Hid (∀ u, (Below w11.heap.size w11 u ∧ u.cell? ⟨g4, 0, none⟩ = some (.int .i64 1) ∧ u.cell? ⟨g4, 1, none⟩ = some (.int .i64 2) ∧ u.cell? ⟨g4, 2, none⟩ = some (.int .i64 1) ∧ u.cell? ⟨Y, 0, none⟩ = some (.int .i64 mk) ∧ u.cell? ⟨Y, 1, none⟩ = some (.int .i64 mi) ∧ u.cell? ⟨Y, 2, none⟩ = some (.int .i64 mj) ∧ u.cell? ⟨Y, 3, none⟩ = some (.slice mo mn mc) ∧ u.cell? ⟨g11, 0, none⟩ = some (.int .i64 2) ∧ u.cell? ⟨g11, 1, none⟩ = some (.int .i64 0)) → Calls Try.prog 17 #[.pointer (some ⟨b, 0, none⟩)] u fun e w' => e = .returned (.int .i64 4) ∧ (Below w11.heap.size w11 w' ∧ w'.cell? ⟨g4, 0, none⟩ = some (.int .i64 1) ∧ w'.cell? ⟨g4, 1, none⟩ = some (.int .i64 2) ∧ w'.cell? ⟨g4, 2, none⟩ = some (.int .i64 1) ∧ w'.cell? ⟨Y, 0, none⟩ = some (.int .i64 mk) ∧ w'.cell? ⟨Y, 1, none⟩ = some (.int .i64 mi) ∧ w'.cell? ⟨Y, 2, none⟩ = some (.int .i64 mj) ∧ w'.cell? ⟨Y, 3, none⟩ = some (.slice mo mn mc) ∧ w'.cell? ⟨g11, 0, none⟩ = some (.int .i64 2) ∧ w'.cell? ⟨g11, 1, none⟩ = some (.int .i64 0))) := Lib.hid (fun u hu => by
    have h9u := H11.out.1.trans (hu.1.mono H11.out.1.size)
    exact (HPC.out.len_ex (HPC.out.keep H9.out.1 h9u.size (fun k hk => h9u.block k (HPC.out.dead H9.out.1 k hk)))).mono fun e w' ⟨h1, h2⟩ => ⟨h1, hall w' (hu.1.trans (h2.mono hu.1.size))⟩)
  have HS4 : Hid (∀ u, (Below w11.heap.size w11 u ∧ u.cell? ⟨g4, 0, none⟩ = some (.int .i64 1) ∧ u.cell? ⟨g4, 1, none⟩ = some (.int .i64 2) ∧ u.cell? ⟨g4, 2, none⟩ = some (.int .i64 1) ∧ u.cell? ⟨Y, 0, none⟩ = some (.int .i64 mk) ∧ u.cell? ⟨Y, 1, none⟩ = some (.int .i64 mi) ∧ u.cell? ⟨Y, 2, none⟩ = some (.int .i64 mj) ∧ u.cell? ⟨Y, 3, none⟩ = some (.slice mo mn mc) ∧ u.cell? ⟨g11, 0, none⟩ = some (.int .i64 2) ∧ u.cell? ⟨g11, 1, none⟩ = some (.int .i64 0)) → Calls Try.prog 42 #[.int .i64 4] u fun e w' => ∃ zk zi zj zo zn zc, e = .returned (.agg #[.int .i64 zk, .int .i64 zi, .int .i64 zj, .slice zo zn zc]) ∧ (Below w11.heap.size w11 w' ∧ w'.cell? ⟨g4, 0, none⟩ = some (.int .i64 1) ∧ w'.cell? ⟨g4, 1, none⟩ = some (.int .i64 2) ∧ w'.cell? ⟨g4, 2, none⟩ = some (.int .i64 1) ∧ w'.cell? ⟨Y, 0, none⟩ = some (.int .i64 mk) ∧ w'.cell? ⟨Y, 1, none⟩ = some (.int .i64 mi) ∧ w'.cell? ⟨Y, 2, none⟩ = some (.int .i64 mj) ∧ w'.cell? ⟨Y, 3, none⟩ = some (.slice mo mn mc) ∧ w'.cell? ⟨g11, 0, none⟩ = some (.int .i64 2) ∧ w'.cell? ⟨g11, 1, none⟩ = some (.int .i64 0)) ∧ Hid (TieB w' (sumT 4) ⟨zk, zi, zj, zo, zn, zc⟩)) := Lib.hid (fun u hu => (HSU.out 4 (by omega) (by omega) u).mono fun e w' ⟨⟨zk, zi, zj, zo, zn, zc⟩, h1, h2, h3⟩ => ⟨zk, zi, zj, zo, zn, zc, h1, hall w' (hu.1.trans (h2.mono hu.1.size)), h3.tieB⟩)
  have HSM : Hid (∀ u (zk zi zj : Int) (zo : Option Addr) (zn zc : Nat), (Below w11.heap.size w11 u ∧ u.cell? ⟨g4, 0, none⟩ = some (.int .i64 1) ∧ u.cell? ⟨g4, 1, none⟩ = some (.int .i64 2) ∧ u.cell? ⟨g4, 2, none⟩ = some (.int .i64 1) ∧ u.cell? ⟨Y, 0, none⟩ = some (.int .i64 mk) ∧ u.cell? ⟨Y, 1, none⟩ = some (.int .i64 mi) ∧ u.cell? ⟨Y, 2, none⟩ = some (.int .i64 mj) ∧ u.cell? ⟨Y, 3, none⟩ = some (.slice mo mn mc) ∧ u.cell? ⟨g11, 0, none⟩ = some (.int .i64 2) ∧ u.cell? ⟨g11, 1, none⟩ = some (.int .i64 0)) → Hid (TieB u (sumT 4) ⟨zk, zi, zj, zo, zn, zc⟩) → Calls Try.prog 14 #[.agg #[.int .i64 mk, .int .i64 mi, .int .i64 mj, .slice mo mn mc], .agg #[.int .i64 zk, .int .i64 zi, .int .i64 zj, .slice zo zn zc]] u fun e w' => e = .returned (.bool true) ∧ (Below w11.heap.size w11 w' ∧ w'.cell? ⟨g4, 0, none⟩ = some (.int .i64 1) ∧ w'.cell? ⟨g4, 1, none⟩ = some (.int .i64 2) ∧ w'.cell? ⟨g4, 2, none⟩ = some (.int .i64 1) ∧ w'.cell? ⟨Y, 0, none⟩ = some (.int .i64 mk) ∧ w'.cell? ⟨Y, 1, none⟩ = some (.int .i64 mi) ∧ w'.cell? ⟨Y, 2, none⟩ = some (.int .i64 mj) ∧ w'.cell? ⟨Y, 3, none⟩ = some (.slice mo mn mc) ∧ w'.cell? ⟨g11, 0, none⟩ = some (.int .i64 2) ∧ w'.cell? ⟨g11, 1, none⟩ = some (.int .i64 0))) := Lib.hid (fun u zk zi zj zo zn zc hu hz => by
    have h := same_t (sumT 4) (sumT 4) u ⟨mk, mi, mj, mo, mn, mc⟩ ⟨zk, zi, zj, zo, zn, zc⟩ (htm u hu.1) hz
    rw [sameT_refl] at h
    exact h.mono fun e w' ⟨h1, h2⟩ => ⟨h1, hall w' (hu.1.trans (h2.mono hu.1.size))⟩)
  have hs0 := hall w11.drew (Below.refl _ _).drew
  have HEND := Lib.hid hw11
  clear hd3 hw2 hw3 hw8 hD3 hw9 hw11 ht4 ht7 hg4 hYz hall htm
  dsimp only [List.append]
  go_region_held3 (fun W' => Below w11.heap.size w11 W' ∧ W'.cell? ⟨g4, 0, none⟩ = some (.int .i64 1) ∧ W'.cell? ⟨g4, 1, none⟩ = some (.int .i64 2) ∧ W'.cell? ⟨g4, 2, none⟩ = some (.int .i64 1) ∧ W'.cell? ⟨Y, 0, none⟩ = some (.int .i64 mk) ∧ W'.cell? ⟨Y, 1, none⟩ = some (.int .i64 mi) ∧ W'.cell? ⟨Y, 2, none⟩ = some (.int .i64 mj) ∧ W'.cell? ⟨Y, 3, none⟩ = some (.slice mo mn mc) ∧ W'.cell? ⟨g11, 0, none⟩ = some (.int .i64 2) ∧ W'.cell? ⟨g11, 1, none⟩ = some (.int .i64 0))
    (first | exact hs0 | exact hs | assumption)
    (first
    | (go_at_call 17; (with_reducible refine (HLN.out _ (by first | exact hs0 | assumption)).mono ?_); rintro e w12 ⟨rfl, hs⟩)
    | (go_at_call 42; (with_reducible refine (HS4.out _ (by first | exact hs | assumption)).mono ?_); rintro e w13 ⟨zk, zi, zj, zo, zn, zc, rfl, hs, hz⟩; have HZ := Lib.hid hz; clear hz)
    | (go_at_call 14; (with_reducible refine (HSM.out _ zk zi zj zo zn zc (by first | exact hs | assumption) HZ.out).mono ?_); rintro e w14 ⟨rfl, hs⟩))
  all_goals (try go_wp2_with fail)
  all_goals (try (first | go_ret | go_end0))
  all_goals exact ⟨rfl, HEND.out.trans (hs.1.mono HEND.out.size)⟩
end Go.Proofs.Ytnnffcfdokejbaa.rd
