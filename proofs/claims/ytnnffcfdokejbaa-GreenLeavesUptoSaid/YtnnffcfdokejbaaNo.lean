/-
  Layer 8: the laws' sum.
-/
import Derived.Test.YtnnffcfdokejbaaNk
namespace Go.Proofs.Ytnnffcfdokejbaa.rd
open Go.RowKit

/-- A name, a plus, and the name again. -/
def sumT (a : Int) : Tree := .mk 206 a (a + 3) [.mk 201 a (a + 1) [.mk 10 a (a + 1) []], .mk 20 (a + 1) (a + 2) [], .mk 201 (a + 2) (a + 1 + 2) [.mk 10 (a + 2) (a + 1 + 2) []]]
def nameT (a : Int) : Tree := .mk 201 a (a + 1) [.mk 10 a (a + 1) []]
theorem leaf_otie (w : World) (k i j : Int) : OTie w (fun _ => False) (.mk k i j []) ⟨k, i, j, none, 0, 0⟩ := by
  rw [OTie]
  exact ⟨rfl, rfl, rfl, rfl, by simp, [], fun _ => False, Mine.nil _ _, fun g hg => by simp [Value.ownBlock] at hg, fun g hg => hg, OTies.nil⟩
theorem name_otie {w : World} {g : Nat} {a : Int} (h : Mine nd w 0 (.slice (some ⟨g, 0, none⟩) 1 1) [⟨10, a, a + 1, none, 0, 0⟩]) : OTie w (fun k => k = g) (nameT a) ⟨201, a, a + 1, some ⟨g, 0, none⟩, 1, 1⟩ := by
  rw [nameT, OTie]
  refine ⟨rfl, rfl, rfl, rfl, by simp, [⟨10, a, a + 1, none, 0, 0⟩], fun _ => False, h, fun k hk => ⟨?_, fun h => h⟩, fun k hk => hk.elim, ?_⟩
  · simp only [Value.ownBlock, Option.some.injEq] at hk
    exact hk.symm
  · rw [OTies]
    exact ⟨_, [], fun _ => False, fun _ => False, rfl, fun _ h => h, fun _ h => h, fun _ h _ => h, leaf_otie _ _ _ _, OTies.nil⟩
theorem three_world (w : World) (a : Int) : ∃ W3, ((w.alloc (.cells #[.int .i64 0, .int .i64 0, .int .i64 0, .slice none 0 0] 24)).alloc (.cells #[.int .i64 10, .int .i64 a, .int .i64 (a + 1), .slice none 0 0] 24)).alloc (.cells #[.int .i64 201, .int .i64 a, .int .i64 (a + 1), .slice (some ⟨w.heap.size + 1, 0, none⟩) 1 1] 24) = W3 ∧ Below w.heap.size w W3 ∧ W3.heap[w.heap.size]? = some (.cells #[.int .i64 0, .int .i64 0, .int .i64 0, .slice none 0 0] 24 (0, 0)) ∧ Mine nd W3 (w.heap.size + 1) (.slice (some ⟨w.heap.size + 1, 0, none⟩) 1 1) [⟨10, a, a + 1, none, 0, 0⟩] ∧ W3.heap[w.heap.size + 1 + 1]? = some (.cells #[.int .i64 201, .int .i64 a, .int .i64 (a + 1), .slice (some ⟨w.heap.size + 1, 0, none⟩) 1 1] 24 (0, 0)) := by
  obtain ⟨W2, h1, h2, h3, h4⟩ := two_node_boxes w 0 0 0 10 a (a + 1) none none 0 0 0 0
  have hm := Mine.lit (F := nd) (w.alloc (.cells #[.int .i64 0, .int .i64 0, .int .i64 0, .slice none 0 0] 24)) [⟨10, a, a + 1, none, 0, 0⟩] (B := w.heap.size + 1) (by rw [World.size_alloc]; exact Nat.le_refl _) (by show 1 ≤ maxLen; decide)
  rw [World.size_alloc] at hm
  have hm2 : Mine nd W2 (w.heap.size + 1) (.slice (some ⟨w.heap.size + 1, 0, none⟩) 1 1) [⟨10, a, a + 1, none, 0, 0⟩] := by rw [← h1]; exact hm
  have hz2 : W2.heap.size = w.heap.size + 1 + 1 := by rw [← h1, World.size_alloc, World.size_alloc]
  rw [h1]
  have hb : Below W2.heap.size W2 (W2.alloc (.cells #[.int .i64 201, .int .i64 a, .int .i64 (a + 1), .slice (some ⟨w.heap.size + 1, 0, none⟩) 1 1] 24)) := (Below.refl _ _).alloc (Nat.le_refl _) _
  have hl := heap_alloc_last W2 (.cells #[.int .i64 201, .int .i64 a, .int .i64 (a + 1), .slice (some ⟨w.heap.size + 1, 0, none⟩) 1 1] 24)
  rw [hz2] at hl
  exact ⟨_, rfl, h4.trans (hb.mono h4.size), (hb.block _ (by omega)).trans h2, hm2.below hb, hl⟩
/-- What the sum's region leaves. -/
theorem sum_end {w W3 w9 : World} {a : Int} {n : Rn} (hb3 : Below w.heap.size w W3) (hx : W3.heap[w.heap.size]? = some (.cells #[.int .i64 0, .int .i64 0, .int .i64 0, .slice none 0 0] 24 (0, 0))) (hm : Mine nd W3 (w.heap.size + 1) (.slice (some ⟨w.heap.size + 1, 0, none⟩) 1 1) [⟨10, a, a + 1, none, 0, 0⟩]) (hb9 : Below W3.heap.size W3 w9) (hf : Fresh W3.heap.size w9 (.mk 201 (a + 2) (a + 1 + 2) [.mk 10 (a + 2) (a + 1 + 2) []]) n) :
    ∃ W8, W8 = ((((w9.setCell ⟨w.heap.size, 0, none⟩ (.int .i64 206)).setCell ⟨w.heap.size, 1, none⟩ (.int .i64 a)).setCell ⟨w.heap.size, 2, none⟩ (.int .i64 (a + 3))).setCell ⟨w.heap.size, 3, none⟩ (.slice (some ⟨w9.heap.size, 0, none⟩) 3 3)).alloc (.cells #[.int .i64 201, .int .i64 a, .int .i64 (a + 1), .slice (some ⟨w.heap.size + 1, 0, none⟩) 1 1, .int .i64 20, .int .i64 (a + 1), .int .i64 (a + 2), .slice none 0 0, .int .i64 n.k, .int .i64 n.i, .int .i64 n.j, .slice n.o n.n n.c] 24) ∧ W8.heap[w.heap.size]? = some (.cells #[.int .i64 206, .int .i64 a, .int .i64 (a + 3), .slice (some ⟨w9.heap.size, 0, none⟩) 3 3] 24 (0, 0)) ∧ Below w.heap.size w W8 ∧ Fresh w.heap.size W8 (sumT a) ⟨206, a, a + 3, some ⟨w9.heap.size, 0, none⟩, 3, 3⟩ := by
  have hz0 : w.heap.size < W3.heap.size := (Array.getElem?_eq_some_iff.1 hx).1
  have hz1 : W3.heap.size ≤ w9.heap.size := hb9.size
  have hz3 : w.heap.size + 1 < W3.heap.size := (World.ownsRow.lt hm (w.heap.size + 1) rfl).2
  have hx9 := (hb9.block _ hz0).trans hx
  obtain ⟨W7, hW7, hbox, hs, hbl⟩ := put_box hx9 206 a (a + 3) (some ⟨w9.heap.size, 0, none⟩) 3 3
  have hz7 : W7.heap.size = w9.heap.size := by rw [hW7, size_set, size_set, size_set, size_set]
  rw [← hW7]
  have hbw := hbl w (hb3.trans (hb9.mono hb3.size)) (Nat.le_refl _)
  have hlit : Mine nd (W7.alloc (.cells #[.int .i64 201, .int .i64 a, .int .i64 (a + 1), .slice (some ⟨w.heap.size + 1, 0, none⟩) 1 1, .int .i64 20, .int .i64 (a + 1), .int .i64 (a + 2), .slice none 0 0, .int .i64 n.k, .int .i64 n.i, .int .i64 n.j, .slice n.o n.n n.c] 24)) 0 (.slice (some ⟨W7.heap.size, 0, none⟩) 3 3) [⟨201, a, a + 1, some ⟨w.heap.size + 1, 0, none⟩, 1, 1⟩, ⟨20, a + 1, a + 2, none, 0, 0⟩, n] :=
    Mine.lit (F := nd) W7 [⟨201, a, a + 1, some ⟨w.heap.size + 1, 0, none⟩, 1, 1⟩, ⟨20, a + 1, a + 2, none, 0, 0⟩, n] (Nat.zero_le _) (by show 3 ≤ maxLen; decide)
  rw [hz7] at hlit
  have hu : Below W7.heap.size W7 (W7.alloc (.cells #[.int .i64 201, .int .i64 a, .int .i64 (a + 1), .slice (some ⟨w.heap.size + 1, 0, none⟩) 1 1, .int .i64 20, .int .i64 (a + 1), .int .i64 (a + 2), .slice none 0 0, .int .i64 n.k, .int .i64 n.i, .int .i64 n.j, .slice n.o n.n n.c] 24)) := (Below.refl _ _).alloc (Nat.le_refl _) _
  have hzu : (W7.alloc (.cells #[.int .i64 201, .int .i64 a, .int .i64 (a + 1), .slice (some ⟨w.heap.size + 1, 0, none⟩) 1 1, .int .i64 20, .int .i64 (a + 1), .int .i64 (a + 2), .slice none 0 0, .int .i64 n.k, .int .i64 n.i, .int .i64 n.j, .slice n.o n.n n.c] 24)).heap.size = w9.heap.size + 1 := by rw [World.size_alloc, hz7]
  refine ⟨_, rfl, ?_⟩
  generalize W7.alloc (.cells #[.int .i64 201, .int .i64 a, .int .i64 (a + 1), .slice (some ⟨w.heap.size + 1, 0, none⟩) 1 1, .int .i64 20, .int .i64 (a + 1), .int .i64 (a + 2), .slice none 0 0, .int .i64 n.k, .int .i64 n.i, .int .i64 n.j, .slice n.o n.n n.c] 24) = u at *
  have hsame : ∀ k, k ≠ w.heap.size → k < w9.heap.size → u.heap[k]? = w9.heap[k]? := fun k h1 h2 => (hu.block k (by omega)).trans (hs k h1)
  obtain ⟨D2, ho2, hd2⟩ := hf
  have hd3 : ∀ k, D2 k → w.heap.size + 1 < k ∧ k < w9.heap.size := fun k hk => by
    have := hd2 k hk
    omega
  refine ⟨(hu.block _ (by omega)).trans hbox, hbw.trans (hu.mono hbw.size), fun k => k = w.heap.size + 1 ∨ D2 k ∨ k = w9.heap.size, ?_, fun k hk => ?_⟩
  · rw [sumT, OTie]
    refine ⟨rfl, rfl, rfl, rfl, by simp, _, fun k => k = w.heap.size + 1 ∨ D2 k, hlit, fun k hk => ?_, fun k hk => hk.elim .inl (fun h => .inr (.inl h)), ?_⟩
    · have hk' : w9.heap.size = k := by simpa [Value.ownBlock] using hk
      refine ⟨.inr (.inr hk'.symm), fun he => ?_⟩
      rcases he with he | he
      · omega
      · have := hd3 _ he
        omega
    · rw [OTies]
      refine ⟨_, _, fun k => k = w.heap.size + 1, D2, rfl, fun k hk => .inl hk, fun k hk => .inr hk, fun k hk he => ?_, name_otie ((hm.mono (Nat.zero_le _)).keep (fun k hk _ => ?_)), ?_⟩
      · have := hd3 k he
        omega
      · have hk' : w.heap.size + 1 = k := by simpa [Value.ownBlock] using hk
        exact (hsame k (by omega) (by omega)).trans (hb9.block k (by omega))
      · rw [OTies]
        refine ⟨_, _, fun _ => False, D2, rfl, fun k hk => hk.elim, fun k hk => hk, fun k hk => hk.elim, leaf_otie _ _ _ _, ?_⟩
        rw [OTies]
        exact ⟨_, [], D2, fun _ => False, rfl, fun k hk => hk, fun k hk => hk.elim, fun k _ h => h, OTie.keep (fun k hk => hsame k (by have := hd3 k hk; omega) (hd3 k hk).2) (fun _ h => h) _ _ ho2, OTies.nil⟩
  · rcases hk with hk | hk | hk
    · omega
    · have := hd3 k hk
      omega
    · omega
set_option maxRecDepth 100000 in
set_option maxHeartbeats 4000000 in
theorem sum_any (a : Int) (h0 : 0 ≤ a) (h1 : a ≤ 1000) (w : World) : Calls Try.prog 42 #[.int .i64 a] w fun e w' => ∃ n', e = .returned n'.v ∧ Below w.heap.size w w' ∧ Fresh w.heap.size w' (sumT a) n' := by
  have e1 : wrap64 (a + 1) = a + 1 := IntWalk.wrap64_in _ (by omega)
  have e2 : wrap64 (a + 2) = a + 2 := IntWalk.wrap64_in _ (by omega)
  have e3 : wrap64 (a + 3) = a + 3 := IntWalk.wrap64_in _ (by omega)
  have e4 : wrap64 (a + 1 + 2) = a + 1 + 2 := IntWalk.wrap64_in _ (by omega)
  have i1 : IntKind.i64.wrap (a + 1) = a + 1 := by rw [IntWalk.i64_left]; exact e1
  have i2 : IntKind.i64.wrap (a + 2) = a + 2 := by rw [IntWalk.i64_left]; exact e2
  have i3 : IntKind.i64.wrap (a + 3) = a + 3 := by rw [IntWalk.i64_left]; exact e3
  go_enter Try.func42, Try.ntmps42
  go_wp2_with fail
  obtain ⟨W3, hW3, hb3, hx, hm, hy⟩ := three_world w a
  have HS : Hid (∀ u, Below W3.heap.size W3 u → Calls Try.prog 31 #[.agg #[.int .i64 201, .int .i64 a, .int .i64 (a + 1), .slice (some ⟨w.heap.size + 1, 0, none⟩) 1 1], .int .i64 2] u fun e w' => ∃ n', e = .returned n'.v ∧ Below u.heap.size u w' ∧ Fresh W3.heap.size w' (.mk 201 (a + 2) (a + 1 + 2) [.mk 10 (a + 2) (a + 1 + 2) []]) n') := Lib.hid (fun u hu => by
    have ht : Hid (TieB u (nameT a) ⟨201, a, a + 1, some ⟨w.heap.size + 1, 0, none⟩, 1, 1⟩) := TieB.below (Lib.hid ⟨_, OTie.tie _ _ (name_otie (hm.mono (Nat.zero_le _))), fun k hk => by have := (World.ownsRow.lt hm (w.heap.size + 1) rfl).2; omega⟩) hu
    refine (shift_t (nameT a) u _ 2 ht).mono fun e w' ⟨n', h1, h2, h3⟩ => ⟨n', h1, h2, ?_⟩
    simp only [nameT, shiftT, shiftTs, e2, e4] at h3
    exact h3.mono hu.size)
  have HEND := Lib.hid (fun w9 n h1 h2 => sum_end (w9 := w9) (n := n) hb3 hx hm h1 h2)
  have HT : Hid (∀ u, Below W3.heap.size W3 u → ((u.cell? ⟨w.heap.size, 0, none⟩ = some (.int .i64 0) ∧ u.cell? ⟨w.heap.size, 1, none⟩ = some (.int .i64 0) ∧ u.cell? ⟨w.heap.size, 2, none⟩ = some (.int .i64 0) ∧ u.cell? ⟨w.heap.size, 3, none⟩ = some (.slice none 0 0)) ∧ (∀ j, u.frozen? ⟨w.heap.size, j, none⟩ = false) ∧ w.heap.size < u.heap.size) ∧ (u.cell? ⟨w.heap.size + 1 + 1, 0, none⟩ = some (.int .i64 201) ∧ u.cell? ⟨w.heap.size + 1 + 1, 1, none⟩ = some (.int .i64 a) ∧ u.cell? ⟨w.heap.size + 1 + 1, 2, none⟩ = some (.int .i64 (a + 1)) ∧ u.cell? ⟨w.heap.size + 1 + 1, 3, none⟩ = some (.slice (some ⟨w.heap.size + 1, 0, none⟩) 1 1)) ∧ w.heap.size + 1 + 1 < u.heap.size) := Lib.hid (fun u hu => by
    have hx' := (hu.block _ (Array.getElem?_eq_some_iff.1 hx).1).trans hx
    have hy' := (hu.block _ (Array.getElem?_eq_some_iff.1 hy).1).trans hy
    exact ⟨⟨(four_cells0 hx').1, (four_cells0 hx').2, (Array.getElem?_eq_some_iff.1 hx').1⟩, (four_cells0 hy').1, (Array.getElem?_eq_some_iff.1 hy').1⟩)
  obtain ⟨_, ⟨x0, x1, x2, x3⟩, xz⟩ := HT.out W3 (Below.refl _ _)
  obtain ⟨_, ⟨y0, y1, y2, y3⟩, yz⟩ := HT.out W3.drew (Below.refl _ _).drew
  rw [hW3]
  clear hW3 hb3 hx hm hy
  go_region_law (go_simp; go_at_call 31; refine (HS.out _ (by first | exact (Below.refl _ _).drew | exact Below.refl _ _)).mono ?_; rintro e w9 ⟨⟨mk, mi, mj, mo, mn, mc⟩, rfl, hb9, hf9⟩; have hb9' : Below W3.heap.size W3 w9 := (by first | exact (Below.refl _ _).drew.trans hb9 | exact hb9); obtain ⟨⟨⟨z0, z1, z2, z3⟩, zf, zz⟩, ⟨v0, v1, v2, v3⟩, vz⟩ := HT.out w9 hb9'; have f0 := zf 0; have f1 := zf 1; have f2 := zf 2; have f3 := zf 3; have HE := Lib.hid (HEND.out w9 _ hb9' hf9); clear hb9 hf9 hb9' zf; dsimp only [Rn.v])
  all_goals (try go_wp2_with fail)
  all_goals (
    obtain ⟨W8, hW8, hbox, hbb, hff⟩ := HE.out
    try simp only [] at hW8
    rw [← hW8]
    refine bodyPost_ret (v := .agg #[.int .i64 206, .int .i64 a, .int .i64 (a + 3), .slice (some ⟨w9.heap.size, 0, none⟩) 3 3]) (results_cell_row rfl _ _ w.heap.size 24 _ (0, 0) _ rfl hbox Try.underlying24 rfl (by as_aux_lemma => kernel_rfl)) rfl ⟨⟨206, a, a + 3, some ⟨w9.heap.size, 0, none⟩, 3, 3⟩, rfl, hbb, hff⟩)
end Go.Proofs.Ytnnffcfdokejbaa.rd
