/-
  Layer 8: the program's Text.
-/
import Derived.Test.YtnnffcfdokejbaaTr
import Derived.Test.YtnnffcfdokejbaaTj
namespace Go.Proofs.Ytnnffcfdokejbaa.rd
open Go.RowKit

theorem bld_new {X : Nat} {w : World} (h : Lib.BuilderAt 95 5 X X (.pointer (some ⟨X, 0, none⟩)) [] w) : Bld X X [] w := Or.inr (Lib.BuilderAtF.of h)
theorem bld_box (w : World) : (w.alloc (.cells #[.pointer none, .slice none 0 0] 95)).heap[w.heap.size]? = some (.cells #[.pointer none, .slice none 0 0] 95 (0, 0)) := heap_alloc_last w _
set_option maxRecDepth 100000 in
set_option maxHeartbeats 4000000 in
theorem text_any {w : World} {b m : Nat} {vN : Value} {L : List Gr} (h : PoolG w b m vN L) (id : Nat) (hid : id < L.length) (hsz : L[id].s.size ≤ 140737488355328) : Calls Try.prog 28 #[.pointer (some ⟨b, 0, none⟩), .int .i64 (id : Int)] w fun e w' => e = .returned (.tuple #[.string L[id].s, .int .i64 0]) ∧ Below w.heap.size w w' := by
  have HH := Lib.hid (fun w' hb => has_any (h.below (w' := w') hb) (id : Int))
  obtain ⟨g, o, c, rfl, ho, ⟨c0, c1⟩, hbz, hcell⟩ := h.out
  obtain ⟨rfl, hg⟩ := ho (by intro e; rw [e] at hid; simp at hid)
  obtain ⟨a0, a1, a2, a3⟩ := cells_gk hcell id (by rw [List.length_map]; exact hid)
  rw [List.getElem_map] at a0 a1 a2 a3
  simp only [Nat.zero_add] at a0 a1 a2 a3
  have htest : (decide (0 ≤ (id : Int)) && decide ((id : Int) < (L.length : Int))) = true := by simp; omega
  rw [htest] at HH
  have hi0 : (0 : Int) ≤ (id : Int) := by omega
  have hin : (id : Int) < (L.length : Int) := by omega
  change w.cell? ⟨g, id * 4 + 3, none⟩ = some (.int .i64 (L[id].s.size : Int)) at a3
  have hb1 : Below w.heap.size w (w.alloc (.cells #[.pointer none, .slice none 0 0] 95)) := (Below.refl _ _).alloc (Nat.le_refl _) _
  have HGR := Lib.hid (Try.Builder_Grow_fresh w.heap.size w.heap.size L[id].s.size _ (Nat.le_refl _) (bld_box w) hb1.size (by omega))
  have HWR := Lib.hid (fun u (hu : Below w.heap.size w u) (hbl : Bld w.heap.size w.heap.size [] u) => write_any id u b m _ L w.heap.size w.heap.size [] hid (h.below hu) hbl h.lt hu.size (by simpa using hsz))
  have HST := Lib.hid (fun u (hu : Below w.heap.size w u) (l : List UInt8) (hbl : Bld w.heap.size w.heap.size l u) => Try.Builder_String_any_k w.heap.size w.heap.size l u hbl hu.size)
  obtain ⟨tx, htx⟩ : ∃ x, L[id].s = x := ⟨_, rfl⟩
  rw [htx] at a3 HGR
  have HWR' : Hid (∀ u, Below w.heap.size w u → Bld w.heap.size w.heap.size [] u → Calls Try.prog 51 #[.pointer (some ⟨b, 0, none⟩), .pointer (some ⟨w.heap.size, 0, none⟩), .int .i64 (id : Int)] u fun e w' => e = .returned (.tuple #[]) ∧ Bld w.heap.size w.heap.size tx.data.toList w' ∧ Below w.heap.size u w') := Lib.hid (fun u hu hbl => (HWR.out u hu hbl).mono fun e w' ⟨h1, h2, h3⟩ => ⟨h1, by rw [← htx]; exact h2, h3.below⟩)
  have HB1 := Lib.hid hb1
  rw [htx]
  obtain ⟨X, hX⟩ : ∃ X, w.heap.size = X := ⟨_, rfl⟩
  have HX := Lib.hid hX
  rw [hX] at HGR
  clear hb1 HWR htx hsz hX
  have HZ2 : Hid (∀ w2, Below X (w.alloc (.cells #[.pointer none, .slice none 0 0] 95)) w2 → Below X w w2) := Lib.hid (fun w2 h2 => by have h := HB1.out; rw [HX.out] at h; exact h.trans h2)
  have HWR'' := HWR'
  have HST' := HST
  rw [HX.out] at HWR'' HST'
  clear h ho hcell htest
  go_enter Try.func28, Try.ntmps28
  go_wp2_with (first
    | (go_at_call 48; (with_reducible refine (HH.out _ (Below.refl _ _)).mono ?_); rintro e w1 ⟨rfl, rfl⟩)
    | (go_at_call 50; rw [HX.out]; (with_reducible refine HGR.out.mono ?_); rintro e w2 ⟨rfl, hbl, hb2⟩; have HE2 := Lib.hid (And.intro hbl hb2); clear hbl hb2)
    | (go_at_call 51; (with_reducible refine (HWR''.out _ (HZ2.out _ HE2.out.2) (bld_new HE2.out.1)).mono ?_); rintro e w3 ⟨rfl, hbl3, hb3⟩; have HE3 := Lib.hid (And.intro hbl3 ((HZ2.out _ HE2.out.2).trans hb3)); clear hbl3 hb3)
    | (go_at_call 52; (with_reducible refine (HST'.out _ HE3.out.2 _ HE3.out.1).mono ?_); rintro e w4 ⟨rfl, hbl4, hb4, _⟩; have HE4 := Lib.hid (HE3.out.2.trans hb4); clear hbl4 hb4))
  go_ret2
  first
    | exact ⟨rfl, HE4.out⟩
    | exact ⟨rfl, by rw [HX.out]; exact HE4.out⟩
theorem text_none {w : World} {b m : Nat} {vN : Value} {L : List Gr} (h : PoolG w b m vN L) (id : Int) (hid : ¬ (0 ≤ id ∧ id < (L.length : Int))) : Calls Try.prog 28 #[.pointer (some ⟨b, 0, none⟩), .int .i64 id] w fun e w' => e = .returned (.tuple #[.string { data := #[] }, .int .i64 100]) ∧ Below w.heap.size w w' := by
  have HH := Lib.hid (fun w' hb => has_any (h.below (w' := w') hb) id)
  have htest : (decide (0 ≤ id) && decide (id < (L.length : Int))) = false := by
    rw [Bool.and_eq_false_iff]
    by_cases h0 : 0 ≤ id
    · exact .inr (decide_eq_false (fun e => hid ⟨h0, e⟩))
    · exact .inl (decide_eq_false h0)
  rw [htest] at HH
  clear h htest hid
  go_enter Try.func28, Try.ntmps28
  go_wp2_with (first
    | (go_at_call 48; (with_reducible refine (HH.out _ (Below.refl _ _)).mono ?_); rintro e w1 ⟨rfl, rfl⟩))
  go_ret2
  exact ⟨rfl, Below.refl _ _⟩
end Go.Proofs.Ytnnffcfdokejbaa.rd
