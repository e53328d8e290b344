/-
  Layer 8: the program's pool: New, Len, Kind, Width, Kids.
-/
import Derived.Test.YtnnffcfdokejbaaTi
namespace Go.Proofs.Ytnnffcfdokejbaa.rd
open Go.RowKit

set_option maxRecDepth 100000 in
set_option maxHeartbeats 4000000 in
theorem new_any (w : World) : Calls Try.prog 15 #[] w fun e w' => ∃ b m, e = .returned (.pointer (some ⟨b, 0, none⟩)) ∧ Below w.heap.size w w' ∧ PoolG w' b m (.slice none 0 0) [] ∧ ∀ k, dd b m (.slice none 0 0) k → w.heap.size ≤ k := by
  have hmm := @run_makeMap Try.prog
  go_enter Try.func15, Try.ntmps15
  go_wp2_with fail
  go_ret
  have z1 : (w.alloc (.map #[] 0)).heap.size = w.heap.size + 1 := World.size_alloc _ _
  have b1 : Below w.heap.size w (w.alloc (.map #[] 0)) := (Below.refl _ _).alloc (Nat.le_refl _) _
  have hm := World.ownsMap_made (H := Unit) w Try.prog 88 (plainElem (H := Unit) Try.prog 3)
  have hp := heap_alloc_last (w.alloc (.map #[] 0)) (.cells #[.map (some w.heap.size), .slice none 0 0] 81)
  rw [z1] at hp
  refine ⟨_, w.heap.size, rfl, b1.alloc b1.size _, ⟨hp, ⟨_, hm.alloc _, ⟨fun i h => by simp at h, fun kl h => by simp [Maps.has] at h⟩⟩, Mine.nil _ _, ⟨by simp, fun i h => by simp at h⟩⟩, fun k hk => ?_⟩
  rcases hk with rfl | rfl | hk
  · omega
  · omega
  · simp [Value.ownBlock] at hk
set_option maxRecDepth 100000 in
set_option maxHeartbeats 4000000 in
theorem glen_any {w : World} {b m : Nat} {vN : Value} {L : List Gr} (h : PoolG w b m vN L) : Calls Try.prog 17 #[.pointer (some ⟨b, 0, none⟩)] w fun e w' => e = .returned (.int .i64 (L.length : Int)) ∧ Below w.heap.size w w' := by
  obtain ⟨g, o, c, rfl, _, ⟨c0, c1⟩, hbz, _⟩ := h.out
  clear h
  go_enter Try.func17, Try.ntmps17
  go_wp2_with fail
  go_ret
  exact ⟨rfl, Below.refl _ _⟩
set_option maxRecDepth 100000 in
set_option maxHeartbeats 4000000 in
theorem has_any {w : World} {b m : Nat} {vN : Value} {L : List Gr} (h : PoolG w b m vN L) (id : Int) : Calls Try.prog 48 #[.pointer (some ⟨b, 0, none⟩), .int .i64 id] w fun e w' => e = .returned (.bool (decide (0 ≤ id) && decide (id < (L.length : Int)))) ∧ w = w' := by
  obtain ⟨g, o, c, rfl, _, ⟨c0, c1⟩, hbz, _⟩ := h.out
  obtain ⟨n, hn⟩ : ∃ n, L.length = n := ⟨_, rfl⟩
  rw [hn] at c1 ⊢
  clear h hn
  by_cases h0 : 0 ≤ id
  · have d0 : decide (0 ≤ id) = true := decide_eq_true h0
    by_cases h1 : id < (n : Int)
    · have d1 : decide (id < (n : Int)) = true := decide_eq_true h1
      rw [d0, d1]
      go_enter Try.func48, Try.ntmps48
      go_wp2_with fail
      go_ret
      exact ⟨rfl, rfl⟩
    · have d1 : decide (id < (n : Int)) = false := decide_eq_false h1
      rw [d0, d1]
      go_enter Try.func48, Try.ntmps48
      go_wp2_with fail
      go_ret
      exact ⟨rfl, rfl⟩
  · have d0 : decide (0 ≤ id) = false := decide_eq_false h0
    rw [d0, Bool.false_and]
    go_enter Try.func48, Try.ntmps48
    go_wp2_with fail
    go_ret
    exact ⟨rfl, rfl⟩
set_option maxRecDepth 100000 in
set_option maxHeartbeats 4000000 in
theorem kind_any {w : World} {b m : Nat} {vN : Value} {L : List Gr} (h : PoolG w b m vN L) (id : Nat) (hid : id < L.length) : Calls Try.prog 25 #[.pointer (some ⟨b, 0, none⟩), .int .i64 (id : Int)] w fun e w' => e = .returned (.tuple #[.int .i64 L[id].k, .int .i64 0]) ∧ Below w.heap.size w w' := by
  have HH := Lib.hid (fun w' hb => has_any (h.below (w' := w') hb) (id : Int))
  obtain ⟨g, o, c, rfl, ho, ⟨c0, c1⟩, hbz, hcell⟩ := h.out
  obtain ⟨rfl, hg⟩ := ho (by intro e; rw [e] at hid; simp at hid)
  obtain ⟨a0, a1, a2, a3⟩ := cells_gk hcell id (by rw [List.length_map]; exact hid)
  rw [List.getElem_map] at a0 a1 a2 a3
  simp only [Nat.zero_add] at a0 a1 a2 a3
  have htest : (decide (0 ≤ (id : Int)) && decide ((id : Int) < (L.length : Int))) = true := by simp; omega
  rw [htest] at HH
  have hi0 : (0 : Int) ≤ (id : Int) := by omega
  have hin : (id : Int) < (L.length : Int) := by omega
  clear h ho hcell htest
  go_enter Try.func25, Try.ntmps25
  go_wp2_with (first
    | (go_at_call 48; (with_reducible refine (HH.out _ (Below.refl _ _)).mono ?_); rintro e w1 ⟨rfl, rfl⟩))
  go_ret2
  exact ⟨rfl, Below.refl _ _⟩
theorem kind_none {w : World} {b m : Nat} {vN : Value} {L : List Gr} (h : PoolG w b m vN L) (id : Int) (hid : ¬ (0 ≤ id ∧ id < (L.length : Int))) : Calls Try.prog 25 #[.pointer (some ⟨b, 0, none⟩), .int .i64 id] w fun e w' => e = .returned (.tuple #[.int .i64 0, .int .i64 100]) ∧ Below w.heap.size w w' := by
  have HH := Lib.hid (fun w' hb => has_any (h.below (w' := w') hb) id)
  have htest : (decide (0 ≤ id) && decide (id < (L.length : Int))) = false := by
    rw [Bool.and_eq_false_iff]
    by_cases h0 : 0 ≤ id
    · exact .inr (decide_eq_false (fun e => hid ⟨h0, e⟩))
    · exact .inl (decide_eq_false h0)
  rw [htest] at HH
  clear h htest hid
  go_enter Try.func25, Try.ntmps25
  go_wp2_with (first
    | (go_at_call 48; (with_reducible refine (HH.out _ (Below.refl _ _)).mono ?_); rintro e w1 ⟨rfl, rfl⟩))
  go_ret2
  exact ⟨rfl, Below.refl _ _⟩
set_option maxRecDepth 100000 in
set_option maxHeartbeats 4000000 in
theorem width_any {w : World} {b m : Nat} {vN : Value} {L : List Gr} (h : PoolG w b m vN L) (id : Nat) (hid : id < L.length) : Calls Try.prog 26 #[.pointer (some ⟨b, 0, none⟩), .int .i64 (id : Int)] w fun e w' => e = .returned (.tuple #[.int .i64 (L[id].s.size : Int), .int .i64 0]) ∧ Below w.heap.size w w' := by
  have HH := Lib.hid (fun w' hb => has_any (h.below (w' := w') hb) (id : Int))
  obtain ⟨g, o, c, rfl, ho, ⟨c0, c1⟩, hbz, hcell⟩ := h.out
  obtain ⟨rfl, hg⟩ := ho (by intro e; rw [e] at hid; simp at hid)
  obtain ⟨a0, a1, a2, a3⟩ := cells_gk hcell id (by rw [List.length_map]; exact hid)
  rw [List.getElem_map] at a0 a1 a2 a3
  simp only [Nat.zero_add] at a0 a1 a2 a3
  have htest : (decide (0 ≤ (id : Int)) && decide ((id : Int) < (L.length : Int))) = true := by simp; omega
  rw [htest] at HH
  have hi0 : (0 : Int) ≤ (id : Int) := by omega
  have hin : (id : Int) < (L.length : Int) := by omega
  clear h ho hcell htest
  go_enter Try.func26, Try.ntmps26
  go_wp2_with (first
    | (go_at_call 48; (with_reducible refine (HH.out _ (Below.refl _ _)).mono ?_); rintro e w1 ⟨rfl, rfl⟩))
  go_ret2
  exact ⟨rfl, Below.refl _ _⟩
theorem width_none {w : World} {b m : Nat} {vN : Value} {L : List Gr} (h : PoolG w b m vN L) (id : Int) (hid : ¬ (0 ≤ id ∧ id < (L.length : Int))) : Calls Try.prog 26 #[.pointer (some ⟨b, 0, none⟩), .int .i64 id] w fun e w' => e = .returned (.tuple #[.int .i64 0, .int .i64 100]) ∧ Below w.heap.size w w' := by
  have HH := Lib.hid (fun w' hb => has_any (h.below (w' := w') hb) id)
  have htest : (decide (0 ≤ id) && decide (id < (L.length : Int))) = false := by
    rw [Bool.and_eq_false_iff]
    by_cases h0 : 0 ≤ id
    · exact .inr (decide_eq_false (fun e => hid ⟨h0, e⟩))
    · exact .inl (decide_eq_false h0)
  rw [htest] at HH
  clear h htest hid
  go_enter Try.func26, Try.ntmps26
  go_wp2_with (first
    | (go_at_call 48; (with_reducible refine (HH.out _ (Below.refl _ _)).mono ?_); rintro e w1 ⟨rfl, rfl⟩))
  go_ret2
  exact ⟨rfl, Below.refl _ _⟩
set_option maxRecDepth 100000 in
set_option maxHeartbeats 4000000 in
theorem kids_any {w : World} {b m : Nat} {vN : Value} {L : List Gr} (h : PoolG w b m vN L) (id : Nat) (hid : id < L.length) : Calls Try.prog 27 #[.pointer (some ⟨b, 0, none⟩), .int .i64 (id : Int)] w fun e w' => ∃ v, e = .returned (.tuple #[v, .int .i64 0]) ∧ Below w.heap.size w w' ∧ Mine it w' w.heap.size v L[id].l := by
  have HH := Lib.hid (fun w' hb => has_any (h.below (w' := w') hb) (id : Int))
  obtain ⟨g, o, c, rfl, ho, ⟨c0, c1⟩, hbz, hcell⟩ := h.out
  obtain ⟨rfl, hg⟩ := ho (by intro e; rw [e] at hid; simp at hid)
  obtain ⟨a0, a1, a2, a3⟩ := cells_gk hcell id (by rw [List.length_map]; exact hid)
  rw [List.getElem_map] at a0 a1 a2 a3
  simp only [Nat.zero_add] at a0 a1 a2 a3
  have htest : (decide (0 ≤ (id : Int)) && decide ((id : Int) < (L.length : Int))) = true := by simp; omega
  rw [htest] at HH
  have hi0 : (0 : Int) ≤ (id : Int) := by omega
  have hin : (id : Int) < (L.length : Int) := by omega
  have hgood := h.ok.all id hid
  have HU := Lib.hid (unpacked_any w L[id].l (hgood.small (by have := h.ok.few; omega)) (by have := hgood.kids; omega))
  change w.cell? ⟨g, id * 4 + 2, none⟩ = some (.string (B (packL L[id].l))) at a2
  obtain ⟨ps, hps⟩ : ∃ x, B (packL L[id].l) = x := ⟨_, rfl⟩
  rw [hps] at HU a2
  clear hps hgood
  clear h ho hcell htest
  go_enter Try.func27, Try.ntmps27
  go_wp2_with (first
    | (go_at_call 48; (with_reducible refine (HH.out _ (Below.refl _ _)).mono ?_); rintro e w1 ⟨rfl, rfl⟩)
    | (go_at_call 49; (with_reducible refine HU.out.mono ?_); rintro e w2 ⟨v, rfl, hb2, hm2⟩; have HE := Lib.hid (And.intro hb2 hm2); clear hb2 hm2))
  go_ret2
  exact ⟨_, rfl, HE.out.1, HE.out.2⟩
theorem kids_none {w : World} {b m : Nat} {vN : Value} {L : List Gr} (h : PoolG w b m vN L) (id : Int) (hid : ¬ (0 ≤ id ∧ id < (L.length : Int))) : Calls Try.prog 27 #[.pointer (some ⟨b, 0, none⟩), .int .i64 id] w fun e w' => e = .returned (.tuple #[.slice none 0 0, .int .i64 100]) ∧ Below w.heap.size w w' := by
  have HH := Lib.hid (fun w' hb => has_any (h.below (w' := w') hb) id)
  have htest : (decide (0 ≤ id) && decide (id < (L.length : Int))) = false := by
    rw [Bool.and_eq_false_iff]
    by_cases h0 : 0 ≤ id
    · exact .inr (decide_eq_false (fun e => hid ⟨h0, e⟩))
    · exact .inl (decide_eq_false h0)
  rw [htest] at HH
  clear h htest hid
  go_enter Try.func27, Try.ntmps27
  go_wp2_with (first
    | (go_at_call 48; (with_reducible refine (HH.out _ (Below.refl _ _)).mono ?_); rintro e w1 ⟨rfl, rfl⟩))
  go_ret2
  exact ⟨rfl, Below.refl _ _⟩
end Go.Proofs.Ytnnffcfdokejbaa.rd
