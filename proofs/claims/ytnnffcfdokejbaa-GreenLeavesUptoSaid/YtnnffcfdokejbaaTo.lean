/-
  Layer 8: the program's Put.
-/
import Derived.Test.YtnnffcfdokejbaaTn
namespace Go.Proofs.Ytnnffcfdokejbaa.rd
open Go.RowKit

mutual
theorem gput_t : ∀ t : Tree, GPutC 45 t
  | .mk k i j l => gput_node k i j l (gput_l l)
theorem gput_l : ∀ (l : List Tree), ∀ t ∈ l, GPutC 45 t
  | [], t, h => by cases h
  | u :: l, t, h => by
    rcases List.mem_cons.1 h with h | h
    · rw [h]; exact gput_t u
    · exact gput_l l t h
end
set_option maxRecDepth 100000 in
set_option maxHeartbeats 4000000 in
/-- Put, of any tree. -/
theorem gPut_any {w : World} {b m : Nat} {vN : Value} {L : List Gr} {t : Tree} {n : Rn} {s : ByteArray} {T : Nat → Prop} (hp : PoolG w b m vN L) (hT : Tie w T t n) (hTd : ∀ k, T k → k < w.heap.size ∧ ¬ dd b m vN k) (hin : InR t) (hs : s.size ≤ 281474976710656) (hfew : (putT s t L).1.length ≤ 4294967296) :
    Calls Try.prog 18 #[.pointer (some ⟨b, 0, none⟩), .string s, n.v] w fun e w' => e = .returned (.tuple #[.int .i64 (if fitT s.size t then ((putT s t L).2 : Int) else 0), .int .i64 (errOf (fitT s.size t))]) ∧ ∃ vN', PoolG w' b m vN' (if fitT s.size t then (putT s t L).1 else L) ∧ Marked (dd b m vN) w w' ∧ ∀ q, vN'.ownBlock = some q → vN.ownBlock = some q ∨ w.heap.size ≤ q := by
  have hTB : Hid (TieB w t n) := Lib.hid ⟨T, hT, fun k hk => (hTd k hk).1⟩
  obtain ⟨k, i, j, o, nn, c⟩ := n
  have HCK := Lib.hid (fun u (hu : Below w.heap.size w u) => gcheck_t t u ⟨k, i, j, o, nn, c⟩ s (TieB.below hTB hu))
  have HPUT := Lib.hid (fun (hfit : fitT s.size t = true) u (hu : Below w.heap.size w u) => gput_t t u b m vN L ⟨k, i, j, o, nn, c⟩ s T (hp.below hu) (Tie.keep (fun q hq => hu.block q (hTd q hq).1) (fun _ h => h) _ _ hT) (fun q hq => ⟨Nat.lt_of_lt_of_le (hTd q hq).1 hu.size, (hTd q hq).2⟩) hfit hin hs hfew)
  rw [show (Rn.mk k i j o nn c).v = .agg #[.int .i64 k, .int .i64 i, .int .i64 j, .slice o nn c] from rfl] at HCK HPUT
  have hdz := hp.lt
  have hb1 : Below w.heap.size w (w.alloc (.cells #[.int .i64 k, .int .i64 i, .int .i64 j, .slice o nn c] 24)) := (Below.refl _ _).alloc (Nat.le_refl _) _
  have hx1 := heap_alloc_last w (.cells #[.int .i64 k, .int .i64 i, .int .i64 j, .slice o nn c] 24)
  have HB1 := Lib.hid (And.intro hb1 hx1)
  have HPO := Lib.hid hp
  show Calls Try.prog 18 #[.pointer (some ⟨b, 0, none⟩), .string s, .agg #[.int .i64 k, .int .i64 i, .int .i64 j, .slice o nn c]] w _
  obtain ⟨X, hX⟩ : ∃ X, w.heap.size = X := ⟨_, rfl⟩
  have HX := Lib.hid hX
  cases hf : fitT s.size t with
  | false =>
    rw [hf] at HCK
    simp only [Bool.false_eq_true, if_false]
    clear hp hT hTd hin hs hfew hTB hdz hb1 hx1 hX hf HPUT
    go_enter Try.func18, Try.ntmps18
    go_wp2_with (go_at_call 12; (with_reducible refine (HCK.out _ HB1.out.1).mono ?_); rintro e w2 ⟨rfl, hb2⟩; have HB2 := Lib.hid (HB1.out.1.trans (hb2.mono HB1.out.1.size)); clear hb2; dsimp only [errOf])
    go_ret2
    exact ⟨rfl, vN, HPO.out.below HB2.out, Marked.of_below HB2.out, fun q hq => .inl hq⟩
  | true =>
    have HPUT' := Lib.hid (HPUT.out hf)
    rw [hf] at HCK
    simp only [if_true]
    clear hp hT hTd hin hs hfew hTB hdz hb1 hx1 hX hf HPUT
    go_enter Try.func18, Try.ntmps18
    go_wp2_with (first
      | (go_at_call 12; (with_reducible refine (HCK.out _ HB1.out.1).mono ?_); rintro e w2 ⟨rfl, hb2⟩; have hx2 := (hb2.block _ (Array.getElem?_eq_some_iff.1 HB1.out.2).1).trans HB1.out.2; obtain ⟨⟨x0, x1, x2, x3⟩, _⟩ := four_cells0 hx2; have xz := (Array.getElem?_eq_some_iff.1 hx2).1; have HB2 := Lib.hid (HB1.out.1.trans (hb2.mono HB1.out.1.size)); clear hb2 hx2; dsimp only [errOf])
      | (go_at_call 45; (with_reducible refine (HPUT'.out _ HB2.out).mono ?_); rintro e w3 ⟨rfl, vN', h3, h4, h5⟩; have HE := Lib.hid (And.intro h3 (And.intro h4 h5)); clear h3 h4 h5))
    go_ret2
    obtain ⟨h3, h4, h5⟩ := HE.out
    have hz := HB2.out.size
    exact ⟨rfl, vN', h3, (Marked.of_below (D := dd b m vN) HB2.out).trans h4 (fun q hq => .inl hq), fun q hq => (h5 q hq).imp id (fun h => by omega)⟩
end Go.Proofs.Ytnnffcfdokejbaa.rd
