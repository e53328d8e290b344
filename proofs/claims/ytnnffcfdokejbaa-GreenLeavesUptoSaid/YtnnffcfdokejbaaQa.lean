/-
  Layer 8: the law GreenChecks, over what the program's functions are held to.
-/
import Derived.Test.YtnnffcfdokejbaaNl
namespace Go.Proofs.Ytnnffcfdokejbaa.rd
open Go.RowKit

def ShownC : Prop := ∀ w : World, Calls Try.prog 10 #[] w fun e w' => e = .returned (.bool true) ∧ Below w.heap.size w w'
mutual
theorem sameT_refl : ∀ t : Tree, sameT t t = true
  | .mk k i j l => by rw [sameT, sameTs_refl l]; simp
theorem sameTs_refl : ∀ l : List Tree, sameTs l l = true
  | [] => by rw [sameTs]
  | t :: l => by rw [sameTs, sameT_refl t, sameTs_refl l]; rfl
end
/-- A node in a box. -/
def Box (w : World) (X : Nat) (n : Rn) : Prop := w.heap[X]? = some (.cells #[.int .i64 n.k, .int .i64 n.i, .int .i64 n.j, .slice n.o n.n n.c] 24 (0, 0))
theorem Box.below {w w' : World} {X : Nat} {n : Rn} (h : Box w X n) (hb : Below w.heap.size w w') : Box w' X n := (hb.block _ (Array.getElem?_eq_some_iff.1 h).1).trans h
theorem Box.cells {w : World} {X : Nat} {k i j : Int} {o : Option Addr} {n c : Nat} (h : Box w X ⟨k, i, j, o, n, c⟩) : (w.cell? ⟨X, 0, none⟩ = some (.int .i64 k) ∧ w.cell? ⟨X, 1, none⟩ = some (.int .i64 i) ∧ w.cell? ⟨X, 2, none⟩ = some (.int .i64 j) ∧ w.cell? ⟨X, 3, none⟩ = some (.slice o n c)) ∧ X < w.heap.size := ⟨(four_cells0 h).1, (Array.getElem?_eq_some_iff.1 h).1⟩
set_option maxRecDepth 100000 in
set_option maxHeartbeats 4000000 in
theorem checks_law (HSH : ShownC) (HCK : ∀ t, CheckC 12 t) (t : Tree) (s : ByteArray) (w : World) (n : Rn) (ht : Hid (TieB w t n)) (hin : InR t) :
    Calls Try.prog 3 #[.string s, n.v] w fun e w' => e = .returned (.bool true) ∧ Below w.heap.size w w' := by
  obtain ⟨nk, ni, nj, no, nn, nc⟩ := n
  have HSN := Lib.hid HSH
  have hcp : ∀ u, Below w.heap.size w u → Calls Try.prog 11 #[.agg #[.int .i64 nk, .int .i64 ni, .int .i64 nj, .slice no nn nc]] u fun e w' => ∃ n', e = .returned n'.v ∧ Below u.heap.size u w' ∧ Fresh u.heap.size w' t n' := fun u hu => by
    have h := copy_any t u ⟨nk, ni, nj, no, nn, nc⟩ (TieB.below ht hu)
    rw [shiftT_zero t hin] at h
    exact h
  have HCP := Lib.hid hcp
  have hbx : Below w.heap.size w (w.alloc (.cells #[.int .i64 nk, .int .i64 ni, .int .i64 nj, .slice no nn nc] 24)) := (Below.refl _ _).alloc (Nat.le_refl _) _
  have hxb : Box (w.alloc (.cells #[.int .i64 nk, .int .i64 ni, .int .i64 nj, .slice no nn nc] 24)) w.heap.size ⟨nk, ni, nj, no, nn, nc⟩ := heap_alloc_last w _
  obtain ⟨W1, hW1⟩ : ∃ W1, w.alloc (.cells #[.int .i64 nk, .int .i64 ni, .int .i64 nj, .slice no nn nc] 24) = W1 := ⟨_, rfl⟩
  rw [hW1] at hbx hxb
  -- all that is asked behind the copy
  have hall : ∀ (w2 : World) (m : Rn), Below w.heap.size w w2 → Hid (TieB w2 t m) → ∀ u, Below w2.heap.size w2 u → Calls Try.prog 12 #[.string s, m.v] u (fun e w' => e = .returned (.int .i64 (errOf (fitT s.size t))) ∧ Below u.heap.size u w') ∧ Calls Try.prog 13 #[.string s, .agg #[.int .i64 nk, .int .i64 ni, .int .i64 nj, .slice no nn nc]] u (fun e w' => e = .returned (.int .i64 (errOf (fitT s.size t))) ∧ Below u.heap.size u w') ∧ Calls Try.prog 14 #[m.v, .agg #[.int .i64 nk, .int .i64 ni, .int .i64 nj, .slice no nn nc]] u (fun e w' => e = .returned (.bool true) ∧ Below u.heap.size u w') := fun w2 m hb2 hm u hu => by
    have hn := TieB.below ht (hb2.trans (hu.mono hb2.size))
    refine ⟨HCK t u m s (TieB.below hm hu), check_t t u ⟨nk, ni, nj, no, nn, nc⟩ s hn, ?_⟩
    have h := same_t t t u m ⟨nk, ni, nj, no, nn, nc⟩ (TieB.below hm hu) hn
    rw [sameT_refl] at h
    exact h
  have HALL := Lib.hid hall
  obtain ⟨X, hX⟩ : ∃ X, w.heap.size = X := ⟨_, rfl⟩
  rw [hX] at hxb
  have HB := Lib.hid (And.intro hbx (And.intro hxb hW1))
  obtain ⟨ev, hev⟩ : ∃ ev, errOf (fitT s.size t) = ev := ⟨_, rfl⟩
  rw [hev] at HALL
  clear ht hin hcp hall hbx hxb hW1 hev
  show Calls Try.prog 3 #[.string s, .agg #[.int .i64 nk, .int .i64 ni, .int .i64 nj, .slice no nn nc]] w _
  go_enter Try.func3, Try.ntmps3
  go_wp2_with (first
    | (go_at_call 10; rw [HB.out.2.2]; refine (HSN.out _).mono ?_; rintro e w1 ⟨rfl, hb1⟩; obtain ⟨⟨x0, x1, x2, x3⟩, xz⟩ := (HB.out.2.1.below hb1).cells; have HB1 := Lib.hid (And.intro (HB.out.1.trans (hb1.mono HB.out.1.size)) (HB.out.2.1.below hb1)); clear hb1)
    | (go_at_call 11; refine (HCP.out _ HB1.out.1).mono ?_; rintro e w2 ⟨⟨mk, mi, mj, mo, mn, mc⟩, rfl, hb2, hf2⟩; have HF := Lib.hid (And.intro (HB1.out.1.trans (hb2.mono HB1.out.1.size)) (And.intro (HB1.out.2.below hb2) hf2)); clear hb2 hf2; dsimp only [Rn.v]))
  obtain ⟨hbf, hxf, hff⟩ := HF.out
  have hb3 : Below w2.heap.size w2 (w2.alloc (.cells #[.int .i64 mk, .int .i64 mi, .int .i64 mj, .slice mo mn mc] 24)) := (Below.refl _ _).alloc (Nat.le_refl _) _
  have hy3 : Box (w2.alloc (.cells #[.int .i64 mk, .int .i64 mi, .int .i64 mj, .slice mo mn mc] 24)) w2.heap.size ⟨mk, mi, mj, mo, mn, mc⟩ := heap_alloc_last w2 _
  have hx3 := hxf.below hb3
  have HA := Lib.hid (fun u (hu : Below (w2.alloc (.cells #[.int .i64 mk, .int .i64 mi, .int .i64 mj, .slice mo mn mc] 24)).heap.size (w2.alloc (.cells #[.int .i64 mk, .int .i64 mi, .int .i64 mj, .slice mo mn mc] 24)) u) => And.intro (HALL.out w2 ⟨mk, mi, mj, mo, mn, mc⟩ hbf hff.tieB u (hb3.trans (hu.mono hb3.size))) (And.intro (hx3.below hu).cells (And.intro (hy3.below hu).cells (hbf.trans ((hb3.trans (hu.mono hb3.size)).mono hbf.size)))))
  obtain ⟨W3, hW3⟩ : ∃ W3, w2.alloc (.cells #[.int .i64 mk, .int .i64 mi, .int .i64 mj, .slice mo mn mc] 24) = W3 := ⟨_, rfl⟩
  obtain ⟨Y, hY⟩ : ∃ Y, w2.heap.size = Y := ⟨_, rfl⟩
  rw [hW3, hY] at HA
  rw [hW3, hY]
  obtain ⟨_, ⟨⟨q0, q1, q2, q3⟩, qz⟩, ⟨⟨r0, r1, r2, r3⟩, rz⟩, _⟩ := HA.out W3 (Below.refl _ _)
  obtain ⟨_, ⟨⟨s0, s1, s2, s3⟩, sz⟩, ⟨⟨t0, t1, t2, t3⟩, tz⟩, _⟩ := HA.out W3.drew (Below.refl _ _).drew
  clear hbf hxf hff hb3 hy3 hx3 hW3 hY x0 x1 x2 x3 xz
  go_region_law (first
    | (go_simp; go_at_call 12; refine ((HA.out _ ?_).1.1).mono ?_; (first | exact HC.out | exact (Below.refl _ _).drew | exact Below.refl _ _); rintro e w9 ⟨rfl, hb9⟩; have HC : Hid (Below W3.heap.size W3 w9) := Lib.hid (by first | exact HC.out.trans (hb9.mono HC.out.size) | exact (Below.refl _ _).drew.trans hb9 | exact hb9); obtain ⟨_, ⟨⟨_, _, _, _⟩, _⟩, ⟨⟨_, _, _, _⟩, _⟩, _⟩ := HA.out _ HC.out; clear hb9; dsimp only)
    | (go_simp; go_at_call 13; refine ((HA.out _ ?_).1.2.1).mono ?_; (first | exact HC.out | exact (Below.refl _ _).drew | exact Below.refl _ _); rintro e w9 ⟨rfl, hb9⟩; have HC : Hid (Below W3.heap.size W3 w9) := Lib.hid (by first | exact HC.out.trans (hb9.mono HC.out.size) | exact (Below.refl _ _).drew.trans hb9 | exact hb9); obtain ⟨_, ⟨⟨_, _, _, _⟩, _⟩, ⟨⟨_, _, _, _⟩, _⟩, _⟩ := HA.out _ HC.out; clear hb9; dsimp only)
    | (go_simp; go_at_call 14; refine ((HA.out _ ?_).1.2.2).mono ?_; (first | exact HC.out | exact (Below.refl _ _).drew | exact Below.refl _ _); rintro e w9 ⟨rfl, hb9⟩; have HC : Hid (Below W3.heap.size W3 w9) := Lib.hid (by first | exact HC.out.trans (hb9.mono HC.out.size) | exact (Below.refl _ _).drew.trans hb9 | exact hb9); clear hb9; dsimp only))
  all_goals (try go_wp2_with fail)
  all_goals (first | go_ret | go_end0)
  all_goals exact ⟨rfl, (HA.out _ HC.out).2.2.2⟩
end Go.Proofs.Ytnnffcfdokejbaa.rd
