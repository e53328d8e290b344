/-
  Layer 8: the law GreenFinds, over what the program's functions are held to.
-/
import Derived.Test.YtnnffcfdokejbaaQa
namespace Go.Proofs.Ytnnffcfdokejbaa.rd
open Go.RowKit

set_option maxRecDepth 100000 in
set_option maxHeartbeats 4000000 in
theorem finds_law (HSH : ShownC) (HFI : ∀ t, FindC 35 t) (t : Tree) (w : World) (n : Rn) (a b : Int) (ht : Hid (TieB w t n)) (hfew : ((findT a b t).getD []).length ≤ 1099511627776) :
    Calls Try.prog 8 #[n.v, .int .i64 a, .int .i64 b] w fun e w' => e = .returned (.bool true) ∧ Below w.heap.size w w' := by
  obtain ⟨nk, ni, nj, no, nn, nc⟩ := n
  have HSN := Lib.hid HSH
  have h1 : ∀ u, Below w.heap.size w u → Calls Try.prog 35 #[.agg #[.int .i64 nk, .int .i64 ni, .int .i64 nj, .slice no nn nc], .int .i64 a, .int .i64 b] u fun e w' => ∃ v, e = .returned (.tuple #[v, .bool (findT a b t).isSome]) ∧ Below u.heap.size u w' ∧ Mine it w' u.heap.size v ((findT a b t).getD []) := fun u hu => HFI t u ⟨nk, ni, nj, no, nn, nc⟩ a b (TieB.below ht hu) hfew
  have h2 : ∀ u, Below w.heap.size w u → Calls Try.prog 36 #[.agg #[.int .i64 nk, .int .i64 ni, .int .i64 nj, .slice no nn nc], .int .i64 a, .int .i64 b] u fun e w' => ∃ v, e = .returned (.tuple #[v, .bool (findT a b t).isSome]) ∧ Below u.heap.size u w' ∧ Mine it w' u.heap.size v ((findT a b t).getD []) := fun u hu => find_t t u ⟨nk, ni, nj, no, nn, nc⟩ a b (TieB.below ht hu) hfew
  have hbx : Below w.heap.size w (w.alloc (.cells #[.int .i64 nk, .int .i64 ni, .int .i64 nj, .slice no nn nc] 24)) := (Below.refl _ _).alloc (Nat.le_refl _) _
  have hxb : Box (w.alloc (.cells #[.int .i64 nk, .int .i64 ni, .int .i64 nj, .slice no nn nc] 24)) w.heap.size ⟨nk, ni, nj, no, nn, nc⟩ := heap_alloc_last w _
  obtain ⟨W1, hW1⟩ : ∃ W1, w.alloc (.cells #[.int .i64 nk, .int .i64 ni, .int .i64 nj, .slice no nn nc] 24) = W1 := ⟨_, rfl⟩
  rw [hW1] at hbx hxb
  obtain ⟨X, hX⟩ : ∃ X, w.heap.size = X := ⟨_, rfl⟩
  rw [hX] at hxb
  have HB := Lib.hid (And.intro hbx (And.intro hxb hW1))
  clear hbx hxb hW1
  obtain ⟨L, hL⟩ : ∃ L, (findT a b t).getD [] = L := ⟨_, rfl⟩
  obtain ⟨B, hB⟩ : ∃ B, (findT a b t).isSome = B := ⟨_, rfl⟩
  rw [hL] at hfew
  rw [hL, hB] at h1 h2
  have H1 := Lib.hid h1
  have H2 := Lib.hid h2
  have HFEW := Lib.hid hfew
  clear h1 h2 hL hB ht hfew HSH HFI
  show Calls Try.prog 8 #[.agg #[.int .i64 nk, .int .i64 ni, .int .i64 nj, .slice no nn nc], .int .i64 a, .int .i64 b] w _
  go_enter Try.func8, Try.ntmps8
  go_wp2_with (first
    | (go_at_call 10; rw [HB.out.2.2]; refine (HSN.out _).mono ?_; rintro e w1 ⟨rfl, hb1⟩; obtain ⟨⟨x0, x1, x2, x3⟩, xz⟩ := (HB.out.2.1.below hb1).cells; have HB1 := Lib.hid (And.intro (HB.out.1.trans (hb1.mono HB.out.1.size)) (HB.out.2.1.below hb1)); clear hb1)
    | (go_at_call 35; refine (H1.out _ HB1.out.1).mono ?_; rintro e w2 ⟨v2, rfl, hb2, hm2⟩; obtain ⟨⟨y0, y1, y2, y3⟩, yz⟩ := (HB1.out.2.below hb2).cells; have HB2 := Lib.hid (And.intro (HB1.out.1.trans (hb2.mono HB1.out.1.size)) hm2); clear hb2 hm2)
    | (go_at_call 36; refine (H2.out _ HB2.out.1).mono ?_; rintro e w3 ⟨v3, rfl, hb3, hm3⟩; have HB3 := Lib.hid (And.intro (HB2.out.1.trans (hb3.mono HB2.out.1.size)) (And.intro (HB2.out.2.below hb3).row hm3.row)); clear hb3 hm3)
    | (go_at_call 37; refine (ints_any HB3.out.2.1 HB3.out.2.2 HFEW.out).mono ?_; rintro e w4 ⟨rfl, hb4⟩; have HB4 := Lib.hid (HB3.out.1.trans (hb4.mono HB3.out.1.size)); clear hb4))
  all_goals (try go_ret)
  all_goals (try go_end0)
  all_goals exact ⟨by simp, HB4.out⟩
end Go.Proofs.Ytnnffcfdokejbaa.rd
