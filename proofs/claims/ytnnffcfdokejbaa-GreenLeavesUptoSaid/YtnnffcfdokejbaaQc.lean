/-
  Layer 8: what the law GreenTells wants.
-/
import Derived.Test.YtnnffcfdokejbaaQb
import Derived.Deep.RegionHeld3
namespace Go.Proofs.Ytnnffcfdokejbaa.rd
open Go.RowKit

/-- A row of trees of its own, in blocks from a place on. -/
def PR (B : Nat) (u : World) (v : Value) (L : List Tree) : Prop := ∃ R E, Mine nd u B v R ∧ OTies u E L R ∧ ∀ h, E h → B ≤ h ∧ h < u.heap.size ∧ v.ownBlock ≠ some h
theorem PR.below {B : Nat} {u u' : World} {v : Value} {L : List Tree} (h : PR B u v L) (hb : Below u.heap.size u u') : PR B u' v L := by
  obtain ⟨R, E, h1, h2, h3⟩ := h
  exact ⟨R, E, h1.below hb, OTies.keep (fun g hg => hb.block g (h3 g hg).2.1) (fun _ h => h) _ _ h2, fun g hg => ⟨(h3 g hg).1, Nat.lt_of_lt_of_le (h3 g hg).2.1 hb.size, (h3 g hg).2.2⟩⟩
theorem PR.mono {B B' : Nat} {u : World} {v : Value} {L : List Tree} (h : PR B u v L) (hb : B' ≤ B) : PR B' u v L := by
  obtain ⟨R, E, h1, h2, h3⟩ := h
  exact ⟨R, E, h1.mono hb, h2, fun g hg => ⟨Nat.le_trans hb (h3 g hg).1, (h3 g hg).2⟩⟩
theorem PR.shape {B : Nat} {u : World} {v : Value} {L : List Tree} (h : PR B u v L) : ∃ o cap, v = .slice o L.length cap := by
  obtain ⟨R, E, h1, h2, _⟩ := h
  obtain ⟨_, o, c, h3, _⟩ := h1.shape
  exact ⟨o, c, by rw [h3, h2.length]⟩
def PartsC (f : Nat) : Prop := ∀ (t : Tree) (w : World) (n : Rn), Hid (TieB w t n) → Calls Try.prog f #[n.v] w fun e w' => ∃ v, e = .returned v ∧ Below w.heap.size w w' ∧ PR w.heap.size w' v (partsL t.l)
theorem parts_c : PartsC 39 := fun t w n h => (parts_any t w n h).mono fun _ _ ⟨v, R, E, h1, h2, h3, h4, h5⟩ => ⟨v, h1, h2, R, E, h3, h4, h5⟩
/-- What stands while the law asks. -/
structure Tl (w u : World) (X X2 Y : Nat) (n n2 m : Rn) (t t2 : Tree) : Prop where
  bl : Below w.heap.size w u
  a : Box u X n
  b : Box u X2 n2
  o : Box u Y m
  ta : Hid (TieB u t n)
  tb : Hid (TieB u t2 n2)
  tm : Hid (TieB u t m)
theorem Tl.below {w u u' : World} {X X2 Y : Nat} {n n2 m : Rn} {t t2 : Tree} (h : Tl w u X X2 Y n n2 m t t2) (hb : Below u.heap.size u u') : Tl w u' X X2 Y n n2 m t t2 :=
  ⟨h.bl.trans (hb.mono h.bl.size), h.a.below hb, h.b.below hb, h.o.below hb, TieB.below h.ta hb, TieB.below h.tb hb, TieB.below h.tm hb⟩
/-- What the law asks of the functions. -/
structure Asks (u : World) (n n2 m : Rn) (t t2 : Tree) (d : Int) : Prop where
  pp : Calls Try.prog 38 #[m.v] u fun e w' => ∃ v, e = .returned v ∧ Below u.heap.size u w' ∧ PR u.heap.size w' v (partsL t.l)
  pr : Calls Try.prog 39 #[n.v] u fun e w' => ∃ v, e = .returned v ∧ Below u.heap.size u w' ∧ PR u.heap.size w' v (partsL t.l)
  sp : Calls Try.prog 40 #[m.v, .int .i64 d] u fun e w' => ∃ n', e = .returned n'.v ∧ Below u.heap.size u w' ∧ Fresh u.heap.size w' (shiftT d t) n'
  sr : Calls Try.prog 31 #[n.v, .int .i64 d] u fun e w' => ∃ n', e = .returned n'.v ∧ Below u.heap.size u w' ∧ Fresh u.heap.size w' (shiftT d t) n'
  gb : Calls Try.prog 41 #[m.v, n2.v] u fun e w' => e = .returned (.bool (sameT t t2)) ∧ Below u.heap.size u w'
  rb : Calls Try.prog 14 #[n.v, n2.v] u fun e w' => e = .returned (.bool (sameT t t2)) ∧ Below u.heap.size u w'
  ga : Calls Try.prog 41 #[m.v, n.v] u fun e w' => e = .returned (.bool true) ∧ Below u.heap.size u w'
  ra : Calls Try.prog 14 #[m.v, n.v] u fun e w' => e = .returned (.bool true) ∧ Below u.heap.size u w'
theorem Tl.asks {w u : World} {X X2 Y : Nat} {n n2 m : Rn} {t t2 : Tree} (h : Tl w u X X2 Y n n2 m t t2) (HPA : PartsC 38) (HSI : ∀ t, ShiftC 40 t) (HSA : ∀ t, SameC 41 t) (d : Int) : Asks u n n2 m t t2 d :=
  ⟨HPA t u m h.tm, parts_c t u n h.ta, HSI t u m d h.tm, shift_t t u n d h.ta, HSA t t2 u m n2 h.tm h.tb, same_t t t2 u n n2 h.ta h.tb, by have := HSA t t u m n h.tm h.ta; rw [sameT_refl] at this; exact this, by have := same_t t t u m n h.tm h.ta; rw [sameT_refl] at this; exact this⟩
/-- The cells of a box. -/
def BC (w : World) (X : Nat) (k i j : Int) (o : Option Addr) (n c : Nat) : Prop := w.cell? ⟨X, 0, none⟩ = some (.int .i64 k) ∧ w.cell? ⟨X, 1, none⟩ = some (.int .i64 i) ∧ w.cell? ⟨X, 2, none⟩ = some (.int .i64 j) ∧ w.cell? ⟨X, 3, none⟩ = some (.slice o n c)
end Go.Proofs.Ytnnffcfdokejbaa.rd
