/-
  Layer 8: a range over an iterator that itself ranges over iterators: what such an iterator is held to, and the statement that ranges over it.
-/
import Derived.Test.YtnnffcfdokejbaaNa
import Derived.RangeFuncNested
import Derived.RangeFuncBound
import Derived.RangeFuncCalls
import Derived.RangeFuncLeaves
import Derived.RangeFuncBox
import Derived.Shelf.Abstract
import Derived.Shelf.RegionOpen
import Derived.OwnWalkIn
import Derived.TacticsInMore
import Derived.LoopNIn
import Derived.LoopIn
namespace Go.Proofs.Ytnnffcfdokejbaa.rd
open Go.RowKit Go.Shelf

abbrev Wide := Fence.wide
def tokV (x : Tk) : Value := .agg #[.int .i64 x.k, .int .i64 x.i, .int .i64 x.j]
/-- A block of a row of tokens, or of one token. -/
def TokRow (o : Obj) : Prop := ∃ cs fr, o = .cells cs 68 fr
theorem TokRow.loop (r : Loop) : ¬ TokRow (.loop r) := fun ⟨_, _, h⟩ => by cases h
theorem TokRow.defers (d : Option (List Deferred)) : ¬ TokRow (.deferred d) := fun ⟨_, _, h⟩ => by cases h
/-- What a round leaves as it was: what lay below n0; and from B on all but rows of tokens. -/
structure KpT (n0 B : Nat) (W W' : World) : Prop where
  low : Below n0 W W'
  keep : ∀ k o, B ≤ k → W.heap[k]? = some o → ¬ TokRow o → W'.heap[k]? = some o
theorem KpT.refl (n0 B : Nat) (W : World) : KpT n0 B W W := ⟨Below.refl _ _, fun _ _ _ h _ => h⟩
theorem KpT.trans {n0 B : Nat} {X Y Z : World} (h : KpT n0 B X Y) (k : KpT n0 B Y Z) : KpT n0 B X Z := ⟨h.low.trans k.low, fun i o hB hi ho => k.keep i o hB (h.keep i o hB hi ho) ho⟩
theorem KpT.mono {n0 B B' : Nat} {X Y : World} (h : KpT n0 B X Y) (hB : B ≤ B') : KpT n0 B' X Y := ⟨h.low, fun i o hi => h.keep i o (Nat.le_trans hB hi)⟩
theorem KpT.alloc {n0 : Nat} (B : Nat) (W : World) (h : n0 ≤ W.heap.size) (o : Obj) : KpT n0 B W (W.alloc o) :=
  ⟨(Below.refl _ _).alloc h o, fun _ _ _ hk _ => (heap_alloc_old W o (Array.getElem?_eq_some_iff.1 hk).1).trans hk⟩
theorem KpT.putObj {n0 B l : Nat} (W : World) (h : n0 ≤ l) (hB : l < B) (o : Obj) : KpT n0 B W (W.putObj l o) :=
  have hg := grownBy_putObj' W l o
  ⟨⟨hg.os, hg.tape, hg.output, hg.size, fun _ hk => World.putObj_heap_other (by omega)⟩, fun _ _ hk hx _ => (World.putObj_heap_other (by omega)).trans hx⟩
/-- What stands in one block that lies ahead of B. -/
theorem own_at {β : Type} {B k : Nat} {o : Obj} (hk : k < B) : OwnFrom B (fun (_ : β) W => W.heap[k]? = some o) := fun _ A C row hs hg hr =>
  (hg.block k (Array.getElem?_eq_some_iff.1 hs).1 (fun e => by have := (hr k e.symm).1; omega)).trans hs
/-- What calls of yield do. -/
def YieldT (n0 B l : Nat) (xs : List Tk) (J Jx : List Tk → World → Prop) : Prop := ∀ pre x W, J pre W → pre ++ [x] <+: xs → YieldAt Wide 0 Try.prog l #[tokV x] W fun e W' => ∃ go : Bool, e = .returned (.bool go) ∧ KpT n0 B W W' ∧ (go = true → J (pre ++ [x]) W') ∧ (go = false → Jx (pre ++ [x]) W')
/-- An iterator over tokens, whatever it does beside calling yield. -/
def SeqT (gf : Nat) (lb : Array Value) (n0 : Nat) (xs : List Tk) (w : World) : Prop := ∀ (l : Nat) (J Jx : List Tk → World → Prop) (W : World), Below w.heap.size w W → OwnFrom W.heap.size J → OwnFrom W.heap.size Jx → YieldT n0 W.heap.size l xs J Jx → J [] W →
  Calls Try.prog gf (#[.func (.yield l) #[] #[]] ++ lb) W fun e W' => (∃ v, e = .returned v) ∧ (J xs W' ∨ ∃ pre, pre <+: xs ∧ Jx pre W')
theorem RoundIn.wide {m m' : Nat} {P : Program} {l : Nat} {f : FuncId} {tmps : Array Value} {assign body : Code} {w : World} {R : Ending → World → Prop} (h : RoundIn Wide m P l f tmps assign body w R) : RoundIn Wide m' P l f tmps assign body w R :=
  ⟨h.1, fun c cs _ => h.2 c cs (fun d hd => by cases hd)⟩
/-- How a round may be left. -/
def endT (n0 B : Nat) (I : List Tk → World → Prop) (Ix : Code → List Tk → World → Prop) (xs : List Tk) (W : World) : Exit → Act → World → Prop
  | .normal, _, W' => KpT n0 B W W' ∧ I xs W'
  | .ret, _, W' => KpT n0 B W W' ∧ Ix .ret xs W'
  | .exit id, _, W' => KpT n0 B W W' ∧ Ix (.exit id) xs W'
  | _, _, _ => False
/-- The statement that ranges over such an iterator. -/
theorem rangeT {n : Nat} {g : Operand} {p : Tmp} {assign body : Code} {Q : Exit → Act → World → Prop} {a : Act} {w w0 : World} {gf : Nat} {lb : Array Value} {n0 : Nat} {xs : List Tk}
    (hg : a.eval g = .func (.func gf) #[] lb) (eg : ∀ args w, (callFunc gf args).run Try.prog w = .ok (.enter gf args) w) (hseq : SeqT gf lb n0 xs w0) (hb0 : Below w0.heap.size w0 w) (hn0 : n0 ≤ w.heap.size)
    (I : List Tk → World → Prop) (Ix : Code → List Tk → World → Prop) (hI : OwnFrom w.heap.size I) (hIx : ∀ c, OwnFrom w.heap.size (Ix c)) (h0 : I [] w) (Ax : Tk → Act → World → Prop) (hAx : ∀ x a', OwnFrom w.heap.size (fun (_ : Unit) W => Ax x a' W))
    (hassign : ∀ (l : Nat) (pre : List Tk) (x : Tk) (W : World) (K : Act → World → Prop), I pre W → n0 ≤ W.heap.size → (∀ a' W', KpT n0 w.heap.size W W' → I pre W' → Ax x a' W' → K a' W') → assign.wpIn (Wide.inRound l) 0 Try.prog (Exit.then K (fun _ _ _ => False)) { tmps := a.tmps.setIfInBounds p (tokV x), defers := [] } W)
    (hbody : ∀ (l : Nat) (pre : List Tk) (x : Tk) (a' : Act) (W : World), I pre W → pre ++ [x] <+: xs → n0 ≤ W.heap.size → Ax x a' W → body.wpIn (Wide.inRound l) 0 Try.prog (endT n0 w.heap.size I Ix (pre ++ [x]) W) a' W)
    (hdone : ∀ W, I xs W → W.heap[w.heap.size]? = some (.deferred (some [])) → Q .normal { a with defers := { target := .collected w.heap.size, args := #[] } :: a.defers } W)
    (hstop : ∀ c pre W, pre <+: xs → Ix c pre W → W.heap[w.heap.size]? = some (.deferred (some [])) → c.wpIn Wide n Try.prog Q { a with defers := { target := .collected w.heap.size, args := #[] } :: a.defers } W) :
    (Code.rangeFunc g #[p] assign body).wpIn Wide n Try.prog Q a w := by
  refine wpIn_rangeFunc fun fn _ => ?_
  obtain ⟨S, hS⟩ : ∃ S, w.heap.size = S := ⟨_, rfl⟩
  let rec' : LoopState → Option Code → Loop := fun st pe => { state := st, pending := pe, fn, tmps := a.tmps, params := #[p], assign, body, defers := w.heap.size }
  have hs1 : (w.alloc (.deferred (some []))).heap.size = S + 1 := by rw [World.size_alloc, hS]
  have hs2 : ((w.alloc (.deferred (some []))).alloc (.loop (rec' .ready none))).heap.size = S + 2 := by rw [World.size_alloc, hs1]
  have hl1 : ((w.alloc (.deferred (some []))).alloc (.loop (rec' .ready none))).heap[S + 1]? = some (.loop (rec' .ready none)) := by
    have := World.alloc_heap_new (w.alloc (.deferred (some []))) (.loop (rec' .ready none))
    rwa [hs1] at this
  have hd1 : ((w.alloc (.deferred (some []))).alloc (.loop (rec' .ready none))).heap[S]? = some (.deferred (some [])) := by
    refine (heap_alloc_old _ _ (by omega)).trans ?_
    have := World.alloc_heap_new w (.deferred (some []))
    rwa [hS] at this
  have hi1 : I [] ((w.alloc (.deferred (some []))).alloc (.loop (rec' .ready none))) := hI.alloc _ (hI.alloc _ h0)
  have hb1 : Below w0.heap.size w0 ((w.alloc (.deferred (some []))).alloc (.loop (rec' .ready none))) := (hb0.alloc hb0.size _).alloc (by have := hb0.size; omega) _
  have hent := run_enterLoop_outer (P := Try.prog) (w := w) fn a.tmps #[p] assign body
  change _ = Result.ok _ ((w.alloc (.deferred (some []))).alloc (.loop (rec' .ready none))) at hent
  obtain ⟨W1, hW1⟩ : ∃ W1, (w.alloc (.deferred (some []))).alloc (.loop (rec' .ready none)) = W1 := ⟨_, rfl⟩
  rw [hW1] at hs2 hl1 hd1 hi1 hb1 hent
  rw [hS] at hI hIx hAx hassign hbody hdone hstop hn0 hent
  refine ⟨S + 1, [{ target := .collected S, args := #[] }], W1, { target := .fn (.func gf) lb, args := #[.func (.yield (S + 1)) #[] #[]] }, W1, gf, #[.func (.yield (S + 1)) #[] #[]] ++ lb, W1, hent, ?_, fun _ _ => trivial, ?_, fun h => (by cases h), callsIn_wide.2 ?_⟩
  · simp only [resolve, hg]
    simp [go_sem]
  · simp [invoke, go_sem, eg]
  refine (hseq (S + 1) (fun pre W => I pre W ∧ W.heap[S + 1]? = some (.loop (rec' .ready none)) ∧ W.heap[S]? = some (.deferred (some []))) (fun pre W => ∃ c, Ix c pre W ∧ W.heap[S + 1]? = some (.loop (rec' .done (some c))) ∧ W.heap[S]? = some (.deferred (some []))) W1 hb1 ?_ ?_ ?_ ⟨hi1, hl1, hd1⟩).mono ?_
  · rw [hs2]
    exact OwnFrom.and (fun s A C row h1 h2 h3 => hI s A C row h1 h2 fun r e => ⟨by have := (h3 r e).1; omega, (h3 r e).2⟩) (OwnFrom.and (own_at (by omega)) (own_at (by omega)))
  · rw [hs2]
    exact fun s A C row ⟨c, h1, h4, h5⟩ h2 h3 => ⟨c, hIx c s A C row h1 h2 fun r e => ⟨by have := (h3 r e).1; omega, (h3 r e).2⟩, own_at (β := Unit) (B := S + 2) (by omega) () A C row h4 h2 h3, own_at (β := Unit) (B := S + 2) (by omega) () A C row h5 h2 h3⟩
  · rintro pre x W ⟨hi, hl, hd⟩ hpl
    rw [hs2]
    have hlt := (Array.getElem?_eq_some_iff.1 hl).1
    have hy : (Instr.yield (S + 1) #[tokV x]).run Try.prog W = .ok (.round (S + 1) fn (a.tmps.setIfInBounds p (tokV x)) assign body) W := by
      have h := run_yield (P := Try.prog) (args := #[tokV x]) hl rfl
      simpa [rec'] using h
    refine ⟨fn, _, assign, body, hy, roundIn_of_wpIn trivial (hassign (S + 1) pre x W _ hi (by omega) ?_)⟩
    intro a' Wa ka ia ax
    have hla := ka.keep _ _ (by omega) hl (TokRow.loop _)
    have hda := ka.keep _ _ (by omega) hd (TokRow.defers _)
    have hlta := (Array.getElem?_eq_some_iff.1 hla).1
    refine ⟨_, run_beginRound hla rfl, ?_⟩
    have hl2 : (Wa.putObj (S + 1) (.loop { rec' .ready none with state := .busy })).heap[S + 1]? = some (.loop { rec' .ready none with state := .busy }) := World.putObj_heap_same hlta
    have hd2 : (Wa.putObj (S + 1) (.loop { rec' .ready none with state := .busy })).heap[S]? = some (.deferred (some [])) := (World.putObj_heap_other (by omega)).trans hda
    have k2 : KpT n0 (S + 2) Wa (Wa.putObj (S + 1) (.loop { rec' .ready none with state := .busy })) := KpT.putObj Wa (by omega) (by omega) _
    refine wpIn_mono (hbody (S + 1) pre x a' _ (hI.putObj _ ia (by omega) hla rfl) hpl (Nat.le_trans (Nat.le_trans hn0 (by omega : S ≤ Wa.heap.size)) k2.low.size) ((hAx x a').putObj (s := ()) _ ax (by omega) hla rfl)) ?_
    rintro e a3 W3 hp
    cases e with
    | normal =>
      obtain ⟨k3, i3⟩ := hp
      have hl3 := k3.keep _ _ (by omega) hl2 (TokRow.loop _)
      have hd3 := k3.keep _ _ (by omega) hd2 (TokRow.defers _)
      refine ⟨_, _, run_endRound none hl3, true, rfl, (((ka.mono (by omega)).trans k2).trans (k3.mono (by omega))).trans (KpT.putObj W3 (by omega) (by omega) _), fun _ => ⟨hI.putObj _ i3 (by omega) hl3 rfl, World.putObj_heap_same (Array.getElem?_eq_some_iff.1 hl3).1, (World.putObj_heap_other (by omega)).trans hd3⟩, fun h => (by cases h)⟩
    | ret =>
      obtain ⟨k3, i3⟩ := hp
      have hl3 := k3.keep _ _ (by omega) hl2 (TokRow.loop _)
      have hd3 := k3.keep _ _ (by omega) hd2 (TokRow.defers _)
      refine ⟨_, _, run_endRound (some .ret) hl3, false, rfl, (((ka.mono (by omega)).trans k2).trans (k3.mono (by omega))).trans (KpT.putObj W3 (by omega) (by omega) _), fun h => (by cases h), fun _ => ⟨_, (hIx _).putObj _ i3 (by omega) hl3 rfl, World.putObj_heap_same (Array.getElem?_eq_some_iff.1 hl3).1, (World.putObj_heap_other (by omega)).trans hd3⟩⟩
    | exit id =>
      obtain ⟨k3, i3⟩ := hp
      have hl3 := k3.keep _ _ (by omega) hl2 (TokRow.loop _)
      have hd3 := k3.keep _ _ (by omega) hd2 (TokRow.defers _)
      refine ⟨_, _, run_endRound (some (.exit id)) hl3, false, rfl, (((ka.mono (by omega)).trans k2).trans (k3.mono (by omega))).trans (KpT.putObj W3 (by omega) (by omega) _), fun h => (by cases h), fun _ => ⟨_, (hIx _).putObj _ i3 (by omega) hl3 rfl, World.putObj_heap_same (Array.getElem?_eq_some_iff.1 hl3).1, (World.putObj_heap_other (by omega)).trans hd3⟩⟩
    | goto t => exact hp.elim
    | panic ch => exact hp.elim
    | outgrown => exact hp.elim
  · rintro e W2 ⟨⟨v, rfl⟩, (⟨hi, hl, hd⟩ | ⟨pre, hp, c, hi, hl, hd⟩)⟩
    · have he := run_endLoop (P := Try.prog) hl (by show (LoopState.ready : LoopState) ≠ .busy; simp)
      exact ⟨none, _, he, hdone _ (hI.putObj _ hi (by omega) hl rfl) ((World.putObj_heap_other (by omega)).trans hd)⟩
    · have he := run_endLoop (P := Try.prog) hl (by show (LoopState.done : LoopState) ≠ .busy; simp)
      exact ⟨some c, _, he, hstop c pre _ hp ((hIx c).putObj _ hi (by omega) hl rfl) ((World.putObj_heap_other (by omega)).trans hd)⟩
end Go.Proofs.Ytnnffcfdokejbaa.rd
