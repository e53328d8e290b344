/-
  Layer 8: the program's pool in memory.
-/
import Derived.Test.YtnnffcfdokejbaaTh
import Derived.Maps.OwnSet
import Derived.DeepKeys4
namespace Go.Proofs.Ytnnffcfdokejbaa.rd
open Go.RowKit

theorem rowForm : (88 : TypeId) < Try.prog.types.size := of_decide_eq_true (by kernel_rfl)
theorem wideForm : (match Try.prog.underlying 88 with | some (.array _ _) | some (.struct _) => true | _ => false) = true := by rw [Try.underlying88]
theorem cellsForm : Try.prog.cellsOf 88 = 3 := by kernel_rfl
theorem cellsStr : Try.prog.cellsOf 9 = 1 := by kernel_rfl
set_option maxRecDepth 100000 in
/-- The map's keys. -/
theorem formKey : Maps.Keyed Try.prog 88 := Maps.Keyed.of_law (deep_law_laid laidOut (m := 2) (by omega) rowForm (by kernel_rfl) wideForm)
theorem formIs : Try.prog.keyType 88 = true := by kernel_rfl
theorem typesN : ∃ n, Try.prog.types.size = n + 1 + 1 := by
  have h : (88 : Nat) < Try.prog.types.size := rowForm
  exact ⟨Try.prog.types.size - 2, by omega⟩
theorem wf_in64 {z : Int} (h : In64 z) : (Lit.int .i64 z).wf = true := by
  obtain ⟨h1, h2⟩ := h
  have e1 : IntKind.i64.min = -9223372036854775808 := by decide
  have e2 : IntKind.i64.max = 9223372036854775807 := by decide
  simp [Lit.wf]
  omega
theorem litsInt (d : Nat) {k : Int} (h : (Lit.int .i64 k).wf = true) : Try.prog.keyLits (d + 1) 3 [.int .i64 k] = some [.int .i64 k] := by
  rw [Program.keyLits.eq_def]
  simp [Try.underlying3, h]
theorem litsStr (d : Nat) {x : ByteArray} (h : x.size ≤ maxLen) : Try.prog.keyLits (d + 1) 9 [.string x] = some [.string x.data.toList] := by
  rw [Program.keyLits.eq_def]
  simp [Try.underlying9, h]
theorem keyForm (k : Int) (x y : ByteArray) (hk : In64 k) (hx : x.size ≤ maxLen) (hy : y.size ≤ maxLen) : ∃ kl, keyOf Try.prog 88 (.agg #[.int .i64 k, .string x, .string y]) = some kl := by
  obtain ⟨n, hn⟩ := typesN
  have hf : (Value.agg #[.int .i64 k, .string x, .string y]).formed Try.prog 88 = true := by simp [Value.formed, Try.underlying88, cellsForm]
  unfold keyOf
  rw [Try.underlying88]
  simp only [formIs, hf, Bool.and_self, if_true, hn]
  rw [Program.keyLits.eq_def]
  have e1 : Try.prog.keyLits (n + 2) 3 [.int .i64 k] = _ := litsInt (n + 1) (wf_in64 hk)
  have e2 : Try.prog.keyLits (n + 2) 9 [.string x] = _ := litsStr (n + 1) hx
  have e3 : Try.prog.keyLits (n + 2) 9 [.string y] = _ := litsStr (n + 1) hy
  simp [Try.underlying88, cellsForm, cellsI, cellsStr, Value.cells, e1, e2, e3]
/-- What a node's key has of its bytes. -/
def leafS (g : Gr) : ByteArray := if leafK g.k then g.s else ⟨#[]⟩
def toGk (g : Gr) : Gk := ⟨g.k, leafS g, B (packL g.l), (g.s.size : Int)⟩
/-- A node's key. -/
def fv (g : Gr) : Value := .agg #[.int .i64 g.k, .string (leafS g), .string (B (packL g.l))]
/-- The bytes of nodes, one behind the other. -/
def cat (L : List Gr) (l : List Int) : List UInt8 := l.flatMap fun x => ((L[x.toNat]?).map fun g => g.s.data.toList).getD []
/-- What holds of a node that stands in a pool behind so many. -/
structure GoodG (i : Nat) (L : List Gr) (g : Gr) : Prop where
  k64 : In64 g.k
  few : g.s.size ≤ 4611686018427387904
  kids : g.l.length ≤ 2932031007317
  low : ∀ x ∈ g.l, 0 ≤ x ∧ x < (i : Int)
  leaf : leafK g.k = true → g.l = []
  node : leafK g.k = false → g.s.data.toList = cat L g.l
structure GoodL (L : List Gr) : Prop where
  few : L.length ≤ 4294967296
  all : ∀ i (h : i < L.length), GoodG i L L[i]
theorem GoodG.small {i : Nat} {L : List Gr} {g : Gr} (h : GoodG i L g) (hi : i ≤ 4294967296) : Small g.l := fun x hx => by
  have := h.low x hx
  omega
theorem leafS_size (g : Gr) : (leafS g).size ≤ g.s.size := by
  unfold leafS
  split
  · exact Nat.le_refl _
  · exact Nat.zero_le _
theorem GoodG.key {i : Nat} {L : List Gr} {g : Gr} (h : GoodG i L g) : ∃ kl, keyOf Try.prog 88 (fv g) = some kl :=
  keyForm g.k (leafS g) (B (packL g.l)) h.k64 (by have h1 := leafS_size g; have h2 := h.few; simp [maxLen]; omega) (by rw [bsize, packL_len]; have h2 := h.kids; simp [maxLen]; omega)
theorem B_inj {x y : List UInt8} (h : B x = B y) : x = y := by
  have h1 := congrArg (fun b : ByteArray => b.data.toList) h
  exact h1
theorem packL_inj {l l2 : List Int} (h1 : Small l) (h2 : Small l2) (h : packL l = packL l2) : l = l2 := by
  have hl : l.length = l2.length := by
    have := congrArg List.length h
    rw [packL_len, packL_len] at this
    omega
  apply List.ext_getElem hl
  intro q hq hq2
  have e : ∀ m, m < 4 → idByte l[q] m = idByte l2[q] m := fun m hm => by
    rw [← packL_get hq hm, ← packL_get hq2 hm]
    simp only [h]
  have g1 := h1 _ (List.getElem_mem hq)
  have g2 := h2 _ (List.getElem_mem hq2)
  have k : ∀ m, m ≤ 4 → l[q] % 256 ^ m = l2[q] % 256 ^ m := by
    intro m
    induction m with
    | zero => intro _; simp [Int.emod_one]
    | succ m ih =>
      intro hm
      rw [← mod_step _ g1.1 m (by omega), ← mod_step _ g2.1 m (by omega), ih (by omega), e m (by omega)]
  have := k 4 (Nat.le_refl _)
  rw [mod_all g1 (Nat.le_refl _), mod_all g2 (Nat.le_refl _)] at this
  exact this
theorem fv_inj {L : List Gr} {i j : Nat} {g g2 : Gr} (h : GoodG i L g) (h2 : GoodG j L g2) (hi : i ≤ 4294967296) (hj : j ≤ 4294967296) (e : fv g = fv g2) : g = g2 := by
  unfold fv at e
  simp only [Value.agg.injEq, Array.mk.injEq, List.cons.injEq, Value.int.injEq, true_and, and_true, Value.string.injEq] at e
  obtain ⟨e1, e2, e3⟩ := e
  have el := packL_inj (h.small hi) (h2.small hj) (B_inj e3)
  have es : g.s = g2.s := by
    cases hk : leafK g.k with
    | true =>
      unfold leafS at e2
      rw [← e1, hk] at e2
      simpa using e2
    | false =>
      have n1 := h.node hk
      have n2 := h2.node (by rw [← e1]; exact hk)
      rw [← el, ← n1] at n2
      exact (ByteArray.ext (Array.toList_inj.1 n2)).symm
  cases g; cases g2
  simp only at e1 el es
  rw [e1, el, es]
/-- What the map tells. -/
structure Finds (Dm : DataW Unit) (L : List Gr) : Prop where
  here : ∀ i (h : i < L.length) kl, keyOf Try.prog 88 (fv L[i]) = some kl → Maps.has Dm kl = true ∧ Dm.atKey kl (.lit (.int .i64 0)) = .lit (.int .i64 (i : Int))
  only : ∀ kl, Maps.has Dm kl = true → ∃ (i : Nat) (h : i < L.length), keyOf Try.prog 88 (fv L[i]) = some kl
/-- The blocks of a pool. -/
def dd (b m : Nat) (vN : Value) (q : Nat) : Prop := q = b ∨ q = m ∨ vN.ownBlock = some q
/-- The program's pool in memory. -/
structure PoolG (w : World) (b m : Nat) (vN : Value) (L : List Gr) : Prop where
  cell : w.heap[b]? = some (.cells #[.map (some m), vN] 81 (0, 0))
  map : ∃ Dm, w.ownsMap Try.prog 88 (plainElem (H := Unit) Try.prog 3) m L.length Dm ∧ Finds Dm L
  row : Mine gk w 0 vN (L.map toGk)
  ok : GoodL L
theorem PoolG.keep {w w' : World} {b m : Nat} {vN : Value} {L : List Gr} (h : PoolG w b m vN L) (hs : ∀ k, dd b m vN k → w'.heap[k]? = w.heap[k]?) : PoolG w' b m vN L := by
  obtain ⟨h1, ⟨Dm, ⟨es, clock, hb, F, hn, hD⟩, h3⟩, h4, h5⟩ := h
  exact ⟨(hs b (.inl rfl)).trans h1, ⟨Dm, ⟨es, clock, (hs m (.inr (.inl rfl))).trans hb, F, hn, hD⟩, h3⟩, h4.keep (fun k hk _ => hs k (.inr (.inr hk))), h5⟩
theorem PoolG.lt {w : World} {b m : Nat} {vN : Value} {L : List Gr} (h : PoolG w b m vN L) : ∀ k, dd b m vN k → k < w.heap.size := by
  intro k hk
  rcases hk with rfl | rfl | hk
  · exact (Array.getElem?_eq_some_iff.1 h.cell).1
  · obtain ⟨Dm, h2, _⟩ := h.map
    exact h2.lt
  · exact h.row.lt k hk
theorem PoolG.below {w w' : World} {b m : Nat} {vN : Value} {L : List Gr} (h : PoolG w b m vN L) (hb : Below w.heap.size w w') : PoolG w' b m vN L := h.keep (fun k hk => hb.block k (h.lt k hk))
theorem two_cells {w : World} {X : Nat} {x0 x1 : Value} {e : TypeId} (h : w.heap[X]? = some (.cells #[x0, x1] e (0, 0))) : (w.cell? ⟨X, 0, none⟩ = some x0 ∧ w.cell? ⟨X, 1, none⟩ = some x1) ∧ ∀ j, w.frozen? ⟨X, j, none⟩ = false :=
  ⟨⟨by rw [cell_of_row w X 0 _ _ _ h]; rfl, by rw [cell_of_row w X 1 _ _ _ h]; rfl⟩, fun j => frozen_of_row w X j _ _ h⟩
/-- The pool, opened. -/
theorem PoolG.out {w : World} {b m : Nat} {vN : Value} {L : List Gr} (h : PoolG w b m vN L) : ∃ (g : Nat) (o : Option Addr) (c : Nat), vN = .slice o L.length c ∧ (L ≠ [] → o = some ⟨g, 0, none⟩ ∧ g < w.heap.size) ∧ (w.cell? ⟨b, 0, none⟩ = some (.map (some m)) ∧ w.cell? ⟨b, 1, none⟩ = some (.slice o L.length c)) ∧ b < w.heap.size ∧ Cells gk w g 0 (L.map toGk) := by
  have hr := h.row
  obtain ⟨g, o, c, rfl, ho, _, hg⟩ := Mine.shape hr
  rw [List.length_map] at hr ⊢
  have hc := h.cell
  rw [List.length_map] at hc
  refine ⟨g, o, c, rfl, fun e => ?_, (two_cells hc).1, (Array.getElem?_eq_some_iff.1 hc).1, ?_⟩
  · have e2 : L.map toGk ≠ [] := fun e3 => e (List.map_eq_nil_iff.1 e3)
    refine ⟨ho e2, hg.resolve_right (fun e4 => e2 e4.1)⟩
  · by_cases e : L = []
    · subst e
      intro j u hu
      simp [flat] at hu
    · obtain rfl := ho (fun e3 => e (List.map_eq_nil_iff.1 e3))
      exact Mine.cells hr
end Go.Proofs.Ytnnffcfdokejbaa.rd
