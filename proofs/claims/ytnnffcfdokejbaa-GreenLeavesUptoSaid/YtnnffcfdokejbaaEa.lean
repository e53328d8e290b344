/-
  Layer 5: rows of tokens, of nodes and of numbers: read, owned, appended.
-/
import Derived.Test.YtnnffcfdokejbaaRows
import Derived.Handy
import Derived.Deep.DeepFit
import Derived.Deep.WholeRow
import Derived.Lib.Hide
import Derived.Lib.AppendZeros
import Derived.Lib.SliceRun
import Derived.WalkKit
import Derived.WalkSpells
import Derived.BigQuiet
import Derived.Deep.QuietTactic
import Derived.Laws.Rows
import Derived.Laws.OwnMore
import Derived.Laws.CopyRow
import Derived.Maps.AppendAt
namespace Go.Proofs.Ytnnffcfdokejbaa.rd
open Go.RowKit

/-- A token: its kind, its two ends. -/
structure Tk where
  (k i j : Int)
/-- A node: its kind, its two ends, the slice of its kids. -/
structure Rn where
  (k i j : Int) (o : Option Addr) (n c : Nat)

/-- What the elements of a slice are made of. -/
structure Kd (α : Type) where
  c : α → List Value
  k : Nat
  e : TypeId
  t : TypeId
  z : Value
  bytes : Nat
  len : ∀ x, (c x).length = k
  one : ∀ x, ∀ u ∈ c x, u.oneCell' = true
  ht : Try.prog.underlying t = some (.slice e)
  hi : (Try.prog.info? e).map (fun i => (i.zero, i.size, i.bytes)) = some (some z, k, bytes)
  hz : z.cells.size = k
  hk : 0 < k
  ht' : Try.prog.underlying t = some (.slice (Try.prog.elem t))
  hs : ∀ u, (sizeOf (Try.prog.elem t)).run Try.prog u = .ok k u

def tk : Kd Tk where
  c t := [.int .i64 t.k, .int .i64 t.i, .int .i64 t.j]
  k := 3
  e := 68
  t := 63
  z := .agg #[.int .i64 0, .int .i64 0, .int .i64 0]
  bytes := 24
  len _ := rfl
  one x u hu := by simp only [List.mem_cons, List.not_mem_nil, or_false] at hu; rcases hu with rfl | rfl | rfl <;> rfl
  ht := Try.underlying63
  hi := by kernel_rfl
  hz := rfl
  hk := by decide
  ht' := by kernel_rfl
  hs _ := by kernel_rfl
def nd : Kd Rn where
  c t := [.int .i64 t.k, .int .i64 t.i, .int .i64 t.j, .slice t.o t.n t.c]
  k := 4
  e := 24
  t := 22
  z := .agg #[.int .i64 0, .int .i64 0, .int .i64 0, .slice none 0 0]
  bytes := 48
  len _ := rfl
  one x u hu := by simp only [List.mem_cons, List.not_mem_nil, or_false] at hu; rcases hu with rfl | rfl | rfl | rfl <;> rfl
  ht := Try.underlying22
  hi := by kernel_rfl
  hz := rfl
  hk := by decide
  ht' := by kernel_rfl
  hs _ := by kernel_rfl
def it : Kd Int where
  c t := [.int .i64 t]
  k := 1
  e := 3
  t := 32
  z := .int .i64 0
  bytes := 8
  len _ := rfl
  one x u hu := by simp only [List.mem_cons, List.not_mem_nil, or_false] at hu; subst hu; rfl
  ht := Try.underlying32
  hi := by kernel_rfl
  hz := rfl
  hk := by decide
  ht' := by kernel_rfl
  hs _ := by kernel_rfl

section
variable {α : Type} (F : Kd α)
def flat (T : List α) : List Value := T.flatMap F.c
theorem flat_append (a b : List α) : flat F (a ++ b) = flat F a ++ flat F b := by simp [flat]
theorem flat_cons (x : α) (T : List α) : flat F (x :: T) = F.c x ++ flat F T := rfl
theorem flat_length (T : List α) : (flat F T).length = T.length * F.k := by
  induction T with
  | nil => simp [flat]
  | cons d T ih => rw [flat_cons, List.length_append, ih, F.len, List.length_cons, Nat.add_mul, Nat.one_mul, Nat.add_comm]
theorem flat_one (T : List α) : ∀ u ∈ flat F T, u.oneCell' = true := by
  intro u hu
  unfold flat at hu
  rw [List.mem_flatMap] at hu
  obtain ⟨x, _, hx⟩ := hu
  exact F.one x u hx
theorem flat_at (T : List α) : ∀ (j : Nat) (hj : j < T.length) (m : Nat), m < F.k → (flat F T)[j * F.k + m]? = (F.c T[j])[m]? := by
  induction T with
  | nil => intro j hj; simp at hj
  | cons d T ih =>
    intro j hj m hm
    rw [flat_cons]
    cases j with
    | zero => rw [Nat.zero_mul, Nat.zero_add, List.getElem?_append_left (by rw [F.len]; exact hm)]; rfl
    | succ j =>
      rw [List.getElem?_append_right (by rw [F.len, Nat.add_mul]; omega), F.len, show (j + 1) * F.k + m - F.k = j * F.k + m by rw [Nat.add_mul]; omega, ih j (by simpa using hj) m hm]
      rfl
/-- A row can be read there. -/
def Cells (w : World) (g off : Nat) (T : List α) : Prop := ∀ j u, (flat F T)[j]? = some u → w.cell? ⟨g, off + j, none⟩ = some u
def Row (w : World) (v : Value) (T : List α) : Prop := ∃ (g off : Nat) (o : Option Addr) (cap : Nat), T.length ≤ cap ∧ v = .slice o T.length cap ∧ (T ≠ [] → o = some ⟨g, off, none⟩) ∧ Cells F w g off T
def Mine (w : World) (base : Nat) (v : Value) (T : List α) : Prop := w.ownsRow base F.e F.k v T.length (flat F T)
end
section
variable {α : Type} {F : Kd α}
theorem Cells.below {w w' : World} {g off : Nat} {T : List α} (h : Cells F w g off T) (hb : Below w.heap.size w w') : Cells F w' g off T := fun j u hu =>
  (hb.cell (p := ⟨g, off + j, none⟩) (World.block_lt_of_cell? _ _ (h j u hu))).trans (h j u hu)
theorem Row.below {w w' : World} {v : Value} {T : List α} (h : Row F w v T) (hb : Below w.heap.size w w') : Row F w' v T := by
  obtain ⟨g, off, o, cap, hc, hv, ho, hcell⟩ := h
  exact ⟨g, off, o, cap, hc, hv, ho, hcell.below hb⟩
theorem Cells.drop {w : World} {g off : Nat} {T : List α} (h : Cells F w g off T) (n : Nat) : Cells F w g (off + n * F.k) (T.drop n) := by
  intro j u hu
  rw [Nat.add_assoc]
  refine h _ u ?_
  by_cases hn : n ≤ T.length
  · have e : flat F T = flat F (T.take n) ++ flat F (T.drop n) := by rw [← flat_append, List.take_append_drop]
    have hl : (flat F (T.take n)).length = n * F.k := by rw [flat_length, List.length_take, Nat.min_eq_left hn]
    rw [e, List.getElem?_append_right (by omega), hl, Nat.add_sub_cancel_left]
    exact hu
  · rw [List.drop_of_length_le (by omega)] at hu
    simp [flat] at hu
theorem Cells.take {w : World} {g off : Nat} {T : List α} (h : Cells F w g off T) (n : Nat) : Cells F w g off (T.take n) := by
  intro j u hu
  refine h j u ?_
  have e : flat F T = flat F (T.take n) ++ flat F (T.drop n) := by rw [← flat_append, List.take_append_drop]
  rw [e, List.getElem?_append_left (List.getElem?_eq_some_iff.1 hu).1]
  exact hu
theorem Row.nil (w : World) (o : Option Addr) (cap : Nat) : Row F w (.slice o 0 cap) [] := ⟨0, 0, o, cap, Nat.zero_le _, rfl, fun h => absurd rfl h, fun j u h => by simp [flat] at h⟩
theorem Mine.row {w : World} {base : Nat} {v : Value} {T : List α} (h : Mine F w base v T) : Row F w v T := by
  have h0 := h
  rcases h.2 with ⟨rfl, b⟩ | ⟨g, cap, cur, rfl, _, _, hcap, _⟩
  · have : T = [] := List.eq_nil_of_length_eq_zero b
    subst this
    exact Row.nil w none 0
  · refine ⟨g, 0, _, cap, hcap, rfl, fun _ => rfl, fun j u hu => ?_⟩
    have := World.ownsRow.cells h0 (g := g) rfl j u hu
    rw [Addr.add_lit] at this
    exact this
theorem Mine.nil (w : World) (base : Nat) : Mine F w base (.slice none 0 0) [] := World.ownsRow_nil _ _ _ _
theorem Mine.below {w w' : World} {base : Nat} {v : Value} {T : List α} (h : Mine F w base v T) (hb : Below w.heap.size w w') : Mine F w' base v T := by
  refine ⟨h.1, ?_⟩
  rcases h.2 with hn | ⟨g, cap, cur, rfl, hg, hc, rest⟩
  · exact .inl hn
  · exact .inr ⟨g, cap, cur, rfl, hg, (hb.block g (Array.getElem?_eq_some_iff.1 hc).1).trans hc, rest⟩
theorem Mine.mono {w : World} {B0 B1 : Nat} {v : Value} {T : List α} (h : Mine F w B0 v T) (hB : B1 ≤ B0) : Mine F w B1 v T := by
  refine ⟨h.1, ?_⟩
  rcases h.2 with hn | ⟨g, cap, cur, rfl, hg, rest⟩
  · exact .inl hn
  · exact .inr ⟨g, cap, cur, rfl, by omega, rest⟩
/-- Values that are laid anew, to be appended. -/
theorem Row.new (w : World) (T : List α) : Row F (w.alloc (.cells (flat F T).toArray F.e)) (.slice (some ⟨w.heap.size, 0, none⟩) T.length T.length) T := by
  refine ⟨w.heap.size, 0, _, _, Nat.le_refl _, rfl, fun _ => rfl, fun j u hu => ?_⟩
  have := cell_of_row (w.alloc (.cells (flat F T).toArray F.e)) w.heap.size (0 + j) _ F.e (0, 0) (heap_alloc_last w _)
  rw [this]
  simpa using hu
/-- A row is put behind a row of one's own. -/
theorem run_append_row {w : World} {base : Nat} {v sv : Value} {T0 T : List α} (hown : Mine F w base v T0) (hr : Row F w sv T) (hb : base ≤ w.heap.size) (hm : T0.length + T.length ≤ maxLen) (hby : (T0.length + T.length) * F.bytes ≤ 140737488355328) :
    ∃ v' w', (∀ ty, (Builtin.append_ #[F.t, F.t] ty #[v, sv]).run Try.prog w = .ok v' w') ∧ Mine F w' base v' (T0 ++ T) ∧ w.grownBy w' v.ownBlock := by
  obtain ⟨i0, hi, hz0, hz1, hz2⟩ := info_parts F.hi
  obtain ⟨g, off, o, cap, hc, rfl, ho, hcell⟩ := hr
  have main : ∀ ad : Addr, (∀ j u, (flat F T)[j]? = some u → w.cell? (ad.add j) = some u) → ∃ v' w', (∀ ty, (Builtin.append_ #[F.t, F.t] ty #[v, .slice (some ad) T.length cap]).run Try.prog w = .ok v' w') ∧ Mine F w' base v' (T0 ++ T) ∧ w.grownBy w' v.ownBlock := by
    intro ad hcc
    obtain ⟨v', w', h1, h2, h3, _⟩ := run_append_own (P := Try.prog) w base F.t 0 F.e i0 F.z F.k F.bytes F.ht hi hz0 hz1 hz2 F.hz F.hk v T0.length (flat F T0) hown ad T.length cap (flat F T) (flat_length F T) hcc (flat_one F T) hm hby hb
    refine ⟨v', w', fun ty => h1, ?_, h3⟩
    unfold Mine
    rw [List.length_append, flat_append]
    exact h2
  by_cases hT : T = []
  · subst hT
    cases o with
    | some ad => exact main ad (fun j u hu => by simp [flat] at hu)
    | none =>
      refine ⟨v, w, fun ty => ?_, by rw [List.append_nil]; exact hown, World.grownBy.refl _ _⟩
      rcases hown.2 with ⟨rfl, h0⟩ | ⟨g', cap', cur, rfl, _, _, hnc, _⟩
      · simp [Builtin.append_, run_underlying F.ht, sizeOf, typeInfo, hi, Builtin.lenOf, Builtin.firstCells]
      · simp [Builtin.append_, run_underlying F.ht, sizeOf, typeInfo, hi, Builtin.lenOf, Builtin.firstCells, hnc, storeCells]
  · rw [ho hT]
    exact main _ (fun j u hu => by rw [Addr.add_lit]; exact hcell j u hu)
/-- Behind an append: what lay below a number lies as it lay. -/
theorem Mine.more {w W w2 : World} {base : Nat} {v : Value} {T0 : List α} {K : Nat} (hown : Mine F W base v T0) (hb : Below K w W) (hK : K ≤ base) (hKW : K ≤ W.heap.size) (hg : W.grownBy w2 v.ownBlock) : Below K w w2 :=
  hb.grown hg hKW (fun k hk => Nat.le_trans hK ((World.ownsRow.lt hown k hk).1))
theorem Row.len {w : World} {v : Value} {T : List α} (h : Row F w v T) : ∃ o cap, v = .slice o T.length cap := by
  obtain ⟨_, _, o, cap, _, hv, _⟩ := h
  exact ⟨o, cap, hv⟩
theorem Row.lt {w : World} {v : Value} {T : List α} (h : Row F w v T) : ∃ (g off : Nat) (o : Option Addr) (cap : Nat), T.length ≤ cap ∧ v = .slice o T.length cap ∧ (T ≠ [] → o = some ⟨g, off, none⟩ ∧ g < w.heap.size) ∧ Cells F w g off T := by
  obtain ⟨g, off, o, cap, hc, hv, ho, hcell⟩ := h
  refine ⟨g, off, o, cap, hc, hv, fun hne => ⟨ho hne, ?_⟩, hcell⟩
  have hl : 0 < T.length := List.length_pos_iff.2 hne
  have := flat_at F T 0 hl 0 F.hk
  rw [Nat.zero_mul, Nat.zero_add] at this
  obtain ⟨u, hu⟩ : ∃ u, (F.c (T[0]'hl))[0]? = some u := ⟨_, List.getElem?_eq_getElem (by rw [F.len]; exact F.hk)⟩
  rw [hu] at this
  exact World.block_lt_of_cell? _ _ (hcell 0 u this)
end
theorem cells_tk {w : World} {g off : Nat} {T : List Tk} (h : Cells tk w g off T) (n : Nat) (hn : n < T.length) : w.cell? ⟨g, off + n * 3, none⟩ = some (.int .i64 T[n].k) ∧ w.cell? ⟨g, off + n * 3 + 1, none⟩ = some (.int .i64 T[n].i) ∧ w.cell? ⟨g, off + n * 3 + 2, none⟩ = some (.int .i64 T[n].j) :=
  ⟨h _ _ (flat_at tk T n hn 0 (by decide)), h _ _ (flat_at tk T n hn 1 (by decide)), h _ _ (flat_at tk T n hn 2 (by decide))⟩
theorem cells_nd {w : World} {g off : Nat} {T : List Rn} (h : Cells nd w g off T) (n : Nat) (hn : n < T.length) : w.cell? ⟨g, off + n * 4, none⟩ = some (.int .i64 T[n].k) ∧ w.cell? ⟨g, off + n * 4 + 1, none⟩ = some (.int .i64 T[n].i) ∧ w.cell? ⟨g, off + n * 4 + 2, none⟩ = some (.int .i64 T[n].j) ∧ w.cell? ⟨g, off + n * 4 + 3, none⟩ = some (.slice T[n].o T[n].n T[n].c) :=
  ⟨h _ _ (flat_at nd T n hn 0 (by decide)), h _ _ (flat_at nd T n hn 1 (by decide)), h _ _ (flat_at nd T n hn 2 (by decide)), h _ _ (flat_at nd T n hn 3 (by decide))⟩
theorem cells_it {w : World} {g off : Nat} {T : List Int} (h : Cells it w g off T) (n : Nat) (hn : n < T.length) : w.cell? ⟨g, off + n, none⟩ = some (.int .i64 T[n]) := by
  have := h _ _ (flat_at it T n hn 0 (by decide))
  simpa [it] using this
section
variable {α : Type} {F : Kd α}
/-- What stands from a place on, up to a place. -/
theorem Row.mid {w : World} {v : Value} {T : List α} (h : Row F w v T) (i j : Nat) (hi : i ≤ j) (hj : j ≤ T.length) : ∃ v', (∀ u, (Instr.slice F.t v (some (.int .i64 (i : Int))) (some (.int .i64 (j : Int))) none).run Try.prog u = .ok v' u) ∧ Row F w v' ((T.drop i).take (j - i)) := by
  obtain ⟨g, off, o, cap, hc, rfl, ho, hcell⟩ := h
  have hl : ((T.drop i).take (j - i)).length = j - i := by rw [List.length_take, List.length_drop]; omega
  refine ⟨.slice (if cap = i then o else o.map (·.add (i * F.k))) (j - i) (cap - i), fun u => ?_, g, off + i * F.k, _, cap - i, by rw [hl]; omega, by rw [hl], fun hne => ?_, (hcell.drop i).take _⟩
  · rw [run_slice_lh (P := Try.prog) (w := u) (t := F.t) (a := o) (len := T.length) (cap := cap) (ht := F.ht') .i64 .i64 (i : Int) (j : Int) (by omega) (by omega) (by omega)]
    rw [F.hs]
    rfl
  · have h1 : i < T.length := by
      rcases Nat.lt_or_ge i T.length with h | h
      · exact h
      · exact absurd (by rw [List.drop_of_length_le h, List.take_nil]) hne
    rw [if_neg (by omega), ho (fun e => by rw [e] at h1; simp at h1)]
    simp [Addr.add]
theorem Row.from {w : World} {v : Value} {T : List α} (h : Row F w v T) (i : Nat) (hi : i ≤ T.length) : ∃ v', (∀ u, (Instr.slice F.t v (some (.int .i64 (i : Int))) none none).run Try.prog u = .ok v' u) ∧ Row F w v' (T.drop i) := by
  obtain ⟨g, off, o, cap, hc, rfl, ho, hcell⟩ := h
  have hl : (T.drop i).length = T.length - i := by rw [List.length_drop]
  refine ⟨.slice (if cap = i then o else o.map (·.add (i * F.k))) (T.length - i) (cap - i), fun u => ?_, g, off + i * F.k, _, cap - i, by rw [hl]; omega, by rw [hl], fun hne => ?_, hcell.drop i⟩
  · rw [run_slice_l (P := Try.prog) (w := u) (t := F.t) (a := o) (len := T.length) (cap := cap) (ht := F.ht') .i64 (i : Int) (by omega) (by omega)]
    rw [F.hs]
    rfl
  · have h1 : i < T.length := by
      rcases Nat.lt_or_ge i T.length with h | h
      · exact h
      · exact absurd (List.drop_of_length_le h) hne
    rw [if_neg (by omega), ho (fun e => by rw [e] at h1; simp at h1)]
    simp [Addr.add]
theorem Row.upto {w : World} {v : Value} {T : List α} (h : Row F w v T) (j : Nat) (hj : j ≤ T.length) : ∃ v', (∀ u, (Instr.slice F.t v none (some (.int .i64 (j : Int))) none).run Try.prog u = .ok v' u) ∧ Row F w v' (T.take j) := by
  obtain ⟨g, off, o, cap, hc, rfl, ho, hcell⟩ := h
  have hl : (T.take j).length = j := by rw [List.length_take]; omega
  refine ⟨.slice (if cap = 0 then o else o.map (·.add (0 * F.k))) j cap, fun u => ?_, g, off, _, cap, by rw [hl]; omega, by rw [hl], fun hne => ?_, hcell.take j⟩
  · rw [run_slice_h (P := Try.prog) (w := u) (t := F.t) (a := o) (len := T.length) (cap := cap) (ht := F.ht') .i64 (j : Int) (by omega) (by omega)]
    rw [F.hs]
    rfl
  · rw [ho (fun e => by subst e; simp at hne)]
    split <;> simp [Addr.add]
end
end Go.Proofs.Ytnnffcfdokejbaa.rd
