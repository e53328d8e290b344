/-
  Layer 8: a node that is read as data is a tree.
-/
import Derived.Test.YtnnffcfdokejbaaNa
import Derived.ProofKit
import Derived.OpenShut
import Derived.ChangeOld
import Derived.Carry
import Derived.JoinedCond
import Derived.Deep.DeepHandedRow
import Derived.LaidLaws
import Derived.Deep.Slices
import Derived.Deep.Fields
namespace Go.Proofs.Ytnnffcfdokejbaa.rd
open Go.ChangeShapes Go.WideShapes Go.ChangeAt Go.RowKit

theorem own : ownKnob Try.prog.godebug = none := by kernel_rfl
theorem laidOut : laidOutB Try.prog = true := by kernel_rfl
theorem spot_none {w : World} {a : Addr} {v : Value} (h : w.cell? a = some v) : a.spot = none := by
  unfold World.cell? at h
  split at h
  · cases hs : a.spot with
    | none => rfl
    | some x => rw [hs] at h; simp at h
  · cases h
/-- Each slice that is met in a datum is within the form's reach. -/
def Light {H : Type} (t : TypeId) (d : DataW H) : Prop := (d.weights Try.prog t).all (· ≤ reachBytes) = true
theorem list_three {α : Type} {l : List α} (h : l.length = 3) : ∃ a b c, l = [a, b, c] := by
  match l, h with
  | [a, b, c], _ => exact ⟨a, b, c, rfl⟩
theorem cells_of {α : Type} {F : Kd α} {w : World} {g off : Nat} {T : List α} (h : ∀ n (hn : n < T.length) m u, (F.c T[n])[m]? = some u → w.cell? ⟨g, off + n * F.k + m, none⟩ = some u) : Cells F w g off T := by
  intro j u hu
  have hl := (List.getElem?_eq_some_iff.1 hu).1
  rw [flat_length] at hl
  have hk := F.hk
  have hq : j / F.k < T.length := Nat.div_lt_of_lt_mul (by rw [Nat.mul_comm]; exact hl)
  have hm : j % F.k < F.k := Nat.mod_lt _ hk
  have hj : j / F.k * F.k + j % F.k = j := by rw [Nat.mul_comm]; exact Nat.div_add_mod j F.k
  have hf := flat_at F T (j / F.k) hq (j % F.k) hm
  rw [hj, hu] at hf
  have := h _ hq _ u hf.symm
  rw [Nat.add_assoc, hj] at this
  exact this
/-- A slice whose elements can be read is a row. -/
theorem row_of_reads {α : Type} [Inhabited α] {F : Kd α} {W : World} {a : Addr} {len cap : Nat} (hl : len ≤ cap) (key : ∀ i, i < len → ∃ e : α, ∀ m u, (F.c e)[m]? = some u → W.cell? ((a.add (i * F.k)).add m) = some u) : ∃ T, Row F W (.slice (some a) len cap) T ∧ T.length = len := by
  by_cases hz : len = 0
  · subst hz
    exact ⟨[], Row.nil W (some a) cap, rfl⟩
  · obtain ⟨b, o, spt⟩ := a
    obtain ⟨e0, k0⟩ := key 0 (by omega)
    obtain ⟨u0, hu0⟩ : ∃ u, (F.c e0)[0]? = some u := ⟨_, List.getElem?_eq_getElem (by rw [F.len]; exact F.hk)⟩
    have hc := k0 0 u0 hu0
    have hsp := spot_none hc
    obtain rfl : spt = none := by
      have : ((Addr.add ⟨b, o, spt⟩ (0 * F.k)).add 0).spot = spt := by unfold Addr.add; split <;> simp_all
      rw [← this]; exact hsp
    obtain ⟨E, hE⟩ := Deep.choose_lt (α := α) (n := len) (p := fun i e => ∀ m u, (F.c e)[m]? = some u → W.cell? (((⟨b, o, none⟩ : Addr).add (i * F.k)).add m) = some u) key
    refine ⟨(List.range len).map E, ⟨b, o, _, cap, by simpa using hl, by simp, fun _ => rfl, cells_of (fun n hn m u hu => ?_)⟩, by simp⟩
    simp only [List.length_map, List.length_range] at hn
    have := hE n hn m u (by simpa using hu)
    simp only [Addr.add_lit] at this
    exact this
theorem bytesN : Try.prog.bytesOf 24 = 48 := by kernel_rfl
theorem cellsI : Try.prog.cellsOf 3 = 1 := by kernel_rfl
theorem cellsN : Try.prog.cellsOf 24 = 4 := by kernel_rfl
theorem cellsNs : Try.prog.cellsOf 22 = 1 := by kernel_rfl
theorem list_four {α : Type} {l : List α} (h : l.length = 4) : ∃ a b c d, l = [a, b, c, d] := by
  match l, h with
  | [a, b, c, d], _ => exact ⟨a, b, c, d, rfl⟩
theorem light_mem {H : Type} {e : TypeId} {l : List (DataW H)} (h : (DataW.weightsAll Try.prog e l).all (· ≤ reachBytes) = true) {d : DataW H} (hd : d ∈ l) : Light e d := by
  induction l with
  | nil => cases hd
  | cons a l ih =>
    rw [DataW.weightsAll, List.all_append, Bool.and_eq_true] at h
    rcases List.mem_cons.1 hd with rfl | hd
    · exact h.1
    · exact ih h.2 hd
/-- A number of 64 bits. -/
def In64 (z : Int) : Prop := -9223372036854775808 ≤ z ∧ z < 9223372036854775808
mutual
/-- All numbers of a tree are of 64 bits. -/
def InR : Tree → Prop
  | .mk k i j l => In64 k ∧ In64 i ∧ In64 j ∧ InRs l
def InRs : List Tree → Prop
  | [] => True
  | t :: l => InR t ∧ InRs l
end
theorem TieBs_of {W : World} : ∀ (l : List Rn), (∀ n ∈ l, ∃ t, Tie W (· < W.heap.size) t n ∧ InR t) → ∃ T, Ties W (· < W.heap.size) T l ∧ InRs T
  | [], _ => ⟨[], Ties.nil, by rw [InRs]; trivial⟩
  | n :: l, h => by
    obtain ⟨t, h1, h2⟩ := h n (by simp)
    obtain ⟨T, h3, h4⟩ := TieBs_of l (fun m hm => h m (by simp [hm]))
    exact ⟨t :: T, Ties.cons h1 h3, by rw [InRs]; exact ⟨h2, h4⟩⟩
instance : Inhabited Rn := ⟨⟨0, 0, 0, none, 0, 0⟩⟩
theorem in64_of {z : Int} (h : (Lit.int .i64 z).wf = true) : In64 z := by
  simp [Lit.wf] at h
  have h1 : IntKind.i64.min = -9223372036854775808 := by decide
  have h2 : IntKind.i64.max = 9223372036854775807 := by decide
  unfold In64
  omega
/-- A node that is read as data is a tree. -/
theorem tree_of_trod {H : Type} {enc : TypeId × Value → H} {W : World} {sp : Nat → Bool} {held : Bool} : ∀ (fuel : Nat) (cs : List Value) (x : DataW H × List MemPlace), DataW.trod enc Try.prog W 0 sp held fuel 24 cs = some x → Light 24 x.1 → ∃ (t : Tree) (n : Rn), cs = [.int .i64 n.k, .int .i64 n.i, .int .i64 n.j, .slice n.o n.n n.c] ∧ Tie W (· < W.heap.size) t n ∧ InR t := by
  intro fuel
  induction fuel using Nat.strongRecOn with
  | _ fuel ih =>
  intro cs x h hb
  obtain ⟨ys, n', hfu, hx, hcl, hyl, hf⟩ := DataW.trod_struct Try.underlying24 h
  rw [cellsN] at hcl
  have hyl4 : ys.length = 4 := hyl
  have f0 := hf 0 _ rfl
  have f1 := hf 1 _ rfl
  have f2 := hf 2 _ rfl
  have f3 := hf 3 _ rfl
  change DataW.trod _ _ _ _ _ _ _ 3 ((cs.drop 0).take (Try.prog.cellsOf 3)) = _ at f0
  change DataW.trod _ _ _ _ _ _ _ 3 ((cs.drop 1).take (Try.prog.cellsOf 3)) = _ at f1
  change DataW.trod _ _ _ _ _ _ _ 3 ((cs.drop 2).take (Try.prog.cellsOf 3)) = _ at f2
  change DataW.trod _ _ _ _ _ _ _ 22 ((cs.drop 3).take (Try.prog.cellsOf 22)) = _ at f3
  rw [cellsI] at f0 f1 f2
  rw [cellsNs] at f3
  clear hf hyl h
  obtain ⟨c0, c1, c2, c3, rfl⟩ := list_four hcl
  obtain ⟨y0, y1, y2, y3, rfl⟩ := list_four hyl4
  obtain ⟨p, hp, _, wp⟩ := DataW.trod_int Try.underlying3 (x := y0) f0
  obtain ⟨q, hq, _, wq⟩ := DataW.trod_int Try.underlying3 (x := y1) f1
  obtain ⟨r, hr, _, wr⟩ := DataW.trod_int Try.underlying3 (x := y2) f2
  simp only [List.drop_zero, List.drop_succ_cons, List.take_succ_cons, List.take_zero, List.cons.injEq, and_true] at hp hq hr
  subst hp hq hr
  have g3 : DataW.trod enc Try.prog W 0 sp held n' 22 [c3] = some y3 := f3
  have hl3 : Light 22 y3.1 := by
    rw [hx] at hb
    unfold Light at hb ⊢
    simp only [DataW.weights, Try.underlying24, List.map_cons, List.map_nil, DataW.weightsEach, List.all_append, Bool.and_eq_true] at hb
    exact hb.2.2.2.1
  clear hb hx f0 f1 f2 f3
  rcases DataW.trod_slice Try.underlying22 g3 with ⟨hv, _⟩ | ⟨a, len, cap, elems, rest, n2, hfu2, hv, hy3, _, hl, _, hlen, hel, _, _⟩
  · simp only [List.cons.injEq, and_true] at hv
    subst hv
    refine ⟨.mk p q r [], ⟨p, q, r, none, 0, 0⟩, rfl, ?_, ?_⟩
    · rw [Tie]
      exact ⟨rfl, rfl, rfl, rfl, 0, 0, [], ⟨Nat.le_refl _, by simp⟩, fun e => absurd rfl e, fun j u h => by simp [flat] at h, Ties.nil⟩
    · rw [InR, InRs]
      exact ⟨in64_of wp, in64_of wq, in64_of wr, trivial⟩
  · simp only [List.cons.injEq, and_true] at hv
    subst hv
    rw [hy3] at hl3
    unfold Light at hl3
    simp only [DataW.weights, Try.underlying22, bytesN, List.all_cons, List.all_append, Bool.and_eq_true, decide_eq_true_eq, List.length_map] at hl3
    obtain ⟨hlb, hall, _⟩ := hl3
    unfold reachBytes at hlb
    have hlight : ∀ i (hi : i < elems.length), Light 24 elems[i].1 := fun i hi => light_mem hall (List.mem_map.2 ⟨elems[i], List.getElem_mem hi, rfl⟩)
    have key : ∀ i, i < len → ∃ e : Rn, (∀ m u, (nd.c e)[m]? = some u → W.cell? ((a.add (i * nd.k)).add m) = some u) ∧ ∃ t, Tie W (· < W.heap.size) t e ∧ InR t := by
      intro i hil
      have h1 := hel i hil
      rw [cellsN, List.getElem?_eq_getElem (by omega)] at h1
      obtain ⟨cs', hc, ht⟩ := Option.bind_eq_some_iff.1 h1
      obtain ⟨_, hcl', hat⟩ := World.cells?_some hc
      obtain ⟨t, n, hcs, h2, h3⟩ := ih n2 (by omega) cs' elems[i] ht (hlight i (by omega))
      refine ⟨n, fun m u hu => ?_, t, h2, h3⟩
      have hm4 : m < 4 := (List.getElem?_eq_some_iff.1 hu).1
      have := hat m hm4
      rw [show nd.k = 4 from rfl, this, hcs]
      exact hu
    obtain ⟨R, hR, hRl, hRt⟩ : ∃ R : List Rn, Row nd W (.slice (some a) len cap) R ∧ R.length = len ∧ ∀ n ∈ R, ∃ t, Tie W (· < W.heap.size) t n ∧ InR t := by
      by_cases hz : len = 0
      · subst hz
        exact ⟨[], Row.nil W (some a) cap, rfl, fun n h => by cases h⟩
      · obtain ⟨b, o, spt⟩ := a
        obtain ⟨e0, k0, _⟩ := key 0 (by omega)
        have hc := k0 0 (.int .i64 e0.k) rfl
        have hsp := spot_none hc
        obtain rfl : spt = none := by
          have : ((Addr.add ⟨b, o, spt⟩ (0 * nd.k)).add 0).spot = spt := by unfold Addr.add; split <;> simp_all
          rw [← this]; exact hsp
        obtain ⟨E, hE⟩ := Deep.choose_lt (α := Rn) (n := len) (p := fun i e => (∀ m u, (nd.c e)[m]? = some u → W.cell? (((⟨b, o, none⟩ : Addr).add (i * nd.k)).add m) = some u) ∧ ∃ t, Tie W (· < W.heap.size) t e ∧ InR t) key
        refine ⟨(List.range len).map E, ⟨b, o, _, cap, by simpa using hl, by simp, fun _ => rfl, cells_of (fun n hn m u hu => ?_)⟩, by simp, fun n hn => ?_⟩
        · simp only [List.length_map, List.length_range] at hn
          have := (hE n hn).1 m u (by simpa using hu)
          simp only [Addr.add_lit] at this
          exact this
        · obtain ⟨i, hi, rfl⟩ := List.mem_map.1 hn
          exact (hE i (List.mem_range.1 hi)).2
    obtain ⟨T, hT, hTr⟩ := TieBs_of R hRt
    obtain ⟨gl, off, o, cp, hcp, hv, ho, hcell⟩ := hR.lt
    have hTl := hT.length
    rw [hRl] at hv hTl
    simp only [Value.slice.injEq] at hv
    obtain ⟨rfl, _, rfl⟩ := hv
    refine ⟨.mk p q r T, ⟨p, q, r, some a, len, cap⟩, rfl, ?_, ?_⟩
    · rw [Tie]
      refine ⟨rfl, rfl, rfl, hTl, gl, off, R, ⟨hl, by rw [← hTl]; omega⟩, fun hne => ?_, hcell, hT⟩
      exact ho (fun e => hne (List.eq_nil_of_length_eq_zero (by rw [← hTl, ← hRl, e]; rfl)))
    · rw [InR]
      exact ⟨in64_of wp, in64_of wq, in64_of wr, hTr⟩
end Go.Proofs.Ytnnffcfdokejbaa.rd
