/-
  Layer 4: what is read as data is a row in memory.
-/
import Derived.Test.YtlemecnmjhhbiaaCk
import Derived.ProofKit
import Derived.OpenShut
import Derived.ChangeOld
import Derived.Carry
import Derived.JoinedCond
import Derived.Deep.DeepHandedRow
import Derived.LaidLaws
import Derived.Deep.Slices
import Derived.Deep.Fields
namespace Go.Proofs.Ytlemecnmjhhbiaa.ck
open Go.ChangeShapes Go.WideShapes Go.ChangeAt Go.RowKit

theorem own : ownKnob Try.prog.godebug = none := by kernel_rfl
theorem laidOut : laidOutB Try.prog = true := by kernel_rfl
theorem spot_none {w : World} {a : Addr} {v : Value} (h : w.cell? a = some v) : a.spot = none := by
  unfold World.cell? at h
  split at h
  · cases hs : a.spot with
    | none => rfl
    | some x => rw [hs] at h; simp at h
  · cases h
/-- Each slice that is met in a datum is within the form's reach. -/
def Light {H : Type} (t : TypeId) (d : DataW H) : Prop := (d.weights Try.prog t).all (· ≤ reachBytes) = true
theorem bytesT : Try.prog.bytesOf 25 = 24 := by kernel_rfl
theorem bytesS : Try.prog.bytesOf 30 = 16 := by kernel_rfl
theorem bytesI : Try.prog.bytesOf 3 = 8 := by kernel_rfl
theorem cellsT : Try.prog.cellsOf 25 = 3 := by kernel_rfl
theorem cellsS : Try.prog.cellsOf 30 = 2 := by kernel_rfl
theorem cellsI : Try.prog.cellsOf 3 = 1 := by kernel_rfl
theorem list_two {α : Type} {l : List α} (h : l.length = 2) : ∃ a b, l = [a, b] := by
  match l, h with
  | [a, b], _ => exact ⟨a, b, rfl⟩
theorem list_three {α : Type} {l : List α} (h : l.length = 3) : ∃ a b c, l = [a, b, c] := by
  match l, h with
  | [a, b, c], _ => exact ⟨a, b, c, rfl⟩
theorem cells_of {α : Type} {F : Kd α} {w : World} {g off : Nat} {T : List α} (h : ∀ n (hn : n < T.length) m u, (F.c T[n])[m]? = some u → w.cell? ⟨g, off + n * F.k + m, none⟩ = some u) : Cells F w g off T := by
  intro j u hu
  have hl := (List.getElem?_eq_some_iff.1 hu).1
  rw [flat_length] at hl
  have hk := F.hk
  have hq : j / F.k < T.length := Nat.div_lt_of_lt_mul (by rw [Nat.mul_comm]; exact hl)
  have hm : j % F.k < F.k := Nat.mod_lt _ hk
  have hj : j / F.k * F.k + j % F.k = j := by rw [Nat.mul_comm]; exact Nat.div_add_mod j F.k
  have hf := flat_at F T (j / F.k) hq (j % F.k) hm
  rw [hj, hu] at hf
  have := h _ hq _ u hf.symm
  rw [Nat.add_assoc, hj] at this
  exact this
/-- A slice whose elements can be read is a row. -/
theorem row_of_reads {α : Type} [Inhabited α] {F : Kd α} {W : World} {a : Addr} {len cap : Nat} (hl : len ≤ cap) (key : ∀ i, i < len → ∃ e : α, ∀ m u, (F.c e)[m]? = some u → W.cell? ((a.add (i * F.k)).add m) = some u) : ∃ T, Row F W (.slice (some a) len cap) T ∧ T.length = len := by
  by_cases hz : len = 0
  · subst hz
    exact ⟨[], Row.nil W (some a) cap, rfl⟩
  · obtain ⟨b, o, spt⟩ := a
    obtain ⟨e0, k0⟩ := key 0 (by omega)
    obtain ⟨u0, hu0⟩ : ∃ u, (F.c e0)[0]? = some u := ⟨_, List.getElem?_eq_getElem (by rw [F.len]; exact F.hk)⟩
    have hc := k0 0 u0 hu0
    have hsp := spot_none hc
    obtain rfl : spt = none := by
      have : ((Addr.add ⟨b, o, spt⟩ (0 * F.k)).add 0).spot = spt := by unfold Addr.add; split <;> simp_all
      rw [← this]; exact hsp
    obtain ⟨E, hE⟩ := Deep.choose_lt (α := α) (n := len) (p := fun i e => ∀ m u, (F.c e)[m]? = some u → W.cell? (((⟨b, o, none⟩ : Addr).add (i * F.k)).add m) = some u) key
    refine ⟨(List.range len).map E, ⟨b, o, _, cap, by simpa using hl, by simp, fun _ => rfl, cells_of (fun n hn m u hu => ?_)⟩, by simp⟩
    simp only [List.length_map, List.length_range] at hn
    have := hE n hn m u (by simpa using hu)
    simp only [Addr.add_lit] at this
    exact this
instance : Inhabited Tk := ⟨⟨0, 0, 0⟩⟩
instance : Inhabited Sn := ⟨⟨0, 0⟩⟩
theorem tk_of_trod {H : Type} {enc : TypeId × Value → H} {W : World} {sp : Nat → Bool} {held : Bool} {fuel : Nat} {v : Value} {x : DataW H × List MemPlace} (h : DataW.trod enc Try.prog W 0 sp held fuel 22 [v] = some x) (hb : Light 22 x.1) : ∃ T, Row tk W v T ∧ T.length * 24 ≤ 140737488351232 := by
  rcases Deep.open_slice Try.underlying22 h with ⟨hv, _⟩ | ⟨a, len, cap, m, n, D, Pl, hv, _, hl, _, hm, hx, hi⟩
  · simp only [List.cons.injEq, and_true] at hv
    subst hv
    exact ⟨[], Row.nil W none 0, by simp⟩
  · simp only [List.cons.injEq, and_true] at hv
    subst hv
    have hlm : len ≤ m := by rw [hm]; split <;> omega
    rw [hx] at hb
    unfold Light at hb
    simp only [DataW.weights, Try.underlying22, bytesT, List.all_cons, List.all_append, Bool.and_eq_true, decide_eq_true_eq, List.length_map, List.length_range] at hb
    obtain ⟨hlen, _⟩ := hb
    unfold reachBytes at hlen
    have key : ∀ i, i < len → ∃ e : Tk, ∀ m u, (tk.c e)[m]? = some u → W.cell? ((a.add (i * tk.k)).add m) = some u := by
      intro i hil
      obtain ⟨cs, hc, ht⟩ := hi i (by omega)
      rw [cellsT] at hc
      obtain ⟨_, hcl, hat⟩ := World.cells?_some hc
      obtain ⟨ys, n', _, _, _, hyl, hf⟩ := DataW.trod_struct Try.underlying25 ht
      have f0 := hf 0 _ rfl
      have f1 := hf 1 _ rfl
      have f2 := hf 2 _ rfl
      have hyl3 : ys.length = 3 := hyl
      change DataW.trod _ _ _ _ _ _ _ 3 ((cs.drop 0).take (Try.prog.cellsOf 3)) = _ at f0
      change DataW.trod _ _ _ _ _ _ _ 3 ((cs.drop 1).take (Try.prog.cellsOf 3)) = _ at f1
      change DataW.trod _ _ _ _ _ _ _ 3 ((cs.drop 2).take (Try.prog.cellsOf 3)) = _ at f2
      rw [cellsI] at f0 f1 f2
      clear hyl hf ht
      obtain ⟨c0, c1, c2, rfl⟩ := list_three hcl
      obtain ⟨y0, y1, y2, rfl⟩ := list_three hyl3
      obtain ⟨p, hp, _⟩ := DataW.trod_int Try.underlying3 (x := y0) f0
      obtain ⟨q, hq, _⟩ := DataW.trod_int Try.underlying3 (x := y1) f1
      obtain ⟨r, hr, _⟩ := DataW.trod_int Try.underlying3 (x := y2) f2
      simp only [List.drop_zero, List.drop_succ_cons, List.take_succ_cons, List.take_zero, List.cons.injEq, and_true] at hp hq hr
      subst hp; subst hq; subst hr
      refine ⟨⟨p, q, r⟩, fun m u hu => ?_⟩
      have hm3 : m < 3 := by
        have := (List.getElem?_eq_some_iff.1 hu).1
        exact this
      have := hat m hm3
      rw [show tk.k = 3 from rfl, this]
      exact hu
    obtain ⟨T, hT, hTl⟩ := row_of_reads (F := tk) hl key
    exact ⟨T, hT, by omega⟩
theorem sn_of_trod {H : Type} {enc : TypeId × Value → H} {W : World} {sp : Nat → Bool} {held : Bool} {fuel : Nat} {v : Value} {x : DataW H × List MemPlace} (h : DataW.trod enc Try.prog W 0 sp held fuel 26 [v] = some x) (hb : Light 26 x.1) : ∃ T, Row sn W v T ∧ T.length * 16 ≤ 140737488351232 := by
  rcases Deep.open_slice Try.underlying26 h with ⟨hv, _⟩ | ⟨a, len, cap, m, n, D, Pl, hv, _, hl, _, hm, hx, hi⟩
  · simp only [List.cons.injEq, and_true] at hv
    subst hv
    exact ⟨[], Row.nil W none 0, by simp⟩
  · simp only [List.cons.injEq, and_true] at hv
    subst hv
    have hlm : len ≤ m := by rw [hm]; split <;> omega
    rw [hx] at hb
    unfold Light at hb
    simp only [DataW.weights, Try.underlying26, bytesS, List.all_cons, List.all_append, Bool.and_eq_true, decide_eq_true_eq, List.length_map, List.length_range] at hb
    obtain ⟨hlen, _⟩ := hb
    unfold reachBytes at hlen
    have key : ∀ i, i < len → ∃ e : Sn, ∀ m u, (sn.c e)[m]? = some u → W.cell? ((a.add (i * sn.k)).add m) = some u := by
      intro i hil
      obtain ⟨cs, hc, ht⟩ := hi i (by omega)
      rw [cellsS] at hc
      obtain ⟨_, hcl, hat⟩ := World.cells?_some hc
      obtain ⟨ys, n', _, _, _, hyl, hf⟩ := DataW.trod_struct Try.underlying30 ht
      have f0 := hf 0 _ rfl
      have f1 := hf 1 _ rfl
      have hyl2 : ys.length = 2 := hyl
      change DataW.trod _ _ _ _ _ _ _ 3 ((cs.drop 0).take (Try.prog.cellsOf 3)) = _ at f0
      change DataW.trod _ _ _ _ _ _ _ 3 ((cs.drop 1).take (Try.prog.cellsOf 3)) = _ at f1
      rw [cellsI] at f0 f1
      clear hyl hf ht
      obtain ⟨c0, c1, rfl⟩ := list_two hcl
      obtain ⟨y0, y1, rfl⟩ := list_two hyl2
      obtain ⟨p, hp, _⟩ := DataW.trod_int Try.underlying3 (x := y0) f0
      obtain ⟨q, hq, _⟩ := DataW.trod_int Try.underlying3 (x := y1) f1
      simp only [List.drop_zero, List.drop_succ_cons, List.take_succ_cons, List.take_zero, List.cons.injEq, and_true] at hp hq
      subst hp; subst hq
      refine ⟨⟨p, q⟩, fun m u hu => ?_⟩
      have hm3 : m < 2 := by
        have := (List.getElem?_eq_some_iff.1 hu).1
        exact this
      have := hat m hm3
      rw [show sn.k = 2 from rfl, this]
      exact hu
    obtain ⟨T, hT, hTl⟩ := row_of_reads (F := sn) hl key
    exact ⟨T, hT, by omega⟩
theorem it_of_trod {H : Type} {enc : TypeId × Value → H} {W : World} {sp : Nat → Bool} {held : Bool} {fuel : Nat} {v : Value} {x : DataW H × List MemPlace} (h : DataW.trod enc Try.prog W 0 sp held fuel 38 [v] = some x) (hb : Light 38 x.1) : ∃ T, Row it W v T ∧ T.length * 8 ≤ 140737488351232 := by
  rcases Deep.open_slice Try.underlying38 h with ⟨hv, _⟩ | ⟨a, len, cap, m, n, D, Pl, hv, _, hl, _, hm, hx, hi⟩
  · simp only [List.cons.injEq, and_true] at hv
    subst hv
    exact ⟨[], Row.nil W none 0, by simp⟩
  · simp only [List.cons.injEq, and_true] at hv
    subst hv
    have hlm : len ≤ m := by rw [hm]; split <;> omega
    rw [hx] at hb
    unfold Light at hb
    simp only [DataW.weights, Try.underlying38, bytesI, List.all_cons, List.all_append, Bool.and_eq_true, decide_eq_true_eq, List.length_map, List.length_range] at hb
    obtain ⟨hlen, _⟩ := hb
    unfold reachBytes at hlen
    have key : ∀ i, i < len → ∃ e : Int, ∀ m u, (it.c e)[m]? = some u → W.cell? ((a.add (i * it.k)).add m) = some u := by
      intro i hil
      obtain ⟨cs, hc, ht⟩ := hi i (by omega)
      rw [cellsI] at hc
      obtain ⟨_, hcl, hat⟩ := World.cells?_some hc
      obtain ⟨p, hp, _⟩ := DataW.trod_int Try.underlying3 ht
      subst hp
      refine ⟨p, fun m u hu => ?_⟩
      have hm3 : m < 1 := by
        have := (List.getElem?_eq_some_iff.1 hu).1
        exact this
      have := hat m hm3
      rw [show it.k = 1 from rfl, this]
      exact hu
    obtain ⟨T, hT, hTl⟩ := row_of_reads (F := it) hl key
    exact ⟨T, hT, by omega⟩
/-- A span that is read is two numbers. -/
theorem span_of_trod {H : Type} {enc : TypeId × Value → H} {W : World} {sp : Nat → Bool} {held : Bool} {fuel : Nat} {cs : Array Value} {x : DataW H × List MemPlace} (hs : cs.size = 2) (h : DataW.trod enc Try.prog W 0 sp held fuel 30 cs.toList = some x) : ∃ a b, cs = #[.int .i64 a, .int .i64 b] := by
  obtain ⟨c0, c1, hc⟩ := list_two (l := cs.toList) (by simpa using hs)
  rw [hc] at h
  obtain ⟨ys, n', _, _, _, hyl, hf⟩ := DataW.trod_struct Try.underlying30 h
  have f0 := hf 0 _ rfl
  have f1 := hf 1 _ rfl
  have hyl2 : ys.length = 2 := hyl
  change DataW.trod _ _ _ _ _ _ _ 3 ((([c0, c1] : List Value).drop 0).take (Try.prog.cellsOf 3)) = _ at f0
  change DataW.trod _ _ _ _ _ _ _ 3 ((([c0, c1] : List Value).drop 1).take (Try.prog.cellsOf 3)) = _ at f1
  rw [cellsI] at f0 f1
  obtain ⟨y0, y1, rfl⟩ := list_two hyl2
  obtain ⟨p, hp, _⟩ := DataW.trod_int Try.underlying3 (x := y0) f0
  obtain ⟨q, hq, _⟩ := DataW.trod_int Try.underlying3 (x := y1) f1
  simp only [List.drop_zero, List.drop_succ_cons, List.take_succ_cons, List.take_zero, List.cons.injEq, and_true] at hp hq
  subst hp; subst hq
  exact ⟨p, q, by rw [← hc]⟩
end Go.Proofs.Ytlemecnmjhhbiaa.ck
