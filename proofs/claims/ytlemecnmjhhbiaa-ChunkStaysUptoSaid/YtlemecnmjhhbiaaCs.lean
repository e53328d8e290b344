/-
  Layer 4: what is read as data, of a bound bulk, is a row in memory.
-/
import Derived.Test.YtlemecnmjhhbiaaCl
namespace Go.Proofs.Ytlemecnmjhhbiaa.ck
open Go.ChangeShapes Go.WideShapes Go.ChangeAt Go.RowKit

theorem bulk_pos {H : Type} (d : DataW H) : 1 ≤ Rows.uptoBulk d := by
  unfold Rows.uptoBulk
  split <;> omega
theorem bulk_len {H : Type} (l : List (DataW H)) : l.length ≤ Rows.uptoBulkAll l := by
  induction l with
  | nil => simp
  | cons d r ih =>
    have := bulk_pos d
    simp only [Rows.uptoBulkAll, List.length_cons]
    omega
theorem bulk_mem {H : Type} {l : List (DataW H)} {d : DataW H} (h : d ∈ l) : Rows.uptoBulk d ≤ Rows.uptoBulkAll l := by
  induction l with
  | nil => simp at h
  | cons x r ih =>
    simp only [Rows.uptoBulkAll]
    rcases List.mem_cons.1 h with rfl | h
    · omega
    · have := ih h; omega
theorem tk_few {H : Type} {enc : TypeId × Value → H} {W : World} {sp : Nat → Bool} {held : Bool} {fuel : Nat} {v : Value} {x : DataW H × List MemPlace} (h : DataW.trod enc Try.prog W 0 sp held fuel 22 [v] = some x) : ∃ T, Row tk W v T ∧ T.length ≤ Rows.uptoBulk x.1 := by
  rcases Deep.open_slice Try.underlying22 h with ⟨hv, _⟩ | ⟨a, len, cap, m, n, D, Pl, hv, _, hl, _, hm, hx, hi⟩
  · simp only [List.cons.injEq, and_true] at hv
    subst hv
    exact ⟨[], Row.nil W none 0, by simp⟩
  · simp only [List.cons.injEq, and_true] at hv
    subst hv
    have hlm : len ≤ m := by rw [hm]; split <;> omega
    have hbulk := bulk_len ((List.range len).map D)
    rw [List.length_map, List.length_range] at hbulk
    have key : ∀ i, i < len → ∃ e : Tk, ∀ m u, (tk.c e)[m]? = some u → W.cell? ((a.add (i * tk.k)).add m) = some u := by
      intro i hil
      obtain ⟨cs, hc, ht⟩ := hi i (by omega)
      rw [cellsT] at hc
      obtain ⟨_, hcl, hat⟩ := World.cells?_some hc
      obtain ⟨ys, n', _, _, _, hyl, hf⟩ := DataW.trod_struct Try.underlying25 ht
      have f0 := hf 0 _ rfl
      have f1 := hf 1 _ rfl
      have f2 := hf 2 _ rfl
      have hyl3 : ys.length = 3 := hyl
      change DataW.trod _ _ _ _ _ _ _ 3 ((cs.drop 0).take (Try.prog.cellsOf 3)) = _ at f0
      change DataW.trod _ _ _ _ _ _ _ 3 ((cs.drop 1).take (Try.prog.cellsOf 3)) = _ at f1
      change DataW.trod _ _ _ _ _ _ _ 3 ((cs.drop 2).take (Try.prog.cellsOf 3)) = _ at f2
      rw [cellsI] at f0 f1 f2
      clear hyl hf ht
      obtain ⟨c0, c1, c2, rfl⟩ := list_three hcl
      obtain ⟨y0, y1, y2, rfl⟩ := list_three hyl3
      obtain ⟨p, hp, _⟩ := DataW.trod_int Try.underlying3 (x := y0) f0
      obtain ⟨q, hq, _⟩ := DataW.trod_int Try.underlying3 (x := y1) f1
      obtain ⟨r, hr, _⟩ := DataW.trod_int Try.underlying3 (x := y2) f2
      simp only [List.drop_zero, List.drop_succ_cons, List.take_succ_cons, List.take_zero, List.cons.injEq, and_true] at hp hq hr
      subst hp; subst hq; subst hr
      refine ⟨⟨p, q, r⟩, fun m u hu => ?_⟩
      have hm3 : m < 3 := by
        have := (List.getElem?_eq_some_iff.1 hu).1
        exact this
      have := hat m hm3
      rw [show tk.k = 3 from rfl, this]
      exact hu
    obtain ⟨T, hT, hTl⟩ := row_of_reads (F := tk) hl key
    exact ⟨T, hT, by rw [hx]; simp only [Rows.uptoBulk]; omega⟩
theorem sn_few {H : Type} {enc : TypeId × Value → H} {W : World} {sp : Nat → Bool} {held : Bool} {fuel : Nat} {v : Value} {x : DataW H × List MemPlace} (h : DataW.trod enc Try.prog W 0 sp held fuel 26 [v] = some x) : ∃ T, Row sn W v T ∧ T.length ≤ Rows.uptoBulk x.1 := by
  rcases Deep.open_slice Try.underlying26 h with ⟨hv, _⟩ | ⟨a, len, cap, m, n, D, Pl, hv, _, hl, _, hm, hx, hi⟩
  · simp only [List.cons.injEq, and_true] at hv
    subst hv
    exact ⟨[], Row.nil W none 0, by simp⟩
  · simp only [List.cons.injEq, and_true] at hv
    subst hv
    have hlm : len ≤ m := by rw [hm]; split <;> omega
    have hbulk := bulk_len ((List.range len).map D)
    rw [List.length_map, List.length_range] at hbulk
    have key : ∀ i, i < len → ∃ e : Sn, ∀ m u, (sn.c e)[m]? = some u → W.cell? ((a.add (i * sn.k)).add m) = some u := by
      intro i hil
      obtain ⟨cs, hc, ht⟩ := hi i (by omega)
      rw [cellsS] at hc
      obtain ⟨_, hcl, hat⟩ := World.cells?_some hc
      obtain ⟨ys, n', _, _, _, hyl, hf⟩ := DataW.trod_struct Try.underlying30 ht
      have f0 := hf 0 _ rfl
      have f1 := hf 1 _ rfl
      have hyl2 : ys.length = 2 := hyl
      change DataW.trod _ _ _ _ _ _ _ 3 ((cs.drop 0).take (Try.prog.cellsOf 3)) = _ at f0
      change DataW.trod _ _ _ _ _ _ _ 3 ((cs.drop 1).take (Try.prog.cellsOf 3)) = _ at f1
      rw [cellsI] at f0 f1
      clear hyl hf ht
      obtain ⟨c0, c1, rfl⟩ := list_two hcl
      obtain ⟨y0, y1, rfl⟩ := list_two hyl2
      obtain ⟨p, hp, _⟩ := DataW.trod_int Try.underlying3 (x := y0) f0
      obtain ⟨q, hq, _⟩ := DataW.trod_int Try.underlying3 (x := y1) f1
      simp only [List.drop_zero, List.drop_succ_cons, List.take_succ_cons, List.take_zero, List.cons.injEq, and_true] at hp hq
      subst hp; subst hq
      refine ⟨⟨p, q⟩, fun m u hu => ?_⟩
      have hm3 : m < 2 := by
        have := (List.getElem?_eq_some_iff.1 hu).1
        exact this
      have := hat m hm3
      rw [show sn.k = 2 from rfl, this]
      exact hu
    obtain ⟨T, hT, hTl⟩ := row_of_reads (F := sn) hl key
    exact ⟨T, hT, by rw [hx]; simp only [Rows.uptoBulk]; omega⟩
theorem it_few {H : Type} {enc : TypeId × Value → H} {W : World} {sp : Nat → Bool} {held : Bool} {fuel : Nat} {v : Value} {x : DataW H × List MemPlace} (h : DataW.trod enc Try.prog W 0 sp held fuel 38 [v] = some x) : ∃ T, Row it W v T ∧ T.length ≤ Rows.uptoBulk x.1 := by
  rcases Deep.open_slice Try.underlying38 h with ⟨hv, _⟩ | ⟨a, len, cap, m, n, D, Pl, hv, _, hl, _, hm, hx, hi⟩
  · simp only [List.cons.injEq, and_true] at hv
    subst hv
    exact ⟨[], Row.nil W none 0, by simp⟩
  · simp only [List.cons.injEq, and_true] at hv
    subst hv
    have hlm : len ≤ m := by rw [hm]; split <;> omega
    have hbulk := bulk_len ((List.range len).map D)
    rw [List.length_map, List.length_range] at hbulk
    have key : ∀ i, i < len → ∃ e : Int, ∀ m u, (it.c e)[m]? = some u → W.cell? ((a.add (i * it.k)).add m) = some u := by
      intro i hil
      obtain ⟨cs, hc, ht⟩ := hi i (by omega)
      rw [cellsI] at hc
      obtain ⟨_, hcl, hat⟩ := World.cells?_some hc
      obtain ⟨p, hp, _⟩ := DataW.trod_int Try.underlying3 ht
      subst hp
      refine ⟨p, fun m u hu => ?_⟩
      have hm3 : m < 1 := by
        have := (List.getElem?_eq_some_iff.1 hu).1
        exact this
      have := hat m hm3
      rw [show it.k = 1 from rfl, this]
      exact hu
    obtain ⟨T, hT, hTl⟩ := row_of_reads (F := it) hl key
    exact ⟨T, hT, by rw [hx]; simp only [Rows.uptoBulk]; omega⟩
end Go.Proofs.Ytlemecnmjhhbiaa.ck
