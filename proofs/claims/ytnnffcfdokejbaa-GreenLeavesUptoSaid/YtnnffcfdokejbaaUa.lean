/-
  Layer 8: a node that is read as data is a tree, and no greater than what is read.
-/
import Derived.Test.YtnnffcfdokejbaaNh
namespace Go.Proofs.Ytnnffcfdokejbaa.rd
open Go.ChangeShapes Go.WideShapes Go.ChangeAt Go.RowKit

mutual
/-- How many nodes a tree has. -/
def bulkT : Tree → Nat
  | .mk _ _ _ l => bulkTs l + 1
def bulkTs : List Tree → Nat
  | [] => 0
  | t :: l => bulkT t + bulkTs l
end
mutual
theorem findT_bulk (a b : Int) : ∀ t : Tree, ((findT a b t).getD []).length ≤ bulkT t
  | .mk k i j l => by
    rw [findT, bulkT]
    have := findTs_bulk a b 0 l
    cases holdsI i j a b
    · exact Nat.zero_le _
    · show (findTs a b 0 l).length ≤ _
      omega
theorem findTs_bulk (a b : Int) : ∀ (q : Nat) (l : List Tree), (findTs a b q l).length ≤ bulkTs l + 1
  | q, [] => by rw [findTs]; exact Nat.zero_le _
  | q, t :: l => by
    have h1 := findT_bulk a b t
    have h2 := findTs_bulk a b (q + 1) l
    rw [findTs, bulkTs]
    cases h : findT a b t with
    | none => exact Nat.le_trans h2 (by omega)
    | some w =>
      rw [h] at h1
      have h3 : w.length ≤ bulkT t := h1
      show ((q : Int) :: w).length ≤ _
      rw [List.length_cons]
      omega
end
theorem uptoBulk_pos {H : Type} (d : DataW H) : 1 ≤ Rows.uptoBulk d := by
  cases d with
  | lit l => cases l <;> rw [Rows.uptoBulk] <;> first | omega | exact fun _ h => by cases h
  | nil => rw [Rows.uptoBulk]; omega
  | ptr d => rw [Rows.uptoBulk]; omega
  | slice e s => rw [Rows.uptoBulk]; omega
  | agg p => rw [Rows.uptoBulk]; omega
  | iface _ d => rw [Rows.uptoBulk]; omega
  | map e => rw [Rows.uptoBulk]; omega
  | held _ => rw [Rows.uptoBulk]; omega
theorem TieBs_bulk {H : Type} {W : World} : ∀ (l : List Rn) (E : List (DataW H)), l.length = E.length → (∀ i (h1 : i < l.length) (h2 : i < E.length), ∃ t, Tie W (· < W.heap.size) t l[i] ∧ InR t ∧ bulkT t ≤ Rows.uptoBulk E[i]) → ∃ T, Ties W (· < W.heap.size) T l ∧ InRs T ∧ bulkTs T ≤ Rows.uptoBulkAll E
  | [], [], _, _ => ⟨[], Ties.nil, by rw [InRs]; trivial, by rw [bulkTs]; exact Nat.zero_le _⟩
  | [], _ :: _, h, _ => by cases h
  | _ :: _, [], h, _ => by cases h
  | n :: l, d :: E, hl, h => by
    obtain ⟨t, h1, h2, h5⟩ := h 0 (by simp) (by simp)
    obtain ⟨T, h3, h4, h6⟩ := TieBs_bulk l E (by simpa using hl) (fun i k1 k2 => h (i + 1) (by simpa using k1) (by simpa using k2))
    exact ⟨t :: T, Ties.cons h1 h3, by rw [InRs]; exact ⟨h2, h4⟩, by rw [bulkTs, Rows.uptoBulkAll]; exact Nat.add_le_add h5 h6⟩
/-- A node that is read as data is a tree, and no greater than what is read. -/
theorem tree_bulk_of_trod {H : Type} {enc : TypeId × Value → H} {W : World} {sp : Nat → Bool} {held : Bool} : ∀ (fuel : Nat) (cs : List Value) (x : DataW H × List MemPlace), DataW.trod enc Try.prog W 0 sp held fuel 24 cs = some x → Light 24 x.1 → ∃ (t : Tree) (n : Rn), cs = [.int .i64 n.k, .int .i64 n.i, .int .i64 n.j, .slice n.o n.n n.c] ∧ Tie W (· < W.heap.size) t n ∧ InR t ∧ bulkT t ≤ Rows.uptoBulk x.1 := by
  intro fuel
  induction fuel using Nat.strongRecOn with
  | _ fuel ih =>
  intro cs x h hb
  obtain ⟨ys, n', hfu, hx, hcl, hyl, hf⟩ := DataW.trod_struct Try.underlying24 h
  rw [cellsN] at hcl
  have hyl4 : ys.length = 4 := hyl
  have f0 := hf 0 _ rfl
  have f1 := hf 1 _ rfl
  have f2 := hf 2 _ rfl
  have f3 := hf 3 _ rfl
  change DataW.trod _ _ _ _ _ _ _ 3 ((cs.drop 0).take (Try.prog.cellsOf 3)) = _ at f0
  change DataW.trod _ _ _ _ _ _ _ 3 ((cs.drop 1).take (Try.prog.cellsOf 3)) = _ at f1
  change DataW.trod _ _ _ _ _ _ _ 3 ((cs.drop 2).take (Try.prog.cellsOf 3)) = _ at f2
  change DataW.trod _ _ _ _ _ _ _ 22 ((cs.drop 3).take (Try.prog.cellsOf 22)) = _ at f3
  rw [cellsI] at f0 f1 f2
  rw [cellsNs] at f3
  clear hf hyl h
  obtain ⟨c0, c1, c2, c3, rfl⟩ := list_four hcl
  obtain ⟨y0, y1, y2, y3, rfl⟩ := list_four hyl4
  obtain ⟨p, hp, _, wp⟩ := DataW.trod_int Try.underlying3 (x := y0) f0
  obtain ⟨q, hq, _, wq⟩ := DataW.trod_int Try.underlying3 (x := y1) f1
  obtain ⟨r, hr, _, wr⟩ := DataW.trod_int Try.underlying3 (x := y2) f2
  simp only [List.drop_zero, List.drop_succ_cons, List.take_succ_cons, List.take_zero, List.cons.injEq, and_true] at hp hq hr
  subst hp hq hr
  have g3 : DataW.trod enc Try.prog W 0 sp held n' 22 [c3] = some y3 := f3
  have hl3 : Light 22 y3.1 := by
    rw [hx] at hb
    unfold Light at hb ⊢
    simp only [DataW.weights, Try.underlying24, List.map_cons, List.map_nil, DataW.weightsEach, List.all_append, Bool.and_eq_true] at hb
    exact hb.2.2.2.1
  have hup : Rows.uptoBulk y3.1 + 1 ≤ Rows.uptoBulk x.1 := by
    rw [hx]
    simp only [List.map_cons, List.map_nil, Rows.uptoBulk, Rows.uptoBulkAll]
    omega
  clear hb hx f0 f1 f2 f3
  rcases DataW.trod_slice Try.underlying22 g3 with ⟨hv, _⟩ | ⟨a, len, cap, elems, rest, n2, hfu2, hv, hy3, _, hl, _, hlen, hel, _, _⟩
  · simp only [List.cons.injEq, and_true] at hv
    subst hv
    refine ⟨.mk p q r [], ⟨p, q, r, none, 0, 0⟩, rfl, ?_, ?_, ?_⟩
    · rw [Tie]
      exact ⟨rfl, rfl, rfl, rfl, 0, 0, [], ⟨Nat.le_refl _, by simp⟩, fun e => absurd rfl e, fun j u h => by simp [flat] at h, Ties.nil⟩
    · rw [InR, InRs]
      exact ⟨in64_of wp, in64_of wq, in64_of wr, trivial⟩
    · rw [bulkT, bulkTs]; omega
  · simp only [List.cons.injEq, and_true] at hv
    subst hv
    rw [hy3] at hl3 hup
    have hup' : Rows.uptoBulkAll (elems.map (·.1)) + 2 ≤ Rows.uptoBulk x.1 := by
      simp only [Rows.uptoBulk] at hup
      omega
    clear hup
    unfold Light at hl3
    simp only [DataW.weights, Try.underlying22, bytesN, List.all_cons, List.all_append, Bool.and_eq_true, decide_eq_true_eq, List.length_map] at hl3
    obtain ⟨hlb, hall, _⟩ := hl3
    unfold reachBytes at hlb
    have hlight : ∀ i (hi : i < elems.length), Light 24 elems[i].1 := fun i hi => light_mem hall (List.mem_map.2 ⟨elems[i], List.getElem_mem hi, rfl⟩)
    have key : ∀ i, i < len → ∃ e : Rn, (∀ m u, (nd.c e)[m]? = some u → W.cell? ((a.add (i * nd.k)).add m) = some u) ∧ ∃ t, Tie W (· < W.heap.size) t e ∧ InR t ∧ ∀ h : i < elems.length, bulkT t ≤ Rows.uptoBulk elems[i].1 := by
      intro i hil
      have h1 := hel i hil
      rw [cellsN, List.getElem?_eq_getElem (by omega)] at h1
      obtain ⟨cs', hc, ht⟩ := Option.bind_eq_some_iff.1 h1
      obtain ⟨_, hcl', hat⟩ := World.cells?_some hc
      obtain ⟨t, n, hcs, h2, h3, h4⟩ := ih n2 (by omega) cs' elems[i] ht (hlight i (by omega))
      refine ⟨n, fun m u hu => ?_, t, h2, h3, fun _ => h4⟩
      have hm4 : m < 4 := (List.getElem?_eq_some_iff.1 hu).1
      have := hat m hm4
      rw [show nd.k = 4 from rfl, this, hcs]
      exact hu
    obtain ⟨R, hR, hRl, hRt⟩ : ∃ R : List Rn, Row nd W (.slice (some a) len cap) R ∧ R.length = len ∧ ∀ i (h1 : i < R.length) (h2 : i < elems.length), ∃ t, Tie W (· < W.heap.size) t R[i] ∧ InR t ∧ bulkT t ≤ Rows.uptoBulk elems[i].1 := by
      by_cases hz : len = 0
      · subst hz
        exact ⟨[], Row.nil W (some a) cap, rfl, fun n h => by cases h⟩
      · obtain ⟨b, o, spt⟩ := a
        obtain ⟨e0, k0, _⟩ := key 0 (by omega)
        have hc := k0 0 (.int .i64 e0.k) rfl
        have hsp := spot_none hc
        obtain rfl : spt = none := by
          have : ((Addr.add ⟨b, o, spt⟩ (0 * nd.k)).add 0).spot = spt := by unfold Addr.add; split <;> simp_all
          rw [← this]; exact hsp
        obtain ⟨E, hE⟩ := Deep.choose_lt (α := Rn) (n := len) (p := fun i e => (∀ m u, (nd.c e)[m]? = some u → W.cell? (((⟨b, o, none⟩ : Addr).add (i * nd.k)).add m) = some u) ∧ ∃ t, Tie W (· < W.heap.size) t e ∧ InR t ∧ ∀ h : i < elems.length, bulkT t ≤ Rows.uptoBulk elems[i].1) key
        refine ⟨(List.range len).map E, ⟨b, o, _, cap, by simpa using hl, by simp, fun _ => rfl, cells_of (fun n hn m u hu => ?_)⟩, by simp, fun i h1 h2 => ?_⟩
        · simp only [List.length_map, List.length_range] at hn
          have := (hE n hn).1 m u (by simpa using hu)
          simp only [Addr.add_lit] at this
          exact this
        · simp only [List.length_map, List.length_range] at h1
          obtain ⟨t, k1, k2, k3⟩ := (hE i h1).2
          exact ⟨t, by simpa using k1, k2, k3 h2⟩
    obtain ⟨T, hT, hTr, hTu⟩ := TieBs_bulk R (elems.map (·.1)) (by rw [hRl, List.length_map]; omega) (fun i h1 h2 => by
      obtain ⟨t, k1, k2, k3⟩ := hRt i h1 (by simpa using h2)
      exact ⟨t, k1, k2, by simpa using k3⟩)
    obtain ⟨gl, off, o, cp, hcp, hv, ho, hcell⟩ := hR.lt
    have hTl := hT.length
    rw [hRl] at hv hTl
    simp only [Value.slice.injEq] at hv
    obtain ⟨rfl, _, rfl⟩ := hv
    refine ⟨.mk p q r T, ⟨p, q, r, some a, len, cap⟩, rfl, ?_, ?_, ?_⟩
    · rw [Tie]
      refine ⟨rfl, rfl, rfl, hTl, gl, off, R, ⟨hl, by rw [← hTl]; omega⟩, fun hne => ?_, hcell, hT⟩
      exact ho (fun e => hne (List.eq_nil_of_length_eq_zero (by rw [← hTl, ← hRl, e]; rfl)))
    · rw [InR]
      exact ⟨in64_of wp, in64_of wq, in64_of wr, hTr⟩
    · rw [bulkT]; omega
end Go.Proofs.Ytnnffcfdokejbaa.rd
