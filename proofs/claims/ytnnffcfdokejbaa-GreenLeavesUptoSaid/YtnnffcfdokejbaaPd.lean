/-
  Layer 8: the reference's New, Len, Put, Has.
-/
import Derived.Test.YtnnffcfdokejbaaPc
namespace Go.Proofs.Ytnnffcfdokejbaa.rd
open Go.RowKit

set_option maxRecDepth 100000 in
theorem refNew_any (w : World) : Calls Try.prog 16 #[] w fun e w' => e = .returned (.pointer (some ⟨w.heap.size, 0, none⟩)) ∧ Below w.heap.size w w' ∧ w'.heap.size = w.heap.size + 1 ∧ PoolR w' w.heap.size (fun _ => False) [] (.slice none 0 0) [] := by
  go_enter Try.func16, Try.ntmps16
  go_wp2_with fail
  go_ret
  exact ⟨rfl, (Below.refl _ _).alloc (Nat.le_refl _) _, World.size_alloc _ _, heap_alloc_last _ _, Mine.nil _ _, rfl, fun i h => by simp at h, fun k h => h.elim⟩
set_option maxRecDepth 100000 in
theorem refLen_any {w : World} {b : Nat} {D : Nat → Prop} {L : List Gr} {vL : Value} {R : List Gn} (h : PoolR w b D L vL R) : Calls Try.prog 22 #[.pointer (some ⟨b, 0, none⟩)] w fun e w' => e = .returned (.int .i64 (L.length : Int)) ∧ w = w' := by
  obtain ⟨gL, oL, cL, rfl, _, _⟩ := Mine.shape h.row
  have hc : w.cell? ⟨b, 0, none⟩ = some (.slice oL R.length cL) := by rw [cell_of_row w b 0 _ _ _ h.cell]; rfl
  have hz := (Array.getElem?_eq_some_iff.1 h.cell).1
  rw [h.len] at hc
  go_enter Try.func22, Try.ntmps22
  go_wp2_with fail
  go_ret
  exact ⟨rfl, rfl⟩
set_option maxRecDepth 100000 in
set_option maxHeartbeats 4000000 in
theorem refPut_any {w : World} {b B0 : Nat} {D : Nat → Prop} {L : List Gr} {vL : Value} {R : List Gn} (t : Tree) {n : Rn} {s : ByteArray} (h : PoolR w b D L vL R) (ht : TieU B0 w t n) (hB : B0 ≤ b) (hv : ∀ q, vL.ownBlock = some q → B0 ≤ q) (hl : (putT s t L).1.length ≤ 1099511627776) :
    Calls Try.prog 19 #[.pointer (some ⟨b, 0, none⟩), .string s, n.v] w fun e w' => e = .returned (.tuple #[.int .i64 (if fitT s.size t then ((putT s t L).2 : Int) else 0), .int .i64 (errOf (fitT s.size t))]) ∧ ∃ D' vL' R', PoolR w' b D' (if fitT s.size t then (putT s t L).1 else L) vL' R' ∧ Marked (fun q => q = b ∨ vL.ownBlock = some q) w w' ∧ (∀ q, D' q → D q ∨ w.heap.size ≤ q) ∧ ∀ q, vL'.ownBlock = some q → vL.ownBlock = some q ∨ w.heap.size ≤ q := by
  obtain ⟨nk, ni, nj, no, nn, nc⟩ := n
  have hb1 : Below w.heap.size w (w.alloc (.cells #[.int .i64 nk, .int .i64 ni, .int .i64 nj, .slice no nn nc] 24)) := (Below.refl _ _).alloc (Nat.le_refl _) _
  have hbz := (Array.getElem?_eq_some_iff.1 h.cell).1
  have htu : ∀ u, Below w.heap.size w u → TieU B0 u t ⟨nk, ni, nj, no, nn, nc⟩ := fun u hu => by
    obtain ⟨Dt, h1, h2⟩ := ht
    exact ⟨Dt, Tie.keep (fun g hg => hu.block g (by have := h2 g hg; omega)) (fun _ h => h) _ _ h1, h2⟩
  have HCH : Hid (∀ u, Below w.heap.size w u → Calls Try.prog 13 #[.string s, .agg #[.int .i64 nk, .int .i64 ni, .int .i64 nj, .slice no nn nc]] u fun e w' => e = .returned (.int .i64 (errOf (fitT s.size t))) ∧ Below u.heap.size u w') := Lib.hid (fun u hu => by
    obtain ⟨Dt, h1, h2⟩ := htu u hu
    exact check_t t u ⟨nk, ni, nj, no, nn, nc⟩ s (Lib.hid ⟨Dt, h1, fun k hk => by have := h2 k hk; have := hu.size; omega⟩))
  have HPUT : Hid (fitT s.size t = true → ∀ u, Below w.heap.size w u → Calls Try.prog 46 #[.pointer (some ⟨b, 0, none⟩), .string s, .agg #[.int .i64 nk, .int .i64 ni, .int .i64 nj, .slice no nn nc]] u fun e w' => e = .returned (.int .i64 ((putT s t L).2 : Int)) ∧ ∃ D' vL' R', PoolR w' b D' (putT s t L).1 vL' R' ∧ Marked (fun q => q = b ∨ vL.ownBlock = some q) w w' ∧ (∀ q, D' q → D q ∨ w.heap.size ≤ q) ∧ ∀ q, vL'.ownBlock = some q → vL.ownBlock = some q ∨ w.heap.size ≤ q) := Lib.hid (fun hf u hu => by
    refine (put_t t u b B0 D L vL R ⟨nk, ni, nj, no, nn, nc⟩ s (h.below hu) (htu u hu) hB hv hf hl).mono fun e w' ⟨h1, D', vL', R', h2, h3, h4, h5⟩ => ⟨h1, D', vL', R', h2, (Marked.of_below (D := fun q => q = b ∨ vL.ownBlock = some q) hu).trans h3 (fun _ hk => .inl hk), fun q hq => ?_, fun q hq => ?_⟩
    · have := hu.size
      exact (h4 q hq).elim .inl (fun h => .inr (by omega))
    · have := hu.size
      exact (h5 q hq).elim .inl (fun h => .inr (by omega)))
  have HB1 := Lib.hid hb1
  have HP := Lib.hid h
  obtain ⟨X, hX⟩ : ∃ X, w.heap.size = X := ⟨_, rfl⟩
  have HX : Hid (∀ u, Below (w.alloc (.cells #[.int .i64 nk, .int .i64 ni, .int .i64 nj, .slice no nn nc] 24)).heap.size (w.alloc (.cells #[.int .i64 nk, .int .i64 ni, .int .i64 nj, .slice no nn nc] 24)) u → (u.cell? ⟨w.heap.size, 0, none⟩ = some (.int .i64 nk) ∧ u.cell? ⟨w.heap.size, 1, none⟩ = some (.int .i64 ni) ∧ u.cell? ⟨w.heap.size, 2, none⟩ = some (.int .i64 nj) ∧ u.cell? ⟨w.heap.size, 3, none⟩ = some (.slice no nn nc)) ∧ w.heap.size < u.heap.size) := Lib.hid (fun u hu => by
    have e := heap_alloc_last w (.cells #[.int .i64 nk, .int .i64 ni, .int .i64 nj, .slice no nn nc] 24)
    have e2 := (hu.block _ (Array.getElem?_eq_some_iff.1 e).1).trans e
    exact ⟨(four_cells0 e2).1, (Array.getElem?_eq_some_iff.1 e2).1⟩)
  show Calls Try.prog 19 #[.pointer (some ⟨b, 0, none⟩), .string s, .agg #[.int .i64 nk, .int .i64 ni, .int .i64 nj, .slice no nn nc]] w _
  clear h ht htu hb1 hX
  cases hf : fitT s.size t with
  | false =>
    rw [hf] at HCH
    simp only [Bool.false_eq_true, if_false]
    clear HPUT hf
    go_enter Try.func19, Try.ntmps19
    go_wp2_with (go_at_call 13; refine (HCH.out _ HB1.out).mono ?_; rintro e w2 ⟨rfl, hb2⟩; have HB2 := Lib.hid (HB1.out.trans (hb2.mono HB1.out.size)); clear hb2; dsimp only [errOf])
    go_ret2
    exact ⟨rfl, D, vL, ⟨R, HP.out.below HB2.out⟩, Marked.of_below HB2.out, fun q hq => .inl hq, fun q hq => .inl hq⟩
  | true =>
    have HPT := Lib.hid (HPUT.out hf)
    rw [hf] at HCH
    simp only [if_true]
    clear HPUT hf
    go_enter Try.func19, Try.ntmps19
    go_wp2_with (first
      | (go_at_call 13; refine (HCH.out _ HB1.out).mono ?_; rintro e w2 ⟨rfl, hb2⟩; obtain ⟨⟨x0, x1, x2, x3⟩, xz⟩ := HX.out w2 hb2; have HB2 := Lib.hid (HB1.out.trans (hb2.mono HB1.out.size)); clear hb2; dsimp only [errOf])
      | (go_at_call 46; refine (HPT.out _ HB2.out).mono ?_; rintro e w3 ⟨rfl, hrest⟩; have HR := Lib.hid hrest; clear hrest))
    go_ret2
    exact ⟨rfl, HR.out⟩
theorem results_cell_tmp {P : Program} {fn : Func} {p u : Tmp} {ty : TypeId} (h : fn.results = #[.cell p ty, .tmp u]) (tmps : Array Value) (w : World) (g : Nat) (e : TypeId) (cs : Array Value) (fr : Nat × Nat) (d : TypeDesc)
    (hp : tmps.getD p undef = .pointer (some ⟨g, 0, none⟩)) (hg : w.heap[g]? = some (.cells cs e fr)) (hu : P.underlying ty = some d) (hd : (match d with | .struct _ | .array _ _ => true | _ => false) = true) (hi : (P.info? ty).map (·.size) = some cs.size) :
    (results fn tmps).run P w = .ok (.tuple #[.agg cs, tmps.getD u undef]) w := by
  have hp' : tmps[p]?.getD undef = .pointer (some ⟨g, 0, none⟩) := by simpa using hp
  simp [results, h, hp', asAddr, run_loadVar_row w g e ty cs fr d hg hu hd hi]
set_option maxRecDepth 100000 in
set_option maxHeartbeats 4000000 in
theorem refHas_any {w : World} {b : Nat} {D : Nat → Prop} {L : List Gr} {vL : Value} {R : List Gn} (h : PoolR w b D L vL R) (id : Int) : Calls Try.prog 24 #[.pointer (some ⟨b, 0, none⟩), .int .i64 id] w fun e w' => (∃ v, e = .returned (.tuple #[v, .int .i64 (if 0 ≤ id ∧ id < L.length then 0 else 100)])) ∧ Below w.heap.size w w' := by
  obtain ⟨gL, oL, cL, rfl, hoL, _⟩ := Mine.shape h.row
  have hlR := h.len
  obtain ⟨nL, hnL⟩ : ∃ n, L.length = n := ⟨_, rfl⟩
  have hc : w.cell? ⟨b, 0, none⟩ = some (.slice oL nL cL) := by rw [cell_of_row w b 0 _ _ _ h.cell, ← hnL, ← hlR]; rfl
  have hz := (Array.getElem?_eq_some_iff.1 h.cell).1
  rw [hnL]
  have HP := Lib.hid h
  have HL := Lib.hid (And.intro hlR (And.intro hnL hoL))
  have hbx : ∀ v, Below w.heap.size w (w.alloc v) := fun v => (Below.refl _ _).alloc (Nat.le_refl _) _
  have HBX := Lib.hid hbx
  clear h hlR hnL hoL hbx
  by_cases h0 : id < 0
  · have d0 : decide (id < 0) = true := decide_eq_true h0
    rw [if_neg (by omega)]
    go_enter Try.func24, Try.ntmps24
    go_wp2_with fail
    refine bodyPost_ret (results_cell_tmp rfl _ _ w.heap.size 46 _ (0, 0) _ rfl (heap_alloc_last w _) Try.underlying46 rfl (by as_aux_lemma => kernel_rfl)) rfl ⟨⟨_, rfl⟩, HBX.out _⟩
  · have d0 : decide (id < 0) = false := decide_eq_false h0
    by_cases h1 : id < (nL : Int)
    · have d1 : decide ((nL : Int) ≤ id) = false := decide_eq_false (by omega)
      rw [if_pos ⟨by omega, h1⟩]
      obtain ⟨z, rfl⟩ : ∃ z : Nat, id = (z : Int) := ⟨id.toNat, by omega⟩
      have hz2 : z < R.length := by rw [HL.out.1, HL.out.2.1]; omega
      obtain rfl := HL.out.2.2 (by intro e; rw [e] at hz2; simp at hz2)
      obtain ⟨a0, a1, a2⟩ := cells_gr HP.out.row.cells z hz2
      obtain ⟨⟨xk, xs, xo, xn, xc⟩, hn1⟩ : ∃ n, R[z] = n := ⟨_, rfl⟩
      rw [hn1] at a0 a1 a2
      simp only [Nat.zero_add] at a0 a1 a2
      have hgL : gL < w.heap.size := HP.out.row.lt gL rfl
      have hq0 : (0 : Int) ≤ (z : Int) := by omega
      clear hn1
      go_enter Try.func24, Try.ntmps24
      go_wp2_with fail
      refine bodyPost_ret (results_cell_tmp rfl _ _ w.heap.size 46 _ (0, 0) _ rfl (heap_alloc_last w _) Try.underlying46 rfl (by as_aux_lemma => kernel_rfl)) rfl ⟨⟨_, rfl⟩, HBX.out _⟩
    · have d1 : decide ((nL : Int) ≤ id) = true := decide_eq_true (by omega)
      rw [if_neg (by omega)]
      go_enter Try.func24, Try.ntmps24
      go_wp2_with fail
      refine bodyPost_ret (results_cell_tmp rfl _ _ w.heap.size 46 _ (0, 0) _ rfl (heap_alloc_last w _) Try.underlying46 rfl (by as_aux_lemma => kernel_rfl)) rfl ⟨⟨_, rfl⟩, HBX.out _⟩
end Go.Proofs.Ytnnffcfdokejbaa.rd
