/-
  Of any two trees with their texts: they have one number just if they are like; what is put again, or moved, has the number that it had; each comes back as it was (the law GreenOnce).
  Conditions: the row's own bound on what is read.
-/
import Derived.Test.YtmnnjmjdggjlmaaUz
import Derived.ProofKit
import Derived.OpenShut
import Derived.Deep.DeepHandedRow
namespace Go.Proofs.Ytmnnjmjdggjlmaa.rd
open Go.ChangeShapes Go.WideShapes Go.ChangeAt Go.RowKit
open Go.ChangeMaps (open_string shut_string)

set_option maxRecDepth 100000 in
theorem greenOnce_contract (H : Type) (enc : TypeId × Value → H) (W : World) (base : Nat) (args : Array Value) (ds gs : List (DataW H)) (before : List MemPlace)
    (hval : ∀ (j : Nat) t v, Try.f5.params[j]? = some t → args[j]? = some v → Value.okWide Try.prog W .any base t v)
    (hW : DataW.Whole enc Try.prog Try.f5.params.toList Rows.greenOnceSpec.vars false W args.toList ds gs before) (hsz : (DataW.weightsEach Try.prog Try.f5.params.toList ds).all (· ≤ reachBytes) = true) (hup : Rows.uptoBulkAll ds ≤ 1048576) :
    Calls Try.prog 5 args W fun e W' => ∃ v, e = .returned v ∧ Rows.greenOnceSpec.post enc Try.prog Try.f5 false true false false W args v W' := by
  have hW' := hW
  obtain ⟨p, q, hA0, hV, rfl, hfz, hnd⟩ := hW
  have hA : DataW.TrodAll enc Try.prog W 0 (fun _ => true) true Try.f5.params.toList args.toList ds p := hA0
  rw [Try.params5] at hA hval hsz
  obtain ⟨v0, vs0, d0, ds0, p0, q0, hargs, rfl, rfl, h0, r0⟩ := trodAll_cons hA
  obtain ⟨v1, vs1, d1, ds1, p1, q1, rfl, rfl, rfl, h1, r1⟩ := trodAll_cons r0
  obtain ⟨v2, vs2, d2, ds2, p2, q2, rfl, rfl, rfl, h2, r2⟩ := trodAll_cons r1
  obtain ⟨rfl, rfl, rfl⟩ := trodAll_nil r2
  obtain rfl : args = #[v0, v1, v2] := by cases args; simp_all
  obtain ⟨rfl, rfl⟩ := trodVars_none hV
  have kk0 := hval 0 38 v0 (by simp) (by simp)
  have kk1 := hval 1 38 v1 (by simp) (by simp)
  have kk2 := hval 2 9 v2 (by simp) (by simp)
  have hs : (((d0 : DataW H).weights Try.prog 38 ++ ((d1 : DataW H).weights Try.prog 38 ++ ((d2 : DataW H).weights Try.prog 9 ++ []))) : List Nat).all (· ≤ reachBytes) = true := hsz
  simp only [List.all_append, Bool.and_eq_true] at hs
  have l0 : Light 38 d0 := by unfold Light; exact hs.1
  have l1 : Light 38 d1 := by unfold Light; exact hs.2.1
  have l2 : Light 9 d2 := by unfold Light; exact hs.2.2.1
  simp only [Rows.uptoBulkAll] at hup
  have u0 : Rows.uptoBulk d0 ≤ 1048576 := by omega
  have u1 : Rows.uptoBulk d1 ≤ 1048576 := by omega
  have u2 : Rows.uptoBulk d2 ≤ 1048576 := by omega
  have k0 := h0
  have lt0 : ∀ x ∈ p0, x.block < W.heap.size := by obtain ⟨m, hm⟩ := k0; exact DataW.trod_lt m _ _ _ hm
  obtain ⟨cs0, rfl, hcs0⟩ := okWide_struct Try.underlying38 kk0
  obtain ⟨fuel0, hf0⟩ := h0
  obtain ⟨s0, t0, n0, hn0, hT0, hin0, hss0, hbu0⟩ := stree_of_trod fuel0 cs0.toList _ (by simpa [Value.cells] using hf0) l0
  obtain rfl : cs0 = #[.string s0, .int .i64 n0.k, .int .i64 n0.i, .int .i64 n0.j, .slice n0.o n0.n n0.c] := Array.ext' hn0
  have k1 := h1
  have lt1 : ∀ x ∈ p1, x.block < W.heap.size := by obtain ⟨m, hm⟩ := k1; exact DataW.trod_lt m _ _ _ hm
  obtain ⟨cs1, rfl, hcs1⟩ := okWide_struct Try.underlying38 kk1
  obtain ⟨fuel1, hf1⟩ := h1
  obtain ⟨s1, t1, n1, hn1, hT1, hin1, hss1, hbu1⟩ := stree_of_trod fuel1 cs1.toList _ (by simpa [Value.cells] using hf1) l1
  obtain rfl : cs1 = #[.string s1, .int .i64 n1.k, .int .i64 n1.i, .int .i64 n1.j, .slice n1.o n1.n n1.c] := Array.ext' hn1
  obtain ⟨s2, rfl, rfl, rfl, m2⟩ := open_string Try.underlying9 kk2 h2
  have z2 : s2.size ≤ 140737488351232 := string_light l2
  clear hA0
  simp only [List.append_nil] at hW'
  refine (once_law pool_c shown_c t0 t1 s0 s1 s2 W n0 n1 (tie_lt hT0) (tie_lt hT1) hin0 hin1 (Nat.le_trans (Nat.add_le_add hbu0 hbu1) (show Rows.uptoBulk d0 + Rows.uptoBulk d1 ≤ 1048576 by omega))).mono fun e W' ⟨he, bel⟩ => ?_
  subst he
  exact ⟨_, rfl, _, _, _, [], _, [], hW', trodAll_cons_mk (shut_bool Try.underlying4 _) trodAll_mk0, (trodAll_cons_mk (Below.trod laidOut (by kernel_rfl) (of_decide_eq_true (by kernel_rfl)) k0 bel lt0) (trodAll_cons_mk (Below.trod laidOut (by kernel_rfl) (of_decide_eq_true (by kernel_rfl)) k1 bel lt1) (trodAll_cons_mk (shut_string Try.underlying9 m2) trodAll_mk0))), rfl, bel.frame _, fun h => by cases h⟩
theorem greenOnce_reads (os : Os) {H : Type} (enc : TypeId × Value → H) : ∃ places, DataW.whole enc Try.prog ((World.holding Try.prog os ⟨#[], #[], []⟩).forCall (fun _ _ => 0) ⟨#[], #[.agg #[.string .empty, .int .i64 0, .int .i64 0, .int .i64 0, .slice none 0 0], .agg #[.string .empty, .int .i64 0, .int .i64 0, .int .i64 0, .slice none 0 0], .string .empty], []⟩).memory Try.f5.params.toList Rows.greenOnceSpec.vars false #[.agg #[.string .empty, .int .i64 0, .int .i64 0, .int .i64 0, .slice none 0 0], .agg #[.string .empty, .int .i64 0, .int .i64 0, .int .i64 0, .slice none 0 0], .string .empty].toList 8 = some ([.agg [.lit (.string []), .agg [.lit (.int .i64 0), .lit (.int .i64 0), .lit (.int .i64 0), .nil]], .agg [.lit (.string []), .agg [.lit (.int .i64 0), .lit (.int .i64 0), .lit (.int .i64 0), .nil]], .lit (.string [])], [], places) :=
  ⟨[], by as_aux_lemma => kernel_rfl⟩
theorem greenOnce_laid (os : Os) : laidMet Try.prog Rows.greenOnceUptoRow.laid ((World.holding Try.prog os ⟨#[], #[], []⟩).forCall (fun _ _ => 0) ⟨#[], #[.agg #[.string .empty, .int .i64 0, .int .i64 0, .int .i64 0, .slice none 0 0], .agg #[.string .empty, .int .i64 0, .int .i64 0, .int .i64 0, .slice none 0 0], .string .empty], []⟩).memory :=
  laidMet_of_run' 8 (by as_aux_lemma => kernel_rfl) (by as_aux_lemma => kernel_rfl)
set_option maxRecDepth 100000 in
set_option maxHeartbeats 8000000 in
theorem greenOnce_lifted (os : Os) (started : os.Started) (H : Type) (enc : TypeId × Value → H) (F : Stop.Interp) :
    ReturnsInHanded {} Try.checked os 5 .any ((Rows.OpenSpec.upto Rows.greenOnceSpec).preRow enc Try.prog Try.f5 Rows.greenOnceUptoRow.domain false Rows.greenOnceUptoRow.laid) (((Rows.OpenSpec.upto Rows.greenOnceSpec).at F).post enc Try.prog Try.f5 false true false false) := by
  obtain ⟨places, hx⟩ := greenOnce_reads os enc
  refine returnsInHanded_of_row (C := Try.checked) (s := Rows.OpenSpec.upto Rows.greenOnceSpec) own started (by as_aux_lemma => kernel_rfl) Try.func5
    (witness_row_at (enc := enc) (C := Try.checked) false (World.holding Try.prog os ⟨#[], #[], []⟩) #[.agg #[.string .empty, .int .i64 0, .int .i64 0, .int .i64 0, .slice none 0 0], .agg #[.string .empty, .int .i64 0, .int .i64 0, .int .i64 0, .slice none 0 0], .string .empty] rfl (by as_aux_lemma => kernel_rfl) (by as_aux_lemma => kernel_rfl) (by as_aux_lemma => kernel_rfl)
      (OpenSpec.preRow_of_cond 8 hx (by as_aux_lemma => kernel_rfl) (fun k hk => by cases hk; as_aux_lemma => kernel_rfl) (by as_aux_lemma => kernel_rfl) (greenOnce_laid os))) ?_
  intro W base args ds gs before hval hW _ hcond hsz _ _ _
  have hgs : gs = [] := by
    obtain ⟨p, q, _, hV, _⟩ := hW
    exact (trodVars_none hV).1
  have hsz' : (DataW.weightsEach Try.prog Try.f5.params.toList ds).all (· ≤ reachBytes) = true := by
    have h0 : (DataW.weightsEach Try.prog (Try.f5.params.toList ++ []) (ds ++ gs)).all (· ≤ reachBytes) = true := hsz
    rwa [hgs, List.append_nil, List.append_nil] at h0
  have hup : Rows.uptoBulkAll ds ≤ 1048576 := by
    have h1 : decide (Rows.uptoBulkAll (ds ++ gs) ≤ 1048576) = true := hcond Rows.uptoSmall rfl
    rw [hgs, List.append_nil] at h1
    exact of_decide_eq_true h1
  exact greenOnce_contract H enc W base args ds gs before hval hW hsz' hup

set_option maxHeartbeats 8000000 in
theorem greenOnce_holds : Rows.GreenOnceUptoSaid :=
  OpenClaim.holds_of_cond 5 Try.f5 rfl rfl rfl rfl rfl rfl rfl ⟨rfl, rfl, rfl, rfl, rfl⟩ rfl rfl rfl rfl rfl (by as_aux_lemma => kernel_rfl) Try.func5 (by as_aux_lemma => kernel_rfl)
    (of_decide_eq_true (by as_aux_lemma => kernel_rfl)) (by unfold Func.isWrapper; first | (rw [if_pos (by decide +kernel)]; as_aux_lemma => kernel_rfl) | (rw [if_neg (by decide +kernel)]; exact ⟨rfl, rfl⟩))
    (fun os started H enc _ F => by rw [OpenClaim.pre_eq_preRow]; exact greenOnce_lifted os started H enc F)
end Go.Proofs.Ytmnnjmjdggjlmaa.rd
