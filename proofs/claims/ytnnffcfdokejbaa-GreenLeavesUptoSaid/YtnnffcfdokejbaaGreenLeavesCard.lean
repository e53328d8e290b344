/-
  The leaves of any tree, in their order, as often as one likes, left early, and within themselves, whatever becomes of the tree meanwhile (the law GreenLeaves).
  Conditions: the row's own bound on what is read.
-/
import Derived.Test.YtnnffcfdokejbaaWy
import Derived.Test.YtnnffcfdokejbaaUa
import Derived.Test.YtnnffcfdokejbaaTv
import Derived.Test.YtnnffcfdokejbaaTz
import Derived.ProofKit
import Derived.OpenShut
import Derived.Deep.DeepHandedRow
namespace Go.Proofs.Ytnnffcfdokejbaa.rd
open Go.ChangeShapes Go.WideShapes Go.ChangeAt Go.RowKit
open Go.ChangeMaps (open_string shut_string)

set_option maxRecDepth 100000 in
theorem greenLeaves_contract (H : Type) (enc : TypeId × Value → H) (W : World) (base : Nat) (args : Array Value) (ds gs : List (DataW H)) (before : List MemPlace)
    (hval : ∀ (j : Nat) t v, Try.f6.params[j]? = some t → args[j]? = some v → Value.okWide Try.prog W .any base t v)
    (hW : DataW.Whole enc Try.prog Try.f6.params.toList Rows.greenLeavesSpec.vars false W args.toList ds gs before) (hsz : (DataW.weightsEach Try.prog Try.f6.params.toList ds).all (· ≤ reachBytes) = true) (hup : Rows.uptoBulkAll ds ≤ 1048576) :
    Calls Try.prog 6 args W fun e W' => ∃ v, e = .returned v ∧ Rows.greenLeavesSpec.post enc Try.prog Try.f6 false true false false W args v W' := by
  have hW' := hW
  obtain ⟨p, q, hA0, hV, rfl, hfz, hnd⟩ := hW
  have hA : DataW.TrodAll enc Try.prog W 0 (fun _ => true) true Try.f6.params.toList args.toList ds p := hA0
  rw [Try.params6] at hA hval hsz
  obtain ⟨v0, vs0, d0, ds0, p0, q0, hargs, rfl, rfl, h0, r0⟩ := trodAll_cons hA
  obtain ⟨v1, vs1, d1, ds1, p1, q1, rfl, rfl, rfl, h1, r1⟩ := trodAll_cons r0
  obtain ⟨rfl, rfl, rfl⟩ := trodAll_nil r1
  obtain rfl : args = #[v0, v1] := by cases args; simp_all
  obtain ⟨rfl, rfl⟩ := trodVars_none hV
  have kk0 := hval 0 24 v0 (by simp) (by simp)
  have kk1 := hval 1 3 v1 (by simp) (by simp)
  have hs : (((d0 : DataW H).weights Try.prog 24 ++ ((d1 : DataW H).weights Try.prog 3 ++ [])) : List Nat).all (· ≤ reachBytes) = true := hsz
  simp only [List.all_append, Bool.and_eq_true] at hs
  have l0 : Light 24 d0 := by unfold Light; exact hs.1
  simp only [Rows.uptoBulkAll] at hup
  have u0 : Rows.uptoBulk d0 ≤ 1048576 := by omega
  have u1 : Rows.uptoBulk d1 ≤ 1048576 := by omega
  have k0 := h0
  have lt0 : ∀ x ∈ p0, x.block < W.heap.size := by obtain ⟨m, hm⟩ := k0; exact DataW.trod_lt m _ _ _ hm
  obtain ⟨cs0, rfl, hcs0⟩ := okWide_struct Try.underlying24 kk0
  obtain ⟨fuel0, hf0⟩ := h0
  obtain ⟨t0, n0, hn0, hT0, hin0, hbu0⟩ := tree_bulk_of_trod fuel0 cs0.toList _ (by simpa [Value.cells] using hf0) l0
  obtain rfl : cs0 = #[.int .i64 n0.k, .int .i64 n0.i, .int .i64 n0.j, .slice n0.o n0.n n0.c] := Array.ext' hn0
  obtain ⟨x1, rfl, rfl, rfl, w1⟩ := open_int Try.underlying3 kk1 h1
  clear hA0
  simp only [List.append_nil] at hW'
  refine (leaves_law shown_c t0 W n0 x1 (tie_lt hT0) hin0 (Nat.le_trans hbu0 u0)).mono fun e W' ⟨he, bel⟩ => ?_
  subst he
  exact ⟨_, rfl, _, _, _, [], _, [], hW', trodAll_cons_mk (shut_bool Try.underlying4 _) trodAll_mk0, (trodAll_cons_mk (Below.trod laidOut (by kernel_rfl) (of_decide_eq_true (by kernel_rfl)) k0 bel lt0) (trodAll_cons_mk (shut_int Try.underlying3 w1) trodAll_mk0)), rfl, bel.frame _, fun h => by cases h⟩
theorem greenLeaves_reads (os : Os) {H : Type} (enc : TypeId × Value → H) : ∃ places, DataW.whole enc Try.prog ((World.holding Try.prog os ⟨#[], #[], []⟩).forCall (fun _ _ => 0) ⟨#[], #[.agg #[.int .i64 0, .int .i64 0, .int .i64 0, .slice none 0 0], .int .i64 0], []⟩).memory Try.f6.params.toList Rows.greenLeavesSpec.vars false #[.agg #[.int .i64 0, .int .i64 0, .int .i64 0, .slice none 0 0], .int .i64 0].toList 8 = some ([.agg [.lit (.int .i64 0), .lit (.int .i64 0), .lit (.int .i64 0), .nil], .lit (.int .i64 0)], [], places) :=
  ⟨[], by as_aux_lemma => kernel_rfl⟩
theorem greenLeaves_laid (os : Os) : laidMet Try.prog Rows.greenLeavesUptoRow.laid ((World.holding Try.prog os ⟨#[], #[], []⟩).forCall (fun _ _ => 0) ⟨#[], #[.agg #[.int .i64 0, .int .i64 0, .int .i64 0, .slice none 0 0], .int .i64 0], []⟩).memory :=
  laidMet_of_run' 8 (by as_aux_lemma => kernel_rfl) (by as_aux_lemma => kernel_rfl)
set_option maxRecDepth 100000 in
set_option maxHeartbeats 8000000 in
theorem greenLeaves_lifted (os : Os) (started : os.Started) (H : Type) (enc : TypeId × Value → H) (F : Stop.Interp) :
    ReturnsInHanded {} Try.checked os 6 .any ((Rows.OpenSpec.upto Rows.greenLeavesSpec).preRow enc Try.prog Try.f6 Rows.greenLeavesUptoRow.domain false Rows.greenLeavesUptoRow.laid) (((Rows.OpenSpec.upto Rows.greenLeavesSpec).at F).post enc Try.prog Try.f6 false true false false) := by
  obtain ⟨places, hx⟩ := greenLeaves_reads os enc
  refine returnsInHanded_of_row (C := Try.checked) (s := Rows.OpenSpec.upto Rows.greenLeavesSpec) own started (by as_aux_lemma => kernel_rfl) Try.func6
    (witness_row_at (enc := enc) (C := Try.checked) false (World.holding Try.prog os ⟨#[], #[], []⟩) #[.agg #[.int .i64 0, .int .i64 0, .int .i64 0, .slice none 0 0], .int .i64 0] rfl (by as_aux_lemma => kernel_rfl) (by as_aux_lemma => kernel_rfl) (by as_aux_lemma => kernel_rfl)
      (OpenSpec.preRow_of_cond 8 hx (by as_aux_lemma => kernel_rfl) (fun k hk => by cases hk; as_aux_lemma => kernel_rfl) (by as_aux_lemma => kernel_rfl) (greenLeaves_laid os))) ?_
  intro W base args ds gs before hval hW _ hcond hsz _ _ _
  have hgs : gs = [] := by
    obtain ⟨p, q, _, hV, _⟩ := hW
    exact (trodVars_none hV).1
  have hsz' : (DataW.weightsEach Try.prog Try.f6.params.toList ds).all (· ≤ reachBytes) = true := by
    have h0 : (DataW.weightsEach Try.prog (Try.f6.params.toList ++ []) (ds ++ gs)).all (· ≤ reachBytes) = true := hsz
    rwa [hgs, List.append_nil, List.append_nil] at h0
  have hup : Rows.uptoBulkAll ds ≤ 1048576 := by
    have h1 : decide (Rows.uptoBulkAll (ds ++ gs) ≤ 1048576) = true := hcond Rows.uptoSmall rfl
    rw [hgs, List.append_nil] at h1
    exact of_decide_eq_true h1
  exact greenLeaves_contract H enc W base args ds gs before hval hW hsz' hup

set_option maxHeartbeats 8000000 in
theorem greenLeaves_holds : Rows.GreenLeavesUptoSaid :=
  OpenClaim.holds_of_cond 6 Try.f6 rfl rfl rfl rfl rfl rfl rfl ⟨rfl, rfl, rfl, rfl, rfl⟩ rfl rfl rfl rfl rfl (by as_aux_lemma => kernel_rfl) Try.func6 (by as_aux_lemma => kernel_rfl)
    (of_decide_eq_true (by as_aux_lemma => kernel_rfl)) (by unfold Func.isWrapper; first | (rw [if_pos (by decide +kernel)]; as_aux_lemma => kernel_rfl) | (rw [if_neg (by decide +kernel)]; exact ⟨rfl, rfl⟩))
    (fun os started H enc _ F => by rw [OpenClaim.pre_eq_preRow]; exact greenLeaves_lifted os started H enc F)
end Go.Proofs.Ytnnffcfdokejbaa.rd
