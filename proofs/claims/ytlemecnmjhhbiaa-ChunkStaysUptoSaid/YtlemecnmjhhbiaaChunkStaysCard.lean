/-
  Of any tokens and any kinds, of bulk at most 1048576: tokens that are no brackets and no semicolons, put in the place of such ones, leave all regions as they are, but for their ends (the law ChunkStays).
  Conditions: the row's own bound on bulk, 1048576.
-/
import Derived.Test.YtlemecnmjhhbiaaCv
import Derived.Test.YtlemecnmjhhbiaaCs
namespace Go.Proofs.Ytlemecnmjhhbiaa.ck
open Go.ChangeShapes Go.WideShapes Go.ChangeAt Go.RowKit

set_option maxRecDepth 100000 in
theorem chunkStays_lifted (os : Os) (started : os.Started) (H : Type) (enc : TypeId × Value → H) (F0 : Stop.Interp) :
    ReturnsInHanded {} Try.checked os 8 .any ((Rows.OpenSpec.upto Rows.chunkStaysSpec).pre6 enc Try.prog Try.f8 Rows.chunkStaysUptoRow.domain false) (((Rows.OpenSpec.upto Rows.chunkStaysSpec).at F0).post enc Try.prog Try.f8 false true false false) := by
  refine returnsInHanded_of_cond (C := Try.checked) (s := Rows.OpenSpec.upto Rows.chunkStaysSpec) (k := Rows.uptoSmall) rfl own started (by kernel_rfl) Try.func8
    (OpenSpec.witness (enc := enc) (C := Try.checked) (s := Rows.OpenSpec.upto Rows.chunkStaysSpec) (k := Rows.uptoSmall) rfl false ⟨#[], #[.slice none 0 0, .int .i64 0, .slice none 0 0], []⟩ 8 (by kernel_rfl) (by kernel_rfl) (by kernel_rfl)
      (x := ([.nil, .lit (.int .i64 0), .nil], [], [])) (by kernel_rfl) (by kernel_rfl) (by kernel_rfl)) ?_
  intro W base args ds gs before hval0 hW _ hk _
  have hval : ∀ (j : Nat) t v, Try.f8.params[j]? = some t → args[j]? = some v → Value.okWide Try.prog W .any base t v := hval0
  have hW' := hW
  obtain ⟨p, q, hA0, hV, rfl, hfz, hnd⟩ := hW
  have hA : DataW.TrodAll enc Try.prog W 0 (fun _ => true) true Try.f8.params.toList args.toList ds p := hA0
  rw [Try.params8] at hA hval
  obtain ⟨v0, vs0, d0, ds0, p0, q0, hargs, rfl, rfl, h0, r0⟩ := trodAll_cons hA
  obtain ⟨v1, vs1, d1, ds1, p1, q1, rfl, rfl, rfl, h1, r1⟩ := trodAll_cons r0
  obtain ⟨v2, vs2, d2, ds2, p2, q2, rfl, rfl, rfl, h2, r2⟩ := trodAll_cons r1
  obtain ⟨rfl, rfl, rfl⟩ := trodAll_nil r2
  obtain rfl : args = #[v0, v1, v2] := by cases args; simp_all
  obtain ⟨rfl, rfl⟩ := trodVars_none hV
  have hh : Rows.uptoBulkAll _ ≤ 1048576 := of_decide_eq_true hk
  have hu0 : Rows.uptoBulk d0 ≤ 1048576 := by
    have := bulk_mem (l := [d0, d1, d2] ++ []) (d := d0) (by simp)
    omega
  have hu2 : Rows.uptoBulk d2 ≤ 1048576 := by
    have := bulk_mem (l := [d0, d1, d2] ++ []) (d := d2) (by simp)
    omega
  have kk0 := hval 0 22 v0 (by simp) (by simp)
  have kk1 := hval 1 3 v1 (by simp) (by simp)
  have kk2 := hval 2 38 v2 (by simp) (by simp)
  have k0 := h0
  have lt0 : ∀ x ∈ p0, x.block < W.heap.size := by obtain ⟨m, hm⟩ := k0; exact DataW.trod_lt m _ _ _ hm
  obtain ⟨oa0, len0, cap0, rfl⟩ := okWide_slice Try.underlying22 kk0
  obtain ⟨fuel0, hf0⟩ := h0
  obtain ⟨T0, e0, L0⟩ := tk_few (v := .slice oa0 len0 cap0) (by simpa [Value.cells] using hf0)
  have L0 : T0.length ≤ 1048576 := Nat.le_trans L0 hu0
  obtain ⟨x1, rfl, rfl, rfl, w1⟩ := open_int Try.underlying3 kk1 h1
  have k2 := h2
  have lt2 : ∀ x ∈ p2, x.block < W.heap.size := by obtain ⟨m, hm⟩ := k2; exact DataW.trod_lt m _ _ _ hm
  obtain ⟨oa2, len2, cap2, rfl⟩ := okWide_slice Try.underlying38 kk2
  obtain ⟨fuel2, hf2⟩ := h2
  obtain ⟨T2, e2, L2⟩ := it_few (v := .slice oa2 len2 cap2) (by simpa [Value.cells] using hf2)
  have L2 : T2.length ≤ 1048576 := Nat.le_trans L2 hu2
  clear hA0 hval0
  refine (stays_law _ _ T0 x1 T2 W e0 e2 L0 L2).mono fun e W' ⟨he, bel⟩ => ?_
  subst he
  exact ⟨_, rfl, _, _, _, [], _, [], hW', trodAll_cons_mk (shut_bool Try.underlying4 _) trodAll_mk0, (trodAll_cons_mk (Below.trod laidOut (by kernel_rfl) (of_decide_eq_true (by kernel_rfl)) k0 bel lt0) (trodAll_cons_mk (shut_int Try.underlying3 w1) (trodAll_cons_mk (Below.trod laidOut (by kernel_rfl) (of_decide_eq_true (by kernel_rfl)) k2 bel lt2) trodAll_mk0))), rfl, bel.frame _, fun h => by cases h⟩

theorem chunkStays_holds : Rows.ChunkStaysUptoSaid :=
  OpenClaim.holds_of_cond 8 Try.f8 rfl rfl rfl rfl rfl rfl rfl ⟨rfl, rfl, rfl, rfl, rfl⟩ rfl rfl rfl rfl rfl (by kernel_rfl) Try.func8 (by kernel_rfl)
    (of_decide_eq_true (by kernel_rfl)) (by unfold Func.isWrapper; first | (rw [if_pos (by decide +kernel)]; kernel_rfl) | (rw [if_neg (by decide +kernel)]; exact ⟨rfl, rfl⟩))
    (fun os started H enc _ F0 => chunkStays_lifted os started H enc F0)
end Go.Proofs.Ytlemecnmjhhbiaa.ck
