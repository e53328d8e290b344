/-
  Of any two lists of tokens, of bulk at most 1048576: where the first one ends with a region's semicolon, the regions of both are those of the first, and those of the second, moved (the law ChunkJoins).
  Conditions: the row's own bound on bulk, 1048576.
-/
import Derived.Test.YtlemecnmjhhbiaaCr
import Derived.Test.YtlemecnmjhhbiaaCs
namespace Go.Proofs.Ytlemecnmjhhbiaa.ck
open Go.ChangeShapes Go.WideShapes Go.ChangeAt Go.RowKit

set_option maxRecDepth 100000 in
theorem chunkJoins_lifted (os : Os) (started : os.Started) (H : Type) (enc : TypeId × Value → H) (F0 : Stop.Interp) :
    ReturnsInHanded {} Try.checked os 7 .any ((Rows.OpenSpec.upto Rows.chunkJoinsSpec).pre6 enc Try.prog Try.f7 Rows.chunkJoinsUptoRow.domain false) (((Rows.OpenSpec.upto Rows.chunkJoinsSpec).at F0).post enc Try.prog Try.f7 false true false false) := by
  refine returnsInHanded_of_cond (C := Try.checked) (s := Rows.OpenSpec.upto Rows.chunkJoinsSpec) (k := Rows.uptoSmall) rfl own started (by kernel_rfl) Try.func7
    (OpenSpec.witness (enc := enc) (C := Try.checked) (s := Rows.OpenSpec.upto Rows.chunkJoinsSpec) (k := Rows.uptoSmall) rfl false ⟨#[], #[.slice none 0 0, .slice none 0 0], []⟩ 8 (by kernel_rfl) (by kernel_rfl) (by kernel_rfl)
      (x := ([.nil, .nil], [], [])) (by kernel_rfl) (by kernel_rfl) (by kernel_rfl)) ?_
  intro W base args ds gs before hval0 hW _ hk _
  have hval : ∀ (j : Nat) t v, Try.f7.params[j]? = some t → args[j]? = some v → Value.okWide Try.prog W .any base t v := hval0
  have hW' := hW
  obtain ⟨p, q, hA0, hV, rfl, hfz, hnd⟩ := hW
  have hA : DataW.TrodAll enc Try.prog W 0 (fun _ => true) true Try.f7.params.toList args.toList ds p := hA0
  rw [Try.params7] at hA hval
  obtain ⟨v0, vs0, d0, ds0, p0, q0, hargs, rfl, rfl, h0, r0⟩ := trodAll_cons hA
  obtain ⟨v1, vs1, d1, ds1, p1, q1, rfl, rfl, rfl, h1, r1⟩ := trodAll_cons r0
  obtain ⟨rfl, rfl, rfl⟩ := trodAll_nil r1
  obtain rfl : args = #[v0, v1] := by cases args; simp_all
  obtain ⟨rfl, rfl⟩ := trodVars_none hV
  have hh : Rows.uptoBulkAll _ ≤ 1048576 := of_decide_eq_true hk
  have hu0 : Rows.uptoBulk d0 ≤ 1048576 := by
    have := bulk_mem (l := [d0, d1] ++ []) (d := d0) (by simp)
    omega
  have hu1 : Rows.uptoBulk d1 ≤ 1048576 := by
    have := bulk_mem (l := [d0, d1] ++ []) (d := d1) (by simp)
    omega
  have kk0 := hval 0 22 v0 (by simp) (by simp)
  have kk1 := hval 1 22 v1 (by simp) (by simp)
  have k0 := h0
  have lt0 : ∀ x ∈ p0, x.block < W.heap.size := by obtain ⟨m, hm⟩ := k0; exact DataW.trod_lt m _ _ _ hm
  obtain ⟨oa0, len0, cap0, rfl⟩ := okWide_slice Try.underlying22 kk0
  obtain ⟨fuel0, hf0⟩ := h0
  obtain ⟨T0, e0, L0⟩ := tk_few (v := .slice oa0 len0 cap0) (by simpa [Value.cells] using hf0)
  have L0 : T0.length ≤ 1048576 := Nat.le_trans L0 hu0
  have k1 := h1
  have lt1 : ∀ x ∈ p1, x.block < W.heap.size := by obtain ⟨m, hm⟩ := k1; exact DataW.trod_lt m _ _ _ hm
  obtain ⟨oa1, len1, cap1, rfl⟩ := okWide_slice Try.underlying22 kk1
  obtain ⟨fuel1, hf1⟩ := h1
  obtain ⟨T1, e1, L1⟩ := tk_few (v := .slice oa1 len1 cap1) (by simpa [Value.cells] using hf1)
  have L1 : T1.length ≤ 1048576 := Nat.le_trans L1 hu1
  clear hA0 hval0
  refine (joins_law _ _ T0 T1 W e0 e1 L0 L1).mono fun e W' ⟨he, bel⟩ => ?_
  subst he
  exact ⟨_, rfl, _, _, _, [], _, [], hW', trodAll_cons_mk (shut_bool Try.underlying4 _) trodAll_mk0, (trodAll_cons_mk (Below.trod laidOut (by kernel_rfl) (of_decide_eq_true (by kernel_rfl)) k0 bel lt0) (trodAll_cons_mk (Below.trod laidOut (by kernel_rfl) (of_decide_eq_true (by kernel_rfl)) k1 bel lt1) trodAll_mk0)), rfl, bel.frame _, fun h => by cases h⟩

theorem chunkJoins_holds : Rows.ChunkJoinsUptoSaid :=
  OpenClaim.holds_of_cond 7 Try.f7 rfl rfl rfl rfl rfl rfl rfl ⟨rfl, rfl, rfl, rfl, rfl⟩ rfl rfl rfl rfl rfl (by kernel_rfl) Try.func7 (by kernel_rfl)
    (of_decide_eq_true (by kernel_rfl)) (by unfold Func.isWrapper; first | (rw [if_pos (by decide +kernel)]; kernel_rfl) | (rw [if_neg (by decide +kernel)]; exact ⟨rfl, rfl⟩))
    (fun os started H enc _ F0 => chunkJoins_lifted os started H enc F0)
end Go.Proofs.Ytlemecnmjhhbiaa.ck
