/-
  Of every text and every script of calls: whatever is done to a buffer and asked, through clones, every answer is the reference's, up to the document's own bound (the law TextScript, its first form).
  Conditions: none beyond the row's own.
-/
import Derived.Test.YteocdcknfhlfgaaScript
import Derived.Test.YteocdcknfhlfgaaSinglyCard
import Derived.ProofKit
import Derived.OpenShut
import Derived.ChangeOld
import Derived.Carry
import Derived.JoinedCond
import Derived.Deep.DeepHandedRow
import Derived.LaidLaws
import Derived.Deep.Slices
import Derived.Deep.Fields
namespace Go.Proofs.Yteocdcknfhlfgaa.buf
open Go.ChangeShapes Go.WideShapes Go.ChangeAt Go.RowKit
open Go.ChangeMaps (open_string shut_string)

/-- Each string and slice that is met in a datum is within the form's reach. -/
def Light {H : Type} (t : TypeId) (d : DataW H) : Prop := (d.weights Try.prog t).all (· ≤ reachBytes) = true
theorem light_mem {H : Type} {e : TypeId} {l : List (DataW H)} (h : (DataW.weightsAll Try.prog e l).all (· ≤ reachBytes) = true) {d : DataW H} (hd : d ∈ l) : Light e d := by
  induction l with
  | nil => simp at hd
  | cons x r ih =>
    rw [DataW.weightsAll, List.all_append, Bool.and_eq_true] at h
    rcases List.mem_cons.1 hd with rfl | hd
    · exact h.1
    · exact ih h.2 hd
theorem bytesS : Try.prog.bytesOf 43 = 48 := by kernel_rfl
theorem bytesE : Try.prog.bytesOf 60 = 32 := by kernel_rfl
theorem cells4 : Try.prog.cellsOf 43 = 4 := by kernel_rfl
theorem cellsS : Try.prog.cellsOf 41 = 1 := by kernel_rfl
theorem list_four {α : Type} {l : List α} (h : l.length = 4) : ∃ a b c d, l = [a, b, c, d] := by
  match l, h with
  | [a, b, c, d], _ => exact ⟨a, b, c, d, rfl⟩

theorem edits_few {H : Type} {enc : TypeId × Value → H} {W : World} {sp : Nat → Bool} {held : Bool} {fuel len cap : Nat} {oa : Option Addr} {x : DataW H × List MemPlace} (h : DataW.trod enc Try.prog W 0 sp held fuel 41 [.slice oa len cap] = some x) (hl : Light 41 x.1) : len ≤ 140737488355328 := by
  rcases Deep.open_slice Try.underlying41 h with ⟨hv, _⟩ | ⟨a, len', cap', m, n, D, Pl, hv, _, _, _, _, hx, _⟩
  · simp only [List.cons.injEq, Value.slice.injEq, and_true] at hv
    omega
  · simp only [List.cons.injEq, Value.slice.injEq, and_true] at hv
    obtain ⟨_, rfl, _⟩ := hv
    rw [hx] at hl
    unfold Light at hl
    simp only [DataW.weights, Try.underlying41, bytesE, List.all_cons, Bool.and_eq_true, decide_eq_true_eq, List.length_map, List.length_range] at hl
    have h1 := hl.1
    unfold reachBytes at h1
    omega

/-- Steps that are read are steps in memory. -/
theorem steps_of_trod {H : Type} {enc : TypeId × Value → H} {W : World} {sp : Nat → Bool} {held : Bool} {fuel : Nat} {v : Value} {x : DataW H × List MemPlace} (h : DataW.trod enc Try.prog W 0 sp held fuel 34 [v] = some x) (hb : Light 34 x.1) : ∃ L, StepsAt 140737488355328 W v L ∧ L.length ≤ 140737488355328 := by
  rcases Deep.open_slice Try.underlying34 h with ⟨hv, _⟩ | ⟨a, len, cap, m, n, D, Pl, hv, _, hl, _, hm, hx, hi⟩
  · simp only [List.cons.injEq, and_true] at hv
    exact ⟨[], .inl ⟨rfl, none, 0, hv⟩, by simp⟩
  · simp only [List.cons.injEq, and_true] at hv
    subst hv
    have hlm : len ≤ m := by rw [hm]; split <;> omega
    rw [hx] at hb
    unfold Light at hb
    simp only [DataW.weights, Try.underlying34, bytesS, List.all_cons, List.all_append, Bool.and_eq_true, decide_eq_true_eq, List.length_map, List.length_range] at hb
    obtain ⟨hlen, hall, _⟩ := hb
    unfold reachBytes at hlen
    have hel : ∀ i, i < len → Light 43 (D i) := fun i hil => light_mem hall (List.mem_map.2 ⟨i, List.mem_range.2 hil, rfl⟩)
    have key : ∀ i, i < len → ∃ e : St, (W.cell? (a.add (i * 4)) = some (.int .i64 e.k) ∧ W.cell? ((a.add (i * 4)).add 1) = some (.int .i64 e.n) ∧ W.cell? ((a.add (i * 4)).add 2) = some (.int .i64 e.m) ∧ W.cell? ((a.add (i * 4)).add 3) = some e.ev) ∧ EdsAt W e.ev e.es ∧ e.es.length ≤ 140737488355328 := by
      intro i hil
      obtain ⟨cs, hc, ht⟩ := hi i (by omega)
      rw [cells4] at hc
      obtain ⟨_, hcl, hat⟩ := World.cells?_some hc
      have hDi := hel i hil
      obtain ⟨ys, n', _, hyx, _, hyl, hf⟩ := DataW.trod_struct Try.underlying43 ht
      have f0 := hf 0 _ rfl
      have f1 := hf 1 _ rfl
      have f2 := hf 2 _ rfl
      have f3 := hf 3 _ rfl
      have hyl4 : ys.length = 4 := hyl
      change DataW.trod _ _ _ _ _ _ _ 3 ((cs.drop 0).take (Try.prog.cellsOf 3)) = _ at f0
      change DataW.trod _ _ _ _ _ _ _ 3 ((cs.drop 1).take (Try.prog.cellsOf 3)) = _ at f1
      change DataW.trod _ _ _ _ _ _ _ 3 ((cs.drop 2).take (Try.prog.cellsOf 3)) = _ at f2
      change DataW.trod _ _ _ _ _ _ _ 41 ((cs.drop 3).take (Try.prog.cellsOf 41)) = _ at f3
      rw [cells1.1] at f0 f1 f2
      rw [cellsS] at f3
      clear hyl hf ht
      obtain ⟨c0, c1, c2, c3, rfl⟩ := list_four hcl
      obtain ⟨y0, y1, y2, y3, rfl⟩ := list_four hyl4
      obtain ⟨p, hp, _⟩ := DataW.trod_int Try.underlying3 (x := y0) f0
      obtain ⟨q, hq, _⟩ := DataW.trod_int Try.underlying3 (x := y1) f1
      obtain ⟨r, hr, _⟩ := DataW.trod_int Try.underlying3 (x := y2) f2
      have f3' : DataW.trod enc Try.prog W 0 sp held n' 41 [c3] = some y3 := f3
      simp only [List.drop_zero, List.drop_succ_cons, List.take_succ_cons, List.take_zero, List.cons.injEq, and_true] at hp hq hr
      subst hp; subst hq; subst hr
      obtain ⟨es, he⟩ := eds_of_trod f3'
      obtain ⟨ea, ec, rfl⟩ := he.slice
      have hDe : D i = .agg [y0.1, y1.1, y2.1, y3.1] := congrArg Prod.fst hyx
      rw [hDe] at hDi
      unfold Light at hDi
      simp only [DataW.weights, Try.underlying43] at hDi
      have hD3 : Light 41 y3.1 := by
        unfold Light
        simp only [DataW.weightsEach, List.map_cons, List.all_append, Bool.and_eq_true] at hDi
        exact hDi.2.2.2.1
      have hfew := edits_few f3' hD3
      refine ⟨⟨p, q, r, .slice ea es.length ec, es⟩, ⟨?_, hat 1 (by omega), hat 2 (by omega), hat 3 (by omega)⟩, he, by show es.length ≤ _; omega⟩
      have := hat 0 (by omega)
      rw [show ∀ x : Addr, x.add 0 = x from fun x => by simp [Addr.add]] at this
      exact this
    by_cases hz : len = 0
    · subst hz
      exact ⟨[], .inl ⟨rfl, some a, cap, rfl⟩, by simp⟩
    · obtain ⟨b, o, spt⟩ := a
      obtain ⟨e0, ⟨k0, _, _⟩, _⟩ := key 0 (by omega)
      have hbk := World.block_lt_of_cell? _ _ k0
      have hsp := spot_none k0
      obtain rfl : spt = none := by
        have : (Addr.add ⟨b, o, spt⟩ (0 * 4)).spot = spt := by unfold Addr.add; split <;> simp_all
        rw [← this]; exact hsp
      have inh : Inhabited St := ⟨⟨0, 0, 0, .slice none 0 0, []⟩⟩
      obtain ⟨E, hE⟩ := Deep.choose_lt (α := St) (n := len) (p := fun i e => (W.cell? ((⟨b, o, none⟩ : Addr).add (i * 4)) = some (.int .i64 e.k) ∧ W.cell? (((⟨b, o, none⟩ : Addr).add (i * 4)).add 1) = some (.int .i64 e.n) ∧ W.cell? (((⟨b, o, none⟩ : Addr).add (i * 4)).add 2) = some (.int .i64 e.m) ∧ W.cell? (((⟨b, o, none⟩ : Addr).add (i * 4)).add 3) = some e.ev) ∧ EdsAt W e.ev e.es ∧ e.es.length ≤ 140737488355328) key
      refine ⟨(List.range len).map E, .inr ⟨b, o, cap, by simp, by simpa [Addr.add] using hbk, fun j hj => ?_⟩, by simp; omega⟩
      simp only [List.length_map, List.length_range] at hj
      have := hE j hj
      simp only [Addr.add_lit] at this
      simpa using this

theorem script_any (s : ByteArray) (v : Value) (L : List St) (w : World) (h : StepsAt 140737488355328 w v L) (hL : L.length ≤ 140737488355328) :
    Calls Try.prog 4 #[.string s, v] w fun e w' => e = .returned (.bool true) ∧ Below w.heap.size w w' := by
  obtain ⟨oa, cap, rfl⟩ : ∃ oa cap, v = .slice oa L.length cap := by
    rcases h with ⟨rfl, oa, cap, rfl⟩ | ⟨b, o, cap, rfl, _⟩
    · exact ⟨oa, cap, rfl⟩
    · exact ⟨_, cap, rfl⟩
  exact script_row s oa cap L w h hL

set_option maxRecDepth 100000 in
theorem contract (H : Type) (enc : TypeId × Value → H) (W : World) (base : Nat) (args : Array Value) (ds gs : List (DataW H)) (before : List MemPlace)
    (hval : ∀ (j : Nat) t v, Try.f4.params[j]? = some t → args[j]? = some v → Value.okWide Try.prog W .any base t v)
    (hW : DataW.Whole enc Try.prog Try.f4.params.toList Rows.textScriptSpec.vars false W args.toList ds gs before) (hsz : (DataW.weightsEach Try.prog Try.f4.params.toList ds).all (· ≤ reachBytes) = true) :
    Calls Try.prog 4 args W fun e W' => ∃ v, e = .returned v ∧ Rows.textScriptSpec.post enc Try.prog Try.f4 false true false false W args v W' := by
  have hW' := hW
  obtain ⟨p, q, hA0, hV, rfl, hfz, hnd⟩ := hW
  have hA : DataW.TrodAll enc Try.prog W 0 (fun _ => true) true Try.f4.params.toList args.toList ds p := hA0
  rw [Try.params4] at hA hval hsz
  obtain ⟨v0, vs0, d0, ds0, p0, q0, hargs, rfl, rfl, h0, r0⟩ := trodAll_cons hA
  obtain ⟨v1, vs1, d1, ds1, p1, q1, rfl, rfl, rfl, h1, r1⟩ := trodAll_cons r0
  obtain ⟨rfl, rfl, rfl⟩ := trodAll_nil r1
  obtain rfl : args = #[v0, v1] := by cases args; simp_all
  obtain ⟨rfl, rfl⟩ := trodVars_none hV
  have kk0 := hval 0 9 v0 (by simp) (by simp)
  have kk1 := hval 1 34 v1 (by simp) (by simp)
  obtain ⟨s, rfl, rfl, rfl, hmax⟩ := open_string Try.underlying9 kk0 h0
  obtain ⟨oa, len, cap, rfl⟩ := okWide_slice Try.underlying34 kk1
  have hlight : Light 34 d1 := by
    unfold Light
    have hs : ((DataW.lit (.string s.data.toList) : DataW H).weights Try.prog 9 ++ (d1.weights Try.prog 34 ++ [])).all (· ≤ reachBytes) = true := hsz
    rw [List.all_append, List.all_append, Bool.and_eq_true, Bool.and_eq_true] at hs
    exact hs.2.1
  have k1 := h1
  have lt1 : ∀ x ∈ p1, x.block < W.heap.size := by obtain ⟨m, hm⟩ := k1; exact DataW.trod_lt m _ _ _ hm
  obtain ⟨fuel, hf⟩ := h1
  obtain ⟨L, he, hL⟩ := steps_of_trod (v := .slice oa len cap) (by simpa [Value.cells] using hf) hlight
  clear hA0
  simp only [List.append_nil] at hW'
  refine (script_any s _ L W he hL).mono fun e W' ⟨he, bel⟩ => ?_
  subst he
  exact ⟨_, rfl, _, _, _, [], _, [], hW', trodAll_cons_mk (shut_bool Try.underlying4 _) trodAll_mk0, trodAll_cons_mk (shut_string Try.underlying9 hmax) (trodAll_cons_mk (Below.trod laidOut (by kernel_rfl) (of_decide_eq_true (by kernel_rfl)) k1 bel lt1) trodAll_mk0), rfl, bel.frame _, fun h => by cases h⟩
theorem reads (os : Os) {H : Type} (enc : TypeId × Value → H) : ∃ places, DataW.whole enc Try.prog ((World.holding Try.prog os ⟨#[], #[], []⟩).forCall (fun _ _ => 0) ⟨#[], #[.string .empty, .slice none 0 0], []⟩).memory Try.f4.params.toList Rows.textScriptSpec.vars false #[Value.string .empty, Value.slice none 0 0].toList 8 = some ([.lit (.string []), .nil], [], places) :=
  ⟨[], by kernel_rfl⟩
theorem laid_met (os : Os) : laidMet Try.prog Rows.textScriptRow.laid ((World.holding Try.prog os ⟨#[], #[], []⟩).forCall (fun _ _ => 0) ⟨#[], #[.string .empty, .slice none 0 0], []⟩).memory :=
  laidMet_of_run' 8 (by kernel_rfl) (by kernel_rfl)
set_option maxRecDepth 100000 in
theorem script_lifted (os : Os) (started : os.Started) (H : Type) (enc : TypeId × Value → H) (F : Stop.Interp) :
    ReturnsInHanded {} Try.checked os 4 .any ((OpenSpec.ofChange Rows.textScriptSpec).preRow enc Try.prog Try.f4 Rows.textScriptRow.domain false Rows.textScriptRow.laid) (((OpenSpec.ofChange Rows.textScriptSpec).at F).post enc Try.prog Try.f4 false true false false) := by
  obtain ⟨places, hx⟩ := reads os enc
  refine returnsInHanded_of_row (C := Try.checked) (s := OpenSpec.ofChange Rows.textScriptSpec) own started (by kernel_rfl) Try.func4
    (witness_row_at (enc := enc) (C := Try.checked) false (World.holding Try.prog os ⟨#[], #[], []⟩) #[.string .empty, .slice none 0 0] rfl (by kernel_rfl) (by kernel_rfl) (by kernel_rfl)
      (OpenSpec.preRow_of_cond 8 hx (by kernel_rfl) (fun k hk => by cases hk) (by kernel_rfl) (laid_met os))) ?_
  intro W base args ds gs before hval hW _ _ hsz _ _ _
  have hsz' : (DataW.weightsEach Try.prog Try.f4.params.toList ds).all (· ≤ reachBytes) = true := by
    have hgs : gs = [] := by
      obtain ⟨p, q, _, hV, _⟩ := hW
      exact (trodVars_none hV).1
    have h0 : (DataW.weightsEach Try.prog (Try.f4.params.toList ++ []) (ds ++ gs)).all (· ≤ reachBytes) = true := hsz
    rwa [hgs, List.append_nil, List.append_nil] at h0
  exact contract H enc W base args ds gs before hval hW hsz'

theorem script_holds : Rows.TextScriptSaid :=
  OpenClaim.holds_of_cond 4 Try.f4 rfl rfl rfl rfl rfl rfl rfl ⟨rfl, rfl, rfl, rfl, rfl⟩ rfl rfl rfl rfl rfl (by kernel_rfl) Try.func4 (by kernel_rfl)
    (of_decide_eq_true (by kernel_rfl)) (by unfold Func.isWrapper; first | (rw [if_pos (by decide +kernel)]; kernel_rfl) | (rw [if_neg (by decide +kernel)]; exact ⟨rfl, rfl⟩))
    (fun os started H enc _ F => by rw [OpenClaim.pre_eq_preRow]; exact script_lifted os started H enc F)
end Go.Proofs.Yteocdcknfhlfgaa.buf
