/-
  Of every text and every edits: edits done at once are the same edits done one by one, from the last one to the first one (the law TextSingly).
  Conditions: none beyond the row's own.
-/
import Derived.Test.YteocdcknfhlfgaaSingly
import Derived.ProofKit
import Derived.OpenShut
import Derived.ChangeOld
import Derived.Carry
import Derived.Deep.Slices
import Derived.Deep.Fields
namespace Go.Proofs.Yteocdcknfhlfgaa.buf
open Go.ChangeShapes Go.WideShapes Go.ChangeAt Go.RowKit
open Go.ChangeMaps (open_string shut_string)

theorem own : ownKnob Try.prog.godebug = none := by kernel_rfl
theorem laidOut : laidOutB Try.prog = true := by kernel_rfl

theorem spot_none {w : World} {a : Addr} {v : Value} (h : w.cell? a = some v) : a.spot = none := by
  unfold World.cell? at h
  split at h
  · cases hs : a.spot with
    | none => rfl
    | some x => rw [hs] at h; simp at h
  · cases h
theorem cells3 : Try.prog.cellsOf 60 = 3 := by kernel_rfl
theorem cells1 : Try.prog.cellsOf 3 = 1 ∧ Try.prog.cellsOf 9 = 1 := ⟨by kernel_rfl, by kernel_rfl⟩

theorem list_three {α : Type} {l : List α} (h : l.length = 3) : ∃ a b c, l = [a, b, c] := by
  match l, h with
  | [a, b, c], _ => exact ⟨a, b, c, rfl⟩

/-- Edits that are read are edits in memory. -/
theorem eds_of_trod {H : Type} {enc : TypeId × Value → H} {W : World} {sp : Nat → Bool} {held : Bool} {fuel : Nat} {v : Value} {x : DataW H × List MemPlace} (h : DataW.trod enc Try.prog W 0 sp held fuel 41 [v] = some x) : ∃ l, EdsAt W v l := by
  rcases Deep.open_slice Try.underlying41 h with ⟨hv, _⟩ | ⟨a, len, cap, m, n, D, Pl, hv, _, hl, _, hm, _, hi⟩
  · simp only [List.cons.injEq, and_true] at hv
    exact ⟨[], .inl ⟨rfl, none, 0, hv⟩⟩
  · simp only [List.cons.injEq, and_true] at hv
    subst hv
    have hlm : len ≤ m := by rw [hm]; split <;> omega
    have key : ∀ i, i < len → ∃ e : Ed, W.cell? (a.add (i * 3)) = some (.int .i64 e.a) ∧ W.cell? ((a.add (i * 3)).add 1) = some (.int .i64 e.b) ∧ W.cell? ((a.add (i * 3)).add 2) = some (.string e.s) := by
      intro i hil
      obtain ⟨cs, hc, ht⟩ := hi i (by omega)
      rw [cells3] at hc
      obtain ⟨_, hcl, hat⟩ := World.cells?_some hc
      obtain ⟨ys, n', _, _, _, hyl, hf⟩ := DataW.trod_struct Try.underlying60 ht
      have f0 := hf 0 _ rfl
      have f1 := hf 1 _ rfl
      have f2 := hf 2 _ rfl
      have hyl3 : ys.length = 3 := hyl
      change DataW.trod _ _ _ _ _ _ _ 3 ((cs.drop 0).take (Try.prog.cellsOf 3)) = _ at f0
      change DataW.trod _ _ _ _ _ _ _ 3 ((cs.drop 1).take (Try.prog.cellsOf 3)) = _ at f1
      change DataW.trod _ _ _ _ _ _ _ 9 ((cs.drop 2).take (Try.prog.cellsOf 9)) = _ at f2
      rw [cells1.1] at f0 f1
      rw [cells1.2] at f2
      clear hyl hf ht
      obtain ⟨c0, c1, c2, rfl⟩ := list_three hcl
      obtain ⟨y0, y1, y2, rfl⟩ := list_three hyl3
      obtain ⟨p, hp, _⟩ := DataW.trod_int Try.underlying3 (x := y0) f0
      obtain ⟨q, hq, _⟩ := DataW.trod_int Try.underlying3 (x := y1) f1
      obtain ⟨s, hs, _⟩ := DataW.trod_string Try.underlying9 (x := y2) f2
      simp only [List.drop_zero, List.drop_succ_cons, List.take_succ_cons, List.take_zero, List.cons.injEq, and_true] at hp hq hs
      subst hp; subst hq; subst hs
      refine ⟨⟨p, q, s⟩, ?_, hat 1 (by omega), hat 2 (by omega)⟩
      have := hat 0 (by omega)
      rw [show ∀ x : Addr, x.add 0 = x from fun x => by simp [Addr.add]] at this
      exact this
    by_cases hz : len = 0
    · subst hz
      exact ⟨[], .inl ⟨rfl, some a, cap, rfl⟩⟩
    · obtain ⟨b, o, spt⟩ := a
      obtain ⟨e0, k0, _, _⟩ := key 0 (by omega)
      have hb := World.block_lt_of_cell? _ _ k0
      have hsp := spot_none k0
      obtain rfl : spt = none := by
        have : (Addr.add ⟨b, o, spt⟩ (0 * 3)).spot = spt := by unfold Addr.add; split <;> simp_all
        rw [← this]; exact hsp
      have inh : Inhabited Ed := ⟨⟨0, 0, .empty⟩⟩
      obtain ⟨E, hE⟩ := Deep.choose_lt (α := Ed) (n := len) (p := fun i e => W.cell? ((⟨b, o, none⟩ : Addr).add (i * 3)) = some (.int .i64 e.a) ∧ W.cell? (((⟨b, o, none⟩ : Addr).add (i * 3)).add 1) = some (.int .i64 e.b) ∧ W.cell? (((⟨b, o, none⟩ : Addr).add (i * 3)).add 2) = some (.string e.s)) key
      refine ⟨(List.range len).map E, .inr ⟨b, o, cap, by simp, by simpa [Addr.add] using hb, fun j hj => ?_⟩⟩
      simp only [List.length_map, List.length_range] at hj
      have := hE j hj
      simp only [Addr.add_lit] at this
      simpa using this

set_option maxRecDepth 100000 in
theorem lifted (os : Os) (started : os.Started) (H : Type) (enc : TypeId × Value → H) :
    ReturnsInHanded {} Try.checked os 6 .any (Rows.textSinglySpec.pre6 enc Try.prog Try.f6 Rows.textSinglyRow.domain false) (Rows.textSinglySpec.post enc Try.prog Try.f6 false true false false) := by
  refine returnsInHanded_of_change (C := Try.checked) own started (by kernel_rfl) Try.func6
    (ChangeSpec.witness6 (enc := enc) (C := Try.checked) false ⟨#[], #[.string .empty, .slice none 0 0], []⟩ 8 (by kernel_rfl) (by kernel_rfl) (by kernel_rfl) (by kernel_rfl)) ?_
  intro W base args ds gs before hval0 hW hcnd _
  have hval : ∀ (j : Nat) t v, Try.f6.params[j]? = some t → args[j]? = some v → Value.okWide Try.prog W .any base t v := hval0
  have hW' := hW
  obtain ⟨p, q, hA0, hV, rfl, hfz, hnd⟩ := hW
  have hA : DataW.TrodAll enc Try.prog W 0 (fun _ => true) true Try.f6.params.toList args.toList ds p := hA0
  rw [Try.params6] at hA hval
  obtain ⟨v0, vs0, d0, ds0, p0, q0, hargs, rfl, rfl, h0, r0⟩ := trodAll_cons hA
  obtain ⟨v1, vs1, d1, ds1, p1, q1, rfl, rfl, rfl, h1, r1⟩ := trodAll_cons r0
  obtain ⟨rfl, rfl, rfl⟩ := trodAll_nil r1
  obtain rfl : args = #[v0, v1] := by cases args; simp_all
  obtain ⟨rfl, rfl⟩ := trodVars_none hV
  obtain ⟨s, rfl, rfl, rfl, hmax⟩ := open_string Try.underlying9 (hval 0 9 v0 rfl rfl) h0
  obtain ⟨oa, len, cap, rfl⟩ := okWide_slice Try.underlying41 (hval 1 41 v1 rfl rfl)
  have k1 := h1
  have lt1 : ∀ x ∈ p1, x.block < W.heap.size := by obtain ⟨m, hm⟩ := k1; exact DataW.trod_lt m _ _ _ hm
  obtain ⟨fuel, hf⟩ := h1
  obtain ⟨l, he⟩ := eds_of_trod (v := .slice oa len cap) (by simpa [Value.cells] using hf)
  clear hA0 hval0
  refine (singly_any _ s l W he).mono fun e W' ⟨he, bel⟩ => ?_
  subst he
  exact ⟨_, rfl, _, _, _, [], _, [], hW', trodAll_cons_mk (shut_bool Try.underlying4 _) trodAll_mk0, trodAll_cons_mk (shut_string Try.underlying9 hmax) (trodAll_cons_mk (Below.trod laidOut (by kernel_rfl) (of_decide_eq_true (by kernel_rfl)) k1 bel lt1) trodAll_mk0), rfl, bel.frame _, fun h => by cases h⟩

theorem singly_holds : Rows.TextSinglySaid :=
  OpenClaim.holds_of_wide 6 Try.f6 rfl rfl rfl rfl rfl rfl rfl ⟨rfl, rfl, rfl, rfl, rfl⟩ rfl rfl rfl rfl rfl (by kernel_rfl) Try.func6 (by kernel_rfl)
    (of_decide_eq_true (by kernel_rfl)) (by unfold Func.isWrapper; first | (rw [if_pos (by decide +kernel)]; kernel_rfl) | (rw [if_neg (by decide +kernel)]; exact ⟨rfl, rfl⟩))
    (fun os started H enc _ => lifted os started H enc)
end Go.Proofs.Yteocdcknfhlfgaa.buf
