/-
  Layer 8: the program's pool: the map asked and written, a node put behind.
-/
import Derived.Test.YtnnffcfdokejbaaTk
import Derived.Maps.Views
namespace Go.Proofs.Ytnnffcfdokejbaa.rd
open Go.RowKit

theorem zeroInt (w : World) : (zeroValue 3).run Try.prog w = .ok (.int .i64 0) w := by kernel_rfl
/-- The map is asked. -/
theorem PoolG.look {w : World} {b m : Nat} {vN : Value} {L : List Gr} (h : PoolG w b m vN L) (g : Gr) (hg : GoodG L.length L g) :
    ∃ (id : Int) (ok : Bool), (∀ u : World, u.heap[m]? = w.heap[m]? → (Instr.lookup 78 (.map (some m)) (fv g) true).run Try.prog u = .ok (.tuple #[.int .i64 id, .bool ok]) u) ∧ (ok = true → 0 ≤ id ∧ endPut L g = (L, id.toNat)) ∧ (ok = false → endPut L g = (L ++ [g], L.length)) := by
  obtain ⟨Dm, hown, hF⟩ := h.map
  have hfew := h.ok.few
  obtain ⟨kl, hkl⟩ := hg.key
  have hw0 : (Lit.int .i64 0).wf = true := by decide
  obtain ⟨v, ps, hrun, hv⟩ := hown.look_ok formKey Try.underlying78 (zeroInt w) (plainElem_int Try.underlying3 hw0) hkl
  obtain ⟨c, rfl, hc, _⟩ := plainElem_int_inv Try.underlying3 hv
  simp only [Prod.mk.injEq] at hc
  refine ⟨c, Maps.has Dm kl, fun u hu => ?_, fun hok => ?_, fun hok => ?_⟩
  · have hown2 : u.ownsMap Try.prog 88 (plainElem (H := Unit) Try.prog 3) m L.length Dm := by
      obtain ⟨es, clock, hm, r⟩ := hown
      exact ⟨es, clock, hu.trans hm, r⟩
    obtain ⟨v2, ps2, hrun2, hv2⟩ := hown2.look_ok formKey Try.underlying78 (zeroInt u) (plainElem_int Try.underlying3 hw0) hkl
    obtain ⟨c2, rfl, hc2, _⟩ := plainElem_int_inv Try.underlying3 hv2
    simp only [Prod.mk.injEq] at hc2
    have e := hc.1.symm.trans hc2.1
    simp only [DataW.lit.injEq, Lit.int.injEq, true_and] at e
    rw [e]
    exact hrun2
  · obtain ⟨i, hi, hki⟩ := hF.only kl hok
    have e := fv_inj (h.ok.all i hi) hg (by omega) (by omega) (formKey.inj hki hkl)
    have h1 := (hF.here i hi kl hki).2
    rw [hc.1] at h1
    simp only [DataW.lit.injEq, Lit.int.injEq, true_and] at h1
    subst h1
    refine ⟨by omega, ?_⟩
    rw [Int.toNat_natCast]
    refine endPut_some hi ((likeG_iff _ _).2 e) (fun j hj hji => ?_)
    cases hl : likeG L[j] g with
    | false => rfl
    | true =>
      have e2 := (likeG_iff _ _).1 hl
      have h2 := (hF.here j hj kl (by rw [e2]; exact hkl)).2
      rw [hc.1] at h2
      simp only [DataW.lit.injEq, Lit.int.injEq, true_and] at h2
      omega
  · refine endPut_none (fun i hi => ?_)
    cases hl : likeG L[i] g with
    | false => rfl
    | true =>
      have e2 := (likeG_iff _ _).1 hl
      have h2 := (hF.here i hi kl (by rw [e2]; exact hkl)).1
      rw [hok] at h2
      cases h2
/-- The map is written: a pool whose map knows one node more. -/
structure HalfG (w : World) (b m : Nat) (vN : Value) (L : List Gr) (g : Gr) : Prop where
  cell : w.heap[b]? = some (.cells #[.map (some m), vN] 81 (0, 0))
  map : ∃ Dm, w.ownsMap Try.prog 88 (plainElem (H := Unit) Try.prog 3) m (L.length + 1) Dm ∧ Finds Dm (L ++ [g])
  row : Mine gk w 0 vN (L.map toGk)
  ok : GoodL (L ++ [g])
theorem PoolG.apart {w : World} {b m : Nat} {vN : Value} {L : List Gr} (h : PoolG w b m vN L) : b ≠ m ∧ vN.ownBlock ≠ some b ∧ vN.ownBlock ≠ some m := by
  obtain ⟨Dm, ⟨es, clock, hb, _⟩, _⟩ := h.map
  refine ⟨?_, h.row.ne h.cell (by decide), fun e => ?_⟩
  · rintro rfl
    rw [h.cell] at hb
    cases hb
  · rcases h.row.2 with ⟨hv, _⟩ | ⟨q, cap, cur, hv, _, hh, _⟩
    · rw [hv] at e
      simp [Value.ownBlock] at e
    · rw [hv] at e
      simp only [Value.ownBlock, Option.some.injEq] at e
      rw [← e, hh] at hb
      cases hb
theorem PoolG.store {w : World} {b m : Nat} {vN : Value} {L : List Gr} (h : PoolG w b m vN L) (g : Gr) (hg : GoodG L.length L g) (hnew : endPut L g = (L ++ [g], L.length)) (hn : L.length + 1 ≤ 4294967296) :
    ∃ w', (Instr.mapUpdate 78 (.map (some m)) (fv g) (.int .i64 (L.length : Int))).run Try.prog w = .ok () w' ∧ w.grownBy w' (some m) ∧ HalfG w' b m vN L g := by
  obtain ⟨h1, h2, h3⟩ := h.apart
  obtain ⟨Dm, hown, hF⟩ := h.map
  have hfew := h.ok.few
  obtain ⟨kl, hkl⟩ := hg.key
  have hwf : (Lit.int .i64 (L.length : Int)).wf = true := wf_in64 ⟨by omega, by omega⟩
  obtain ⟨w', hrun, hown', hgr⟩ := hown.update formKey Try.underlying78 (by simp [maxLen]; omega) hkl (plainElem_int Try.underlying3 hwf)
  have hnk : ∀ i (hi : i < L.length), keyOf Try.prog 88 (fv L[i]) ≠ some kl := fun i hi e => by
    have e1 := fv_inj (h.ok.all i hi) hg (by omega) (by omega) (formKey.inj e hkl)
    unfold endPut at hnew
    split at hnew
    · rename_i q hq
      have := congrArg (fun p => p.1.length) hnew
      simp at this
    · rename_i hq
      rw [List.findIdx?_eq_none_iff] at hq
      have := hq L[i] (List.getElem_mem hi)
      rw [(likeG_iff _ _).2 e1] at this
      cases this
  have hM := hown.isMap
  have hK := formKey.key hkl
  refine ⟨w', hrun, hgr, (hgr.block b (Array.getElem?_eq_some_iff.1 h.cell).1 (by simpa using h1)).trans h.cell, ⟨_, hown', ⟨fun i hi kl2 hk2 => ?_, fun kl2 h4 => ?_⟩⟩, h.row.keep (fun k hk hkz => hgr.block k hkz (fun e => h3 (by rw [hk, e]))), ?_⟩
  · by_cases hlt : i < L.length
    · rw [List.getElem_append_left hlt] at hk2
      have hne : kl2 ≠ kl := fun e => hnk i hlt (by rw [hk2, e])
      rw [Maps.has_put_other hne, Maps.atKey_put_other hne]
      exact hF.here i hlt kl2 hk2
    · have hi' : i < L.length + 1 := by
        rw [List.length_append] at hi
        exact hi
      obtain rfl : i = L.length := by omega
      rw [List.getElem_append_right (Nat.le_refl _)] at hk2
      simp only [Nat.sub_self, List.getElem_cons_zero] at hk2
      rw [hkl] at hk2
      obtain rfl := Option.some.inj hk2
      rw [Maps.has_put_same hM hK, Maps.atKey_put_same hM hK]
      exact ⟨rfl, rfl⟩
  · by_cases e : kl2 = kl
    · subst e
      refine ⟨L.length, by rw [List.length_append]; exact Nat.lt_succ_self _, ?_⟩
      rw [List.getElem_append_right (Nat.le_refl _)]
      simp only [Nat.sub_self, List.getElem_cons_zero]
      exact hkl
    · rw [Maps.has_put_other e] at h4
      obtain ⟨i, hi, h5⟩ := hF.only kl2 h4
      refine ⟨i, by rw [List.length_append]; exact Nat.lt_succ_of_lt hi, ?_⟩
      rw [List.getElem_append_left hi]
      exact h5
  · have := endPut_good h.ok hg (by rw [hnew]; show (L ++ [g]).length ≤ _; rw [List.length_append]; exact hn)
    rw [hnew] at this
    exact this
theorem HalfG.below {w w' : World} {b m : Nat} {vN : Value} {L : List Gr} {g : Gr} (h : HalfG w b m vN L g) (hb : Below w.heap.size w w') : HalfG w' b m vN L g := by
  obtain ⟨h1, ⟨Dm, ⟨es, clock, hm, F, hn, hD⟩, h3⟩, h4, h5⟩ := h
  exact ⟨(hb.block b (Array.getElem?_eq_some_iff.1 h1).1).trans h1, ⟨Dm, ⟨es, clock, (hb.block m (Array.getElem?_eq_some_iff.1 hm).1).trans hm, F, hn, hD⟩, h3⟩, h4.below hb, h5⟩
/-- .. and the row. -/
theorem HalfG.push {w : World} {b m : Nat} {vN : Value} {L : List Gr} {g : Gr} (h : HalfG w b m vN L g) (hn : L.length + 1 ≤ 4294967296) {u : World} (hu : Below w.heap.size w u) {ad : Nat} (had : u.heap[ad]? = some (.cells #[.int .i64 g.k, .string (leafS g), .string (B (packL g.l)), .int .i64 (g.s.size : Int)] 90 (0, 0))) :
    ∃ v' w', (∀ ty, (Builtin.append_ #[79, 79] ty #[vN, .slice (some ⟨ad, 0, none⟩) 1 1]).run Try.prog u = .ok v' w') ∧ (∃ g' cap', v' = .slice (some ⟨g', 0, none⟩) (L.length + 1) cap') ∧ (w'.cell? ⟨b, 1, none⟩ = some vN ∧ w'.frozen? ⟨b, 1, none⟩ = false ∧ b < w'.heap.size) ∧ PoolG (w'.setCell ⟨b, 1, none⟩ v') b m v' (L ++ [g]) ∧ (∀ k, k < w.heap.size → ¬ dd b m vN k → (w'.setCell ⟨b, 1, none⟩ v').heap[k]? = w.heap[k]?) ∧ (w'.os = w.os ∧ w'.tape = w.tape ∧ w'.output = w.output) ∧ w.heap.size ≤ w'.heap.size ∧ ∀ q, v'.ownBlock = some q → vN.ownBlock = some q ∨ w.heap.size ≤ q := by
  have h2 := h.below hu
  have hz := hu.size
  obtain ⟨g', cap', w', h3, h4, h5, h6⟩ := app_lies (F := gk) (x := toGk g) h2.row had (Nat.zero_le _) (by rw [List.length_map]; simp [maxLen]; omega) (by rw [List.length_map]; show (L.length + 1) * 48 ≤ _; omega)
  rw [List.length_map] at h3 h4
  have hbz := (Array.getElem?_eq_some_iff.1 h2.cell).1
  have hvb : vN.ownBlock ≠ some b := h2.row.ne h2.cell (by decide)
  have hvm : vN.ownBlock ≠ some m := fun e => by
    obtain ⟨Dm, ⟨es, clock, hm, _⟩, _⟩ := h2.map
    rcases h2.row.2 with ⟨hv, _⟩ | ⟨q, cap, cur, hv, _, hh, _⟩
    · rw [hv] at e
      simp [Value.ownBlock] at e
    · rw [hv] at e
      simp only [Value.ownBlock, Option.some.injEq] at e
      rw [← e, hh] at hm
      cases hm
  have hw' := h5.size
  have hold : ∀ q, q < u.heap.size → vN.ownBlock ≠ some q → w'.heap[q]? = u.heap[q]? := fun q hq hn => h5.block q hq (fun e => hn e.symm)
  have hcb : w'.heap[b]? = some (.cells #[.map (some m), vN] 81 (0, 0)) := (hold b hbz hvb).trans h2.cell
  obtain ⟨⟨_, c1⟩, cf⟩ := two_cells hcb
  have hgb : g' ≠ b := by
    rintro rfl
    rcases h6 with h6 | h6
    · exact hvb h6
    · omega
  have hset : ∀ q, q ≠ b → (w'.setCell ⟨b, 1, none⟩ (.slice (some ⟨g', 0, none⟩) (L.length + 1) cap')).heap[q]? = w'.heap[q]? := fun q hq => set_one _ _ _ _ _ hq
  refine ⟨_, w', h3, ⟨g', cap', rfl⟩, ⟨c1, cf 1, by omega⟩, ⟨?_, ?_, ?_, h2.ok⟩, fun k hk hd => ?_, ⟨h5.os.trans hu.os, h5.tape.trans hu.tape, h5.output.trans hu.output⟩, by omega, ?_⟩
  · exact heap_setCell_same _ _ 1 _ _ _ hcb
  · obtain ⟨Dm, ⟨es, clock, hm, F, hn', hD⟩, hF⟩ := h2.map
    have hmb : m ≠ b := by
      rintro rfl
      rw [h2.cell] at hm
      cases hm
    exact ⟨Dm, ⟨es, clock, (hset m hmb).trans ((hold m (Array.getElem?_eq_some_iff.1 hm).1 hvm).trans hm), F, by rw [List.length_append]; exact hn', hD⟩, hF⟩
  · rw [List.map_append]
    exact h4.keep (fun k hk _ => hset k (by simp only [Value.ownBlock, Option.some.injEq] at hk; omega))
  · exact (hset k (fun e => hd (.inl e))).trans ((hold k (by omega) (fun e => hd (.inr (.inr e)))).trans (hu.block k hk))
  · intro q hq
    simp only [Value.ownBlock, Option.some.injEq] at hq
    subst hq
    rcases h6 with h6 | h6
    · exact .inl h6
    · exact .inr (by omega)
end Go.Proofs.Ytnnffcfdokejbaa.rd
