/-
  Of any bytes and any numbers that say how each is written: each byte written as an escape, in quotes, is said again; a rune literal of an escape says its byte; bytes between back quotes, but for back quotes and returns, say themselves (the law TokenQuotes, its tied card).
  Conditions: none beyond the card's own (the two tables of unicode/utf8 as their initialisers lay them, tied to the program's text).
-/
import Derived.Test.YtbmmbaagcglomaaDoorCardBase
import Derived.Test.YtbmmbaagcglomaaDoorQuoteSome
import Derived.Test.YtbmmbaagcglomaaDoorQuoteNone
import Derived.ChangeSlices
namespace Go.Proofs.YtbmmbaagcglomaaDoor.quotes
open Go.ChangeShapes Go.WideShapes Go.ChangeAt Go.RowKit
open Go.Proofs.YtbmmbaagcglomaaDoor.tok

theorem laidOut : laidOutB Tryd.prog = true := by kernel_rfl
theorem spot_none {w : World} {a : Addr} {v : Value} (h : w.cell? a = some v) : a.spot = none := by
  unfold World.cell? at h
  split at h
  · cases hs : a.spot with
    | none => rfl
    | some x => rw [hs] at h; simp at h
  · cases h
theorem one_u8 : Tryd.prog.cellsOf 5 = 1 := by kernel_rfl
theorem one_int : Tryd.prog.cellsOf 3 = 1 := by kernel_rfl
theorem conv_nil (cap : Nat) (W : World) : (convert 38 9 (.slice none 0 cap)).run Tryd.prog W = .ok (.string (B [])) W := by
  rw [run_convert_bytes_string W _ _ _ _ _ _ Tryd.underlying38 Tryd.underlying5 Tryd.underlying9]
  simp [Conv.bytesToString]
  rfl
theorem conv_row (g off cap : Nat) (bs : List UInt8) (W : World) (hc : ∀ j (h : j < bs.length), W.cell? ⟨g, off + j, none⟩ = some (.int .u8 (bs[j].toNat : Int))) :
    (convert 38 9 (.slice (some ⟨g, off, none⟩) bs.length cap)).run Tryd.prog W = .ok (.string (B bs)) W := by
  refine run_convert_bytes_back W _ _ _ ⟨g, off, none⟩ cap bs Tryd.underlying38 Tryd.underlying5 Tryd.underlying9 (fun j hj => ?_)
  rw [Addr.add_lit]
  exact hc j hj
theorem conv_none (a : Addr) (cap : Nat) (W : World) : (convert 38 9 (.slice (some a) 0 cap)).run Tryd.prog W = .ok (.string (B [])) W :=
  run_convert_bytes_back W _ _ _ a cap [] Tryd.underlying38 Tryd.underlying5 Tryd.underlying9 (fun j hj => by simp at hj)
theorem block_lt {w : World} {a : Addr} {v : Value} (h : w.cell? a = some v) : a.block < w.heap.size := Go.block_lt_of_cell h
/-- What is read of a list of numbers. -/
theorem ints_known {H : Type} {enc : TypeId × Value → H} {W : World} {sp : Nat → Bool} {held : Bool} {fuel : Nat} {t e : TypeId} {k : IntKind} {oa : Option Addr} {len cap : Nat} {x : DataW H × List MemPlace}
    (ht : Tryd.prog.underlying t = some (.slice e)) (he : Tryd.prog.underlying e = some (.int k)) (hc : Tryd.prog.cellsOf e = 1) (h : DataW.trod enc Tryd.prog W 0 sp held fuel t [.slice oa len cap] = some x) :
    ∃ zs : List Int, zs.length = len ∧ (0 < len → ∃ g off, oa = some ⟨g, off, none⟩ ∧ g < W.heap.size ∧ ∀ i (h : i < zs.length), W.cell? ⟨g, off + i, none⟩ = some (.int k zs[i])) ∧ ∀ n ∈ zs, (Lit.int k n).wf = true := by
  rcases open_ints ht he hc h with ⟨hv, _⟩ | ⟨a, len', cap', zs, hv, _, hl, _, hz, _, hcell, hwf⟩
  · simp only [List.cons.injEq, and_true, Value.slice.injEq] at hv
    obtain ⟨_, rfl, _⟩ := hv
    exact ⟨[], rfl, fun h => by omega, fun n hn => by cases hn⟩
  · simp only [List.cons.injEq, and_true, Value.slice.injEq] at hv
    obtain ⟨rfl, rfl, rfl⟩ := hv
    have hlz : len ≤ zs.length := by rw [hz]; split <;> omega
    refine ⟨zs.take len, by rw [List.length_take]; omega, fun h0 => ?_, fun n hn => hwf n (List.mem_of_mem_take hn)⟩
    have c0 := hcell 0 (by omega)
    have hs : a.spot = none := by
      have := spot_none c0
      unfold Addr.add at this
      split at this <;> simp_all
    obtain ⟨g, off, sp'⟩ := a
    simp only [] at hs
    subst hs
    refine ⟨g, off, rfl, by have := block_lt c0; rw [Addr.add_lit] at this; exact this, fun i hi => ?_⟩
    rw [List.length_take] at hi
    have := hcell i (by omega)
    rw [Addr.add_lit] at this
    rw [this, List.getElem_take]
    simp [List.getD, show i < zs.length by omega]

theorem contract (H : Type) (enc : TypeId × Value → H) (W : World) (base : Nat) (args : Array Value) (ds gs : List (DataW H)) (before : List MemPlace)
    (hval : ∀ (j : Nat) t v, Tryd.f9.params[j]? = some t → args[j]? = some v → Value.okWide Tryd.prog W .any base t v)
    (hW : DataW.Whole enc Tryd.prog Tryd.f9.params.toList Rows.tokenQuotesSpec.vars false W args.toList ds gs before) (hL : laidMetH Tryd.prog Rows.tokenQuotesRow.laid W) (hS : W.ShapedOpen Tryd.prog) :
    Calls Tryd.prog 9 args W fun e W' => ∃ v, e = .returned v ∧ Rows.tokenQuotesSpec.post enc Tryd.prog Tryd.f9 false true false false W args v W' := by
  have hW' := hW
  obtain ⟨p, q, hA0, hV, rfl, hfz, hnd⟩ := hW
  have hA : DataW.TrodAll enc Tryd.prog W 0 (fun _ => true) true Tryd.f9.params.toList args.toList ds p := hA0
  rw [Tryd.params9] at hA hval
  obtain ⟨v0, vs0, d0, ds0, p0, q0, hargs, rfl, rfl, h0, r0⟩ := trodAll_cons hA
  obtain ⟨v1, vs1, d1, ds1, p1, q1, rfl, rfl, rfl, h1, r1⟩ := trodAll_cons r0
  obtain ⟨rfl, rfl, rfl⟩ := trodAll_nil r1
  obtain rfl : args = #[v0, v1] := by cases args; simp_all
  obtain ⟨rfl, rfl⟩ := trodVars_none hV
  obtain ⟨oa, len, cap, rfl⟩ := okWide_slice Tryd.underlying38 (hval 0 38 v0 rfl rfl)
  obtain ⟨ow, nw, cw, rfl⟩ := okWide_slice Tryd.underlying39 (hval 1 39 v1 rfl rfl)
  have k0 := h0
  have k1 := h1
  have lt0 : ∀ x ∈ p0, x.block < W.heap.size := by obtain ⟨m, hm⟩ := k0; exact DataW.trod_lt m _ _ _ hm
  have lt1 : ∀ x ∈ p1, x.block < W.heap.size := by obtain ⟨m, hm⟩ := k1; exact DataW.trod_lt m _ _ _ hm
  obtain ⟨fuel0, f0⟩ := h0
  obtain ⟨fuel1, f1⟩ := h1
  obtain ⟨zs, hzl, hzc, hzw⟩ := ints_known (oa := oa) (len := len) (cap := cap) Tryd.underlying38 Tryd.underlying5 one_u8 (by simpa [Value.cells] using f0)
  obtain ⟨ws, hwl, hwc, hww⟩ := ints_known (oa := ow) (len := nw) (cap := cw) Tryd.underlying39 Tryd.underlying3 one_int (by simpa [Value.cells] using f1)
  clear hA0
  have hE := env_of hL hS
  have main : Calls Tryd.prog 9 #[.slice oa len cap, .slice ow nw cw] W (Gives (.bool true) W) := by
    by_cases hlen : len = 0
    · subst hlen
      refine quotes_none oa cap (.slice ow nw cw) W (Lib.hid hE) (Lib.hid (fun W' => ?_))
      cases oa with
      | none => exact conv_nil cap W'
      | some a => exact conv_none a cap W'
    · obtain ⟨g, off, rfl, hg, hcell⟩ := hzc (by omega)
      obtain ⟨bs, hbs⟩ : ∃ bs : List UInt8, zs.map (fun z => z.toNat.toUInt8) = bs := ⟨_, rfl⟩
      have hbl : bs.length = len := by rw [← hbs, List.length_map, hzl]
      have hbc : ∀ j (h : j < bs.length), W.cell? ⟨g, off + j, none⟩ = some (.int .u8 (bs[j].toNat : Int)) := fun j hj => by
        have hj' : j < zs.length := by omega
        rw [hcell j hj']
        have hr : 0 ≤ zs[j] ∧ zs[j] ≤ 255 := by
          have := range_u8 hzw j
          simpa [hj'] using this
        congr 2
        subst hbs
        rw [List.getElem_map]
        have : (zs[j].toNat.toUInt8.toNat : Int) = zs[j] := by
          rw [Nat.toUInt8, UInt8.toNat_ofNat', Nat.mod_eq_of_lt (by omega)]
          omega
        exact this.symm
      by_cases hbig : bs.length ≤ 134217728
      · have := quotes_some g off cap ow nw cw bs (fun j => (ws.getD j 0).tmod 2 != 0) W (Lib.hid hE) hbig (Lib.hid hbc) hg
          (Lib.hid (fun W' hb => conv_row g off cap bs W' (fun j hj => (hb.cell (p := ⟨g, off + j, none⟩) hg).trans (hbc j hj))))
          (Lib.hid (fun j hj => by
            obtain ⟨gw, offw, e, hgw, hc⟩ := hwc (by omega)
            have hj' : j < ws.length := by omega
            refine ⟨gw, offw, ws[j], e, hgw, hc j hj', ?_, by simp [List.getD, hj']⟩
            have := range_i64 hww j
            simpa [hj'] using this))
          (Lib.hid (fun j hj => by simp [List.getD, show ws.length ≤ j by omega]))
        rwa [hbl] at this
      · exact quotes_big (some ⟨g, off, none⟩) len cap (.slice ow nw cw) W (by omega)
  refine main.mono fun e W' ⟨he, hb⟩ => ?_
  subst he
  exact ⟨_, rfl, _, _, _, [], _, [], hW', trodAll_cons_mk (shut_bool Tryd.underlying4 _) trodAll_mk0, trodAll_cons_mk (Below.trod laidOut (by kernel_rfl) (of_decide_eq_true (by kernel_rfl)) k0 hb lt0) (trodAll_cons_mk (Below.trod laidOut (by kernel_rfl) (of_decide_eq_true (by kernel_rfl)) k1 hb lt1) trodAll_mk0), rfl, hb.frame _, fun h => by cases h⟩

theorem laid_met (os : Os) : laidMet Tryd.prog Rows.tokenQuotesRow.laid ((laidWorld os).forCall (fun _ _ => 0) ⟨#[], #[.slice none 0 0, .slice none 0 0], []⟩).memory :=
  laidMet_of_run' 8 (by kernel_rfl) (by kernel_rfl)
theorem reads (os : Os) {H : Type} (enc : TypeId × Value → H) : ∃ places, DataW.whole enc Tryd.prog ((laidWorld os).forCall (fun _ _ => 0) ⟨#[], #[.slice none 0 0, .slice none 0 0], []⟩).memory Tryd.f9.params.toList Rows.tokenQuotesSpec.vars false #[Value.slice none 0 0, Value.slice none 0 0].toList 8 = some ([.nil, .nil], [], places) :=
  ⟨[], by kernel_rfl⟩

set_option maxRecDepth 100000 in
theorem lifted (os : Os) (started : os.Started) (H : Type) (enc : TypeId × Value → H) (F : Stop.Interp) :
    ReturnsInHanded {} Tryd.checked os 9 .any ((OpenSpec.ofChange Rows.tokenQuotesSpec).preRow enc Tryd.prog Tryd.f9 Rows.tokenQuotesRow.domain false Rows.tokenQuotesRow.laid) (((OpenSpec.ofChange Rows.tokenQuotesSpec).at F).post enc Tryd.prog Tryd.f9 false true false false) := by
  obtain ⟨places, hx⟩ := reads os enc
  refine returnsInHanded_of_row (C := Tryd.checked) (s := OpenSpec.ofChange Rows.tokenQuotesSpec) own started (by kernel_rfl) Tryd.func9
    (witness_row_at (enc := enc) (C := Tryd.checked) false (laidWorld os) #[.slice none 0 0, .slice none 0 0] rfl (by kernel_rfl) (by kernel_rfl) (by kernel_rfl)
      (OpenSpec.preRow_of_cond 8 hx (by kernel_rfl) (fun k hk => by cases hk) (by kernel_rfl) (laid_met os))) ?_
  intro W base args ds gs before hval hW _ _ _ hL hS _
  exact contract H enc W base args ds gs before hval hW hL hS

theorem said : Rows.TokenQuotesSaid :=
  OpenClaim.holds_of_cond 9 Tryd.f9 rfl rfl rfl rfl rfl rfl rfl ⟨rfl, rfl, rfl, rfl, rfl⟩ rfl rfl rfl rfl rfl (by kernel_rfl) Tryd.func9 (by kernel_rfl)
    (of_decide_eq_true (by kernel_rfl)) (by unfold Func.isWrapper; first | (rw [if_pos (by decide +kernel)]; kernel_rfl) | (rw [if_neg (by decide +kernel)]; exact ⟨rfl, rfl⟩))
    (fun os started H enc _ F => by rw [OpenClaim.pre_eq_preRow]; exact lifted os started H enc F)

theorem plain (f : FuncId) (fn : Func) (hf : Tryd.pinned.checked.prog.funcNamed Rows.tokenQuotesRow.func = some f) (hfn : Tryd.pinned.checked.prog.funcs[f]? = some fn) :
    false = Tryd.pinned.checked.prog.looks [] ∧ ∀ (j : Nat) t, fn.params[j]? = some t → Tryd.pinned.checked.prog.wantsStandIn t = false := by
  obtain rfl : f = 9 := Option.some.inj ((show Tryd.prog.funcNamed Rows.tokenQuotesRow.func = some 9 by kernel_rfl).symm.trans hf) |>.symm
  obtain rfl : fn = Tryd.f9 := (Option.some.inj (Tryd.func9.symm.trans hfn)).symm
  refine ⟨by kernel_rfl, fun j t ht => ?_⟩
  rw [Tryd.params9] at ht
  have hm := Array.mem_of_getElem? ht
  simp only [List.mem_toArray, List.mem_cons, List.not_mem_nil, or_false] at hm
  rcases hm with rfl | rfl
  · exact (show Tryd.prog.wantsStandIn 38 = false by kernel_rfl)
  · exact (show Tryd.prog.wantsStandIn 39 = false by kernel_rfl)

theorem card : Rows.TokenQuotesCardSaid :=
  Claim7.holds_tied_plain_at .later [] _ _ _ _ said (fun _ h => by cases h) (by kernel_rfl) (fun _ h => by cases h) tokenQuotes_row_tie rfl ⟨rfl, rfl⟩ (by kernel_rfl) rfl plain (by kernel_rfl)
end Go.Proofs.YtbmmbaagcglomaaDoor.quotes
