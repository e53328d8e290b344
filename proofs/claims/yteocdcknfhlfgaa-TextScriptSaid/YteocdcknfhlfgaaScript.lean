/-
  The walk of TextScript.
-/
import Derived.Test.YteocdcknfhlfgaaTurned
import Derived.Deep.RegionHeld3
import Derived.Deep.DeepCutAuto
import Derived.Deep.Cut
import Derived.Deep.CutRange
namespace Go.Proofs.Yteocdcknfhlfgaa.buf
open Go.RowKit

theorem Law.start {w w1 w2 : World} {s : ByteArray} (hb : BufAt w1 w.heap.size s.data.toList) (hw : Below w.heap.size w w1) (hr : RefAt w2 w1.heap.size s) (hw2 : Below w1.heap.size w1 w2) :
    Law w w2.heap.size (w2.heap.size + 1) w.heap.size w1.heap.size w.heap.size w1.heap.size s s ((w2.alloc (.cells #[.pointer (some ⟨w.heap.size, 0, none⟩), .pointer (some ⟨w1.heap.size, 0, none⟩)] 40)).alloc (.cells #[.pointer (some ⟨w.heap.size, 0, none⟩), .pointer (some ⟨w1.heap.size, 0, none⟩)] 40)) := by
  have e1 : Below w2.heap.size w2 (w2.alloc (.cells #[.pointer (some ⟨w.heap.size, 0, none⟩), .pointer (some ⟨w1.heap.size, 0, none⟩)] 40)) := (Below.refl _ _).alloc (Nat.le_refl _) _
  have p1 := heap_alloc_new w2 (.cells #[.pointer (some ⟨w.heap.size, 0, none⟩), .pointer (some ⟨w1.heap.size, 0, none⟩)] 40)
  have z1 : (w2.alloc (.cells #[.pointer (some ⟨w.heap.size, 0, none⟩), .pointer (some ⟨w1.heap.size, 0, none⟩)] 40)).heap.size = w2.heap.size + 1 := by simp
  have b2 := (hb.below hw2).below e1
  have r2 := hr.below e1
  have y1 := hb.lt
  have y2 := hr.lt
  have y3 := hw.size
  have y4 := hw2.size
  generalize w2.alloc (.cells #[.pointer (some ⟨w.heap.size, 0, none⟩), .pointer (some ⟨w1.heap.size, 0, none⟩)] 40) = W at e1 p1 z1 b2 r2
  have e2 : Below W.heap.size W (W.alloc (.cells #[.pointer (some ⟨w.heap.size, 0, none⟩), .pointer (some ⟨w1.heap.size, 0, none⟩)] 40)) := (Below.refl _ _).alloc (Nat.le_refl _) _
  have p2 := heap_alloc_new W (.cells #[.pointer (some ⟨w.heap.size, 0, none⟩), .pointer (some ⟨w1.heap.size, 0, none⟩)] 40)
  rw [z1] at p2
  exact ⟨b2.below e2, r2.below e2, b2.below e2, r2.below e2, .inl ⟨rfl, rfl, rfl⟩, (e2.block _ (by omega)).trans p1, p2, ⟨Nat.le_refl _, by omega, Nat.le_refl _, by omega, by omega, by omega, by omega⟩, hw.trans ((hw2.mono (by omega)).trans ((e1.mono (by omega)).trans (e2.mono (by omega))))⟩

theorem steps_at {N : Nat} {w : World} {oa : Option Addr} {cap : Nat} {L : List St} (h : StepsAt N w (.slice oa L.length cap) L) : ∀ j (hj : j < L.length), ∃ b o, oa = some ⟨b, o, none⟩ ∧ b < w.heap.size ∧ (w.cell? ⟨b, o + j * 4, none⟩ = some (.int .i64 L[j].k) ∧ w.cell? ⟨b, o + j * 4 + 1, none⟩ = some (.int .i64 L[j].n) ∧ w.cell? ⟨b, o + j * 4 + 2, none⟩ = some (.int .i64 L[j].m) ∧ w.cell? ⟨b, o + j * 4 + 3, none⟩ = some L[j].ev) ∧ EdsAt w L[j].ev L[j].es ∧ L[j].es.length ≤ N := by
  intro j hj
  rcases h with ⟨rfl, _⟩ | ⟨b, o, cap', hv, hb, h⟩
  · simp at hj
  · simp only [Value.slice.injEq] at hv
    exact ⟨b, o, hv.1, hb, h j hj⟩

set_option maxRecDepth 100000 in
set_option maxHeartbeats 8000000 in
theorem script_row (s : ByteArray) (oa : Option Addr) (vcap : Nat) (L : List St) (w : World) (h : StepsAt 140737488355328 w (.slice oa L.length vcap) L) (hL0 : L.length ≤ 140737488355328) :
    Calls Try.prog 4 #[.string s, .slice oa L.length vcap] w fun e w' => e = .returned (.bool true) ∧ Below w.heap.size w w' := by
  have HBY := Lib.hid (beyond_any s _ L w h hL0)
  have HST0 := Lib.hid (steps_at h)
  clear h
  go_enter Try.func4, Try.ntmps4
  go_wp2_with fail
  refine (HBY.out).mono ?_
  rintro e wa ⟨he, rfl⟩
  rcases he with ⟨rfl, hsh⟩ | rfl
  case inr =>
    go_wp2_with fail
    go_ret
    exact ⟨rfl, Below.refl _ _⟩
  case inl =>
    obtain ⟨hL, hes⟩ := hsh
    have HST := Lib.hid (fun (j : Nat) (hj : j < L.length) => by
      obtain ⟨b, o, x, y, z, t, _⟩ := HST0.out j hj
      exact (⟨b, o, x, y, z, t, hes j hj⟩ : ∃ b o, oa = some ⟨b, o, none⟩ ∧ b < w.heap.size ∧ (w.cell? ⟨b, o + j * 4, none⟩ = some (.int .i64 L[j].k) ∧ w.cell? ⟨b, o + j * 4 + 1, none⟩ = some (.int .i64 L[j].n) ∧ w.cell? ⟨b, o + j * 4 + 2, none⟩ = some (.int .i64 L[j].m) ∧ w.cell? ⟨b, o + j * 4 + 3, none⟩ = some L[j].ev) ∧ EdsAt w L[j].ev L[j].es ∧ L[j].es.length ≤ 16777216))
    clear hes HST0
    by_cases hs : s.size ≤ 16384
    · go_wp2_with fail
      refine (new_any s _ hs).mono ?_
      rintro e w1 ⟨rfl, hb, hw⟩
      have HB := Lib.hid hb
      have HW := Lib.hid hw
      clear hb hw
      go_wp2_with fail
      refine (refNew_any s _ hs).mono ?_
      rintro e w2 ⟨rfl, hr, hw2⟩
      have H0 := Lib.hid (Law.start HB.out HW.out hr hw2)
      clear hr hw2 HB HW
      go_wp2_with fail
      go_loopw [11] (fun i wr => ∃ (j g h g2 h2 : Nat) (s s2 : ByteArray), i = .int .i64 j ∧ j ≤ L.length ∧ Law w w2.heap.size (w2.heap.size + 1) g h g2 h2 s s2 wr)
        (fun i _ => L.length - (intOf i).toNat)
      case atStart => exact ⟨0, _, _, _, _, s, s, rfl, Nat.zero_le _, H0.out⟩
      case round =>
        obtain ⟨j, g, h, g2, h2, s, s2, rfl, hj, hl⟩ := hrel
        clear H0
        by_cases hlt : j < L.length
        · obtain ⟨b, o, rfl, hbw, ⟨c0, c1, c2, c3⟩, he, hn⟩ := HST.out j hlt
          have d0 := (hl.below.cell (p := ⟨b, o + j * 4, none⟩) hbw).trans c0
          have d1 := (hl.below.cell (p := ⟨b, o + j * 4 + 1, none⟩) hbw).trans c1
          have d2 := (hl.below.cell (p := ⟨b, o + j * 4 + 2, none⟩) hbw).trans c2
          have d3 := (hl.below.cell (p := ⟨b, o + j * 4 + 3, none⟩) hbw).trans c3
          obtain ⟨st, hst⟩ : ∃ st, L[j] = st := ⟨_, rfl⟩
          rw [hst] at d0 d1 d2 d3 he hn
          clear hst c0 c1 c2 c3
          obtain ⟨kk, n, m, ev, es⟩ := st
          simp only at d0 d1 d2 d3 he hn
          obtain ⟨ea, ec, rfl⟩ := he.slice
          have HE := Lib.hid he
          clear he HST HBY
          have hEl : Below wr.heap.size wr (wr.alloc (.cells #[.int .i64 kk, .int .i64 n, .int .i64 m, .slice ea es.length ec] 43)) := (Below.refl _ _).alloc (Nat.le_refl _) _
          have lE := hl.later hEl
          have sE := heap_alloc_new wr (.cells #[.int .i64 kk, .int .i64 n, .int .i64 m, .slice ea es.length ec] 43)
          have HLW := Lib.hid hl
          clear hl hEl
          go_upto_region 15 with (fail)
          obtain ⟨wE, hwE⟩ : ∃ wE, wr.alloc (.cells #[.int .i64 kk, .int .i64 n, .int .i64 m, .slice ea es.length ec] 43) = wE := ⟨_, rfl⟩
          rw [hwE] at lE sE ⊢
          clear hwE d0 d1 d2 d3
          have LE := Lib.hid lE
          have SE := Lib.hid sE
          obtain ⟨x0, x1, x2, x3⟩ := step_cells sE
          clear lE sE
          by_cases k0 : kk = 0
          · subst k0
            have hBs := LE.out.below.size
            go_wp2_with fail
            refine (lent_any _ es _ (HE.out.below LE.out.below) (by omega)).mono ?_
            rintro e w3 ⟨v', rfl, row, bel⟩
            have hlen : (es ++ [markE, behindE]).length = es.length + 2 := by simp
            obtain ⟨X, cap, cur, rfl, hBX, hX, _, _⟩ := row.shape (by omega)
            rw [hlen] at row ⊢
            clear hlen
            have L3 := Lib.hid (LE.out.later bel)
            have hh : Held wr.heap.size X wE.heap.size cap 0 n m (.slice ea es.length ec) es w3 := ⟨row, (bel.block _ (Array.getElem?_eq_some_iff.1 SE.out).1).trans SE.out⟩
            have HH := Lib.hid hh
            have y3 := hh.cell
            have hroom := hh.room
            obtain ⟨p0, p1, _, _⟩ := L3.out.cells
            clear row bel hX hBX x0 x1 x2 x3 hh
            have hsz : s.size ≤ 16384 := by
              have := L3.out.b1.short
              rw [size_data] at this
              exact this
            obtain ⟨cd, hcd⟩ : ∃ cd, codeOf s.size es = cd := ⟨_, rfl⟩
            have A := Lib.hid (fun W (x : Law w w2.heap.size (w2.heap.size + 1) g h g2 h2 s s2 W) (y : Held wr.heap.size X wE.heap.size cap 0 n m (.slice ea es.length ec) es W) => do_apply hn W x y)
            have R := Lib.hid (fun W (x : Half w w2.heap.size (w2.heap.size + 1) g h g2 h2 s s2 es W) (y : Held wr.heap.size X wE.heap.size cap 0 n m (.slice ea es.length ec) es W) => do_ref hn HE.out W x y hsz)
            have C := Lib.hid (fun W (s s2 : ByteArray) (x : Law w w2.heap.size (w2.heap.size + 1) g h g2 h2 s s2 W) (y : Held wr.heap.size X wE.heap.size cap 0 n m (.slice ea es.length ec) es W) => do_still hn HE.out hBs W x y)
            rw [hcd] at A R
            have i0 : (0 : Int) ≤ (es.length : Int) := by omega
            have i1 : (es.length : Int) ≤ (cap : Int) := by omega
            clear hcd hsz hroom hBs HLW HE
            go_wp2_with fail
            go_cut [81] (fun u wx => u = .bool false ∧ ∃ s' s2', Law w w2.heap.size (w2.heap.size + 1) g h g2 h2 s' s2' wx ∧ wx.heap[wr.heap.size]? = some (.cells #[.int .i64 0, .int .i64 n, .int .i64 m, .slice ea es.length ec] 43 (0, 0)))
            case first =>
              go_region_held3 (fun W' => W'.cell? ⟨w2.heap.size, 0, none⟩ = some (.pointer (some ⟨g, 0, none⟩)) ∧ W'.cell? ⟨w2.heap.size, 1, none⟩ = some (.pointer (some ⟨h, 0, none⟩)) ∧ W'.cell? ⟨wr.heap.size, 3, none⟩ = some (.slice ea es.length ec))
                (first | exact ⟨c0, c1, c3⟩ | exact ⟨b0, b1, b3⟩ | exact ⟨a0, a1, a3⟩ | exact ⟨p0, p1, y3⟩ | go_keep)
                (first
                  | (go_at_call 14; refine (A.out _ ?_ ?_).mono ?_; exact L3.out.later (Below.refl _ _).drew; exact HH.out.below (Below.refl _ _).drew; rintro e w4 ⟨rfl, r1, r2⟩; obtain ⟨a0, a1⟩ := r1.cells; have a3 := r2.cell)
                  | (go_at_call 15; refine (R.out _ ?_ ?_).mono ?_; exact r1; exact r2; rintro e w5 ⟨rfl, ⟨s', s2', r3⟩, r4⟩; obtain ⟨b0, b1, _, _⟩ := r3.cells; have b3 := r4.cell)
                  | (go_at_call 16; refine (C.out _ s' s2' ?_ ?_).mono ?_; exact r3; exact r4; rintro e w6 ⟨rfl, r5, r6⟩; obtain ⟨c0, c1, _, _⟩ := r5.cells; have c3 := (step_cells r6).2.2.2))
              all_goals (try go_wp2_with fail)
              all_goals go_meet
              all_goals exact ⟨rfl, s', s2', r5, r6⟩
            case rest =>
              obtain ⟨rfl, s', s2', r5, r6⟩ := hcut
              have L4 := Lib.hid r5
              have S4 := Lib.hid r6
              clear r5 r6 A R C p0 p1 y3 i0 i1
              obtain ⟨p0, p1, q0, q1⟩ := L4.out.cells
              obtain ⟨x0, x1, x2, x3⟩ := step_cells S4.out
              go_wp2_with fail
              refine (asks_any _ _ _ _ n m _ _ L4.out.b1 L4.out.r1 rfl 0).mono ?_
              rintro e w5 ⟨rfl, ab, _, asv⟩
              have L5 := Lib.hid (L4.out.save asv ab)
              clear ab asv p0 p1 q0 q1 x0 x1 x2 x3
              obtain ⟨p0, p1, q0, q1⟩ := L5.out.cells
              go_wp2_with fail
              refine (same_any _ _ _ _ _ L5.out.b1 L5.out.r1 rfl).mono ?_
              rintro e w6 ⟨rfl, ab, _, asv⟩
              have L6 := Lib.hid (L5.out.save asv ab)
              clear ab asv p0 p1 q0 q1
              obtain ⟨p0, p1, q0, q1⟩ := L6.out.cells
              go_wp2_with fail
              refine (same_any _ _ _ _ _ L6.out.b2 L6.out.r2 rfl).mono ?_
              rintro e w7 ⟨rfl, ab, _, asv⟩
              have L7 := Lib.hid (L6.out.swap.save asv ab).swap
              clear ab asv p0 p1 q0 q1
              go_wp2_with fail
              go_roundw
              case rel => exact ⟨j + 1, _, _, _, _, _, _, by go_num, hlt, L7.out⟩
              case measure => simp [intOf]; omega
          · by_cases k5 : kk = 5
            · subst k5
              obtain ⟨p0, p1, q0, q1⟩ := LE.out.cells
              have f1 := LE.out.free.2
              have zz : ∀ a b, ((wE.setCell ⟨w2.heap.size + 1, 0, none⟩ a).setCell ⟨w2.heap.size + 1, 1, none⟩ b).heap.size = wE.heap.size := fun a b => by simp [World.setCell]
              go_wp2_with fail
              refine (clone_any _ _ _ LE.out.left).mono ?_
              rintro e w4 ⟨rfl, cb, cw⟩
              obtain ⟨y0, y1, y2, y3, y4⟩ := LE.out.between SE.out cw
              have L4 := Lib.hid (LE.out.cloned cb cw)
              have S4 := Lib.hid y4
              have hPl := World.block_lt_of_cell? w4 _ y3
              have v0 : ∀ ob : Obj, (w4.alloc ob).cell? ⟨w2.heap.size, 0, none⟩ = some (.pointer (some ⟨g, 0, none⟩)) := fun ob => (((Below.refl w4.heap.size w4).alloc (Nat.le_refl _) ob).cell (p := ⟨w2.heap.size, 0, none⟩) hPl).trans y3
              have v1 : ∀ ob : Obj, (w4.alloc ob).cell? ⟨w2.heap.size, 1, none⟩ = some (.pointer (some ⟨h, 0, none⟩)) := fun ob => (((Below.refl w4.heap.size w4).alloc (Nat.le_refl _) ob).cell (p := ⟨w2.heap.size, 1, none⟩) hPl).trans y0
              have v2 : ∀ (ob : Obj) (i : Nat), (w4.alloc ob).frozen? ⟨w2.heap.size, i, none⟩ = false := fun ob i => by
                have := ((Below.refl w4.heap.size w4).alloc (Nat.le_refl _) ob).block _ hPl
                have e := y2 i
                simp only [World.frozen?] at e ⊢
                rw [this]
                exact e
              clear cb cw y4 p0 p1 q0 q1 x0 x1 x2 x3
              rw [zz]
              go_upto_region 26 with (fail)
              obtain ⟨p0, p1, q0, q1⟩ := L4.out.cells
              obtain ⟨x0, x1, x2, x3⟩ := step_cells S4.out
              clear y0 y1 y2 y3 hPl v0 v1 v2
              generalize ((w4.setCell ⟨w2.heap.size, 0, none⟩ (.pointer (some ⟨wE.heap.size, 0, none⟩))).setCell ⟨w2.heap.size, 1, none⟩ (.pointer (some ⟨w4.heap.size, 0, none⟩))).alloc (.cells #[.string s] 49) = wG at *
              go_wp2_with fail
              refine (asks_any _ _ _ _ n m _ _ L4.out.b1 L4.out.r1 rfl 5).mono ?_
              rintro e w5 ⟨rfl, ab, _, asv⟩
              have L5 := Lib.hid (L4.out.save asv ab)
              clear ab asv p0 p1 q0 q1 x0 x1 x2 x3
              obtain ⟨p0, p1, q0, q1⟩ := L5.out.cells
              go_wp2_with fail
              refine (same_any _ _ _ _ _ L5.out.b1 L5.out.r1 rfl).mono ?_
              rintro e w6 ⟨rfl, ab, _, asv⟩
              have L6 := Lib.hid (L5.out.save asv ab)
              clear ab asv p0 p1 q0 q1
              obtain ⟨p0, p1, q0, q1⟩ := L6.out.cells
              go_wp2_with fail
              refine (same_any _ _ _ _ _ L6.out.b2 L6.out.r2 rfl).mono ?_
              rintro e w7 ⟨rfl, ab, _, asv⟩
              have L7 := Lib.hid (L6.out.swap.save asv ab).swap
              clear ab asv p0 p1 q0 q1
              go_wp2_with fail
              go_roundw
              case rel => exact ⟨j + 1, _, _, _, _, _, _, by go_num, hlt, L7.out⟩
              case measure => simp [intOf]; omega
            · have t0 : (kk == 0) = false := beq_eq_false_iff_ne.2 k0
              have t5 : (kk == 5) = false := beq_eq_false_iff_ne.2 k5
              clear x0 x1 x2 x3
              have KS := step_cells SE.out
              clear KS
              obtain ⟨p0, p1, q0, q1⟩ := LE.out.cells
              obtain ⟨x0, x1, x2, x3⟩ := step_cells SE.out
              go_wp2_with fail
              refine (asks_any _ _ _ _ n m _ _ LE.out.b1 LE.out.r1 rfl kk).mono ?_
              rintro e w5 ⟨rfl, ab, _, asv⟩
              have L5 := Lib.hid (LE.out.save asv ab)
              have S5 := Lib.hid (LE.out.step_kept SE.out asv)
              clear ab asv p0 p1 q0 q1 x0 x1 x2 x3
              obtain ⟨p0, p1, q0, q1⟩ := L5.out.cells
              go_wp2_with fail
              refine (same_any _ _ _ _ _ L5.out.b1 L5.out.r1 rfl).mono ?_
              rintro e w6 ⟨rfl, ab, _, asv⟩
              have L6 := Lib.hid (L5.out.save asv ab)
              clear ab asv p0 p1 q0 q1
              obtain ⟨p0, p1, q0, q1⟩ := L6.out.cells
              go_wp2_with fail
              refine (same_any _ _ _ _ _ L6.out.b2 L6.out.r2 rfl).mono ?_
              rintro e w7 ⟨rfl, ab, _, asv⟩
              have L7 := Lib.hid (L6.out.swap.save asv ab).swap
              clear ab asv p0 p1 q0 q1
              go_wp2_with fail
              go_roundw
              case rel => exact ⟨j + 1, _, _, _, _, _, _, by go_num, hlt, L7.out⟩
              case measure => simp [intOf]; omega
        · obtain ⟨p0, p1, q0, q1⟩ := hl.cells
          have HLW := Lib.hid hl
          clear hl HST HBY
          go_wp2_with fail
          refine (same_any _ _ _ _ _ HLW.out.b1 HLW.out.r1 rfl).mono ?_
          rintro e w6 ⟨rfl, ab, _, asv⟩
          have L6 := Lib.hid (HLW.out.save asv ab)
          clear ab asv p0 p1 q0 q1
          obtain ⟨p0, p1, q0, q1⟩ := L6.out.cells
          go_wp2_with fail
          refine (same_any _ _ _ _ _ L6.out.b2 L6.out.r2 rfl).mono ?_
          rintro e w7 ⟨rfl, ab, _, asv⟩
          have L7 := Lib.hid (L6.out.swap.save asv ab).swap
          clear ab asv p0 p1 q0 q1
          go_wp2_with fail
          go_ret
          exact ⟨rfl, L7.out.below⟩
    · go_wp2_with fail
      refine (new_long s _ (by omega)).mono ?_
      rintro e w1 ⟨rfl, rfl⟩
      go_wp2_with fail
      refine (refNew_long s _ (by omega)).mono ?_
      rintro e w1 ⟨rfl, rfl⟩
      go_wp2_with fail
      go_ret
      exact ⟨rfl, Below.refl _ _⟩
end Go.Proofs.Yteocdcknfhlfgaa.buf
