/-
  The contract of Apply.
-/
import Derived.Test.YteocdcknfhlfgaaOrder
import Derived.Deep.RegionWith
import Derived.Deep.DeepCutAuto
import Derived.Deep.Cut
import Derived.Deep.CutRange
import Derived.StillTailTactics
namespace Go.Proofs.Yteocdcknfhlfgaa.buf
open Go.RowKit

/-- How far the edits have been gone through: what stands in the pieces, and what is still to come. -/
structure AppFar (T : List UInt8) (l : List Ed) (k p : Nat) (c : List ByteArray) : Prop where
  le : k ≤ l.length
  at_le : p ≤ T.length
  ord : orderB T.length p (l.drop k) = true
  text : textOf c ++ upd T p (l.drop k) = upd T 0 l
  few : c.length ≤ 65 * k
theorem AppFar.zero {T : List UInt8} {l : List Ed} (ho : orderB T.length 0 l = true) : AppFar T l 0 0 [] := ⟨Nat.zero_le _, Nat.zero_le _, ho, rfl, Nat.le_refl _⟩
theorem AppFar.head {T : List UInt8} {l : List Ed} {k p : Nat} {c : List ByteArray} (h : AppFar T l k p c) (hk : k < l.length) : (p : Int) ≤ l[k].a ∧ l[k].a ≤ l[k].b ∧ l[k].b ≤ T.length := by
  have h4 := h.ord
  rw [drop_head hk] at h4
  obtain ⟨a, b, d, e, _⟩ := order_cons h4
  exact ⟨e, b, d⟩
theorem AppFar.step {T : List UInt8} {l : List Ed} {k p q : Nat} {c c' : List ByteArray} (h : AppFar T l k p c) (hk : k < l.length) (hq : (q : Int) = l[k].b) (a : Nat) (ha : (a : Int) = l[k].a) (ht : textOf c' = textOf c ++ (T.take a).drop p) (hc : c'.length ≤ c.length + 64) :
    AppFar T l (k + 1) q (addL c' l[k].s) := by
  have h4 := h.ord
  have h5 := h.text
  rw [drop_head hk] at h4 h5
  obtain ⟨x, b, d, e, f⟩ := order_cons h4
  have hf := h.few
  refine ⟨hk, by omega, by rw [hq]; exact f, ?_, by have := addL_length c' l[k].s; omega⟩
  rw [← h5, textOf_addL, ht]
  simp only [upd, List.append_assoc]
  rw [List.drop_take, show l[k].a.toNat = a by omega, show l[k].b.toNat = q by omega]
theorem AppFar.last {T : List UInt8} {l : List Ed} {k p : Nat} {c c' : List ByteArray} (h : AppFar T l k p c) (hk : ¬ k < l.length) (ht : textOf c' = textOf c ++ (T.take T.length).drop p) : textOf c' = upd T 0 l := by
  have h5 := h.text
  rw [List.drop_of_length_le (by omega)] at h5
  rw [ht, ← h5, List.take_length]
  rfl

set_option maxRecDepth 100000 in
set_option maxHeartbeats 4000000 in
theorem apply_row (g b o cap : Nat) (T : List UInt8) (l : List Ed) (w : World) (h : BufAt w g T) (hb : b < w.heap.size) (hl : l.length ≤ 4294967296)
    (hc : ∀ j (hj : j < l.length), w.cell? ⟨b, o + j * 3, none⟩ = some (.int .i64 l[j].a) ∧ w.cell? ⟨b, o + j * 3 + 1, none⟩ = some (.int .i64 l[j].b) ∧ w.cell? ⟨b, o + j * 3 + 2, none⟩ = some (.string l[j].s))
    (ho : orderB T.length 0 l = true) (hf : fitsB T.length l = true) :
    Calls Try.prog 14 #[.pointer (some ⟨g, 0, none⟩), .slice (some ⟨b, o, none⟩) l.length cap] w fun e w' => e = .returned (.int .i64 0) ∧ BufAt w' g (upd T 0 l) ∧ Save w.heap.size g w w' := by
  have hT := h.short
  have H := Lib.hid h
  have he : EdsAt w (.slice (some ⟨b, o, none⟩) l.length cap) l := .inr ⟨b, o, cap, rfl, hb, hc⟩
  have HE := Lib.hid he
  have HC := Lib.hid hc
  have HO := Lib.hid ho
  have HF := Lib.hid hf
  obtain ⟨pv, ps, pd, pp, h6, hv, hps, hpt, _, _⟩ := h
  have hg := h6.lt
  obtain ⟨oa, pcap, rfl⟩ := hv.slice
  have H6 := Lib.hid h6
  have HV := Lib.hid hv
  have HPT := Lib.hid hpt
  clear h6 hv hpt he hc ho hf
  go_enter Try.func14, Try.ntmps14
  go_wp2_with fail
  refine (inOrder_any g _ T l _ H.out HE.out (by omega)).mono ?_
  rintro e w1 ⟨rfl, hb1⟩
  rw [HO.out]
  have HB1 := Lib.hid hb1
  clear hb1
  go_wp2_with fail
  refine (lens_any g _ T l _ (H.out.below HB1.out) (HE.out.below HB1.out) (by omega) HO.out).mono ?_
  rintro e w2 ⟨⟨z, rfl, hz⟩, hb2⟩
  rw [HF.out]
  have hz' := hz HF.out
  have HZ := Lib.hid hz'
  have HB2 := Lib.hid (HB1.out.trans (hb2.mono HB1.out.size))
  clear hb2 hz hz' HB1
  go_wp2_with fail
  go_loopw [7, 8, 25] (fun u pz i wr => ∃ (k p : Nat) (c : List ByteArray), i = .int .i64 k ∧ pz = .int .i64 p ∧ AppFar T l k p c ∧ Strs wr w.heap.size u c ∧ Below w.heap.size w wr)
    (fun _ _ i _ => l.length - (intOf i).toNat)
  case atStart => exact ⟨0, 0, [], rfl, rfl, AppFar.zero HO.out, Strs.nil _ _, HB2.out⟩
  case round =>
    obtain ⟨k, p, c, rfl, rfl, hA, hown, hbw⟩ := hrel
    have hk := hA.le
    have hfew := hA.few
    have hpT := hA.at_le
    have HA := Lib.hid hA
    have HS := Lib.hid hown
    have HB := Lib.hid hbw
    have hsz := hbw.size
    have c6 := (HB.out.cell (p := ⟨g, 0, none⟩) hg).trans H6.out.cells.1
    have c61 := (HB.out.cell (p := ⟨g, 1, none⟩) hg).trans H6.out.cells.2.1
    clear hA hown hbw HB2
    by_cases hlt : k < l.length
    · obtain ⟨c0, c1, c2⟩ := HC.out k hlt
      have d0 := (HB.out.cell (p := ⟨b, o + k * 3, none⟩) hb).trans c0
      have d1 := (HB.out.cell (p := ⟨b, o + k * 3 + 1, none⟩) hb).trans c1
      have d2 := (HB.out.cell (p := ⟨b, o + k * 3 + 2, none⟩) hb).trans c2
      clear c0 c1 c2
      obtain ⟨y1, y2, y3⟩ := HA.out.head hlt
      obtain ⟨e, he⟩ : ∃ e, l[k] = e := ⟨_, rfl⟩
      rw [he] at d0 d1 d2 y1 y2 y3
      have HEL := Lib.hid he
      clear he
      obtain ⟨a, b', s⟩ := e
      simp only at d0 d1 d2 y1 y2 y3
      obtain ⟨a, rfl⟩ := Int.eq_ofNat_of_zero_le (show 0 ≤ a by omega)
      obtain ⟨b', rfl⟩ := Int.eq_ofNat_of_zero_le (show 0 ≤ b' by omega)
      have hsz2 := HB.out.size
      obtain ⟨wz, hwz⟩ : ∃ wz, wr.alloc (.cells #[.int .i64 (a : Int), .int .i64 (b' : Int), .string s] 60) = wz := ⟨_, rfl⟩
      have hm : Mine wr.heap.size wr wz := by rw [← hwz]; exact (Mine.refl _ _).alloc (Nat.le_refl _) _
      have hnew : wz.heap[wr.heap.size]? = some (.cells #[.int .i64 (a : Int), .int .i64 (b' : Int), .string s] 60 (0, 0)) := by rw [← hwz]; exact heap_alloc_new wr _
      have cE : ∀ W : World, Below wz.heap.size wz W → Calls Try.prog 28 #[u7, .slice oa ps.length pcap, .int .i64 (p : Int), .int .i64 (a : Int)] W fun e w' => ∃ v' c', e = .returned v' ∧ Strs w' w.heap.size v' c' ∧ textOf c' = textOf c ++ (T.take a).drop p ∧ c'.length ≤ c.length + 64 ∧ Below w.heap.size w w' ∧ w'.heap[wr.heap.size]? = some (.cells #[.int .i64 (a : Int), .int .i64 (b' : Int), .string s] 60 (0, 0)) := fun W hW => by
        have hWr : Below wr.heap.size wr W := hm.below.trans (hW.mono hm.below.size)
        have hWw := HB.out.trans (hWr.mono hsz2)
        refine (cut_row w.heap.size u7 _ c ps p a W hWw.size (row_below HS.out hWr) (by omega) (row_below HV.out hWw) (fun k hk => (World.ownsRow.lt HV.out k hk).2) (by omega) (by omega) (by rw [HPT.out]; omega) (by omega)).mono ?_
        rintro e w' ⟨v', c', he, h1, h2, h3, h4⟩
        rw [HPT.out] at h2
        refine ⟨v', c', he, h1, h2, by omega, hWw.trans h4.below, h4.keeps _ _ ?_ (by intro cs f hh; cases hh)⟩
        exact (hW.block _ (Array.getElem?_eq_some_iff.1 hnew).1).trans hnew
      have CE := Lib.hid cE
      clear cE hm hnew hsz2
      go_wp2_with fail
      have hcz : wz.cell? ⟨wr.heap.size, 0, none⟩ = some (.int .i64 (a : Int)) := by rw [← hwz]; simp
      have hcg : wz.cell? ⟨g, 0, none⟩ = some (.slice oa ps.length pcap) := by rw [← hwz]; exact (((Below.refl wr.heap.size wr).alloc (Nat.le_refl _) _).cell (p := ⟨g, 0, none⟩) (show g < wr.heap.size by omega)).trans c6
      clear hwz
      go_cut [7] (fun u wx => ∃ c', Strs wx w.heap.size u c' ∧ textOf c' = textOf c ++ (T.take a).drop p ∧ c'.length ≤ c.length + 64 ∧ Below w.heap.size w wx ∧ wx.heap[wr.heap.size]? = some (.cells #[.int .i64 (a : Int), .int .i64 (b' : Int), .string s] 60 (0, 0)))
      case first =>
        go_region_with (go_at_call 28; refine (CE.out _ ?_).mono ?_; exact (Below.refl _ _).drew; rintro e w3 ⟨v', c', rfl, r⟩)
        all_goals (try go_wp2_with fail)
        all_goals go_meet
        all_goals exact ⟨c', r⟩
      case rest =>
        obtain ⟨c', r1, r2, r3, r4, r5⟩ := hcut
        have k1 : wc.cell? ⟨wr.heap.size, 1, none⟩ = some (.int .i64 (b' : Int)) := by simp [World.cell?, r5]
        have k2 : wc.cell? ⟨wr.heap.size, 2, none⟩ = some (.string s) := by simp [World.cell?, r5]
        have R1 := Lib.hid r1
        have R2 := Lib.hid r2
        have R4 := Lib.hid r4
        have R5 := Lib.hid r5
        have hz4 := r4.size
        clear r1 r2 r4 r5 hcz hcg CE HS HB
        go_wp2_with fail
        refine (add_any w.heap.size _ c' s _ hz4 R1.out (by omega)).mono ?_
        rintro e w4 ⟨v4, rfl, a1, a2⟩
        have k3 : w4.cell? ⟨wr.heap.size, 1, none⟩ = some (.int .i64 (b' : Int)) := by
          have := a2.keeps _ _ R5.out (by intro cs f hh; cases hh)
          simp [World.cell?, this]
        have A1 := Lib.hid a1
        have A2 := Lib.hid (R4.out.trans a2.below)
        clear a1 a2 k1 k2 R4 R5
        go_wp2_with fail
        go_roundw
        case rel =>
          have hst := HA.out.step hlt (q := b') (c' := c') (by rw [HEL.out]) a (by rw [HEL.out]) R2.out r3
          rw [HEL.out] at hst
          exact ⟨k + 1, b', addL c' s, by go_num, rfl, hst, A1.out, A2.out⟩
        case measure => simp [intOf]; omega
    · have hlen := upd_length (T := T) (l := l) (c := 0) (Nat.zero_le _) HO.out
      have hfit : (T.length : Int) - gone l + (put l : Int) ≤ 16384 := of_decide_eq_true HF.out
      have hzl : z = ((upd T 0 l).length : Nat) := by rw [HZ.out]; omega
      have hshort : (upd T 0 l).length ≤ 16384 := by omega
      have cE : ∀ W : World, Below wr.heap.size wr W → Calls Try.prog 28 #[u7, .slice oa ps.length pcap, .int .i64 (p : Int), .int .i64 (T.length : Int)] W fun e w' => ∃ v' c', e = .returned v' ∧ Strs w' w.heap.size v' c' ∧ textOf c' = upd T 0 l ∧ c'.length ≤ 1099511627776 ∧ Below w.heap.size w w' := fun W hW => by
        have hWw := HB.out.trans (hW.mono hsz)
        refine (cut_row w.heap.size u7 _ c ps p T.length W hWw.size (row_below HS.out hW) (by omega) (row_below HV.out hWw) (fun k hk => (World.ownsRow.lt HV.out k hk).2) (by omega) (by omega) (by rw [HPT.out]; omega) (by omega)).mono ?_
        rintro e w' ⟨v', c', he, h1, h2, h3, h4⟩
        rw [HPT.out] at h2
        exact ⟨v', c', he, h1, HA.out.last hlt h2, by omega, hWw.trans h4.below⟩
      have sE : ∀ (W : World) (v' : Value) (c' : List ByteArray), Strs W w.heap.size v' c' → textOf c' = upd T 0 l → c'.length ≤ 1099511627776 → Below w.heap.size w W →
          Calls Try.prog 24 #[.pointer (some ⟨g, 0, none⟩), v', .int .i64 z] W fun e w' => e = .returned (.tuple #[]) ∧ BufAt w' g (upd T 0 l) ∧ Save w.heap.size g w w' := fun W v' c' h1 h2 h3 h4 => by
        have h6 := (h4.block g hg).trans H6.out
        rw [hzl]
        refine (set_any w.heap.size g v' c' _ _ _ _ _ _ _ W h6 hg h4.size h1 h3 (by rw [h2]; omega)).mono ?_
        rintro e w' ⟨he, hd⟩
        have hd' := hd.buf h2 hshort
        exact ⟨he, hd'.1, (Save.of h4).trans hd'.2⟩
      have CE := Lib.hid cE
      have SE := Lib.hid sE
      clear cE sE hzl hlen hfit
      go_wp2_with fail
      go_cut [] (fun wx => BufAt wx g (upd T 0 l) ∧ Save w.heap.size g w wx)
      case first =>
        go_region_with (first | (go_at_call 28; refine (CE.out _ ?_).mono ?_; exact (Below.refl _ _).drew; rintro e w3 ⟨v', c', rfl, r1, r2, r3, r4⟩) | (go_at_call 24; refine (SE.out _ _ c' r1 r2 r3 r4).mono ?_; rintro e w4 ⟨rfl, q⟩))
        all_goals (try go_wp2_with fail)
        all_goals go_meet
        all_goals exact q
      case rest =>
        have Q := Lib.hid hcut
        clear hcut
        go_wp2_with fail
        go_ret
        exact ⟨rfl, Q.out⟩
end Go.Proofs.Yteocdcknfhlfgaa.buf
