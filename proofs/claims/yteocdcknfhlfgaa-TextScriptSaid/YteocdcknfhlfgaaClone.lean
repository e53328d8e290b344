/-
  The contract of Clone.
-/
import Derived.Test.YteocdcknfhlfgaaApplies
namespace Go.Proofs.Yteocdcknfhlfgaa.buf
open Go.RowKit

set_option maxRecDepth 100000 in
set_option maxHeartbeats 2000000 in
theorem clone_any (g : Nat) (T : List UInt8) (w : World) (h : BufAt w g T) :
    Calls Try.prog 17 #[.pointer (some ⟨g, 0, none⟩)] w fun e w' => e = .returned (.pointer (some ⟨w.heap.size, 0, none⟩)) ∧ BufAt w' w.heap.size T ∧ Below w.heap.size w w' := by
  have hT := h.short
  obtain ⟨pv, ps, pd, pp, h6, hv, hps, hpt, _, _⟩ := h
  have hg := h6.lt
  obtain ⟨oa, pcap, rfl⟩ := hv.slice
  have H6 := Lib.hid h6
  have HV := Lib.hid hv
  have HPT := Lib.hid hpt
  clear h6 hv hpt
  have hzb : Below w.heap.size w (w.alloc (.cells #[.slice none 0 0, .int .i64 0, .int .u32 0, .int .i32 0, .int .u32 0, .slice none 0 0] 79)) := (Below.refl _ _).alloc (Nat.le_refl _) _
  have hz6 : Six (w.alloc (.cells #[.slice none 0 0, .int .i64 0, .int .u32 0, .int .i32 0, .int .u32 0, .slice none 0 0] 79)) w.heap.size (.slice none 0 0) (.int .i64 0) (.int .u32 0) (.int .i32 0) (.int .u32 0) (.slice none 0 0) := heap_alloc_new w _
  have hzs : (w.alloc (.cells #[.slice none 0 0, .int .i64 0, .int .u32 0, .int .i32 0, .int .u32 0, .slice none 0 0] 79)).heap.size = w.heap.size + 1 := by simp
  go_enter Try.func17, Try.ntmps17
  go_wp2_with fail
  obtain ⟨wz, hwz⟩ : ∃ wz, w.alloc (.cells #[.slice none 0 0, .int .i64 0, .int .u32 0, .int .i32 0, .int .u32 0, .slice none 0 0] 79) = wz := ⟨_, rfl⟩
  rw [hwz] at hzb hz6 hzs ⊢
  clear hwz
  have c6 := (hzb.cell (p := ⟨g, 0, none⟩) hg).trans H6.out.cells.1
  have c61 := (hzb.cell (p := ⟨g, 1, none⟩) hg).trans H6.out.cells.2.1
  have cE : ∀ W : World, Below wz.heap.size wz W → Calls Try.prog 28 #[.slice none 0 0, .slice oa ps.length pcap, .int .i64 ((0 : Nat) : Int), .int .i64 (T.length : Int)] W fun e w' => ∃ v' c', e = .returned v' ∧ Strs w' (w.heap.size + 1) v' c' ∧ textOf c' = T ∧ c'.length ≤ 1099511627776 ∧ Below (w.heap.size + 1) wz w' ∧ w'.cell? ⟨g, 1, none⟩ = some (.int .i64 (T.length : Nat)) := fun W hW => by
    have hWw := hzb.trans (hW.mono hzb.size)
    have hs2 := hW.size
    refine (cut_row (w.heap.size + 1) _ _ [] ps 0 T.length W (by omega) (Strs.nil _ _) (by simp) (row_below HV.out hWw) (fun k hk => by have := (World.ownsRow.lt HV.out k hk).2; omega) (by omega) (by omega) (by rw [HPT.out]; omega) (by omega)).mono ?_
    rintro e w' ⟨v', c', he, h1, h2, h3, h4⟩
    rw [HPT.out] at h2
    exact ⟨v', c', he, h1, by rw [h2, List.take_length]; rfl, by simp at h3; omega, (hW.mono (by omega)).trans h4.below, (((hW.mono (by omega)).trans h4.below).cell (B := w.heap.size + 1) (p := ⟨g, 1, none⟩) (by show g < _; omega)).trans c61⟩
  have sE : ∀ (W : World) (v' : Value) (c' : List ByteArray), Strs W (w.heap.size + 1) v' c' → textOf c' = T → c'.length ≤ 1099511627776 → Below (w.heap.size + 1) wz W →
      Calls Try.prog 24 #[.pointer (some ⟨w.heap.size, 0, none⟩), v', .int .i64 (T.length : Nat)] W fun e w' => e = .returned (.tuple #[]) ∧ BufAt w' w.heap.size T ∧ Below w.heap.size w w' := fun W v' c' h1 h2 h3 h4 => by
    have h6 := (h4.block w.heap.size (by omega)).trans hz6
    have hs4 := h4.size
    refine (set_any (w.heap.size + 1) w.heap.size v' c' _ _ _ _ _ _ _ W h6 (by omega) (by omega) h1 h3 (by rw [h2]; omega)).mono ?_
    rintro e w' ⟨he, hd⟩
    have hd' := hd.buf h2 hT
    exact ⟨he, hd'.1, hzb.trans ((h4.mono (by omega)).trans (hd'.2.below (by omega) (Nat.le_refl _)))⟩
  have CE := Lib.hid cE
  have SE := Lib.hid sE
  clear cE sE hz6 hzb
  go_cut [] (fun wx => BufAt wx w.heap.size T ∧ Below w.heap.size w wx)
  case first =>
    go_region_with (first | (go_at_call 28; refine (CE.out _ ?_).mono ?_; exact (Below.refl _ _).drew; rintro e w3 ⟨v', c', rfl, r1, r2, r3, r4, r5⟩) | (go_at_call 24; refine (SE.out _ _ c' r1 r2 r3 r4).mono ?_; rintro e w4 ⟨rfl, q⟩))
    all_goals (try go_wp2_with fail)
    all_goals go_meet
    all_goals exact q
  case rest =>
    have Q := Lib.hid hcut
    clear hcut
    go_wp2_with fail
    go_ret
    exact ⟨rfl, Q.out⟩
end Go.Proofs.Yteocdcknfhlfgaa.buf
