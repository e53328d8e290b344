/-
  The contract of Apply, whatever the edits are.
-/
import Derived.Test.YteocdcknfhlfgaaApply
namespace Go.Proofs.Yteocdcknfhlfgaa.buf
open Go.RowKit

def codeOf (n : Nat) (l : List Ed) : Int := if orderB n 0 l = true then (if fitsB n l = true then 0 else 11) else 10
def textBy (T : List UInt8) (l : List Ed) : List UInt8 := if orderB T.length 0 l = true ∧ fitsB T.length l = true then upd T 0 l else T

theorem EdsAt.slice {w : World} {v : Value} {l : List Ed} (h : EdsAt w v l) : ∃ oa cap, v = .slice oa l.length cap := by
  rcases h with ⟨rfl, oa, cap, rfl⟩ | ⟨b, o, cap, rfl, _⟩
  · exact ⟨oa, cap, rfl⟩
  · exact ⟨_, cap, rfl⟩

section
variable (g : Nat) (v : Value) (T : List UInt8) (l : List Ed) (w : World) (h : BufAt w g T) (he : EdsAt w v l) (hl : l.length ≤ 4294967296)
include h he hl

set_option maxRecDepth 100000 in
set_option maxHeartbeats 1000000 in
theorem apply_bad (ho : orderB T.length 0 l = false) :
    Calls Try.prog 14 #[.pointer (some ⟨g, 0, none⟩), v] w fun e w' => e = .returned (.int .i64 10) ∧ Below w.heap.size w w' := by
  have H := Lib.hid h
  have HE := Lib.hid he
  have HO := Lib.hid ho
  clear h he ho
  go_enter Try.func14, Try.ntmps14
  go_wp2_with fail
  refine (inOrder_any g _ T l _ H.out HE.out (by omega)).mono ?_
  rintro e w1 ⟨rfl, hb1⟩
  rw [HO.out]
  have HB1 := Lib.hid hb1
  clear hb1
  go_wp2_with fail
  go_ret
  exact ⟨rfl, HB1.out⟩

set_option maxRecDepth 100000 in
set_option maxHeartbeats 1000000 in
theorem apply_long (ho : orderB T.length 0 l = true) (hf : fitsB T.length l = false) :
    Calls Try.prog 14 #[.pointer (some ⟨g, 0, none⟩), v] w fun e w' => e = .returned (.int .i64 11) ∧ Below w.heap.size w w' := by
  have H := Lib.hid h
  have HE := Lib.hid he
  have HO := Lib.hid ho
  have HF := Lib.hid hf
  clear h he ho hf
  go_enter Try.func14, Try.ntmps14
  go_wp2_with fail
  refine (inOrder_any g _ T l _ H.out HE.out (by omega)).mono ?_
  rintro e w1 ⟨rfl, hb1⟩
  rw [HO.out]
  have HB1 := Lib.hid hb1
  clear hb1
  go_wp2_with fail
  refine (lens_any g _ T l _ (H.out.below HB1.out) (HE.out.below HB1.out) (by omega) HO.out).mono ?_
  rintro e w2 ⟨⟨z, rfl, hz⟩, hb2⟩
  rw [HF.out]
  have HB2 := Lib.hid (HB1.out.trans (hb2.mono HB1.out.size))
  clear hb2 hz HB1
  go_wp2_with fail
  go_ret
  exact ⟨rfl, HB2.out⟩
end

set_option maxRecDepth 100000 in
set_option maxHeartbeats 4000000 in
theorem apply_none (g cap : Nat) (ob : Option Addr) (T : List UInt8) (w : World) (h : BufAt w g T) :
    Calls Try.prog 14 #[.pointer (some ⟨g, 0, none⟩), .slice ob 0 cap] w fun e w' => e = .returned (.int .i64 0) ∧ BufAt w' g T ∧ Save w.heap.size g w w' := by
  have hT := h.short
  have H := Lib.hid h
  have he : EdsAt w (.slice ob 0 cap) [] := .inl ⟨rfl, ob, cap, rfl⟩
  have HE := Lib.hid he
  have HF := Lib.hid (show fitsB T.length [] = true from decide_eq_true (by simp [gone, put]; omega))
  obtain ⟨pv, ps, pd, pp, h6, hv, hps, hpt, _, _⟩ := h
  have hg := h6.lt
  obtain ⟨oa, pcap, rfl⟩ := hv.slice
  have H6 := Lib.hid h6
  have HV := Lib.hid hv
  have HPT := Lib.hid hpt
  clear h6 hv hpt he
  go_enter Try.func14, Try.ntmps14
  go_wp2_with fail
  refine (inOrder_any g _ T [] _ H.out HE.out (by simp)).mono ?_
  rintro e w1 ⟨rfl, hb1⟩
  rw [show orderB T.length 0 [] = true from rfl]
  have HB1 := Lib.hid hb1
  clear hb1
  go_wp2_with fail
  refine (lens_any g _ T [] _ (H.out.below HB1.out) (HE.out.below HB1.out) (by simp) rfl).mono ?_
  rintro e w2 ⟨⟨z, rfl, hz⟩, hb2⟩
  rw [HF.out]
  have hz' : z = (T.length : Nat) := by have := hz HF.out; simp [gone, put] at this; exact this
  subst hz'
  have HB := Lib.hid (HB1.out.trans (hb2.mono HB1.out.size))
  clear hb2 hz HB1
  have c6 := (HB.out.cell (p := ⟨g, 0, none⟩) hg).trans H6.out.cells.1
  have c61 := (HB.out.cell (p := ⟨g, 1, none⟩) hg).trans H6.out.cells.2.1
  have cE : ∀ W : World, Below w2.heap.size w2 W → Calls Try.prog 28 #[.slice none 0 0, .slice oa ps.length pcap, .int .i64 ((0 : Nat) : Int), .int .i64 (T.length : Int)] W fun e w' => ∃ v' c', e = .returned v' ∧ Strs w' w.heap.size v' c' ∧ textOf c' = T ∧ c'.length ≤ 1099511627776 ∧ Below w.heap.size w w' := fun W hW => by
    have hWw := HB.out.trans (hW.mono HB.out.size)
    refine (cut_row w.heap.size _ _ [] ps 0 T.length W hWw.size (Strs.nil _ _) (by simp) (row_below HV.out hWw) (fun k hk => (World.ownsRow.lt HV.out k hk).2) (by omega) (by omega) (by rw [HPT.out]; omega) (by omega)).mono ?_
    rintro e w' ⟨v', c', he, h1, h2, h3, h4⟩
    rw [HPT.out] at h2
    exact ⟨v', c', he, h1, by rw [h2, List.take_length]; rfl, by simp at h3; omega, hWw.trans h4.below⟩
  have sE : ∀ (W : World) (v' : Value) (c' : List ByteArray), Strs W w.heap.size v' c' → textOf c' = T → c'.length ≤ 1099511627776 → Below w.heap.size w W →
      Calls Try.prog 24 #[.pointer (some ⟨g, 0, none⟩), v', .int .i64 (T.length : Nat)] W fun e w' => e = .returned (.tuple #[]) ∧ BufAt w' g T ∧ Save w.heap.size g w w' := fun W v' c' h1 h2 h3 h4 => by
    have h6 := (h4.block g hg).trans H6.out
    refine (set_any w.heap.size g v' c' _ _ _ _ _ _ _ W h6 hg h4.size h1 h3 (by rw [h2]; omega)).mono ?_
    rintro e w' ⟨he, hd⟩
    have hd' := hd.buf h2 hT
    exact ⟨he, hd'.1, (Save.of h4).trans hd'.2⟩
  have CE := Lib.hid cE
  have SE := Lib.hid sE
  clear cE sE
  go_wp2_with fail
  go_rounds 1
  go_cut [] (fun wx => BufAt wx g T ∧ Save w.heap.size g w wx)
  case first =>
    go_region_with (first | (go_at_call 28; refine (CE.out _ ?_).mono ?_; exact (Below.refl _ _).drew; rintro e w3 ⟨v', c', rfl, r1, r2, r3, r4⟩) | (go_at_call 24; refine (SE.out _ _ c' r1 r2 r3 r4).mono ?_; rintro e w4 ⟨rfl, q⟩))
    all_goals (try go_wp2_with fail)
    all_goals go_meet
    all_goals exact q
  case rest =>
    have Q := Lib.hid hcut
    clear hcut
    go_wp2_with fail
    go_ret
    exact ⟨rfl, Q.out⟩

theorem apply_any (g : Nat) (v : Value) (T : List UInt8) (l : List Ed) (w : World) (h : BufAt w g T) (he : EdsAt w v l) (hl : l.length ≤ 4294967296) :
    Calls Try.prog 14 #[.pointer (some ⟨g, 0, none⟩), v] w fun e w' => e = .returned (.int .i64 (codeOf T.length l)) ∧ BufAt w' g (textBy T l) ∧ Save w.heap.size g w w' := by
  unfold codeOf textBy
  cases ho : orderB T.length 0 l with
  | false =>
    refine (apply_bad g v T l w h he hl ho).mono ?_
    rintro e w' ⟨a, b⟩
    exact ⟨by rw [a]; simp, by simpa using h.below b, Save.of b⟩
  | true =>
    cases hf : fitsB T.length l with
    | false =>
      refine (apply_long g v T l w h he hl ho hf).mono ?_
      rintro e w' ⟨a, b⟩
      exact ⟨by rw [a]; simp, by simpa using h.below b, Save.of b⟩
    | true =>
      rcases he with ⟨rfl, oa, cap, rfl⟩ | ⟨b, o, cap, rfl, hb, hc⟩
      · refine (apply_none g cap oa T w h).mono ?_
        rintro e w' ⟨a, b, c⟩
        exact ⟨by rw [a]; simp, by simpa [upd] using b, c⟩
      · refine (apply_row g b o cap T l w h hb hl hc ho hf).mono ?_
        rintro e w' ⟨a, b, c⟩
        exact ⟨by rw [a]; simp, by simpa using b, c⟩
end Go.Proofs.Yteocdcknfhlfgaa.buf
