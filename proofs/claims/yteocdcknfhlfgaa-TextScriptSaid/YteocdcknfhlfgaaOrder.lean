/-
  The contracts of inOrder and lengthBehind.
-/
import Derived.Test.YteocdcknfhlfgaaEdits
namespace Go.Proofs.Yteocdcknfhlfgaa.buf
open Go.RowKit

set_option maxRecDepth 100000 in
set_option maxHeartbeats 2000000 in
theorem inOrder_row (g b o cap : Nat) (T : List UInt8) (l : List Ed) (w : World) (h : BufAt w g T) (hb : b < w.heap.size) (hl : l.length ≤ 4611686018427387904)
    (hc : ∀ j (hj : j < l.length), w.cell? ⟨b, o + j * 3, none⟩ = some (.int .i64 l[j].a) ∧ w.cell? ⟨b, o + j * 3 + 1, none⟩ = some (.int .i64 l[j].b) ∧ w.cell? ⟨b, o + j * 3 + 2, none⟩ = some (.string l[j].s)) :
    Calls Try.prog 30 #[.pointer (some ⟨g, 0, none⟩), .slice (some ⟨b, o, none⟩) l.length cap] w fun e w' => e = .returned (.bool (orderB T.length 0 l)) ∧ Below w.heap.size w w' := by
  have H := Lib.hid h
  have HC := Lib.hid hc
  clear h hc
  obtain ⟨R, hR⟩ : ∃ R, orderB T.length 0 l = R := ⟨_, rfl⟩
  rw [hR]
  have HR := Lib.hid hR
  clear hR
  go_enter Try.func30, Try.ntmps30
  go_wp2
  go_loopw [5, 10] (fun c i wr => ∃ (k : Nat) (z : Int), i = .int .i64 k ∧ k ≤ l.length ∧ c = .int .i64 z ∧ orderB T.length z (l.drop k) = R ∧ Below w.heap.size w wr)
    (fun _ i _ => l.length - (intOf i).toNat)
  case atStart => exact ⟨0, 0, rfl, Nat.zero_le _, rfl, HR.out, Below.refl _ _⟩
  case round =>
    obtain ⟨k, z, rfl, hk, rfl, ho, hbw⟩ := hrel
    have HO := Lib.hid ho
    have HB := Lib.hid hbw
    have hsz := hbw.size
    clear ho hbw
    by_cases hlt : k < l.length
    · obtain ⟨c0, c1, c2⟩ := HC.out k hlt
      have d0 := (HB.out.cell (p := ⟨b, o + k * 3, none⟩) hb).trans c0
      have d1 := (HB.out.cell (p := ⟨b, o + k * 3 + 1, none⟩) hb).trans c1
      have d2 := (HB.out.cell (p := ⟨b, o + k * 3 + 2, none⟩) hb).trans c2
      clear c0 c1 c2
      obtain ⟨e, he⟩ : ∃ e, l[k] = e := ⟨_, rfl⟩
      rw [he] at d0 d1 d2
      have HE := Lib.hid he
      have HO2 := Lib.hid (show orderB T.length z (e :: l.drop (k + 1)) = R by rw [← HO.out, drop_head hlt, he])
      clear he
      obtain ⟨a, b', s⟩ := e
      simp only at d0 d1 d2
      go_wp2_with fail
      refine (has_any g T _ _ _ ((H.out.below HB.out).below ((Below.refl _ _).alloc (Nat.le_refl _) _))).mono ?_
      rintro e w' ⟨rfl, rfl⟩
      go_wp2_with fail
      · go_ret
        have hR' : R = false := HO2.out.symm.trans (order_back (e := ⟨a, b', s⟩) (by simp only; omega))
        exact ⟨by rw [hR']; rfl, HB.out.alloc hsz _⟩
      · have hin : inB T.length a b' = true := by assumption
        have hza : z ≤ a := by assumption
        have ho2 : orderB T.length b' (l.drop (k + 1)) = R := (order_step (e := ⟨a, b', s⟩) hin hza).symm.trans HO2.out
        have HO3 := Lib.hid ho2
        clear ho2
        go_roundw
        case rel => exact ⟨k + 1, b', by go_num, hlt, rfl, HO3.out, HB.out.alloc hsz _⟩
        case measure => simp [intOf]; omega
      · go_ret
        have hout : ¬ inB T.length a b' = true := by assumption
        have hR' : R = false := HO2.out.symm.trans (order_out (e := ⟨a, b', s⟩) (Bool.eq_false_iff.2 hout))
        exact ⟨by rw [hR']; rfl, HB.out.alloc hsz _⟩
    · go_wp2_with fail
      go_ret
      refine ⟨?_, HB.out⟩
      rw [← HO.out, List.drop_of_length_le (by omega)]
      rfl

set_option maxRecDepth 100000 in
set_option maxHeartbeats 1000000 in
theorem inOrder_none (g cap : Nat) (oa : Option Addr) (w : World) :
    Calls Try.prog 30 #[.pointer (some ⟨g, 0, none⟩), .slice oa 0 cap] w fun e w' => e = .returned (.bool true) ∧ w = w' := by
  go_enter Try.func30, Try.ntmps30
  go_wp2
  go_rounds 1
  go_ret
  exact ⟨rfl, rfl⟩

theorem inOrder_any (g : Nat) (v : Value) (T : List UInt8) (l : List Ed) (w : World) (h : BufAt w g T) (he : EdsAt w v l) (hl : l.length ≤ 4611686018427387904) :
    Calls Try.prog 30 #[.pointer (some ⟨g, 0, none⟩), v] w fun e w' => e = .returned (.bool (orderB T.length 0 l)) ∧ Below w.heap.size w w' := by
  rcases he with ⟨rfl, oa, cap, rfl⟩ | ⟨b, o, cap, rfl, hb, hc⟩
  · exact (inOrder_none g cap oa w).mono fun e w' ⟨x, y⟩ => ⟨x, by subst y; exact Below.refl _ _⟩
  · exact inOrder_row g b o cap T l w h hb hl hc

/-! ### lengthBehind -/
/-- How far the lengths have been gone through. -/
structure LenFar (n : Nat) (l : List Ed) (k : Nat) (left pt : Int) : Prop where
  le : k ≤ l.length
  left : left = (n : Int) - gone (l.take k)
  pt : pt = (put (l.take k) : Int)
  small : put (l.take k) ≤ 16384
  rest : ∃ c : Int, gone (l.take k) ≤ c ∧ 0 ≤ gone (l.take k) ∧ c ≤ n ∧ orderB n c (l.drop k) = true
theorem LenFar.zero {n : Nat} {l : List Ed} (ho : orderB n 0 l = true) : LenFar n l 0 n 0 := ⟨Nat.zero_le _, by simp [gone], by simp [put], by simp [put], 0, by simp [gone], by simp [gone], by omega, ho⟩
theorem LenFar.head {n : Nat} {l : List Ed} {k : Nat} {left pt : Int} (h : LenFar n l k left pt) (hk : k < l.length) : 0 ≤ l[k].a ∧ l[k].a ≤ l[k].b ∧ l[k].b ≤ n := by
  obtain ⟨c, _, _, _, h4⟩ := h.rest
  rw [drop_head hk] at h4
  obtain ⟨a, b, d, _, _⟩ := order_cons h4
  exact ⟨a, b, d⟩
theorem LenFar.step {n : Nat} {l : List Ed} {k : Nat} {left pt : Int} (h : LenFar n l k left pt) (hk : k < l.length) (hs : (l[k].s.size : Int) ≤ 16384 - pt) :
    LenFar n l (k + 1) (left - (l[k].b - l[k].a)) (pt + (l[k].s.size : Int)) := by
  obtain ⟨c, h1, h2, h3, h4⟩ := h.rest
  rw [drop_head hk] at h4
  obtain ⟨a, b, d, e, f⟩ := order_cons h4
  have hg := gone_take l k hk
  have hp := put_take l k hk
  have h5 := h.left
  have h6 := h.pt
  exact ⟨hk, by omega, by omega, by omega, l[k].b, by omega, by omega, d, f⟩
theorem LenFar.bounds {n : Nat} {l : List Ed} {k : Nat} {left pt : Int} (h : LenFar n l k left pt) : 0 ≤ left ∧ left ≤ n ∧ 0 ≤ pt ∧ pt ≤ 16384 := by
  obtain ⟨c, h1, h2, h3, _⟩ := h.rest
  have h5 := h.left
  have h6 := h.pt
  have := h.small
  omega
theorem LenFar.over {n : Nat} {l : List Ed} {k : Nat} {left pt : Int} (h : LenFar n l k left pt) (ho : orderB n 0 l = true) (hk : k < l.length) (hs : ¬ (l[k].s.size : Int) ≤ 16384 - pt) : fitsB n l = false := by
  have hp := put_take l k hk
  have hq := put_take_le l (k + 1)
  have hg := order_gone (n := n) (by omega) ho
  have h6 := h.pt
  exact decide_eq_false (by omega)
theorem LenFar.last {n : Nat} {l : List Ed} {k : Nat} {left pt : Int} (h : LenFar n l k left pt) (hk : ¬ k < l.length) : left + pt = (n : Int) - gone l + (put l : Int) := by
  have h5 := h.left
  have h6 := h.pt
  rw [List.take_of_length_le (by omega)] at h5 h6
  omega

/-- The sum where it fits; else something, and false. -/
def Lens (n : Nat) (l : List Ed) (e : Ending) : Prop := ∃ z : Int, e = .returned (.tuple #[.int .i64 z, .bool (fitsB n l)]) ∧ (fitsB n l = true → z = (n : Int) - gone l + (put l : Int))

set_option maxRecDepth 100000 in
set_option maxHeartbeats 2000000 in
theorem lens_row (g b o cap : Nat) (T : List UInt8) (l : List Ed) (w : World) (h : BufAt w g T) (hb : b < w.heap.size) (hl : l.length ≤ 4611686018427387904)
    (hc : ∀ j (hj : j < l.length), w.cell? ⟨b, o + j * 3, none⟩ = some (.int .i64 l[j].a) ∧ w.cell? ⟨b, o + j * 3 + 1, none⟩ = some (.int .i64 l[j].b) ∧ w.cell? ⟨b, o + j * 3 + 2, none⟩ = some (.string l[j].s))
    (ho : orderB T.length 0 l = true) :
    Calls Try.prog 31 #[.pointer (some ⟨g, 0, none⟩), .slice (some ⟨b, o, none⟩) l.length cap] w fun e w' => Lens T.length l e ∧ Below w.heap.size w w' := by
  have hT := h.short
  obtain ⟨v6, l6, d6, p6, h6, _⟩ := h
  have c1 := h6.cells.2.1
  have HC := Lib.hid hc
  have HO := Lib.hid ho
  obtain ⟨n, hn⟩ : ∃ n, T.length = n := ⟨_, rfl⟩
  rw [hn] at HO c1 hT ⊢
  clear h6 hc ho hn
  go_enter Try.func31, Try.ntmps31
  go_wp2
  go_loopw [6, 7, 16] (fun lv pv i wr => ∃ (k : Nat) (left pt : Int), i = .int .i64 k ∧ lv = .int .i64 left ∧ pv = .int .i64 pt ∧ LenFar n l k left pt ∧ Below w.heap.size w wr)
    (fun _ _ i _ => l.length - (intOf i).toNat)
  case atStart => exact ⟨0, _, _, rfl, rfl, rfl, LenFar.zero HO.out, Below.refl _ _⟩
  case round =>
    obtain ⟨k, left, pt, rfl, rfl, rfl, hF, hbw⟩ := hrel
    have hk := hF.le
    obtain ⟨x1, x2, x3, x4⟩ := hF.bounds
    have HF := Lib.hid hF
    have HB := Lib.hid hbw
    have hsz := hbw.size
    clear hF hbw
    by_cases hlt : k < l.length
    · obtain ⟨c0, c1, c2⟩ := HC.out k hlt
      have d0 := (HB.out.cell (p := ⟨b, o + k * 3, none⟩) hb).trans c0
      have d1 := (HB.out.cell (p := ⟨b, o + k * 3 + 1, none⟩) hb).trans c1
      have d2 := (HB.out.cell (p := ⟨b, o + k * 3 + 2, none⟩) hb).trans c2
      clear c0 c1 c2
      obtain ⟨y1, y2, y3⟩ := HF.out.head hlt
      have HN := Lib.hid (fun hs => HF.out.step hlt hs)
      have HV := Lib.hid (fun hs => HF.out.over HO.out hlt hs)
      obtain ⟨e, he⟩ : ∃ e, l[k] = e := ⟨_, rfl⟩
      rw [he] at d0 d1 d2 y1 y2 y3 HN HV
      clear he
      obtain ⟨a, b', s⟩ := e
      simp only at d0 d1 d2 y1 y2 y3 HN HV
      by_cases hs : (s.size : Int) ≤ 16384 - pt
      · have hs' : decide (16384 - pt < (s.size : Int)) = false := decide_eq_false (by omega)
        go_wp2_with fail
        go_roundw
        case rel => exact ⟨k + 1, left - (b' - a), pt + (s.size : Int), by go_num, rfl, rfl, HN.out hs, HB.out.alloc hsz _⟩
        case measure => simp [intOf]; omega
      · have hs' : decide (16384 - pt < (s.size : Int)) = true := decide_eq_true (by omega)
        go_wp2_with fail
        go_ret2
        exact ⟨⟨0, by rw [HV.out hs]; rfl, fun h => by rw [HV.out hs] at h; cases h⟩, HB.out.alloc hsz _⟩
    · have he := HF.out.last hlt
      by_cases hf : left + pt ≤ 16384
      · have hf' : fitsB n l = true := decide_eq_true (by omega)
        have HX := Lib.hid hf'
        have HE := Lib.hid he
        clear hf' he
        go_wp2_with fail
        go_ret2
        exact ⟨⟨left + pt, by rw [HX.out]; rfl, fun _ => HE.out⟩, HB.out⟩
      · have hf' : fitsB n l = false := decide_eq_false (by omega)
        have HX := Lib.hid hf'
        have HE := Lib.hid he
        have hf2 : decide (left + pt ≤ 16384) = false := decide_eq_false hf
        clear hf' he
        go_wp2_with fail
        go_ret2
        exact ⟨⟨left + pt, by rw [HX.out]; rfl, fun _ => HE.out⟩, HB.out⟩

set_option maxRecDepth 100000 in
set_option maxHeartbeats 1000000 in
theorem lens_none (g cap : Nat) (oa : Option Addr) (T : List UInt8) (w : World) (h : BufAt w g T) :
    Calls Try.prog 31 #[.pointer (some ⟨g, 0, none⟩), .slice oa 0 cap] w fun e w' => Lens T.length [] e ∧ Below w.heap.size w w' := by
  have hT := h.short
  obtain ⟨v6, l6, d6, p6, h6, _⟩ := h
  have c1 := h6.cells.2.1
  have hf' : fitsB T.length [] = true := decide_eq_true (by simp [gone, put]; omega)
  have HX := Lib.hid hf'
  have hd : decide ((T.length : Int) ≤ 16384) = true := decide_eq_true (by omega)
  clear h6 hf'
  go_enter Try.func31, Try.ntmps31
  go_wp2
  go_rounds 1
  go_ret2
  exact ⟨⟨(T.length : Int), by rw [HX.out]; rfl, fun _ => by simp [gone, put]⟩, Below.refl _ _⟩

theorem lens_any (g : Nat) (v : Value) (T : List UInt8) (l : List Ed) (w : World) (h : BufAt w g T) (he : EdsAt w v l) (hl : l.length ≤ 4611686018427387904) (ho : orderB T.length 0 l = true) :
    Calls Try.prog 31 #[.pointer (some ⟨g, 0, none⟩), v] w fun e w' => Lens T.length l e ∧ Below w.heap.size w w' := by
  rcases he with ⟨rfl, oa, cap, rfl⟩ | ⟨b, o, cap, rfl, hb, hc⟩
  · exact lens_none g cap oa T w h
  · exact lens_row g b o cap T l w h hb hl hc ho
end Go.Proofs.Yteocdcknfhlfgaa.buf
