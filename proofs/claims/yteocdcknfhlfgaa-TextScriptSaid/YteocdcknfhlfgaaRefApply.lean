/-
  The contracts of the reference's New and Apply.
-/
import Derived.Test.YteocdcknfhlfgaaBack
import Derived.BigRegion
namespace Go.Proofs.Yteocdcknfhlfgaa.buf
open Go.RowKit

/-- A reference buffer with the text s in block h. -/
def RefAt (w : World) (h : Nat) (s : ByteArray) : Prop := w.heap[h]? = some (.cells #[.string s] 49 (0, 0))
theorem RefAt.cell {w : World} {h : Nat} {s : ByteArray} (k : RefAt w h s) : w.cell? ⟨h, 0, none⟩ = some (.string s) := by
  unfold RefAt at k
  simp [World.cell?, k]
theorem RefAt.free {w : World} {h : Nat} {s : ByteArray} (k : RefAt w h s) : w.frozen? ⟨h, 0, none⟩ = false := frozen_of_row w h _ _ _ k
theorem RefAt.lt {w : World} {h : Nat} {s : ByteArray} (k : RefAt w h s) : h < w.heap.size := (Array.getElem?_eq_some_iff.1 k).1
theorem RefAt.put {w : World} {h : Nat} {s : ByteArray} (k : RefAt w h s) (u : ByteArray) : RefAt (w.setCell ⟨h, 0, none⟩ (.string u)) h u := heap_setCell_same w h 0 _ _ _ k

set_option maxRecDepth 100000 in
set_option maxHeartbeats 1000000 in
theorem refNew_any (s : ByteArray) (w : World) (hs : s.size ≤ 16384) :
    Calls Try.prog 12 #[.string s] w fun e w' => e = .returned (.tuple #[.pointer (some ⟨w.heap.size, 0, none⟩), .int .i64 0]) ∧ RefAt w' w.heap.size s ∧ Below w.heap.size w w' := by
  have hd : decide ((16384 : Int) < (s.size : Int)) = false := decide_eq_false (by omega)
  go_enter Try.func12, Try.ntmps12
  go_wp2_with fail
  go_ret2
  exact ⟨rfl, heap_alloc_new w _, (Below.refl _ _).alloc (Nat.le_refl _) _⟩

set_option maxRecDepth 100000 in
set_option maxHeartbeats 1000000 in
theorem refNew_long (s : ByteArray) (w : World) (hs : 16384 < s.size) :
    Calls Try.prog 12 #[.string s] w fun e w' => e = .returned (.tuple #[.pointer none, .int .i64 11]) ∧ w = w' := by
  have hd : decide ((16384 : Int) < (s.size : Int)) = true := decide_eq_true (by omega)
  go_enter Try.func12, Try.ntmps12
  go_wp2_with fail
  go_ret2
  exact ⟨rfl, rfl⟩

theorem code_bad {n : Nat} {l : List Ed} (h : orderB n 0 l = false) : codeOf n l = 10 := by unfold codeOf; rw [if_neg (by rw [h]; simp)]
theorem code_long {n : Nat} {l : List Ed} (h : orderB n 0 l = true) (hf : fitsB n l = false) : codeOf n l = 11 := by unfold codeOf; rw [if_pos h, if_neg (by rw [hf]; simp)]
theorem code_ok {n : Nat} {l : List Ed} (h : orderB n 0 l = true) (hf : fitsB n l = true) : codeOf n l = 0 := by unfold codeOf; rw [if_pos h, if_pos hf]
theorem text_bad {T : List UInt8} {l : List Ed} (h : orderB T.length 0 l = false) : textBy T l = T := by unfold textBy; rw [if_neg (fun k => by rw [h] at k; cases k.1)]
theorem text_long {T : List UInt8} {l : List Ed} (hf : fitsB T.length l = false) : textBy T l = T := by unfold textBy; rw [if_neg (fun k => by rw [hf] at k; cases k.2)]
theorem text_ok {T : List UInt8} {l : List Ed} (h : orderB T.length 0 l = true) (hf : fitsB T.length l = true) : textBy T l = upd T 0 l := by unfold textBy; rw [if_pos ⟨h, hf⟩]
theorem ret_z {k : IntKind} {a b : Int} (h : b = a) : Ending.returned (.int k a) = .returned (.int k b) := by rw [h]

/-- How far the reference has gone through what is taken away. -/
structure GoneFar (n : Nat) (l : List Ed) (k : Nat) (size : Int) : Prop where
  le : k ≤ l.length
  eq : size = (n : Int) - gone (l.take k)
  rest : ∃ c : Int, gone (l.take k) ≤ c ∧ 0 ≤ gone (l.take k) ∧ c ≤ n ∧ orderB n c (l.drop k) = true
theorem GoneFar.zero {n : Nat} {l : List Ed} (ho : orderB n 0 l = true) : GoneFar n l 0 n := ⟨Nat.zero_le _, by simp [gone], 0, by simp [gone], by simp [gone], by omega, ho⟩
theorem GoneFar.step {n : Nat} {l : List Ed} {k : Nat} {size : Int} (h : GoneFar n l k size) (hk : k < l.length) : GoneFar n l (k + 1) (size - (l[k].b - l[k].a)) := by
  obtain ⟨c, h1, h2, h3, h4⟩ := h.rest
  rw [drop_head hk] at h4
  obtain ⟨a, b, d, e, f⟩ := order_cons h4
  have hg := gone_take l k hk
  have h5 := h.eq
  exact ⟨hk, by omega, l[k].b, by omega, by omega, d, f⟩
theorem GoneFar.bounds {n : Nat} {l : List Ed} {k : Nat} {size : Int} (h : GoneFar n l k size) : 0 ≤ size ∧ size ≤ n := by
  obtain ⟨c, h1, h2, h3, _⟩ := h.rest
  have h5 := h.eq
  omega
theorem GoneFar.last {n : Nat} {l : List Ed} {k : Nat} {size : Int} (h : GoneFar n l k size) (hk : ¬ k < l.length) : size = (n : Int) - gone l := by
  have h5 := h.eq
  rw [List.take_of_length_le (by omega)] at h5
  exact h5
theorem put_drop_le (l : List Ed) (k : Nat) : put (l.drop k) ≤ put l := by
  induction l generalizing k with
  | nil => simp
  | cons e r ih =>
    cases k with
    | zero => simp
    | succ k => simp only [List.drop_succ_cons, put]; have := ih k; omega
theorem Back.short {T : List UInt8} {l : List Ed} {k : Nat} {S : List UInt8} (h : Back T l k S) (ho : orderB T.length 0 l = true) (hf : fitsB T.length l = true) (hT : T.length ≤ 16384) (hk : k ≤ l.length) : S.length ≤ 49152 := by
  have hg := order_gone (n := T.length) (by omega) ho
  have hfit : (T.length : Int) - gone l + (put l : Int) ≤ 16384 := of_decide_eq_true hf
  have hp := put_drop_le l k
  have key : ∀ p : Nat, p ≤ T.length → orderB T.length p (l.drop k) = true → S.length ≤ 49152 := by
    intro p hpl hpo
    have e := h p hpl hpo
    have hu := upd_length hpl hpo
    have hgd := order_gone (n := T.length) (by omega) hpo
    rw [e, List.length_append, List.length_take]
    omega
  by_cases hz : k < l.length
  · obtain ⟨x1, _, x3, x4, x5⟩ := order_at ho (Int.le_refl 0) k hz
    refine key l[k].a.toNat (by omega) ?_
    rw [drop_head hz, Int.toNat_of_nonneg x1]
    simp only [orderB, x5, Bool.and_true, Bool.and_eq_true, decide_eq_true_eq]
    exact ⟨decide_eq_true ⟨x1, x3, x4⟩, Int.le_refl _⟩
  · refine key T.length (Nat.le_refl _) ?_
    rw [List.drop_of_length_le (by omega)]
    rfl

set_option maxRecDepth 100000 in
set_option maxHeartbeats 8000000 in
theorem refApply_row (h b o cap : Nat) (s : ByteArray) (l : List Ed) (w : World) (hr : RefAt w h s) (hs : s.size ≤ 16384) (hb : b < w.heap.size) (hl : l.length ≤ 4294967296)
    (hc : ∀ j (hj : j < l.length), w.cell? ⟨b, o + j * 3, none⟩ = some (.int .i64 l[j].a) ∧ w.cell? ⟨b, o + j * 3 + 1, none⟩ = some (.int .i64 l[j].b) ∧ w.cell? ⟨b, o + j * 3 + 2, none⟩ = some (.string l[j].s)) :
    Calls Try.prog 15 #[.pointer (some ⟨h, 0, none⟩), .slice (some ⟨b, o, none⟩) l.length cap] w fun e w' => e = .returned (.int .i64 (codeOf s.size l)) ∧ (∃ s', RefAt w' h s' ∧ s'.data.toList = textBy s.data.toList l) ∧ Save w.heap.size h w w' := by
  have hsd := size_data s
  have HC := Lib.hid hc
  have HR := Lib.hid hr
  have cr := hr.cell
  clear hc hr
  go_enter Try.func15, Try.ntmps15
  go_wp2
  go_loopw [5, 7] (fun c i wr => ∃ (k q : Nat) (z : Int), i = .int .i64 k ∧ k ≤ l.length ∧ c = .int .i64 z ∧ 0 ≤ z ∧ orderB s.size z (l.drop k) = orderB s.size 0 l ∧ wr = w.drewN q)
    (fun _ i _ => l.length - (intOf i).toNat)
  case atStart => exact ⟨0, 0, 0, rfl, Nat.zero_le _, rfl, Int.le_refl _, rfl, rfl⟩
  case round =>
    obtain ⟨k, q, z, rfl, hk, rfl, hz0, ho, rfl⟩ := hrel
    have HO := Lib.hid ho
    clear ho
    by_cases hlt : k < l.length
    · obtain ⟨c0, c1, c2⟩ := HC.out k hlt
      obtain ⟨e, he⟩ : ∃ e, l[k] = e := ⟨_, rfl⟩
      rw [he] at c0 c1 c2
      have HO2 := Lib.hid (show orderB s.size z (e :: l.drop (k + 1)) = orderB s.size 0 l by rw [← HO.out, drop_head hlt, he])
      clear he
      obtain ⟨a, b', x⟩ := e
      simp only at c0 c1 c2
      by_cases h1 : z ≤ a
      · have t1 : decide (a < z) = false := decide_eq_false (by omega)
        by_cases h2 : a ≤ b'
        · have t2 : decide (b' < a) = false := decide_eq_false (by omega)
          by_cases h3 : b' ≤ (s.size : Int)
          · have t3 : decide ((s.size : Int) < b') = false := decide_eq_false (by omega)
            go_wp2_with fail
            go_quiet (fail)
            go_wp2_with fail
            go_roundw
            case rel => exact ⟨k + 1, _, b', by go_num, hlt, rfl, by omega, (order_step (e := ⟨a, b', x⟩) (decide_eq_true ⟨by simp only; omega, h2, h3⟩) h1).symm.trans HO2.out, rfl⟩
            case measure => simp [intOf]; omega
          · have t3 : decide ((s.size : Int) < b') = true := decide_eq_true (by omega)
            have hB : orderB s.size 0 l = false := HO2.out.symm.trans (order_out (e := ⟨a, b', x⟩) (decide_eq_false (fun k => h3 k.2.2)))
            have HB := Lib.hid hB
            clear hB
            go_wp2_with fail
            go_quiet (fail)
            go_wp2_with fail
            go_ret
            exact ⟨ret_z (code_bad HB.out), ⟨s, HR.out, (text_bad (by rw [hsd]; exact HB.out)).symm⟩, ((Save.refl _ _ _).drewN _).drewN _⟩
        · have t2 : decide (b' < a) = true := decide_eq_true (by omega)
          have hB : orderB s.size 0 l = false := HO2.out.symm.trans (order_out (e := ⟨a, b', x⟩) (decide_eq_false (fun k => h2 k.2.1)))
          have HB := Lib.hid hB
          clear hB
          go_wp2_with fail
          go_quiet (fail)
          go_wp2_with fail
          go_ret
          exact ⟨ret_z (code_bad HB.out), ⟨s, HR.out, (text_bad (by rw [hsd]; exact HB.out)).symm⟩, ((Save.refl _ _ _).drewN _).drewN _⟩
      · have t1 : decide (a < z) = true := decide_eq_true (by omega)
        have hB : orderB s.size 0 l = false := HO2.out.symm.trans (order_back (e := ⟨a, b', x⟩) h1)
        have HB := Lib.hid hB
        clear hB
        go_wp2_with fail
        go_quiet (fail)
        go_wp2_with fail
        go_ret
        exact ⟨ret_z (code_bad HB.out), ⟨s, HR.out, (text_bad (by rw [hsd]; exact HB.out)).symm⟩, ((Save.refl _ _ _).drewN _).drewN _⟩
    · have hord : orderB s.size 0 l = true := by rw [← HO.out, List.drop_of_length_le (by omega)]; rfl
      have HORD := Lib.hid hord
      clear hord HO
      go_wp2_with fail
      go_loopw [6, 8] (fun c i wr => ∃ (k q : Nat) (z : Int), i = .int .i64 k ∧ c = .int .i64 z ∧ GoneFar s.size l k z ∧ wr = w.drewN q)
        (fun _ i _ => l.length - (intOf i).toNat)
      case atStart => exact ⟨0, _, _, rfl, rfl, GoneFar.zero HORD.out, rfl⟩
      case round =>
        obtain ⟨k2, q2, z2, rfl, rfl, hG, rfl⟩ := hrel
        have hk2 := hG.le
        obtain ⟨x1, x2⟩ := hG.bounds
        have HG := Lib.hid hG
        clear hG
        by_cases hlt2 : k2 < l.length
        · obtain ⟨c0, c1, c2⟩ := HC.out k2 hlt2
          obtain ⟨y1, _, y3, y4, _⟩ := order_at HORD.out (Int.le_refl 0) k2 hlt2
          have HN := Lib.hid (HG.out.step hlt2)
          obtain ⟨y5, y6⟩ := HN.out.bounds
          obtain ⟨e, he⟩ : ∃ e, l[k2] = e := ⟨_, rfl⟩
          rw [he] at c0 c1 c2 y1 y3 y4 y5 y6 HN
          clear he
          obtain ⟨a, b', x⟩ := e
          simp only at c0 c1 c2 y1 y3 y4 y5 y6 HN
          have e1 : IntKind.i64.wrap (b' - a) = b' - a := IntWalk.i64_in _ (by omega)
          have e2 : IntKind.i64.wrap (z2 - (b' - a)) = z2 - (b' - a) := IntWalk.i64_in _ (by omega)
          go_wp2_with fail
          go_quiet (fail)
          clear e1 e2
          go_wp2_with fail
          go_roundw
          case rel => exact ⟨k2 + 1, _, _, by go_num, rfl, HN.out, rfl⟩
          case measure => simp [intOf]; omega
        · have hz2 := HG.out.last hlt2
          subst hz2
          go_wp2_with fail
          go_loopw [6, 9] (fun c i wr => ∃ (k q : Nat) (z : Int), i = .int .i64 k ∧ c = .int .i64 z ∧ PutFar s.size l k z ∧ wr = w.drewN q)
            (fun _ i _ => l.length - (intOf i).toNat)
          case atStart => exact ⟨0, _, _, rfl, rfl, PutFar.zero HORD.out hs, rfl⟩
          case round =>
            obtain ⟨k3, q3, z3, rfl, rfl, hP, rfl⟩ := hrel
            have hk3 := hP.le
            have x3 := hP.low
            have x4 := hP.high
            have HP := Lib.hid hP
            clear hP HG
            by_cases hlt3 : k3 < l.length
            · obtain ⟨c0, c1, c2⟩ := HC.out k3 hlt3
              have HN := Lib.hid (fun hs => HP.out.step hlt3 hs)
              have HV := Lib.hid (fun hs => HP.out.over hlt3 hs)
              obtain ⟨e, he⟩ : ∃ e, l[k3] = e := ⟨_, rfl⟩
              rw [he] at c0 c1 c2 HN HV
              clear he
              obtain ⟨a, b', x⟩ := e
              simp only at c0 c1 c2 HN HV
              by_cases hs3 : (x.size : Int) ≤ 16384 - z3
              · have ts : decide (16384 - z3 < (x.size : Int)) = false := decide_eq_false (by omega)
                go_wp2_with fail
                go_roundw
                case rel => exact ⟨k3 + 1, _, _, by go_num, rfl, HN.out hs3, rfl⟩
                case measure => simp [intOf]; omega
              · have ts : decide (16384 - z3 < (x.size : Int)) = true := decide_eq_true (by omega)
                go_wp2_with fail
                go_ret
                exact ⟨ret_z (code_long HORD.out (HV.out hs3)), ⟨s, HR.out, (text_long (by rw [hsd]; exact HV.out hs3)).symm⟩, (Save.refl _ _ _).drewN _⟩
            · have HFIT := Lib.hid (HP.out.last hlt3)
              go_wp2_with fail
              go_loopw [10] (fun i wr => ∃ (k : Nat) (S : ByteArray), i = .int .i64 ((k : Int) - 1) ∧ k ≤ l.length ∧ Back s.data.toList l k S.data.toList ∧ RefAt wr h S ∧ Save w.heap.size h w wr)
                (fun i _ => (intOf i + 1).toNat)
              case atStart => exact ⟨l.length, s, rfl, Nat.le_refl _, Back.start _ _, HR.out, (Save.refl _ _ _).drewN _⟩
              case round =>
                obtain ⟨k4, S, rfl, hk4, hBk, hRS, hSv⟩ := hrel
                have HBK := Lib.hid hBk
                have HRS := Lib.hid hRS
                have HSV := Lib.hid hSv
                clear hBk hRS hSv
                cases k4 with
                | zero =>
                  rw [show (((0 : Nat) : Int) - 1) = -1 from rfl]
                  go_wp2_with fail
                  go_ret
                  have hfin := HBK.out.done (by rw [hsd]; exact HORD.out)
                  exact ⟨ret_z (code_ok HORD.out HFIT.out), ⟨S, HRS.out, by rw [hfin, text_ok (by rw [hsd]; exact HORD.out) (by rw [hsd]; exact HFIT.out)]⟩, HSV.out⟩
                | succ j =>
                  rw [show (((j + 1 : Nat) : Int) - 1) = (j : Int) from by omega]
                  have hj : j < l.length := by omega
                  have hst := HBK.out.step (by rw [hsd]; exact HORD.out) hj
                  have hsh := HBK.out.short (by rw [hsd]; exact HORD.out) (by rw [hsd]; exact HFIT.out) (by omega) hk4
                  obtain ⟨y1, _, y3, y4, _⟩ := order_at HORD.out (Int.le_refl 0) j hj
                  obtain ⟨c0, c1, c2⟩ := HC.out j hj
                  have hbh : b ≠ h := by
                    rintro rfl
                    have hh := HR.out
                    unfold RefAt at hh
                    simp only [World.cell?, hh] at c0
                    simp only [Option.isSome_none, Bool.false_eq_true, if_false] at c0
                    rw [Array.getElem?_eq_some_iff] at c0
                    obtain ⟨i0, i1⟩ := c0
                    have i2 : o + j * 3 = 0 := by simp at i0; omega
                    simp [i2] at i1
                  have hblk := World.cell?_of_block (w := w) (w' := wr) (a := ⟨b, o + j * 3, none⟩) (HSV.out.block b hb hbh)
                  have d0 := hblk.trans c0
                  have d1 := (World.cell?_of_block (w := w) (w' := wr) (a := ⟨b, o + j * 3 + 1, none⟩) (HSV.out.block b hb hbh)).trans c1
                  have d2 := (World.cell?_of_block (w := w) (w' := wr) (a := ⟨b, o + j * 3 + 2, none⟩) (HSV.out.block b hb hbh)).trans c2
                  have dr := HRS.out.cell
                  have df := HRS.out.free
                  have hSd := size_data S
                  have HSD := Lib.hid hSd
                  rw [hSd] at hsh hst
                  obtain ⟨e, he⟩ : ∃ e, l[j] = e := ⟨_, rfl⟩
                  have HEJ := Lib.hid he
                  rw [he] at d0 d1 d2 y1 y3 y4 hst
                  clear he hblk c0 c1 c2 hSd
                  obtain ⟨a, b', x⟩ := e
                  simp only at d0 d1 d2 y1 y3 y4 hst
                  have hbs := hst.2
                  have HST := Lib.hid hst.1
                  clear hst
                  obtain ⟨a, rfl⟩ := Int.eq_ofNat_of_zero_le y1
                  obtain ⟨b', rfl⟩ := Int.eq_ofNat_of_zero_le (show 0 ≤ b' by omega)
                  have hbs' : b' ≤ S.size := by omega
                  have hab : a ≤ b' := by omega
                  have hsl1 : ∀ u : World, (Instr.slice 9 (.string S) none (some (.int .i64 (a : Int))) none).run Try.prog u = .ok (.string (S.extract 0 a)) u := fun u => by
                    have := run_slice_string_to_if (P := Try.prog) u 9 S .i64 (a : Int) Try.underlying9
                    rw [this, if_pos (by omega)]
                    rfl
                  have hsl2 : ∀ u : World, (Instr.slice 9 (.string S) (some (.int .i64 (b' : Int))) none none).run Try.prog u = .ok (.string (S.extract b' S.size)) u := fun u => by
                    have := run_slice_string_from_if (P := Try.prog) u 9 S .i64 (b' : Int) Try.underlying9
                    rw [this, if_pos (by omega)]
                    rfl
                  obtain ⟨X1, hX1⟩ : ∃ X, S.extract 0 a = X := ⟨_, rfl⟩
                  obtain ⟨X2, hX2⟩ : ∃ X, S.extract b' S.size = X := ⟨_, rfl⟩
                  rw [hX1] at hsl1
                  rw [hX2] at hsl2
                  have hx3 : x.size ≤ put l := by
                    have := put_take l j hj
                    have h5 := put_take_le l (j + 1)
                    rw [HEJ.out] at this
                    simp only at this
                    omega
                  have hx1 : X1.size ≤ 49152 := by rw [← hX1]; simp; omega
                  have hx2 : X2.size ≤ 49152 := by rw [← hX2]; simp; omega
                  have hp4 : put l ≤ 32768 := by
                    have hg := order_gone (n := s.size) (by omega) HORD.out
                    have hfit : (s.size : Int) - gone l + (put l : Int) ≤ 16384 := of_decide_eq_true HFIT.out
                    omega
                  obtain ⟨Y, hY⟩ : ∃ Y, X1 ++ x = Y := ⟨_, rfl⟩
                  obtain ⟨Z, hZ⟩ : ∃ Z, Y ++ X2 = Z := ⟨_, rfl⟩
                  have hadd1 : ∀ u : World, (Op.stringOp .add X1 x).run Try.prog u = .ok (.string Y) u := fun u => by
                    rw [← hY]
                    exact run_string_add_sum u X1 x (by omega)
                  have hadd2 : ∀ u : World, (Op.stringOp .add Y X2).run Try.prog u = .ok (.string Z) u := fun u => by
                    rw [← hZ]
                    exact run_string_add_sum u Y X2 (by rw [← hY]; simp; omega)
                  have hZT : Z.data.toList = S.data.toList.take a ++ (x.data.toList ++ S.data.toList.drop b') := by
                    rw [← hZ, ← hY, ← hX1, ← hX2]
                    simp only [ByteArray.data_append, Array.toList_append, Lib.extract_data, List.drop_zero, Nat.sub_zero, List.append_assoc]
                    rw [List.take_of_length_le (l := S.data.toList.drop b') (by rw [List.length_drop, HSD.out]; omega)]
                  have HZT := Lib.hid hZT
                  clear hX1 hX2 hY hZ hZT hx1 hx2 hx3 hp4
                  go_wp2_with fail
                  go_still_tail 30, (by kernel_rfl)
                  change wpList _ _ _ _ _ wr.drew
                  clear hadd1 hadd2 hsl1 hsl2
                  go_wp2_with fail
                  go_roundw
                  case rel => exact ⟨j, Z, by go_num, by omega, by rw [HZT.out]; exact HST.out, HRS.out.put Z, (HSV.out.setCell 0 _).drewN 1⟩
                  case measure => simp [intOf]

set_option maxRecDepth 100000 in
set_option maxHeartbeats 2000000 in
theorem refApply_none (h cap : Nat) (oa : Option Addr) (s : ByteArray) (w : World) (hr : RefAt w h s) :
    Calls Try.prog 15 #[.pointer (some ⟨h, 0, none⟩), .slice oa 0 cap] w fun e w' => e = .returned (.int .i64 0) ∧ w = w' := by
  have cr := hr.cell
  clear hr
  go_enter Try.func15, Try.ntmps15
  go_wp2
  go_rounds 1
  all_goals go_rounds 1
  all_goals go_rounds 1
  all_goals go_rounds 1
  all_goals go_ret
  all_goals exact ⟨rfl, rfl⟩

theorem refApply_any (h : Nat) (v : Value) (s : ByteArray) (l : List Ed) (w : World) (hr : RefAt w h s) (hs : s.size ≤ 16384) (he : EdsAt w v l) (hl : l.length ≤ 4294967296) :
    Calls Try.prog 15 #[.pointer (some ⟨h, 0, none⟩), v] w fun e w' => e = .returned (.int .i64 (codeOf s.size l)) ∧ (∃ s', RefAt w' h s' ∧ s'.data.toList = textBy s.data.toList l) ∧ Save w.heap.size h w w' := by
  rcases he with ⟨rfl, oa, cap, rfl⟩ | ⟨b, o, cap, rfl, hb, hc⟩
  · refine (refApply_none h cap oa s w hr).mono ?_
    rintro e w' ⟨rfl, rfl⟩
    have ho : orderB s.size 0 [] = true := rfl
    have hf : fitsB s.size [] = true := decide_eq_true (by simp [gone, put]; omega)
    have hsd := size_data s
    exact ⟨ret_z (code_ok ho hf), ⟨s, hr, by rw [text_ok (by rw [hsd]; exact ho) (by rw [hsd]; exact hf)]; simp [upd]⟩, Save.refl _ _ _⟩
  · exact refApply_row h b o cap s l w hr hs hb hl hc
end Go.Proofs.Yteocdcknfhlfgaa.buf
