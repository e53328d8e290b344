/-
  lexer.next, case by case.
-/
import Derived.Test.YtjbamlmdeopcaaaDoorLh
namespace Go.Proofs.YtjbamlmdeopcaaaDoor.lx
open Go.RowKit Go.Proofs.YtjbamlmdeopcaaaDoor.tok

def Bools (b : Bool) (w : World) (e : Ending) (w' : World) : Prop := e = .returned (.bool b) ∧ w = w'
def Ints (n : Nat) (w : World) (e : Ending) (w' : World) : Prop := e = .returned (.int .i64 (n : Int)) ∧ w = w'
/-- What lexer.next asks of the functions that it calls. -/
structure Ctx (s : ByteArray) (at_ : Nat) (a : Int) (R : ByteArray) (c : UInt8) (r : List UInt8) (w : World) : Prop where
  sl : ∀ u : World, (Instr.slice 9 (.string s) (some (.int .i64 a)) none none).run Tryd.prog u = .ok (.string R) u
  ix : ∀ u : World, (Instr.index 9 (.string R) (.int .i64 0)).run Tryd.prog u = .ok (.int .u8 (c.toNat : Int)) u
  right : ∀ (kind : Int) (n : Nat) (u : World), n ≤ 4294967296 → Calls Tryd.prog 12 #[.int .i64 kind, .int .i64 a, .int .i64 (n : Int)] u (Told (right kind n) at_ u)
  runB : ∀ u : World, Calls Tryd.prog 14 #[.string R, .func (.func 13) #[] #[]] u (Ints (runL isBl r) u)
  runF : ∀ u : World, Calls Tryd.prog 14 #[.string R, .func (.func 15) #[] #[]] u (Ints (runL noFeed r) u)
  lenB : runL isBl r ≤ 4294967296
  lenF : runL noFeed r ≤ 4294967296
  pre0 : ∀ u : World, Calls Tryd.prog 11 #[.string s, .string { data := #[239, 187, 191] }] u (Bools (Lib.hasPrefix s.data.toList mark) u)
  pre1 : ∀ u : World, Calls Tryd.prog 11 #[.string R, .string { data := #[47, 47] }] u (Bools (Lib.hasPrefix r [47, 47]) u)
  pre2 : ∀ u : World, Calls Tryd.prog 11 #[.string R, .string { data := #[47, 42] }] u (Bools (Lib.hasPrefix r [47, 42]) u)
  block : ∀ u : World, Below w.heap.size w u → Lib.hasPrefix r [47, 42] = true → Calls Tryd.prog 16 #[.string R, .int .i64 a, .int .i64 4, .int .i64 105, .string { data := #[47, 42] }, .string { data := #[42, 47] }] u (Told (closedL 4 105 2 [42, 47] r) at_ u)
  raw : ∀ u : World, Below w.heap.size w u → Calls Tryd.prog 16 #[.string R, .int .i64 a, .int .i64 14, .int .i64 106, .string { data := #[96] }, .string { data := #[96] }] u (Told (closedL 14 106 1 [96] r) at_ u)
  word : ∀ u : World, Calls Tryd.prog 18 #[.string R, .int .i64 a] u (Told (wordL lang r) at_ u)
  num : ∀ u : World, Calls Tryd.prog 20 #[.string R, .int .i64 a] u (Told (numL lang r) at_ u)
  str : ∀ u : World, Below w.heap.size w u → c = 34 → Calls Tryd.prog 21 #[.string R, .int .i64 a, .int .i64 13, .int .i64 106] u (Told (quotedL lang.str 13 106 34 r) at_ u)
  rune : ∀ u : World, Below w.heap.size w u → c = 39 → Calls Tryd.prog 21 #[.string R, .int .i64 a, .int .i64 12, .int .i64 107] u (Told (quotedL lang.rune 12 107 39 r) at_ u)
  sign : ∀ u : World, Below w.heap.size w u → Calls Tryd.prog 22 #[.string R, .int .i64 a] u (Told (signL lang r) at_ u)
set_option maxRecDepth 100000 in
set_option maxHeartbeats 4000000 in
theorem next_1 {s R : ByteArray} {at_ : Nat} {a : Int} {c : UInt8} {r : List UInt8} {w : World} (C : Ctx s at_ a R c r w) (m : Nx) (hm : m = right 1 3) (h1 : a = 0) (h1' : Lib.hasPrefix s.data.toList mark = true)  :
    Calls Tryd.prog 7 #[.string s, .int .i64 a] w (Told m at_ w) := by
  have HW := Lib.hid hm
  have HR := Lib.hid C.right
  have hsl := C.sl
  have hix := C.ix
  have H0 := Lib.hid C.pre0
  clear C hm
  have b1 : (a == 0) = true := beq_iff_eq.2 h1
  rw [h1'] at H0
  clear h1 h1'
  go_enter Tryd.func7, Tryd.ntmps7
  go_wp2_with (first | (go_at_call 11; (first | (with_reducible refine (H0.out _).mono ?_)); rintro e w' ⟨rfl, rfl⟩) | (go_at_call 12; refine (HR.out 1 3 _ (by omega)).mono ?_; rintro e w2 ⟨x1, y1, rfl, hxy, hb2⟩; have S2 := Lib.hid ((six_new w _ _ _ _ _ _ _ _).below hb2); obtain ⟨⟨u0, u1, u2, u3, u4, u5, k0, k1, k2, k3, k4, k5⟩, f0, f1, f2, f3, f4, f5⟩ := S2.out; have HX := Lib.hid hxy; have HB2 := Lib.hid (below2_then hb2); clear hb2 hxy))
  exact bodyPost_ret (results_two Tryd.results7 _ S2.out _ _ _ _ _ _ rfl rfl) rfl (Told.same HW.out HX.out (below_put6 HB2.out (Nat.le_refl _) _ _ _ _ _ _))
set_option maxRecDepth 100000 in
set_option maxHeartbeats 4000000 in
theorem next_2 {s R : ByteArray} {at_ : Nat} {a : Int} {c : UInt8} {r : List UInt8} {w : World} (C : Ctx s at_ a R c r w) (m : Nx) (hm : m = right 1 (runL isBl r)) (h1 : a ≠ 0 ∨ Lib.hasPrefix s.data.toList mark = false) (h2 : isBl c = true) :
    Calls Tryd.prog 7 #[.string s, .int .i64 a] w (Told m at_ w) := by
  have HW := Lib.hid hm
  have HR := Lib.hid C.right
  have HN := Lib.hid C.runB
  have HL := Lib.hid C.lenB
  have H2 := Lib.hid (fun u => isBlank_any c u)
  rw [h2] at H2
  clear h2
  have hsl := C.sl
  have hix := C.ix
  have H0 := Lib.hid C.pre0
  clear C hm
  rcases h1 with h1 | h1
  · have b1 : (a == 0) = false := beq_eq_false_iff_ne.2 h1
    clear h1
    go_enter Tryd.func7, Tryd.ntmps7
    go_wp2_with (first | (go_at_call 13; refine (H2.out _).mono ?_; rintro e w' ⟨rfl, rfl⟩) | (go_at_call 14; refine (HN.out _).mono ?_; rintro e w' ⟨rfl, rfl⟩) | (go_at_call 11; (first | (with_reducible refine (H0.out _).mono ?_)); rintro e w' ⟨rfl, rfl⟩) | (go_at_call 12; refine (HR.out 1 _ _ HL.out).mono ?_; rintro e w2 ⟨x1, y1, rfl, hxy, hb2⟩; have S2 := Lib.hid ((six_new w _ _ _ _ _ _ _ _).below hb2); obtain ⟨⟨u0, u1, u2, u3, u4, u5, k0, k1, k2, k3, k4, k5⟩, f0, f1, f2, f3, f4, f5⟩ := S2.out; have HX := Lib.hid hxy; have HB2 := Lib.hid (below2_then hb2); clear hb2 hxy))
    exact bodyPost_ret (results_two Tryd.results7 _ S2.out _ _ _ _ _ _ rfl rfl) rfl (Told.same HW.out HX.out (below_put6 HB2.out (Nat.le_refl _) _ _ _ _ _ _))
  · rw [h1] at H0
    clear h1
    obtain ⟨b, hb⟩ : ∃ b, (a == 0) = b := ⟨_, rfl⟩
    cases b
    all_goals
      go_enter Tryd.func7, Tryd.ntmps7
      go_wp2_with (first | (go_at_call 13; refine (H2.out _).mono ?_; rintro e w' ⟨rfl, rfl⟩) | (go_at_call 14; refine (HN.out _).mono ?_; rintro e w' ⟨rfl, rfl⟩) | (go_at_call 11; (first | (with_reducible refine (H0.out _).mono ?_)); rintro e w' ⟨rfl, rfl⟩) | (go_at_call 12; refine (HR.out 1 _ _ HL.out).mono ?_; rintro e w2 ⟨x1, y1, rfl, hxy, hb2⟩; have S2 := Lib.hid ((six_new w _ _ _ _ _ _ _ _).below hb2); obtain ⟨⟨u0, u1, u2, u3, u4, u5, k0, k1, k2, k3, k4, k5⟩, f0, f1, f2, f3, f4, f5⟩ := S2.out; have HX := Lib.hid hxy; have HB2 := Lib.hid (below2_then hb2); clear hb2 hxy))
      exact bodyPost_ret (results_two Tryd.results7 _ S2.out _ _ _ _ _ _ rfl rfl) rfl (Told.same HW.out HX.out (below_put6 HB2.out (Nat.le_refl _) _ _ _ _ _ _))
set_option maxRecDepth 100000 in
set_option maxHeartbeats 4000000 in
theorem next_3 {s R : ByteArray} {at_ : Nat} {a : Int} {c : UInt8} {r : List UInt8} {w : World} (C : Ctx s at_ a R c r w) (m : Nx) (hm : m = right 2 1) (h1 : a ≠ 0 ∨ Lib.hasPrefix s.data.toList mark = false) (h2 : isBl c = false) (h3 : c = 10) :
    Calls Tryd.prog 7 #[.string s, .int .i64 a] w (Told m at_ w) := by
  have HW := Lib.hid hm
  have HR := Lib.hid C.right
  have H2 := Lib.hid (fun u => isBlank_any c u)
  rw [h2] at H2
  clear h2
  have b3 : ((c.toNat : Int) == 10) = true := byte_eq (d := 10) h3
  have hsl := C.sl
  have hix := C.ix
  have H0 := Lib.hid C.pre0
  clear C hm h3
  rcases h1 with h1 | h1
  · have b1 : (a == 0) = false := beq_eq_false_iff_ne.2 h1
    clear h1
    go_enter Tryd.func7, Tryd.ntmps7
    go_wp2_with (first | (go_at_call 13; refine (H2.out _).mono ?_; rintro e w' ⟨rfl, rfl⟩) | (go_at_call 11; (first | (with_reducible refine (H0.out _).mono ?_)); rintro e w' ⟨rfl, rfl⟩) | (go_at_call 12; refine (HR.out 2 1 _ (by omega)).mono ?_; rintro e w2 ⟨x1, y1, rfl, hxy, hb2⟩; have S2 := Lib.hid ((six_new w _ _ _ _ _ _ _ _).below hb2); obtain ⟨⟨u0, u1, u2, u3, u4, u5, k0, k1, k2, k3, k4, k5⟩, f0, f1, f2, f3, f4, f5⟩ := S2.out; have HX := Lib.hid hxy; have HB2 := Lib.hid (below2_then hb2); clear hb2 hxy))
    exact bodyPost_ret (results_two Tryd.results7 _ S2.out _ _ _ _ _ _ rfl rfl) rfl (Told.same HW.out HX.out (below_put6 HB2.out (Nat.le_refl _) _ _ _ _ _ _))
  · rw [h1] at H0
    clear h1
    obtain ⟨b, hb⟩ : ∃ b, (a == 0) = b := ⟨_, rfl⟩
    cases b
    all_goals
      go_enter Tryd.func7, Tryd.ntmps7
      go_wp2_with (first | (go_at_call 13; refine (H2.out _).mono ?_; rintro e w' ⟨rfl, rfl⟩) | (go_at_call 11; (first | (with_reducible refine (H0.out _).mono ?_)); rintro e w' ⟨rfl, rfl⟩) | (go_at_call 12; refine (HR.out 2 1 _ (by omega)).mono ?_; rintro e w2 ⟨x1, y1, rfl, hxy, hb2⟩; have S2 := Lib.hid ((six_new w _ _ _ _ _ _ _ _).below hb2); obtain ⟨⟨u0, u1, u2, u3, u4, u5, k0, k1, k2, k3, k4, k5⟩, f0, f1, f2, f3, f4, f5⟩ := S2.out; have HX := Lib.hid hxy; have HB2 := Lib.hid (below2_then hb2); clear hb2 hxy))
      exact bodyPost_ret (results_two Tryd.results7 _ S2.out _ _ _ _ _ _ rfl rfl) rfl (Told.same HW.out HX.out (below_put6 HB2.out (Nat.le_refl _) _ _ _ _ _ _))
set_option maxRecDepth 100000 in
set_option maxHeartbeats 4000000 in
theorem next_4 {s R : ByteArray} {at_ : Nat} {a : Int} {c : UInt8} {r : List UInt8} {w : World} (C : Ctx s at_ a R c r w) (m : Nx) (hm : m = right 3 (runL noFeed r)) (h1 : a ≠ 0 ∨ Lib.hasPrefix s.data.toList mark = false) (h2 : isBl c = false) (h3 : c ≠ 10) (h4 : Lib.hasPrefix r [47, 47] = true) :
    Calls Tryd.prog 7 #[.string s, .int .i64 a] w (Told m at_ w) := by
  have HW := Lib.hid hm
  have HR := Lib.hid C.right
  have HN := Lib.hid C.runF
  have HL := Lib.hid C.lenF
  have H2 := Lib.hid (fun u => isBlank_any c u)
  rw [h2] at H2
  clear h2
  have b3 : ((c.toNat : Int) == 10) = false := byte_ne (d := 10) h3
  have H4 := Lib.hid C.pre1
  rw [h4] at H4
  clear h4
  have hsl := C.sl
  have hix := C.ix
  have H0 := Lib.hid C.pre0
  clear C hm h3
  rcases h1 with h1 | h1
  · have b1 : (a == 0) = false := beq_eq_false_iff_ne.2 h1
    clear h1
    go_enter Tryd.func7, Tryd.ntmps7
    go_wp2_with (first | (go_at_call 13; refine (H2.out _).mono ?_; rintro e w' ⟨rfl, rfl⟩) | (go_at_call 14; refine (HN.out _).mono ?_; rintro e w' ⟨rfl, rfl⟩) | (go_at_call 11; (first | (with_reducible refine (H0.out _).mono ?_) | (with_reducible refine (H4.out _).mono ?_)); rintro e w' ⟨rfl, rfl⟩) | (go_at_call 12; refine (HR.out 3 _ _ HL.out).mono ?_; rintro e w2 ⟨x1, y1, rfl, hxy, hb2⟩; have S2 := Lib.hid ((six_new w _ _ _ _ _ _ _ _).below hb2); obtain ⟨⟨u0, u1, u2, u3, u4, u5, k0, k1, k2, k3, k4, k5⟩, f0, f1, f2, f3, f4, f5⟩ := S2.out; have HX := Lib.hid hxy; have HB2 := Lib.hid (below2_then hb2); clear hb2 hxy))
    exact bodyPost_ret (results_two Tryd.results7 _ S2.out _ _ _ _ _ _ rfl rfl) rfl (Told.same HW.out HX.out (below_put6 HB2.out (Nat.le_refl _) _ _ _ _ _ _))
  · rw [h1] at H0
    clear h1
    obtain ⟨b, hb⟩ : ∃ b, (a == 0) = b := ⟨_, rfl⟩
    cases b
    all_goals
      go_enter Tryd.func7, Tryd.ntmps7
      go_wp2_with (first | (go_at_call 13; refine (H2.out _).mono ?_; rintro e w' ⟨rfl, rfl⟩) | (go_at_call 14; refine (HN.out _).mono ?_; rintro e w' ⟨rfl, rfl⟩) | (go_at_call 11; (first | (with_reducible refine (H0.out _).mono ?_) | (with_reducible refine (H4.out _).mono ?_)); rintro e w' ⟨rfl, rfl⟩) | (go_at_call 12; refine (HR.out 3 _ _ HL.out).mono ?_; rintro e w2 ⟨x1, y1, rfl, hxy, hb2⟩; have S2 := Lib.hid ((six_new w _ _ _ _ _ _ _ _).below hb2); obtain ⟨⟨u0, u1, u2, u3, u4, u5, k0, k1, k2, k3, k4, k5⟩, f0, f1, f2, f3, f4, f5⟩ := S2.out; have HX := Lib.hid hxy; have HB2 := Lib.hid (below2_then hb2); clear hb2 hxy))
      exact bodyPost_ret (results_two Tryd.results7 _ S2.out _ _ _ _ _ _ rfl rfl) rfl (Told.same HW.out HX.out (below_put6 HB2.out (Nat.le_refl _) _ _ _ _ _ _))
set_option maxRecDepth 100000 in
set_option maxHeartbeats 4000000 in
theorem next_5 {s R : ByteArray} {at_ : Nat} {a : Int} {c : UInt8} {r : List UInt8} {w : World} (C : Ctx s at_ a R c r w) (m : Nx) (hm : m = closedL 4 105 2 [42, 47] r) (h1 : a ≠ 0 ∨ Lib.hasPrefix s.data.toList mark = false) (h2 : isBl c = false) (h3 : c ≠ 10) (h4 : Lib.hasPrefix r [47, 47] = false) (h5 : Lib.hasPrefix r [47, 42] = true) :
    Calls Tryd.prog 7 #[.string s, .int .i64 a] w (Told m at_ w) := by
  have HW := Lib.hid hm
  have HF := Lib.hid (fun u hu => C.block u hu h5)
  have H2 := Lib.hid (fun u => isBlank_any c u)
  rw [h2] at H2
  clear h2
  have b3 : ((c.toNat : Int) == 10) = false := byte_ne (d := 10) h3
  have H4 := Lib.hid C.pre1
  rw [h4] at H4
  clear h4
  have H5 := Lib.hid C.pre2
  rw [h5] at H5
  have hsl := C.sl
  have hix := C.ix
  have H0 := Lib.hid C.pre0
  clear C hm h3 h5
  rcases h1 with h1 | h1
  · have b1 : (a == 0) = false := beq_eq_false_iff_ne.2 h1
    clear h1
    go_enter Tryd.func7, Tryd.ntmps7
    go_wp2_with (first | (go_at_call 13; refine (H2.out _).mono ?_; rintro e w' ⟨rfl, rfl⟩) | (go_at_call 11; (first | (with_reducible refine (H0.out _).mono ?_) | (with_reducible refine (H4.out _).mono ?_) | (with_reducible refine (H5.out _).mono ?_)); rintro e w' ⟨rfl, rfl⟩) | (go_at_call 16; refine (HF.out _ (below2 w _ _)).mono ?_; rintro e w2 ⟨x1, y1, rfl, hxy, hb2⟩; have S2 := Lib.hid ((six_new w _ _ _ _ _ _ _ _).below hb2); obtain ⟨⟨u0, u1, u2, u3, u4, u5, k0, k1, k2, k3, k4, k5⟩, f0, f1, f2, f3, f4, f5⟩ := S2.out; have HX := Lib.hid hxy; have HB2 := Lib.hid (below2_then hb2); clear hb2 hxy))
    exact bodyPost_ret (results_two Tryd.results7 _ S2.out _ _ _ _ _ _ rfl rfl) rfl (Told.same HW.out HX.out (below_put6 HB2.out (Nat.le_refl _) _ _ _ _ _ _))
  · rw [h1] at H0
    clear h1
    obtain ⟨b, hb⟩ : ∃ b, (a == 0) = b := ⟨_, rfl⟩
    cases b
    all_goals
      go_enter Tryd.func7, Tryd.ntmps7
      go_wp2_with (first | (go_at_call 13; refine (H2.out _).mono ?_; rintro e w' ⟨rfl, rfl⟩) | (go_at_call 11; (first | (with_reducible refine (H0.out _).mono ?_) | (with_reducible refine (H4.out _).mono ?_) | (with_reducible refine (H5.out _).mono ?_)); rintro e w' ⟨rfl, rfl⟩) | (go_at_call 16; refine (HF.out _ (below2 w _ _)).mono ?_; rintro e w2 ⟨x1, y1, rfl, hxy, hb2⟩; have S2 := Lib.hid ((six_new w _ _ _ _ _ _ _ _).below hb2); obtain ⟨⟨u0, u1, u2, u3, u4, u5, k0, k1, k2, k3, k4, k5⟩, f0, f1, f2, f3, f4, f5⟩ := S2.out; have HX := Lib.hid hxy; have HB2 := Lib.hid (below2_then hb2); clear hb2 hxy))
      exact bodyPost_ret (results_two Tryd.results7 _ S2.out _ _ _ _ _ _ rfl rfl) rfl (Told.same HW.out HX.out (below_put6 HB2.out (Nat.le_refl _) _ _ _ _ _ _))
set_option maxRecDepth 100000 in
set_option maxHeartbeats 4000000 in
theorem next_6 {s R : ByteArray} {at_ : Nat} {a : Int} {c : UInt8} {r : List UInt8} {w : World} (C : Ctx s at_ a R c r w) (m : Nx) (hm : m = wordL lang r) (h1 : a ≠ 0 ∨ Lib.hasPrefix s.data.toList mark = false) (h2 : isBl c = false) (h3 : c ≠ 10) (h4 : Lib.hasPrefix r [47, 47] = false) (h5 : Lib.hasPrefix r [47, 42] = false) (h6 : isLt c = true) :
    Calls Tryd.prog 7 #[.string s, .int .i64 a] w (Told m at_ w) := by
  have HW := Lib.hid hm
  have HF := Lib.hid C.word
  have H2 := Lib.hid (fun u => isBlank_any c u)
  rw [h2] at H2
  clear h2
  have b3 : ((c.toNat : Int) == 10) = false := byte_ne (d := 10) h3
  have H4 := Lib.hid C.pre1
  rw [h4] at H4
  clear h4
  have H5 := Lib.hid C.pre2
  rw [h5] at H5
  have H6 := Lib.hid (fun u => isLetter_any c u)
  rw [h6] at H6
  clear h6
  have hsl := C.sl
  have hix := C.ix
  have H0 := Lib.hid C.pre0
  clear C hm h3 h5
  rcases h1 with h1 | h1
  · have b1 : (a == 0) = false := beq_eq_false_iff_ne.2 h1
    clear h1
    go_enter Tryd.func7, Tryd.ntmps7
    go_wp2_with (first | (go_at_call 13; refine (H2.out _).mono ?_; rintro e w' ⟨rfl, rfl⟩) | (go_at_call 17; refine (H6.out _).mono ?_; rintro e w' ⟨rfl, rfl⟩) | (go_at_call 11; (first | (with_reducible refine (H0.out _).mono ?_) | (with_reducible refine (H4.out _).mono ?_) | (with_reducible refine (H5.out _).mono ?_)); rintro e w' ⟨rfl, rfl⟩) | (go_at_call 18; refine (HF.out _).mono ?_; rintro e w2 ⟨x1, y1, rfl, hxy, hb2⟩; have S2 := Lib.hid ((six_new w _ _ _ _ _ _ _ _).below hb2); obtain ⟨⟨u0, u1, u2, u3, u4, u5, k0, k1, k2, k3, k4, k5⟩, f0, f1, f2, f3, f4, f5⟩ := S2.out; have HX := Lib.hid hxy; have HB2 := Lib.hid (below2_then hb2); clear hb2 hxy))
    exact bodyPost_ret (results_two Tryd.results7 _ S2.out _ _ _ _ _ _ rfl rfl) rfl (Told.same HW.out HX.out (below_put6 HB2.out (Nat.le_refl _) _ _ _ _ _ _))
  · rw [h1] at H0
    clear h1
    obtain ⟨b, hb⟩ : ∃ b, (a == 0) = b := ⟨_, rfl⟩
    cases b
    all_goals
      go_enter Tryd.func7, Tryd.ntmps7
      go_wp2_with (first | (go_at_call 13; refine (H2.out _).mono ?_; rintro e w' ⟨rfl, rfl⟩) | (go_at_call 17; refine (H6.out _).mono ?_; rintro e w' ⟨rfl, rfl⟩) | (go_at_call 11; (first | (with_reducible refine (H0.out _).mono ?_) | (with_reducible refine (H4.out _).mono ?_) | (with_reducible refine (H5.out _).mono ?_)); rintro e w' ⟨rfl, rfl⟩) | (go_at_call 18; refine (HF.out _).mono ?_; rintro e w2 ⟨x1, y1, rfl, hxy, hb2⟩; have S2 := Lib.hid ((six_new w _ _ _ _ _ _ _ _).below hb2); obtain ⟨⟨u0, u1, u2, u3, u4, u5, k0, k1, k2, k3, k4, k5⟩, f0, f1, f2, f3, f4, f5⟩ := S2.out; have HX := Lib.hid hxy; have HB2 := Lib.hid (below2_then hb2); clear hb2 hxy))
      exact bodyPost_ret (results_two Tryd.results7 _ S2.out _ _ _ _ _ _ rfl rfl) rfl (Told.same HW.out HX.out (below_put6 HB2.out (Nat.le_refl _) _ _ _ _ _ _))
set_option maxRecDepth 100000 in
set_option maxHeartbeats 4000000 in
theorem next_7 {s R : ByteArray} {at_ : Nat} {a : Int} {c : UInt8} {r : List UInt8} {w : World} (C : Ctx s at_ a R c r w) (m : Nx) (hm : m = numL lang r) (h1 : a ≠ 0 ∨ Lib.hasPrefix s.data.toList mark = false) (h2 : isBl c = false) (h3 : c ≠ 10) (h4 : Lib.hasPrefix r [47, 47] = false) (h5 : Lib.hasPrefix r [47, 42] = false) (h6 : isLt c = false) (h7 : isDg c = true) :
    Calls Tryd.prog 7 #[.string s, .int .i64 a] w (Told m at_ w) := by
  have HW := Lib.hid hm
  have HF := Lib.hid C.num
  have H2 := Lib.hid (fun u => isBlank_any c u)
  rw [h2] at H2
  clear h2
  have b3 : ((c.toNat : Int) == 10) = false := byte_ne (d := 10) h3
  have H4 := Lib.hid C.pre1
  rw [h4] at H4
  clear h4
  have H5 := Lib.hid C.pre2
  rw [h5] at H5
  have H6 := Lib.hid (fun u => isLetter_any c u)
  rw [h6] at H6
  clear h6
  have H7 := Lib.hid (fun u => isDigit_any c u)
  rw [h7] at H7
  clear h7
  have hsl := C.sl
  have hix := C.ix
  have H0 := Lib.hid C.pre0
  clear C hm h3 h5
  rcases h1 with h1 | h1
  · have b1 : (a == 0) = false := beq_eq_false_iff_ne.2 h1
    clear h1
    go_enter Tryd.func7, Tryd.ntmps7
    go_wp2_with (first | (go_at_call 13; refine (H2.out _).mono ?_; rintro e w' ⟨rfl, rfl⟩) | (go_at_call 17; refine (H6.out _).mono ?_; rintro e w' ⟨rfl, rfl⟩) | (go_at_call 19; refine (H7.out _).mono ?_; rintro e w' ⟨rfl, rfl⟩) | (go_at_call 11; (first | (with_reducible refine (H0.out _).mono ?_) | (with_reducible refine (H4.out _).mono ?_) | (with_reducible refine (H5.out _).mono ?_)); rintro e w' ⟨rfl, rfl⟩) | (go_at_call 20; refine (HF.out _).mono ?_; rintro e w2 ⟨x1, y1, rfl, hxy, hb2⟩; have S2 := Lib.hid ((six_new w _ _ _ _ _ _ _ _).below hb2); obtain ⟨⟨u0, u1, u2, u3, u4, u5, k0, k1, k2, k3, k4, k5⟩, f0, f1, f2, f3, f4, f5⟩ := S2.out; have HX := Lib.hid hxy; have HB2 := Lib.hid (below2_then hb2); clear hb2 hxy))
    exact bodyPost_ret (results_two Tryd.results7 _ S2.out _ _ _ _ _ _ rfl rfl) rfl (Told.same HW.out HX.out (below_put6 HB2.out (Nat.le_refl _) _ _ _ _ _ _))
  · rw [h1] at H0
    clear h1
    obtain ⟨b, hb⟩ : ∃ b, (a == 0) = b := ⟨_, rfl⟩
    cases b
    all_goals
      go_enter Tryd.func7, Tryd.ntmps7
      go_wp2_with (first | (go_at_call 13; refine (H2.out _).mono ?_; rintro e w' ⟨rfl, rfl⟩) | (go_at_call 17; refine (H6.out _).mono ?_; rintro e w' ⟨rfl, rfl⟩) | (go_at_call 19; refine (H7.out _).mono ?_; rintro e w' ⟨rfl, rfl⟩) | (go_at_call 11; (first | (with_reducible refine (H0.out _).mono ?_) | (with_reducible refine (H4.out _).mono ?_) | (with_reducible refine (H5.out _).mono ?_)); rintro e w' ⟨rfl, rfl⟩) | (go_at_call 20; refine (HF.out _).mono ?_; rintro e w2 ⟨x1, y1, rfl, hxy, hb2⟩; have S2 := Lib.hid ((six_new w _ _ _ _ _ _ _ _).below hb2); obtain ⟨⟨u0, u1, u2, u3, u4, u5, k0, k1, k2, k3, k4, k5⟩, f0, f1, f2, f3, f4, f5⟩ := S2.out; have HX := Lib.hid hxy; have HB2 := Lib.hid (below2_then hb2); clear hb2 hxy))
      exact bodyPost_ret (results_two Tryd.results7 _ S2.out _ _ _ _ _ _ rfl rfl) rfl (Told.same HW.out HX.out (below_put6 HB2.out (Nat.le_refl _) _ _ _ _ _ _))
set_option maxRecDepth 100000 in
set_option maxHeartbeats 4000000 in
theorem next_8 {s R : ByteArray} {at_ : Nat} {a : Int} {c : UInt8} {r : List UInt8} {w : World} (C : Ctx s at_ a R c r w) (m : Nx) (hm : m = quotedL lang.str 13 106 34 r) (h1 : a ≠ 0 ∨ Lib.hasPrefix s.data.toList mark = false) (h2 : isBl c = false) (h3 : c ≠ 10) (h4 : Lib.hasPrefix r [47, 47] = false) (h5 : Lib.hasPrefix r [47, 42] = false) (h6 : isLt c = false) (h7 : isDg c = false) (h8 : c = 34) :
    Calls Tryd.prog 7 #[.string s, .int .i64 a] w (Told m at_ w) := by
  have HW := Lib.hid hm
  have HF := Lib.hid (fun u hu => C.str u hu h8)
  have H2 := Lib.hid (fun u => isBlank_any c u)
  rw [h2] at H2
  clear h2
  have b3 : ((c.toNat : Int) == 10) = false := byte_ne (d := 10) h3
  have H4 := Lib.hid C.pre1
  rw [h4] at H4
  clear h4
  have H5 := Lib.hid C.pre2
  rw [h5] at H5
  have H6 := Lib.hid (fun u => isLetter_any c u)
  rw [h6] at H6
  clear h6
  have H7 := Lib.hid (fun u => isDigit_any c u)
  rw [h7] at H7
  clear h7
  have b8 : ((c.toNat : Int) == 34) = true := byte_eq (d := 34) h8
  have hsl := C.sl
  have hix := C.ix
  have H0 := Lib.hid C.pre0
  clear C hm h3 h5 h8
  rcases h1 with h1 | h1
  · have b1 : (a == 0) = false := beq_eq_false_iff_ne.2 h1
    clear h1
    go_enter Tryd.func7, Tryd.ntmps7
    go_wp2_with (first | (go_at_call 13; refine (H2.out _).mono ?_; rintro e w' ⟨rfl, rfl⟩) | (go_at_call 17; refine (H6.out _).mono ?_; rintro e w' ⟨rfl, rfl⟩) | (go_at_call 19; refine (H7.out _).mono ?_; rintro e w' ⟨rfl, rfl⟩) | (go_at_call 11; (first | (with_reducible refine (H0.out _).mono ?_) | (with_reducible refine (H4.out _).mono ?_) | (with_reducible refine (H5.out _).mono ?_)); rintro e w' ⟨rfl, rfl⟩) | (go_at_call 21; refine (HF.out _ (below2 w _ _)).mono ?_; rintro e w2 ⟨x1, y1, rfl, hxy, hb2⟩; have S2 := Lib.hid ((six_new w _ _ _ _ _ _ _ _).below hb2); obtain ⟨⟨u0, u1, u2, u3, u4, u5, k0, k1, k2, k3, k4, k5⟩, f0, f1, f2, f3, f4, f5⟩ := S2.out; have HX := Lib.hid hxy; have HB2 := Lib.hid (below2_then hb2); clear hb2 hxy))
    exact bodyPost_ret (results_two Tryd.results7 _ S2.out _ _ _ _ _ _ rfl rfl) rfl (Told.same HW.out HX.out (below_put6 HB2.out (Nat.le_refl _) _ _ _ _ _ _))
  · rw [h1] at H0
    clear h1
    obtain ⟨b, hb⟩ : ∃ b, (a == 0) = b := ⟨_, rfl⟩
    cases b
    all_goals
      go_enter Tryd.func7, Tryd.ntmps7
      go_wp2_with (first | (go_at_call 13; refine (H2.out _).mono ?_; rintro e w' ⟨rfl, rfl⟩) | (go_at_call 17; refine (H6.out _).mono ?_; rintro e w' ⟨rfl, rfl⟩) | (go_at_call 19; refine (H7.out _).mono ?_; rintro e w' ⟨rfl, rfl⟩) | (go_at_call 11; (first | (with_reducible refine (H0.out _).mono ?_) | (with_reducible refine (H4.out _).mono ?_) | (with_reducible refine (H5.out _).mono ?_)); rintro e w' ⟨rfl, rfl⟩) | (go_at_call 21; refine (HF.out _ (below2 w _ _)).mono ?_; rintro e w2 ⟨x1, y1, rfl, hxy, hb2⟩; have S2 := Lib.hid ((six_new w _ _ _ _ _ _ _ _).below hb2); obtain ⟨⟨u0, u1, u2, u3, u4, u5, k0, k1, k2, k3, k4, k5⟩, f0, f1, f2, f3, f4, f5⟩ := S2.out; have HX := Lib.hid hxy; have HB2 := Lib.hid (below2_then hb2); clear hb2 hxy))
      exact bodyPost_ret (results_two Tryd.results7 _ S2.out _ _ _ _ _ _ rfl rfl) rfl (Told.same HW.out HX.out (below_put6 HB2.out (Nat.le_refl _) _ _ _ _ _ _))
set_option maxRecDepth 100000 in
set_option maxHeartbeats 4000000 in
theorem next_9 {s R : ByteArray} {at_ : Nat} {a : Int} {c : UInt8} {r : List UInt8} {w : World} (C : Ctx s at_ a R c r w) (m : Nx) (hm : m = quotedL lang.rune 12 107 39 r) (h1 : a ≠ 0 ∨ Lib.hasPrefix s.data.toList mark = false) (h2 : isBl c = false) (h3 : c ≠ 10) (h4 : Lib.hasPrefix r [47, 47] = false) (h5 : Lib.hasPrefix r [47, 42] = false) (h6 : isLt c = false) (h7 : isDg c = false) (h8 : c ≠ 34) (h9 : c = 39) :
    Calls Tryd.prog 7 #[.string s, .int .i64 a] w (Told m at_ w) := by
  have HW := Lib.hid hm
  have HF := Lib.hid (fun u hu => C.rune u hu h9)
  have H2 := Lib.hid (fun u => isBlank_any c u)
  rw [h2] at H2
  clear h2
  have b3 : ((c.toNat : Int) == 10) = false := byte_ne (d := 10) h3
  have H4 := Lib.hid C.pre1
  rw [h4] at H4
  clear h4
  have H5 := Lib.hid C.pre2
  rw [h5] at H5
  have H6 := Lib.hid (fun u => isLetter_any c u)
  rw [h6] at H6
  clear h6
  have H7 := Lib.hid (fun u => isDigit_any c u)
  rw [h7] at H7
  clear h7
  have b8 : ((c.toNat : Int) == 34) = false := byte_ne (d := 34) h8
  have b9 : ((c.toNat : Int) == 39) = true := byte_eq (d := 39) h9
  have hsl := C.sl
  have hix := C.ix
  have H0 := Lib.hid C.pre0
  clear C hm h3 h5 h8 h9
  rcases h1 with h1 | h1
  · have b1 : (a == 0) = false := beq_eq_false_iff_ne.2 h1
    clear h1
    go_enter Tryd.func7, Tryd.ntmps7
    go_wp2_with (first | (go_at_call 13; refine (H2.out _).mono ?_; rintro e w' ⟨rfl, rfl⟩) | (go_at_call 17; refine (H6.out _).mono ?_; rintro e w' ⟨rfl, rfl⟩) | (go_at_call 19; refine (H7.out _).mono ?_; rintro e w' ⟨rfl, rfl⟩) | (go_at_call 11; (first | (with_reducible refine (H0.out _).mono ?_) | (with_reducible refine (H4.out _).mono ?_) | (with_reducible refine (H5.out _).mono ?_)); rintro e w' ⟨rfl, rfl⟩) | (go_at_call 21; refine (HF.out _ (below2 w _ _)).mono ?_; rintro e w2 ⟨x1, y1, rfl, hxy, hb2⟩; have S2 := Lib.hid ((six_new w _ _ _ _ _ _ _ _).below hb2); obtain ⟨⟨u0, u1, u2, u3, u4, u5, k0, k1, k2, k3, k4, k5⟩, f0, f1, f2, f3, f4, f5⟩ := S2.out; have HX := Lib.hid hxy; have HB2 := Lib.hid (below2_then hb2); clear hb2 hxy))
    exact bodyPost_ret (results_two Tryd.results7 _ S2.out _ _ _ _ _ _ rfl rfl) rfl (Told.same HW.out HX.out (below_put6 HB2.out (Nat.le_refl _) _ _ _ _ _ _))
  · rw [h1] at H0
    clear h1
    obtain ⟨b, hb⟩ : ∃ b, (a == 0) = b := ⟨_, rfl⟩
    cases b
    all_goals
      go_enter Tryd.func7, Tryd.ntmps7
      go_wp2_with (first | (go_at_call 13; refine (H2.out _).mono ?_; rintro e w' ⟨rfl, rfl⟩) | (go_at_call 17; refine (H6.out _).mono ?_; rintro e w' ⟨rfl, rfl⟩) | (go_at_call 19; refine (H7.out _).mono ?_; rintro e w' ⟨rfl, rfl⟩) | (go_at_call 11; (first | (with_reducible refine (H0.out _).mono ?_) | (with_reducible refine (H4.out _).mono ?_) | (with_reducible refine (H5.out _).mono ?_)); rintro e w' ⟨rfl, rfl⟩) | (go_at_call 21; refine (HF.out _ (below2 w _ _)).mono ?_; rintro e w2 ⟨x1, y1, rfl, hxy, hb2⟩; have S2 := Lib.hid ((six_new w _ _ _ _ _ _ _ _).below hb2); obtain ⟨⟨u0, u1, u2, u3, u4, u5, k0, k1, k2, k3, k4, k5⟩, f0, f1, f2, f3, f4, f5⟩ := S2.out; have HX := Lib.hid hxy; have HB2 := Lib.hid (below2_then hb2); clear hb2 hxy))
      exact bodyPost_ret (results_two Tryd.results7 _ S2.out _ _ _ _ _ _ rfl rfl) rfl (Told.same HW.out HX.out (below_put6 HB2.out (Nat.le_refl _) _ _ _ _ _ _))
set_option maxRecDepth 100000 in
set_option maxHeartbeats 4000000 in
theorem next_10 {s R : ByteArray} {at_ : Nat} {a : Int} {c : UInt8} {r : List UInt8} {w : World} (C : Ctx s at_ a R c r w) (m : Nx) (hm : m = closedL 14 106 1 [96] r) (h1 : a ≠ 0 ∨ Lib.hasPrefix s.data.toList mark = false) (h2 : isBl c = false) (h3 : c ≠ 10) (h4 : Lib.hasPrefix r [47, 47] = false) (h5 : Lib.hasPrefix r [47, 42] = false) (h6 : isLt c = false) (h7 : isDg c = false) (h8 : c ≠ 34) (h9 : c ≠ 39) (h10 : c = 96) :
    Calls Tryd.prog 7 #[.string s, .int .i64 a] w (Told m at_ w) := by
  have HW := Lib.hid hm
  have HF := Lib.hid C.raw
  have H2 := Lib.hid (fun u => isBlank_any c u)
  rw [h2] at H2
  clear h2
  have b3 : ((c.toNat : Int) == 10) = false := byte_ne (d := 10) h3
  have H4 := Lib.hid C.pre1
  rw [h4] at H4
  clear h4
  have H5 := Lib.hid C.pre2
  rw [h5] at H5
  have H6 := Lib.hid (fun u => isLetter_any c u)
  rw [h6] at H6
  clear h6
  have H7 := Lib.hid (fun u => isDigit_any c u)
  rw [h7] at H7
  clear h7
  have b8 : ((c.toNat : Int) == 34) = false := byte_ne (d := 34) h8
  have b9 : ((c.toNat : Int) == 39) = false := byte_ne (d := 39) h9
  have b10 : ((c.toNat : Int) == 96) = true := byte_eq (d := 96) h10
  have hsl := C.sl
  have hix := C.ix
  have H0 := Lib.hid C.pre0
  clear C hm h3 h5 h8 h9 h10
  rcases h1 with h1 | h1
  · have b1 : (a == 0) = false := beq_eq_false_iff_ne.2 h1
    clear h1
    go_enter Tryd.func7, Tryd.ntmps7
    go_wp2_with (first | (go_at_call 13; refine (H2.out _).mono ?_; rintro e w' ⟨rfl, rfl⟩) | (go_at_call 17; refine (H6.out _).mono ?_; rintro e w' ⟨rfl, rfl⟩) | (go_at_call 19; refine (H7.out _).mono ?_; rintro e w' ⟨rfl, rfl⟩) | (go_at_call 11; (first | (with_reducible refine (H0.out _).mono ?_) | (with_reducible refine (H4.out _).mono ?_) | (with_reducible refine (H5.out _).mono ?_)); rintro e w' ⟨rfl, rfl⟩) | (go_at_call 16; refine (HF.out _ (below2 w _ _)).mono ?_; rintro e w2 ⟨x1, y1, rfl, hxy, hb2⟩; have S2 := Lib.hid ((six_new w _ _ _ _ _ _ _ _).below hb2); obtain ⟨⟨u0, u1, u2, u3, u4, u5, k0, k1, k2, k3, k4, k5⟩, f0, f1, f2, f3, f4, f5⟩ := S2.out; have HX := Lib.hid hxy; have HB2 := Lib.hid (below2_then hb2); clear hb2 hxy))
    exact bodyPost_ret (results_two Tryd.results7 _ S2.out _ _ _ _ _ _ rfl rfl) rfl (Told.same HW.out HX.out (below_put6 HB2.out (Nat.le_refl _) _ _ _ _ _ _))
  · rw [h1] at H0
    clear h1
    obtain ⟨b, hb⟩ : ∃ b, (a == 0) = b := ⟨_, rfl⟩
    cases b
    all_goals
      go_enter Tryd.func7, Tryd.ntmps7
      go_wp2_with (first | (go_at_call 13; refine (H2.out _).mono ?_; rintro e w' ⟨rfl, rfl⟩) | (go_at_call 17; refine (H6.out _).mono ?_; rintro e w' ⟨rfl, rfl⟩) | (go_at_call 19; refine (H7.out _).mono ?_; rintro e w' ⟨rfl, rfl⟩) | (go_at_call 11; (first | (with_reducible refine (H0.out _).mono ?_) | (with_reducible refine (H4.out _).mono ?_) | (with_reducible refine (H5.out _).mono ?_)); rintro e w' ⟨rfl, rfl⟩) | (go_at_call 16; refine (HF.out _ (below2 w _ _)).mono ?_; rintro e w2 ⟨x1, y1, rfl, hxy, hb2⟩; have S2 := Lib.hid ((six_new w _ _ _ _ _ _ _ _).below hb2); obtain ⟨⟨u0, u1, u2, u3, u4, u5, k0, k1, k2, k3, k4, k5⟩, f0, f1, f2, f3, f4, f5⟩ := S2.out; have HX := Lib.hid hxy; have HB2 := Lib.hid (below2_then hb2); clear hb2 hxy))
      exact bodyPost_ret (results_two Tryd.results7 _ S2.out _ _ _ _ _ _ rfl rfl) rfl (Told.same HW.out HX.out (below_put6 HB2.out (Nat.le_refl _) _ _ _ _ _ _))
set_option maxRecDepth 100000 in
set_option maxHeartbeats 4000000 in
theorem next_11 {s R : ByteArray} {at_ : Nat} {a : Int} {c : UInt8} {r : List UInt8} {w : World} (C : Ctx s at_ a R c r w) (m : Nx) (hm : m = signL lang r) (h1 : a ≠ 0 ∨ Lib.hasPrefix s.data.toList mark = false) (h2 : isBl c = false) (h3 : c ≠ 10) (h4 : Lib.hasPrefix r [47, 47] = false) (h5 : Lib.hasPrefix r [47, 42] = false) (h6 : isLt c = false) (h7 : isDg c = false) (h8 : c ≠ 34) (h9 : c ≠ 39) (h10 : c ≠ 96) :
    Calls Tryd.prog 7 #[.string s, .int .i64 a] w (Told m at_ w) := by
  have HW := Lib.hid hm
  have HF := Lib.hid C.sign
  have H2 := Lib.hid (fun u => isBlank_any c u)
  rw [h2] at H2
  clear h2
  have b3 : ((c.toNat : Int) == 10) = false := byte_ne (d := 10) h3
  have H4 := Lib.hid C.pre1
  rw [h4] at H4
  clear h4
  have H5 := Lib.hid C.pre2
  rw [h5] at H5
  have H6 := Lib.hid (fun u => isLetter_any c u)
  rw [h6] at H6
  clear h6
  have H7 := Lib.hid (fun u => isDigit_any c u)
  rw [h7] at H7
  clear h7
  have b8 : ((c.toNat : Int) == 34) = false := byte_ne (d := 34) h8
  have b9 : ((c.toNat : Int) == 39) = false := byte_ne (d := 39) h9
  have b10 : ((c.toNat : Int) == 96) = false := byte_ne (d := 96) h10
  have hsl := C.sl
  have hix := C.ix
  have H0 := Lib.hid C.pre0
  clear C hm h3 h5 h8 h9 h10
  rcases h1 with h1 | h1
  · have b1 : (a == 0) = false := beq_eq_false_iff_ne.2 h1
    clear h1
    go_enter Tryd.func7, Tryd.ntmps7
    go_wp2_with (first | (go_at_call 13; refine (H2.out _).mono ?_; rintro e w' ⟨rfl, rfl⟩) | (go_at_call 17; refine (H6.out _).mono ?_; rintro e w' ⟨rfl, rfl⟩) | (go_at_call 19; refine (H7.out _).mono ?_; rintro e w' ⟨rfl, rfl⟩) | (go_at_call 11; (first | (with_reducible refine (H0.out _).mono ?_) | (with_reducible refine (H4.out _).mono ?_) | (with_reducible refine (H5.out _).mono ?_)); rintro e w' ⟨rfl, rfl⟩) | (go_at_call 22; refine (HF.out _ (below2 w _ _)).mono ?_; rintro e w2 ⟨x1, y1, rfl, hxy, hb2⟩; have S2 := Lib.hid ((six_new w _ _ _ _ _ _ _ _).below hb2); obtain ⟨⟨u0, u1, u2, u3, u4, u5, k0, k1, k2, k3, k4, k5⟩, f0, f1, f2, f3, f4, f5⟩ := S2.out; have HX := Lib.hid hxy; have HB2 := Lib.hid (below2_then hb2); clear hb2 hxy))
    exact bodyPost_ret (results_two Tryd.results7 _ S2.out _ _ _ _ _ _ rfl rfl) rfl (Told.same HW.out HX.out (below_put6 HB2.out (Nat.le_refl _) _ _ _ _ _ _))
  · rw [h1] at H0
    clear h1
    obtain ⟨b, hb⟩ : ∃ b, (a == 0) = b := ⟨_, rfl⟩
    cases b
    all_goals
      go_enter Tryd.func7, Tryd.ntmps7
      go_wp2_with (first | (go_at_call 13; refine (H2.out _).mono ?_; rintro e w' ⟨rfl, rfl⟩) | (go_at_call 17; refine (H6.out _).mono ?_; rintro e w' ⟨rfl, rfl⟩) | (go_at_call 19; refine (H7.out _).mono ?_; rintro e w' ⟨rfl, rfl⟩) | (go_at_call 11; (first | (with_reducible refine (H0.out _).mono ?_) | (with_reducible refine (H4.out _).mono ?_) | (with_reducible refine (H5.out _).mono ?_)); rintro e w' ⟨rfl, rfl⟩) | (go_at_call 22; refine (HF.out _ (below2 w _ _)).mono ?_; rintro e w2 ⟨x1, y1, rfl, hxy, hb2⟩; have S2 := Lib.hid ((six_new w _ _ _ _ _ _ _ _).below hb2); obtain ⟨⟨u0, u1, u2, u3, u4, u5, k0, k1, k2, k3, k4, k5⟩, f0, f1, f2, f3, f4, f5⟩ := S2.out; have HX := Lib.hid hxy; have HB2 := Lib.hid (below2_then hb2); clear hb2 hxy))
      exact bodyPost_ret (results_two Tryd.results7 _ S2.out _ _ _ _ _ _ rfl rfl) rfl (Told.same HW.out HX.out (below_put6 HB2.out (Nat.le_refl _) _ _ _ _ _ _))
end Go.Proofs.YtjbamlmdeopcaaaDoor.lx
