/-
  Texts put together: Lh, Li, Lj, Lk, Ll, Lm, Rca, Rba.
-/
import Derived.Test.YtjbamlmdeopcaaaGreatDoorPa4
import Derived.BigQuiet
import Derived.Deep.QuietTactic
section
/-
  lexer.quoted.
-/
namespace Go.Proofs.YtjbamlmdeopcaaaGreatDoor.lx
open Go.RowKit Go.Proofs.YtjbamlmdeopcaaaGreatDoor.tok

theorem boxes_then {w1 w3 : World} {x0 x1 x2 y0 y1 y2 : Value} {t u : TypeId} (hb : Below ((w1.alloc (.cells #[x0, x1, x2] t)).alloc (.cells #[y0, y1, y2] u)).heap.size ((w1.alloc (.cells #[x0, x1, x2] t)).alloc (.cells #[y0, y1, y2] u)) w3) :
    (w3.cell? ⟨w1.heap.size, 0, none⟩ = some x0 ∧ w3.cell? ⟨w1.heap.size, 1, none⟩ = some x1 ∧ w3.cell? ⟨w1.heap.size, 2, none⟩ = some x2 ∧ w3.cell? ⟨w1.heap.size + 1, 0, none⟩ = some y0 ∧ w3.cell? ⟨w1.heap.size + 1, 1, none⟩ = some y1 ∧ w3.cell? ⟨w1.heap.size + 1, 2, none⟩ = some y2) ∧
    w3.frozen? ⟨w1.heap.size + 1, 0, none⟩ = false ∧ w3.frozen? ⟨w1.heap.size + 1, 1, none⟩ = false ∧ w3.frozen? ⟨w1.heap.size + 1, 2, none⟩ = false := by
  obtain ⟨hc, hf⟩ := bcell hb
  refine ⟨⟨?_, ?_, ?_, ?_, ?_, ?_⟩, ?_, ?_, ?_⟩
  all_goals first
    | (rw [hc _ _ (by simp; try omega)]; simp)
    | (rw [hf _ _ (by simp; try omega)]; simp)
theorem six_past {w : World} {b q o : Nat} (h : Six w b) (hq : b + 1 < q) (v : Value) : Six (w.setCell ⟨q, o, none⟩ v) b := by
  obtain ⟨⟨u0, u1, u2, u3, u4, u5, k0, k1, k2, k3, k4, k5⟩, f0, f1, f2, f3, f4, f5⟩ := h
  have c : ∀ (p i : Nat) (u : Value), p < q → w.cell? ⟨p, i, none⟩ = some u → (w.setCell ⟨q, o, none⟩ v).cell? ⟨p, i, none⟩ = some u := fun p i u hp hv => by
    rw [World.cell?_setCell_other _ _ _ _ (fun e => by have := congrArg Addr.block e; simp at this; omega)]; exact hv
  have f : ∀ (p i : Nat), w.frozen? ⟨p, i, none⟩ = false → (w.setCell ⟨q, o, none⟩ v).frozen? ⟨p, i, none⟩ = false := fun p i hv => by
    simpa using hv
  exact ⟨⟨u0, u1, u2, u3, u4, u5, c _ _ _ (by omega) k0, c _ _ _ (by omega) k1, c _ _ _ (by omega) k2, c _ _ _ (by omega) k3, c _ _ _ (by omega) k4, c _ _ _ (by omega) k5⟩, f _ _ f0, f _ _ f1, f _ _ f2, f _ _ f3, f _ _ f4, f _ _ f5⟩
theorem Told.mk' {m : Nx} {at_ : Nat} {w w' : World} {v : Value} {x y : Int} (hv : v = .tuple #[.agg #[.int .i64 m.kind, .int .i64 (at_ : Int), .int .i64 ((at_ : Int) + (m.width : Int))], .agg #[.int .i64 m.code, .int .i64 x, .int .i64 y]])
    (hxy : m.code ≠ 0 → x = (at_ : Int) + (m.off : Int) ∧ y = (at_ : Int) + (m.off : Int) + (m.dw : Int)) (hb : Below w.heap.size w w') : Told m at_ w (.returned v) w' := by
  subst hv
  exact ⟨x, y, rfl, hxy, hb⟩
set_option maxRecDepth 100000 in
theorem results_drew {fn : Func} {i j : Tmp} (h : fn.results = #[.cell i 29, .cell j 27]) (tmps : Array Value) {w : World} {b : Nat} (hs : Six w b) (a0 a1 a2 a3 a4 a5 : Value)
    (hi : tmps.getD i undef = .pointer (some ⟨b, 0, none⟩)) (hj : tmps.getD j undef = .pointer (some ⟨b + 1, 0, none⟩)) :
    (results fn tmps).run Tryz.prog (put6 w b a0 a1 a2 a3 a4 a5).drew = .ok (.tuple #[.agg #[a0, a1, a2], .agg #[a3, a4, a5]]) (put6 w b a0 a1 a2 a3 a4 a5).drew := by
  obtain ⟨r0, r1, r2, r3, r4, r5⟩ := put6_reads hs a0 a1 a2 a3 a4 a5
  have hi' : tmps[i]?.getD undef = .pointer (some ⟨b, 0, none⟩) := by simpa using hi
  have hj' : tmps[j]?.getD undef = .pointer (some ⟨b + 1, 0, none⟩) := by simpa using hj
  generalize put6 w b a0 a1 a2 a3 a4 a5 = W at *
  simp [results, h, hi', hj', r0, r1, r2, r3, r4, r5, go_sem]
set_option maxRecDepth 100000 in
set_option maxHeartbeats 4000000 in
theorem quoted_any (f : List UInt8 → Int × Nat) (s : ByteArray) (kind code : Int) (at_ : Nat) (q : UInt8) (w : World) (hs : s.size ≤ 4194304) (h1 : 0 < s.size) (hq : s[0] = q) (ha : at_ ≤ 4194304)
    (hf : ∀ r, (f r).1 ≠ 0 → r ≠ [] → (f r).2 < r.length)
    (hsaid : ∀ (x : ByteArray) (u : World), x.size ≤ 4194304 → Below w.heap.size w u → Calls Tryz.prog 61 #[.int .i64 kind, .string x] u (CodePost (f x.data.toList).1 (f x.data.toList).2 u)) :
    Calls Tryz.prog 36 #[.string s, .int .i64 (at_ : Int), .int .i64 kind, .int .i64 code] w (Told (quotedL f kind code q s.data.toList) at_ w) := by
  have HQ := Lib.hid (fun u => literal_any s q u hs h1 hq)
  have hll := lit_len q (s.data.toList.drop 1)
  rw [List.length_drop, sdata] at hll
  have HW : Hid (quotedL f kind code q s.data.toList = if (lit q (s.data.toList.drop 1)).2 = false then wrong kind (1 + (lit q (s.data.toList.drop 1)).1) code else if (f (s.data.toList.take (1 + (lit q (s.data.toList.drop 1)).1))).1 = 0 then right kind (1 + (lit q (s.data.toList.drop 1)).1) else ⟨kind, 1 + (lit q (s.data.toList.drop 1)).1, (f (s.data.toList.take (1 + (lit q (s.data.toList.drop 1)).1))).1, (f (s.data.toList.take (1 + (lit q (s.data.toList.drop 1)).1))).2, 1⟩) := Lib.hid rfl
  have hn1 : 1 + (lit q (s.data.toList.drop 1)).1 ≤ s.size := by omega
  have hn0 : 1 ≤ 1 + (lit q (s.data.toList.drop 1)).1 := by omega
  obtain ⟨n, hn⟩ : ∃ n, 1 + (lit q (s.data.toList.drop 1)).1 = n := ⟨_, rfl⟩
  obtain ⟨b, hb⟩ : ∃ b, (lit q (s.data.toList.drop 1)).2 = b := ⟨_, rfl⟩
  rw [hn] at HQ HW hn1 hn0
  rw [hb] at HQ HW
  clear hn hb hll hq
  cases b with
  | false =>
    rw [if_pos rfl] at HW
    clear hsaid hf
    go_enter Tryz.func36, Tryz.ntmps36
    go_wp2_with (first | (go_at_call 60; refine (HQ.out _).mono ?_; rintro e w' ⟨rfl, rfl⟩; have S1 := Lib.hid (six_new w (.int .i64 0) (.int .i64 0) (.int .i64 0) (.int .i64 0) (.int .i64 0) (.int .i64 0) 29 27); have HB := Lib.hid (below2 w (.cells #[.int .i64 0, .int .i64 0, .int .i64 0] 29) (.cells #[.int .i64 0, .int .i64 0, .int .i64 0] 27))) | (go_at_call 56; refine (wrong_any _ _ _ _ _ (by omega) (by omega)).mono ?_; rintro e w2 ⟨x1, y1, rfl, hxy, hb2⟩; have S2 := Lib.hid (S1.out.below hb2); obtain ⟨⟨u0, u1, u2, u3, u4, u5, k0, k1, k2, k3, k4, k5⟩, f0, f1, f2, f3, f4, f5⟩ := S2.out; have HX := Lib.hid hxy; have HB2 := Lib.hid (HB.out.trans (hb2.mono HB.out.size)); clear hb2 hxy))
    exact bodyPost_ret (results_two Tryz.results36 _ S2.out _ _ _ _ _ _ rfl rfl) rfl (Told.same HW.out HX.out (below_put6 HB2.out (Nat.le_refl _) _ _ _ _ _ _))
  | true =>
    rw [if_neg (by simp)] at HW
    have hsl := slice_to s n (n : Int) rfl hn1
    have htl : (s.data.toList.take n).length = n := by rw [List.length_take, sdata]; omega
    have HS := Lib.hid (fun (u : World) (hu : Below w.heap.size w u) => hsaid (B (s.data.toList.take n)) u (by rw [bsize, htl]; omega) hu)
    rw [bdata] at HS
    have hpl := hf (s.data.toList.take n)
    rw [htl] at hpl
    have hne : s.data.toList.take n ≠ [] := by intro h; rw [h, List.length_nil] at htl; omega
    obtain ⟨c, p, hcp⟩ : ∃ c p, f (s.data.toList.take n) = (c, p) := ⟨_, _, rfl⟩
    obtain ⟨x, hx⟩ : ∃ x, B (s.data.toList.take n) = x := ⟨_, rfl⟩
    rw [hcp] at HW HS hpl
    rw [hx] at hsl HS
    simp only [] at HW HS hpl
    have hpl2 : c ≠ 0 → p < n := fun h => hpl h hne
    clear hcp hx htl hne hpl hsaid hf
    by_cases hc0 : c = 0
    · rw [if_pos hc0] at HW
      have hcz : (c != 0) = false := by rw [hc0]; rfl
      clear hc0 hpl2
      go_enter Tryz.func36, Tryz.ntmps36
      go_wp2_with (first | (go_at_call 60; refine (HQ.out _).mono ?_; rintro e w' ⟨rfl, rfl⟩; have S1 := Lib.hid (six_new w (.int .i64 0) (.int .i64 0) (.int .i64 0) (.int .i64 0) (.int .i64 0) (.int .i64 0) 29 27); have HB := Lib.hid (below2 w (.cells #[.int .i64 0, .int .i64 0, .int .i64 0] 29) (.cells #[.int .i64 0, .int .i64 0, .int .i64 0] 27))) | (go_at_call 27; refine (right_any _ _ _ _ (by omega) (by omega)).mono ?_; rintro e w2 ⟨x1, y1, rfl, hxy, hb2⟩; have S2 := Lib.hid (S1.out.below hb2); have hz : w.heap.size + 1 < w2.heap.size := (by have := hb2.size; simp at this; omega); have hz0 : w.heap.size < w2.heap.size := (by omega); have HB2 := Lib.hid (HB.out.trans (hb2.mono HB.out.size)); clear hb2 hxy) | (go_at_call 61; refine (HS.out _ (HB2.out.trans ((below2 w2 _ _).mono HB2.out.size))).mono ?_; rintro e w3 ⟨rfl, hb3⟩; obtain ⟨⟨j0, j1, j2, j3, j4, j5⟩, g3, g4, g5⟩ := boxes_then hb3; have S3 := Lib.hid ((S2.out.below (below2 w2 _ _)).below hb3); obtain ⟨⟨u0, u1, u2, u3, u4, u5, k0, k1, k2, k3, k4, k5⟩, f0, f1, f2, f3, f4, f5⟩ := S3.out; have HB3 := Lib.hid (HB2.out.trans ((below2_then hb3).mono HB2.out.size)); clear hb3))
      go_region
      go_wp2_with fail
      exact bodyPost_ret (results_drew Tryz.results36 _ S3.out (.int .i64 kind) (.int .i64 (at_ : Int)) (.int .i64 ((at_ : Int) + (n : Int))) (.int .i64 0) (.int .i64 x1) (.int .i64 y1) rfl rfl) rfl (Told.mk' (x := x1) (y := y1) (by rw [HW.out]; rfl) (by rw [HW.out]; exact fun h => absurd rfl h) (below_put6 HB3.out (Nat.le_refl _) _ _ _ _ _ _).drew)
    · rw [if_neg hc0] at HW
      have hcz : (c != 0) = true := bne_iff_ne.2 hc0
      have hp := hpl2 hc0
      clear hc0 hpl2
      go_enter Tryz.func36, Tryz.ntmps36
      go_wp2_with (first | (go_at_call 60; refine (HQ.out _).mono ?_; rintro e w' ⟨rfl, rfl⟩; have S1 := Lib.hid (six_new w (.int .i64 0) (.int .i64 0) (.int .i64 0) (.int .i64 0) (.int .i64 0) (.int .i64 0) 29 27); have HB := Lib.hid (below2 w (.cells #[.int .i64 0, .int .i64 0, .int .i64 0] 29) (.cells #[.int .i64 0, .int .i64 0, .int .i64 0] 27))) | (go_at_call 27; refine (right_any _ _ _ _ (by omega) (by omega)).mono ?_; rintro e w2 ⟨x1, y1, rfl, hxy, hb2⟩; have S2 := Lib.hid (S1.out.below hb2); have hz : w.heap.size + 1 < w2.heap.size := (by have := hb2.size; simp at this; omega); have hz0 : w.heap.size < w2.heap.size := (by omega); have HB2 := Lib.hid (HB.out.trans (hb2.mono HB.out.size)); clear hb2 hxy) | (go_at_call 61; refine (HS.out _ (HB2.out.trans ((below2 w2 _ _).mono HB2.out.size))).mono ?_; rintro e w3 ⟨rfl, hb3⟩; obtain ⟨⟨j0, j1, j2, j3, j4, j5⟩, g3, g4, g5⟩ := boxes_then hb3; have S3 := Lib.hid ((S2.out.below (below2 w2 _ _)).below hb3); obtain ⟨⟨u0, u1, u2, u3, u4, u5, k0, k1, k2, k3, k4, k5⟩, f0, f1, f2, f3, f4, f5⟩ := S3.out; have HB3 := Lib.hid (HB2.out.trans ((below2_then hb3).mono HB2.out.size)); clear hb3))
      go_region
      go_wp2_with fail
      have S4 : Six ((((w3.setCell ⟨w2.heap.size + 1, 0, none⟩ (.int .i64 c)).setCell ⟨w2.heap.size + 1, 1, none⟩ (.int .i64 ((at_ : Int) + (p : Int)))).setCell ⟨w2.heap.size + 1, 2, none⟩ (.int .i64 ((at_ : Int) + (p : Int) + 1)))) w.heap.size := six_past (six_past (six_past S3.out (by omega) _) (by omega) _) (by omega) _
      exact bodyPost_ret (results_drew Tryz.results36 _ S4 (.int .i64 kind) (.int .i64 (at_ : Int)) (.int .i64 ((at_ : Int) + (n : Int))) (.int .i64 c) (.int .i64 ((at_ : Int) + (p : Int))) (.int .i64 ((at_ : Int) + (p : Int) + 1)) rfl rfl) rfl (Told.mk' (x := (at_ : Int) + (p : Int)) (y := (at_ : Int) + (p : Int) + 1) (by rw [HW.out]) (by rw [HW.out]; exact fun _ => ⟨rfl, by simp⟩) (below_put6 (((HB3.out.setCell (by show w.heap.size ≤ w2.heap.size + 1; omega) _).setCell (by show w.heap.size ≤ w2.heap.size + 1; omega) _).setCell (by show w.heap.size ≤ w2.heap.size + 1; omega) _) (Nat.le_refl _) _ _ _ _ _ _).drew)
end Go.Proofs.YtjbamlmdeopcaaaGreatDoor.lx
end

section
/-
  lexer.next, case by case.
-/
namespace Go.Proofs.YtjbamlmdeopcaaaGreatDoor.lx
open Go.RowKit Go.Proofs.YtjbamlmdeopcaaaGreatDoor.tok

def Bools (b : Bool) (w : World) (e : Ending) (w' : World) : Prop := e = .returned (.bool b) ∧ w = w'
def Ints (n : Nat) (w : World) (e : Ending) (w' : World) : Prop := e = .returned (.int .i64 (n : Int)) ∧ w = w'
/-- What lexer.next asks of the functions that it calls. -/
structure Ctx (s : ByteArray) (at_ : Nat) (a : Int) (R : ByteArray) (c : UInt8) (r : List UInt8) (w : World) : Prop where
  sl : ∀ u : World, (Instr.slice 9 (.string s) (some (.int .i64 a)) none none).run Tryz.prog u = .ok (.string R) u
  ix : ∀ u : World, (Instr.index 9 (.string R) (.int .i64 0)).run Tryz.prog u = .ok (.int .u8 (c.toNat : Int)) u
  right : ∀ (kind : Int) (n : Nat) (u : World), n ≤ 4294967296 → Calls Tryz.prog 27 #[.int .i64 kind, .int .i64 a, .int .i64 (n : Int)] u (Told (right kind n) at_ u)
  runB : ∀ u : World, Calls Tryz.prog 29 #[.string R, .func (.func 28) #[] #[]] u (Ints (runL isBl r) u)
  runF : ∀ u : World, Calls Tryz.prog 29 #[.string R, .func (.func 30) #[] #[]] u (Ints (runL noFeed r) u)
  lenB : runL isBl r ≤ 4294967296
  lenF : runL noFeed r ≤ 4294967296
  pre0 : ∀ u : World, Calls Tryz.prog 26 #[.string s, .string { data := #[239, 187, 191] }] u (Bools (Lib.hasPrefix s.data.toList mark) u)
  pre1 : ∀ u : World, Calls Tryz.prog 26 #[.string R, .string { data := #[47, 47] }] u (Bools (Lib.hasPrefix r [47, 47]) u)
  pre2 : ∀ u : World, Calls Tryz.prog 26 #[.string R, .string { data := #[47, 42] }] u (Bools (Lib.hasPrefix r [47, 42]) u)
  block : ∀ u : World, Below w.heap.size w u → Lib.hasPrefix r [47, 42] = true → Calls Tryz.prog 31 #[.string R, .int .i64 a, .int .i64 4, .int .i64 105, .string { data := #[47, 42] }, .string { data := #[42, 47] }] u (Told (closedL 4 105 2 [42, 47] r) at_ u)
  raw : ∀ u : World, Below w.heap.size w u → Calls Tryz.prog 31 #[.string R, .int .i64 a, .int .i64 14, .int .i64 106, .string { data := #[96] }, .string { data := #[96] }] u (Told (closedL 14 106 1 [96] r) at_ u)
  word : ∀ u : World, Calls Tryz.prog 33 #[.string R, .int .i64 a] u (Told (wordL lang r) at_ u)
  num : ∀ u : World, Calls Tryz.prog 35 #[.string R, .int .i64 a] u (Told (numL lang r) at_ u)
  str : ∀ u : World, Below w.heap.size w u → c = 34 → Calls Tryz.prog 36 #[.string R, .int .i64 a, .int .i64 13, .int .i64 106] u (Told (quotedL lang.str 13 106 34 r) at_ u)
  rune : ∀ u : World, Below w.heap.size w u → c = 39 → Calls Tryz.prog 36 #[.string R, .int .i64 a, .int .i64 12, .int .i64 107] u (Told (quotedL lang.rune 12 107 39 r) at_ u)
  sign : ∀ u : World, Below w.heap.size w u → Calls Tryz.prog 37 #[.string R, .int .i64 a] u (Told (signL lang r) at_ u)
set_option maxRecDepth 100000 in
set_option maxHeartbeats 4000000 in
theorem next_1 {s R : ByteArray} {at_ : Nat} {a : Int} {c : UInt8} {r : List UInt8} {w : World} (C : Ctx s at_ a R c r w) (m : Nx) (hm : m = right 1 3) (h1 : a = 0) (h1' : Lib.hasPrefix s.data.toList mark = true)  :
    Calls Tryz.prog 17 #[.string s, .int .i64 a] w (Told m at_ w) := by
  have HW := Lib.hid hm
  have HR := Lib.hid C.right
  have hsl := C.sl
  have hix := C.ix
  have H0 := Lib.hid C.pre0
  clear C hm
  have b1 : (a == 0) = true := beq_iff_eq.2 h1
  rw [h1'] at H0
  clear h1 h1'
  go_enter Tryz.func17, Tryz.ntmps17
  go_wp2_with (first | (go_at_call 26; (first | (with_reducible refine (H0.out _).mono ?_)); rintro e w' ⟨rfl, rfl⟩) | (go_at_call 27; refine (HR.out 1 3 _ (by omega)).mono ?_; rintro e w2 ⟨x1, y1, rfl, hxy, hb2⟩; have S2 := Lib.hid ((six_new w _ _ _ _ _ _ _ _).below hb2); obtain ⟨⟨u0, u1, u2, u3, u4, u5, k0, k1, k2, k3, k4, k5⟩, f0, f1, f2, f3, f4, f5⟩ := S2.out; have HX := Lib.hid hxy; have HB2 := Lib.hid (below2_then hb2); clear hb2 hxy))
  exact bodyPost_ret (results_two Tryz.results17 _ S2.out _ _ _ _ _ _ rfl rfl) rfl (Told.same HW.out HX.out (below_put6 HB2.out (Nat.le_refl _) _ _ _ _ _ _))
set_option maxRecDepth 100000 in
set_option maxHeartbeats 4000000 in
theorem next_2 {s R : ByteArray} {at_ : Nat} {a : Int} {c : UInt8} {r : List UInt8} {w : World} (C : Ctx s at_ a R c r w) (m : Nx) (hm : m = right 1 (runL isBl r)) (h1 : a ≠ 0 ∨ Lib.hasPrefix s.data.toList mark = false) (h2 : isBl c = true) :
    Calls Tryz.prog 17 #[.string s, .int .i64 a] w (Told m at_ w) := by
  have HW := Lib.hid hm
  have HR := Lib.hid C.right
  have HN := Lib.hid C.runB
  have HL := Lib.hid C.lenB
  have H2 := Lib.hid (fun u => isBlank_any c u)
  rw [h2] at H2
  clear h2
  have hsl := C.sl
  have hix := C.ix
  have H0 := Lib.hid C.pre0
  clear C hm
  rcases h1 with h1 | h1
  · have b1 : (a == 0) = false := beq_eq_false_iff_ne.2 h1
    clear h1
    go_enter Tryz.func17, Tryz.ntmps17
    go_wp2_with (first | (go_at_call 28; refine (H2.out _).mono ?_; rintro e w' ⟨rfl, rfl⟩) | (go_at_call 29; refine (HN.out _).mono ?_; rintro e w' ⟨rfl, rfl⟩) | (go_at_call 26; (first | (with_reducible refine (H0.out _).mono ?_)); rintro e w' ⟨rfl, rfl⟩) | (go_at_call 27; refine (HR.out 1 _ _ HL.out).mono ?_; rintro e w2 ⟨x1, y1, rfl, hxy, hb2⟩; have S2 := Lib.hid ((six_new w _ _ _ _ _ _ _ _).below hb2); obtain ⟨⟨u0, u1, u2, u3, u4, u5, k0, k1, k2, k3, k4, k5⟩, f0, f1, f2, f3, f4, f5⟩ := S2.out; have HX := Lib.hid hxy; have HB2 := Lib.hid (below2_then hb2); clear hb2 hxy))
    exact bodyPost_ret (results_two Tryz.results17 _ S2.out _ _ _ _ _ _ rfl rfl) rfl (Told.same HW.out HX.out (below_put6 HB2.out (Nat.le_refl _) _ _ _ _ _ _))
  · rw [h1] at H0
    clear h1
    obtain ⟨b, hb⟩ : ∃ b, (a == 0) = b := ⟨_, rfl⟩
    cases b
    all_goals
      go_enter Tryz.func17, Tryz.ntmps17
      go_wp2_with (first | (go_at_call 28; refine (H2.out _).mono ?_; rintro e w' ⟨rfl, rfl⟩) | (go_at_call 29; refine (HN.out _).mono ?_; rintro e w' ⟨rfl, rfl⟩) | (go_at_call 26; (first | (with_reducible refine (H0.out _).mono ?_)); rintro e w' ⟨rfl, rfl⟩) | (go_at_call 27; refine (HR.out 1 _ _ HL.out).mono ?_; rintro e w2 ⟨x1, y1, rfl, hxy, hb2⟩; have S2 := Lib.hid ((six_new w _ _ _ _ _ _ _ _).below hb2); obtain ⟨⟨u0, u1, u2, u3, u4, u5, k0, k1, k2, k3, k4, k5⟩, f0, f1, f2, f3, f4, f5⟩ := S2.out; have HX := Lib.hid hxy; have HB2 := Lib.hid (below2_then hb2); clear hb2 hxy))
      exact bodyPost_ret (results_two Tryz.results17 _ S2.out _ _ _ _ _ _ rfl rfl) rfl (Told.same HW.out HX.out (below_put6 HB2.out (Nat.le_refl _) _ _ _ _ _ _))
set_option maxRecDepth 100000 in
set_option maxHeartbeats 4000000 in
theorem next_3 {s R : ByteArray} {at_ : Nat} {a : Int} {c : UInt8} {r : List UInt8} {w : World} (C : Ctx s at_ a R c r w) (m : Nx) (hm : m = right 2 1) (h1 : a ≠ 0 ∨ Lib.hasPrefix s.data.toList mark = false) (h2 : isBl c = false) (h3 : c = 10) :
    Calls Tryz.prog 17 #[.string s, .int .i64 a] w (Told m at_ w) := by
  have HW := Lib.hid hm
  have HR := Lib.hid C.right
  have H2 := Lib.hid (fun u => isBlank_any c u)
  rw [h2] at H2
  clear h2
  have b3 : ((c.toNat : Int) == 10) = true := byte_eq (d := 10) h3
  have hsl := C.sl
  have hix := C.ix
  have H0 := Lib.hid C.pre0
  clear C hm h3
  rcases h1 with h1 | h1
  · have b1 : (a == 0) = false := beq_eq_false_iff_ne.2 h1
    clear h1
    go_enter Tryz.func17, Tryz.ntmps17
    go_wp2_with (first | (go_at_call 28; refine (H2.out _).mono ?_; rintro e w' ⟨rfl, rfl⟩) | (go_at_call 26; (first | (with_reducible refine (H0.out _).mono ?_)); rintro e w' ⟨rfl, rfl⟩) | (go_at_call 27; refine (HR.out 2 1 _ (by omega)).mono ?_; rintro e w2 ⟨x1, y1, rfl, hxy, hb2⟩; have S2 := Lib.hid ((six_new w _ _ _ _ _ _ _ _).below hb2); obtain ⟨⟨u0, u1, u2, u3, u4, u5, k0, k1, k2, k3, k4, k5⟩, f0, f1, f2, f3, f4, f5⟩ := S2.out; have HX := Lib.hid hxy; have HB2 := Lib.hid (below2_then hb2); clear hb2 hxy))
    exact bodyPost_ret (results_two Tryz.results17 _ S2.out _ _ _ _ _ _ rfl rfl) rfl (Told.same HW.out HX.out (below_put6 HB2.out (Nat.le_refl _) _ _ _ _ _ _))
  · rw [h1] at H0
    clear h1
    obtain ⟨b, hb⟩ : ∃ b, (a == 0) = b := ⟨_, rfl⟩
    cases b
    all_goals
      go_enter Tryz.func17, Tryz.ntmps17
      go_wp2_with (first | (go_at_call 28; refine (H2.out _).mono ?_; rintro e w' ⟨rfl, rfl⟩) | (go_at_call 26; (first | (with_reducible refine (H0.out _).mono ?_)); rintro e w' ⟨rfl, rfl⟩) | (go_at_call 27; refine (HR.out 2 1 _ (by omega)).mono ?_; rintro e w2 ⟨x1, y1, rfl, hxy, hb2⟩; have S2 := Lib.hid ((six_new w _ _ _ _ _ _ _ _).below hb2); obtain ⟨⟨u0, u1, u2, u3, u4, u5, k0, k1, k2, k3, k4, k5⟩, f0, f1, f2, f3, f4, f5⟩ := S2.out; have HX := Lib.hid hxy; have HB2 := Lib.hid (below2_then hb2); clear hb2 hxy))
      exact bodyPost_ret (results_two Tryz.results17 _ S2.out _ _ _ _ _ _ rfl rfl) rfl (Told.same HW.out HX.out (below_put6 HB2.out (Nat.le_refl _) _ _ _ _ _ _))
set_option maxRecDepth 100000 in
set_option maxHeartbeats 4000000 in
theorem next_4 {s R : ByteArray} {at_ : Nat} {a : Int} {c : UInt8} {r : List UInt8} {w : World} (C : Ctx s at_ a R c r w) (m : Nx) (hm : m = right 3 (runL noFeed r)) (h1 : a ≠ 0 ∨ Lib.hasPrefix s.data.toList mark = false) (h2 : isBl c = false) (h3 : c ≠ 10) (h4 : Lib.hasPrefix r [47, 47] = true) :
    Calls Tryz.prog 17 #[.string s, .int .i64 a] w (Told m at_ w) := by
  have HW := Lib.hid hm
  have HR := Lib.hid C.right
  have HN := Lib.hid C.runF
  have HL := Lib.hid C.lenF
  have H2 := Lib.hid (fun u => isBlank_any c u)
  rw [h2] at H2
  clear h2
  have b3 : ((c.toNat : Int) == 10) = false := byte_ne (d := 10) h3
  have H4 := Lib.hid C.pre1
  rw [h4] at H4
  clear h4
  have hsl := C.sl
  have hix := C.ix
  have H0 := Lib.hid C.pre0
  clear C hm h3
  rcases h1 with h1 | h1
  · have b1 : (a == 0) = false := beq_eq_false_iff_ne.2 h1
    clear h1
    go_enter Tryz.func17, Tryz.ntmps17
    go_wp2_with (first | (go_at_call 28; refine (H2.out _).mono ?_; rintro e w' ⟨rfl, rfl⟩) | (go_at_call 29; refine (HN.out _).mono ?_; rintro e w' ⟨rfl, rfl⟩) | (go_at_call 26; (first | (with_reducible refine (H0.out _).mono ?_) | (with_reducible refine (H4.out _).mono ?_)); rintro e w' ⟨rfl, rfl⟩) | (go_at_call 27; refine (HR.out 3 _ _ HL.out).mono ?_; rintro e w2 ⟨x1, y1, rfl, hxy, hb2⟩; have S2 := Lib.hid ((six_new w _ _ _ _ _ _ _ _).below hb2); obtain ⟨⟨u0, u1, u2, u3, u4, u5, k0, k1, k2, k3, k4, k5⟩, f0, f1, f2, f3, f4, f5⟩ := S2.out; have HX := Lib.hid hxy; have HB2 := Lib.hid (below2_then hb2); clear hb2 hxy))
    exact bodyPost_ret (results_two Tryz.results17 _ S2.out _ _ _ _ _ _ rfl rfl) rfl (Told.same HW.out HX.out (below_put6 HB2.out (Nat.le_refl _) _ _ _ _ _ _))
  · rw [h1] at H0
    clear h1
    obtain ⟨b, hb⟩ : ∃ b, (a == 0) = b := ⟨_, rfl⟩
    cases b
    all_goals
      go_enter Tryz.func17, Tryz.ntmps17
      go_wp2_with (first | (go_at_call 28; refine (H2.out _).mono ?_; rintro e w' ⟨rfl, rfl⟩) | (go_at_call 29; refine (HN.out _).mono ?_; rintro e w' ⟨rfl, rfl⟩) | (go_at_call 26; (first | (with_reducible refine (H0.out _).mono ?_) | (with_reducible refine (H4.out _).mono ?_)); rintro e w' ⟨rfl, rfl⟩) | (go_at_call 27; refine (HR.out 3 _ _ HL.out).mono ?_; rintro e w2 ⟨x1, y1, rfl, hxy, hb2⟩; have S2 := Lib.hid ((six_new w _ _ _ _ _ _ _ _).below hb2); obtain ⟨⟨u0, u1, u2, u3, u4, u5, k0, k1, k2, k3, k4, k5⟩, f0, f1, f2, f3, f4, f5⟩ := S2.out; have HX := Lib.hid hxy; have HB2 := Lib.hid (below2_then hb2); clear hb2 hxy))
      exact bodyPost_ret (results_two Tryz.results17 _ S2.out _ _ _ _ _ _ rfl rfl) rfl (Told.same HW.out HX.out (below_put6 HB2.out (Nat.le_refl _) _ _ _ _ _ _))
set_option maxRecDepth 100000 in
set_option maxHeartbeats 4000000 in
theorem next_5 {s R : ByteArray} {at_ : Nat} {a : Int} {c : UInt8} {r : List UInt8} {w : World} (C : Ctx s at_ a R c r w) (m : Nx) (hm : m = closedL 4 105 2 [42, 47] r) (h1 : a ≠ 0 ∨ Lib.hasPrefix s.data.toList mark = false) (h2 : isBl c = false) (h3 : c ≠ 10) (h4 : Lib.hasPrefix r [47, 47] = false) (h5 : Lib.hasPrefix r [47, 42] = true) :
    Calls Tryz.prog 17 #[.string s, .int .i64 a] w (Told m at_ w) := by
  have HW := Lib.hid hm
  have HF := Lib.hid (fun u hu => C.block u hu h5)
  have H2 := Lib.hid (fun u => isBlank_any c u)
  rw [h2] at H2
  clear h2
  have b3 : ((c.toNat : Int) == 10) = false := byte_ne (d := 10) h3
  have H4 := Lib.hid C.pre1
  rw [h4] at H4
  clear h4
  have H5 := Lib.hid C.pre2
  rw [h5] at H5
  have hsl := C.sl
  have hix := C.ix
  have H0 := Lib.hid C.pre0
  clear C hm h3 h5
  rcases h1 with h1 | h1
  · have b1 : (a == 0) = false := beq_eq_false_iff_ne.2 h1
    clear h1
    go_enter Tryz.func17, Tryz.ntmps17
    go_wp2_with (first | (go_at_call 28; refine (H2.out _).mono ?_; rintro e w' ⟨rfl, rfl⟩) | (go_at_call 26; (first | (with_reducible refine (H0.out _).mono ?_) | (with_reducible refine (H4.out _).mono ?_) | (with_reducible refine (H5.out _).mono ?_)); rintro e w' ⟨rfl, rfl⟩) | (go_at_call 31; refine (HF.out _ (below2 w _ _)).mono ?_; rintro e w2 ⟨x1, y1, rfl, hxy, hb2⟩; have S2 := Lib.hid ((six_new w _ _ _ _ _ _ _ _).below hb2); obtain ⟨⟨u0, u1, u2, u3, u4, u5, k0, k1, k2, k3, k4, k5⟩, f0, f1, f2, f3, f4, f5⟩ := S2.out; have HX := Lib.hid hxy; have HB2 := Lib.hid (below2_then hb2); clear hb2 hxy))
    exact bodyPost_ret (results_two Tryz.results17 _ S2.out _ _ _ _ _ _ rfl rfl) rfl (Told.same HW.out HX.out (below_put6 HB2.out (Nat.le_refl _) _ _ _ _ _ _))
  · rw [h1] at H0
    clear h1
    obtain ⟨b, hb⟩ : ∃ b, (a == 0) = b := ⟨_, rfl⟩
    cases b
    all_goals
      go_enter Tryz.func17, Tryz.ntmps17
      go_wp2_with (first | (go_at_call 28; refine (H2.out _).mono ?_; rintro e w' ⟨rfl, rfl⟩) | (go_at_call 26; (first | (with_reducible refine (H0.out _).mono ?_) | (with_reducible refine (H4.out _).mono ?_) | (with_reducible refine (H5.out _).mono ?_)); rintro e w' ⟨rfl, rfl⟩) | (go_at_call 31; refine (HF.out _ (below2 w _ _)).mono ?_; rintro e w2 ⟨x1, y1, rfl, hxy, hb2⟩; have S2 := Lib.hid ((six_new w _ _ _ _ _ _ _ _).below hb2); obtain ⟨⟨u0, u1, u2, u3, u4, u5, k0, k1, k2, k3, k4, k5⟩, f0, f1, f2, f3, f4, f5⟩ := S2.out; have HX := Lib.hid hxy; have HB2 := Lib.hid (below2_then hb2); clear hb2 hxy))
      exact bodyPost_ret (results_two Tryz.results17 _ S2.out _ _ _ _ _ _ rfl rfl) rfl (Told.same HW.out HX.out (below_put6 HB2.out (Nat.le_refl _) _ _ _ _ _ _))
set_option maxRecDepth 100000 in
set_option maxHeartbeats 4000000 in
theorem next_6 {s R : ByteArray} {at_ : Nat} {a : Int} {c : UInt8} {r : List UInt8} {w : World} (C : Ctx s at_ a R c r w) (m : Nx) (hm : m = wordL lang r) (h1 : a ≠ 0 ∨ Lib.hasPrefix s.data.toList mark = false) (h2 : isBl c = false) (h3 : c ≠ 10) (h4 : Lib.hasPrefix r [47, 47] = false) (h5 : Lib.hasPrefix r [47, 42] = false) (h6 : isLt c = true) :
    Calls Tryz.prog 17 #[.string s, .int .i64 a] w (Told m at_ w) := by
  have HW := Lib.hid hm
  have HF := Lib.hid C.word
  have H2 := Lib.hid (fun u => isBlank_any c u)
  rw [h2] at H2
  clear h2
  have b3 : ((c.toNat : Int) == 10) = false := byte_ne (d := 10) h3
  have H4 := Lib.hid C.pre1
  rw [h4] at H4
  clear h4
  have H5 := Lib.hid C.pre2
  rw [h5] at H5
  have H6 := Lib.hid (fun u => isLetter_any c u)
  rw [h6] at H6
  clear h6
  have hsl := C.sl
  have hix := C.ix
  have H0 := Lib.hid C.pre0
  clear C hm h3 h5
  rcases h1 with h1 | h1
  · have b1 : (a == 0) = false := beq_eq_false_iff_ne.2 h1
    clear h1
    go_enter Tryz.func17, Tryz.ntmps17
    go_wp2_with (first | (go_at_call 28; refine (H2.out _).mono ?_; rintro e w' ⟨rfl, rfl⟩) | (go_at_call 32; refine (H6.out _).mono ?_; rintro e w' ⟨rfl, rfl⟩) | (go_at_call 26; (first | (with_reducible refine (H0.out _).mono ?_) | (with_reducible refine (H4.out _).mono ?_) | (with_reducible refine (H5.out _).mono ?_)); rintro e w' ⟨rfl, rfl⟩) | (go_at_call 33; refine (HF.out _).mono ?_; rintro e w2 ⟨x1, y1, rfl, hxy, hb2⟩; have S2 := Lib.hid ((six_new w _ _ _ _ _ _ _ _).below hb2); obtain ⟨⟨u0, u1, u2, u3, u4, u5, k0, k1, k2, k3, k4, k5⟩, f0, f1, f2, f3, f4, f5⟩ := S2.out; have HX := Lib.hid hxy; have HB2 := Lib.hid (below2_then hb2); clear hb2 hxy))
    exact bodyPost_ret (results_two Tryz.results17 _ S2.out _ _ _ _ _ _ rfl rfl) rfl (Told.same HW.out HX.out (below_put6 HB2.out (Nat.le_refl _) _ _ _ _ _ _))
  · rw [h1] at H0
    clear h1
    obtain ⟨b, hb⟩ : ∃ b, (a == 0) = b := ⟨_, rfl⟩
    cases b
    all_goals
      go_enter Tryz.func17, Tryz.ntmps17
      go_wp2_with (first | (go_at_call 28; refine (H2.out _).mono ?_; rintro e w' ⟨rfl, rfl⟩) | (go_at_call 32; refine (H6.out _).mono ?_; rintro e w' ⟨rfl, rfl⟩) | (go_at_call 26; (first | (with_reducible refine (H0.out _).mono ?_) | (with_reducible refine (H4.out _).mono ?_) | (with_reducible refine (H5.out _).mono ?_)); rintro e w' ⟨rfl, rfl⟩) | (go_at_call 33; refine (HF.out _).mono ?_; rintro e w2 ⟨x1, y1, rfl, hxy, hb2⟩; have S2 := Lib.hid ((six_new w _ _ _ _ _ _ _ _).below hb2); obtain ⟨⟨u0, u1, u2, u3, u4, u5, k0, k1, k2, k3, k4, k5⟩, f0, f1, f2, f3, f4, f5⟩ := S2.out; have HX := Lib.hid hxy; have HB2 := Lib.hid (below2_then hb2); clear hb2 hxy))
      exact bodyPost_ret (results_two Tryz.results17 _ S2.out _ _ _ _ _ _ rfl rfl) rfl (Told.same HW.out HX.out (below_put6 HB2.out (Nat.le_refl _) _ _ _ _ _ _))
set_option maxRecDepth 100000 in
set_option maxHeartbeats 4000000 in
theorem next_7 {s R : ByteArray} {at_ : Nat} {a : Int} {c : UInt8} {r : List UInt8} {w : World} (C : Ctx s at_ a R c r w) (m : Nx) (hm : m = numL lang r) (h1 : a ≠ 0 ∨ Lib.hasPrefix s.data.toList mark = false) (h2 : isBl c = false) (h3 : c ≠ 10) (h4 : Lib.hasPrefix r [47, 47] = false) (h5 : Lib.hasPrefix r [47, 42] = false) (h6 : isLt c = false) (h7 : isDg c = true) :
    Calls Tryz.prog 17 #[.string s, .int .i64 a] w (Told m at_ w) := by
  have HW := Lib.hid hm
  have HF := Lib.hid C.num
  have H2 := Lib.hid (fun u => isBlank_any c u)
  rw [h2] at H2
  clear h2
  have b3 : ((c.toNat : Int) == 10) = false := byte_ne (d := 10) h3
  have H4 := Lib.hid C.pre1
  rw [h4] at H4
  clear h4
  have H5 := Lib.hid C.pre2
  rw [h5] at H5
  have H6 := Lib.hid (fun u => isLetter_any c u)
  rw [h6] at H6
  clear h6
  have H7 := Lib.hid (fun u => isDigit_any c u)
  rw [h7] at H7
  clear h7
  have hsl := C.sl
  have hix := C.ix
  have H0 := Lib.hid C.pre0
  clear C hm h3 h5
  rcases h1 with h1 | h1
  · have b1 : (a == 0) = false := beq_eq_false_iff_ne.2 h1
    clear h1
    go_enter Tryz.func17, Tryz.ntmps17
    go_wp2_with (first | (go_at_call 28; refine (H2.out _).mono ?_; rintro e w' ⟨rfl, rfl⟩) | (go_at_call 32; refine (H6.out _).mono ?_; rintro e w' ⟨rfl, rfl⟩) | (go_at_call 34; refine (H7.out _).mono ?_; rintro e w' ⟨rfl, rfl⟩) | (go_at_call 26; (first | (with_reducible refine (H0.out _).mono ?_) | (with_reducible refine (H4.out _).mono ?_) | (with_reducible refine (H5.out _).mono ?_)); rintro e w' ⟨rfl, rfl⟩) | (go_at_call 35; refine (HF.out _).mono ?_; rintro e w2 ⟨x1, y1, rfl, hxy, hb2⟩; have S2 := Lib.hid ((six_new w _ _ _ _ _ _ _ _).below hb2); obtain ⟨⟨u0, u1, u2, u3, u4, u5, k0, k1, k2, k3, k4, k5⟩, f0, f1, f2, f3, f4, f5⟩ := S2.out; have HX := Lib.hid hxy; have HB2 := Lib.hid (below2_then hb2); clear hb2 hxy))
    exact bodyPost_ret (results_two Tryz.results17 _ S2.out _ _ _ _ _ _ rfl rfl) rfl (Told.same HW.out HX.out (below_put6 HB2.out (Nat.le_refl _) _ _ _ _ _ _))
  · rw [h1] at H0
    clear h1
    obtain ⟨b, hb⟩ : ∃ b, (a == 0) = b := ⟨_, rfl⟩
    cases b
    all_goals
      go_enter Tryz.func17, Tryz.ntmps17
      go_wp2_with (first | (go_at_call 28; refine (H2.out _).mono ?_; rintro e w' ⟨rfl, rfl⟩) | (go_at_call 32; refine (H6.out _).mono ?_; rintro e w' ⟨rfl, rfl⟩) | (go_at_call 34; refine (H7.out _).mono ?_; rintro e w' ⟨rfl, rfl⟩) | (go_at_call 26; (first | (with_reducible refine (H0.out _).mono ?_) | (with_reducible refine (H4.out _).mono ?_) | (with_reducible refine (H5.out _).mono ?_)); rintro e w' ⟨rfl, rfl⟩) | (go_at_call 35; refine (HF.out _).mono ?_; rintro e w2 ⟨x1, y1, rfl, hxy, hb2⟩; have S2 := Lib.hid ((six_new w _ _ _ _ _ _ _ _).below hb2); obtain ⟨⟨u0, u1, u2, u3, u4, u5, k0, k1, k2, k3, k4, k5⟩, f0, f1, f2, f3, f4, f5⟩ := S2.out; have HX := Lib.hid hxy; have HB2 := Lib.hid (below2_then hb2); clear hb2 hxy))
      exact bodyPost_ret (results_two Tryz.results17 _ S2.out _ _ _ _ _ _ rfl rfl) rfl (Told.same HW.out HX.out (below_put6 HB2.out (Nat.le_refl _) _ _ _ _ _ _))
set_option maxRecDepth 100000 in
set_option maxHeartbeats 4000000 in
theorem next_8 {s R : ByteArray} {at_ : Nat} {a : Int} {c : UInt8} {r : List UInt8} {w : World} (C : Ctx s at_ a R c r w) (m : Nx) (hm : m = quotedL lang.str 13 106 34 r) (h1 : a ≠ 0 ∨ Lib.hasPrefix s.data.toList mark = false) (h2 : isBl c = false) (h3 : c ≠ 10) (h4 : Lib.hasPrefix r [47, 47] = false) (h5 : Lib.hasPrefix r [47, 42] = false) (h6 : isLt c = false) (h7 : isDg c = false) (h8 : c = 34) :
    Calls Tryz.prog 17 #[.string s, .int .i64 a] w (Told m at_ w) := by
  have HW := Lib.hid hm
  have HF := Lib.hid (fun u hu => C.str u hu h8)
  have H2 := Lib.hid (fun u => isBlank_any c u)
  rw [h2] at H2
  clear h2
  have b3 : ((c.toNat : Int) == 10) = false := byte_ne (d := 10) h3
  have H4 := Lib.hid C.pre1
  rw [h4] at H4
  clear h4
  have H5 := Lib.hid C.pre2
  rw [h5] at H5
  have H6 := Lib.hid (fun u => isLetter_any c u)
  rw [h6] at H6
  clear h6
  have H7 := Lib.hid (fun u => isDigit_any c u)
  rw [h7] at H7
  clear h7
  have b8 : ((c.toNat : Int) == 34) = true := byte_eq (d := 34) h8
  have hsl := C.sl
  have hix := C.ix
  have H0 := Lib.hid C.pre0
  clear C hm h3 h5 h8
  rcases h1 with h1 | h1
  · have b1 : (a == 0) = false := beq_eq_false_iff_ne.2 h1
    clear h1
    go_enter Tryz.func17, Tryz.ntmps17
    go_wp2_with (first | (go_at_call 28; refine (H2.out _).mono ?_; rintro e w' ⟨rfl, rfl⟩) | (go_at_call 32; refine (H6.out _).mono ?_; rintro e w' ⟨rfl, rfl⟩) | (go_at_call 34; refine (H7.out _).mono ?_; rintro e w' ⟨rfl, rfl⟩) | (go_at_call 26; (first | (with_reducible refine (H0.out _).mono ?_) | (with_reducible refine (H4.out _).mono ?_) | (with_reducible refine (H5.out _).mono ?_)); rintro e w' ⟨rfl, rfl⟩) | (go_at_call 36; refine (HF.out _ (below2 w _ _)).mono ?_; rintro e w2 ⟨x1, y1, rfl, hxy, hb2⟩; have S2 := Lib.hid ((six_new w _ _ _ _ _ _ _ _).below hb2); obtain ⟨⟨u0, u1, u2, u3, u4, u5, k0, k1, k2, k3, k4, k5⟩, f0, f1, f2, f3, f4, f5⟩ := S2.out; have HX := Lib.hid hxy; have HB2 := Lib.hid (below2_then hb2); clear hb2 hxy))
    exact bodyPost_ret (results_two Tryz.results17 _ S2.out _ _ _ _ _ _ rfl rfl) rfl (Told.same HW.out HX.out (below_put6 HB2.out (Nat.le_refl _) _ _ _ _ _ _))
  · rw [h1] at H0
    clear h1
    obtain ⟨b, hb⟩ : ∃ b, (a == 0) = b := ⟨_, rfl⟩
    cases b
    all_goals
      go_enter Tryz.func17, Tryz.ntmps17
      go_wp2_with (first | (go_at_call 28; refine (H2.out _).mono ?_; rintro e w' ⟨rfl, rfl⟩) | (go_at_call 32; refine (H6.out _).mono ?_; rintro e w' ⟨rfl, rfl⟩) | (go_at_call 34; refine (H7.out _).mono ?_; rintro e w' ⟨rfl, rfl⟩) | (go_at_call 26; (first | (with_reducible refine (H0.out _).mono ?_) | (with_reducible refine (H4.out _).mono ?_) | (with_reducible refine (H5.out _).mono ?_)); rintro e w' ⟨rfl, rfl⟩) | (go_at_call 36; refine (HF.out _ (below2 w _ _)).mono ?_; rintro e w2 ⟨x1, y1, rfl, hxy, hb2⟩; have S2 := Lib.hid ((six_new w _ _ _ _ _ _ _ _).below hb2); obtain ⟨⟨u0, u1, u2, u3, u4, u5, k0, k1, k2, k3, k4, k5⟩, f0, f1, f2, f3, f4, f5⟩ := S2.out; have HX := Lib.hid hxy; have HB2 := Lib.hid (below2_then hb2); clear hb2 hxy))
      exact bodyPost_ret (results_two Tryz.results17 _ S2.out _ _ _ _ _ _ rfl rfl) rfl (Told.same HW.out HX.out (below_put6 HB2.out (Nat.le_refl _) _ _ _ _ _ _))
set_option maxRecDepth 100000 in
set_option maxHeartbeats 4000000 in
theorem next_9 {s R : ByteArray} {at_ : Nat} {a : Int} {c : UInt8} {r : List UInt8} {w : World} (C : Ctx s at_ a R c r w) (m : Nx) (hm : m = quotedL lang.rune 12 107 39 r) (h1 : a ≠ 0 ∨ Lib.hasPrefix s.data.toList mark = false) (h2 : isBl c = false) (h3 : c ≠ 10) (h4 : Lib.hasPrefix r [47, 47] = false) (h5 : Lib.hasPrefix r [47, 42] = false) (h6 : isLt c = false) (h7 : isDg c = false) (h8 : c ≠ 34) (h9 : c = 39) :
    Calls Tryz.prog 17 #[.string s, .int .i64 a] w (Told m at_ w) := by
  have HW := Lib.hid hm
  have HF := Lib.hid (fun u hu => C.rune u hu h9)
  have H2 := Lib.hid (fun u => isBlank_any c u)
  rw [h2] at H2
  clear h2
  have b3 : ((c.toNat : Int) == 10) = false := byte_ne (d := 10) h3
  have H4 := Lib.hid C.pre1
  rw [h4] at H4
  clear h4
  have H5 := Lib.hid C.pre2
  rw [h5] at H5
  have H6 := Lib.hid (fun u => isLetter_any c u)
  rw [h6] at H6
  clear h6
  have H7 := Lib.hid (fun u => isDigit_any c u)
  rw [h7] at H7
  clear h7
  have b8 : ((c.toNat : Int) == 34) = false := byte_ne (d := 34) h8
  have b9 : ((c.toNat : Int) == 39) = true := byte_eq (d := 39) h9
  have hsl := C.sl
  have hix := C.ix
  have H0 := Lib.hid C.pre0
  clear C hm h3 h5 h8 h9
  rcases h1 with h1 | h1
  · have b1 : (a == 0) = false := beq_eq_false_iff_ne.2 h1
    clear h1
    go_enter Tryz.func17, Tryz.ntmps17
    go_wp2_with (first | (go_at_call 28; refine (H2.out _).mono ?_; rintro e w' ⟨rfl, rfl⟩) | (go_at_call 32; refine (H6.out _).mono ?_; rintro e w' ⟨rfl, rfl⟩) | (go_at_call 34; refine (H7.out _).mono ?_; rintro e w' ⟨rfl, rfl⟩) | (go_at_call 26; (first | (with_reducible refine (H0.out _).mono ?_) | (with_reducible refine (H4.out _).mono ?_) | (with_reducible refine (H5.out _).mono ?_)); rintro e w' ⟨rfl, rfl⟩) | (go_at_call 36; refine (HF.out _ (below2 w _ _)).mono ?_; rintro e w2 ⟨x1, y1, rfl, hxy, hb2⟩; have S2 := Lib.hid ((six_new w _ _ _ _ _ _ _ _).below hb2); obtain ⟨⟨u0, u1, u2, u3, u4, u5, k0, k1, k2, k3, k4, k5⟩, f0, f1, f2, f3, f4, f5⟩ := S2.out; have HX := Lib.hid hxy; have HB2 := Lib.hid (below2_then hb2); clear hb2 hxy))
    exact bodyPost_ret (results_two Tryz.results17 _ S2.out _ _ _ _ _ _ rfl rfl) rfl (Told.same HW.out HX.out (below_put6 HB2.out (Nat.le_refl _) _ _ _ _ _ _))
  · rw [h1] at H0
    clear h1
    obtain ⟨b, hb⟩ : ∃ b, (a == 0) = b := ⟨_, rfl⟩
    cases b
    all_goals
      go_enter Tryz.func17, Tryz.ntmps17
      go_wp2_with (first | (go_at_call 28; refine (H2.out _).mono ?_; rintro e w' ⟨rfl, rfl⟩) | (go_at_call 32; refine (H6.out _).mono ?_; rintro e w' ⟨rfl, rfl⟩) | (go_at_call 34; refine (H7.out _).mono ?_; rintro e w' ⟨rfl, rfl⟩) | (go_at_call 26; (first | (with_reducible refine (H0.out _).mono ?_) | (with_reducible refine (H4.out _).mono ?_) | (with_reducible refine (H5.out _).mono ?_)); rintro e w' ⟨rfl, rfl⟩) | (go_at_call 36; refine (HF.out _ (below2 w _ _)).mono ?_; rintro e w2 ⟨x1, y1, rfl, hxy, hb2⟩; have S2 := Lib.hid ((six_new w _ _ _ _ _ _ _ _).below hb2); obtain ⟨⟨u0, u1, u2, u3, u4, u5, k0, k1, k2, k3, k4, k5⟩, f0, f1, f2, f3, f4, f5⟩ := S2.out; have HX := Lib.hid hxy; have HB2 := Lib.hid (below2_then hb2); clear hb2 hxy))
      exact bodyPost_ret (results_two Tryz.results17 _ S2.out _ _ _ _ _ _ rfl rfl) rfl (Told.same HW.out HX.out (below_put6 HB2.out (Nat.le_refl _) _ _ _ _ _ _))
set_option maxRecDepth 100000 in
set_option maxHeartbeats 4000000 in
theorem next_10 {s R : ByteArray} {at_ : Nat} {a : Int} {c : UInt8} {r : List UInt8} {w : World} (C : Ctx s at_ a R c r w) (m : Nx) (hm : m = closedL 14 106 1 [96] r) (h1 : a ≠ 0 ∨ Lib.hasPrefix s.data.toList mark = false) (h2 : isBl c = false) (h3 : c ≠ 10) (h4 : Lib.hasPrefix r [47, 47] = false) (h5 : Lib.hasPrefix r [47, 42] = false) (h6 : isLt c = false) (h7 : isDg c = false) (h8 : c ≠ 34) (h9 : c ≠ 39) (h10 : c = 96) :
    Calls Tryz.prog 17 #[.string s, .int .i64 a] w (Told m at_ w) := by
  have HW := Lib.hid hm
  have HF := Lib.hid C.raw
  have H2 := Lib.hid (fun u => isBlank_any c u)
  rw [h2] at H2
  clear h2
  have b3 : ((c.toNat : Int) == 10) = false := byte_ne (d := 10) h3
  have H4 := Lib.hid C.pre1
  rw [h4] at H4
  clear h4
  have H5 := Lib.hid C.pre2
  rw [h5] at H5
  have H6 := Lib.hid (fun u => isLetter_any c u)
  rw [h6] at H6
  clear h6
  have H7 := Lib.hid (fun u => isDigit_any c u)
  rw [h7] at H7
  clear h7
  have b8 : ((c.toNat : Int) == 34) = false := byte_ne (d := 34) h8
  have b9 : ((c.toNat : Int) == 39) = false := byte_ne (d := 39) h9
  have b10 : ((c.toNat : Int) == 96) = true := byte_eq (d := 96) h10
  have hsl := C.sl
  have hix := C.ix
  have H0 := Lib.hid C.pre0
  clear C hm h3 h5 h8 h9 h10
  rcases h1 with h1 | h1
  · have b1 : (a == 0) = false := beq_eq_false_iff_ne.2 h1
    clear h1
    go_enter Tryz.func17, Tryz.ntmps17
    go_wp2_with (first | (go_at_call 28; refine (H2.out _).mono ?_; rintro e w' ⟨rfl, rfl⟩) | (go_at_call 32; refine (H6.out _).mono ?_; rintro e w' ⟨rfl, rfl⟩) | (go_at_call 34; refine (H7.out _).mono ?_; rintro e w' ⟨rfl, rfl⟩) | (go_at_call 26; (first | (with_reducible refine (H0.out _).mono ?_) | (with_reducible refine (H4.out _).mono ?_) | (with_reducible refine (H5.out _).mono ?_)); rintro e w' ⟨rfl, rfl⟩) | (go_at_call 31; refine (HF.out _ (below2 w _ _)).mono ?_; rintro e w2 ⟨x1, y1, rfl, hxy, hb2⟩; have S2 := Lib.hid ((six_new w _ _ _ _ _ _ _ _).below hb2); obtain ⟨⟨u0, u1, u2, u3, u4, u5, k0, k1, k2, k3, k4, k5⟩, f0, f1, f2, f3, f4, f5⟩ := S2.out; have HX := Lib.hid hxy; have HB2 := Lib.hid (below2_then hb2); clear hb2 hxy))
    exact bodyPost_ret (results_two Tryz.results17 _ S2.out _ _ _ _ _ _ rfl rfl) rfl (Told.same HW.out HX.out (below_put6 HB2.out (Nat.le_refl _) _ _ _ _ _ _))
  · rw [h1] at H0
    clear h1
    obtain ⟨b, hb⟩ : ∃ b, (a == 0) = b := ⟨_, rfl⟩
    cases b
    all_goals
      go_enter Tryz.func17, Tryz.ntmps17
      go_wp2_with (first | (go_at_call 28; refine (H2.out _).mono ?_; rintro e w' ⟨rfl, rfl⟩) | (go_at_call 32; refine (H6.out _).mono ?_; rintro e w' ⟨rfl, rfl⟩) | (go_at_call 34; refine (H7.out _).mono ?_; rintro e w' ⟨rfl, rfl⟩) | (go_at_call 26; (first | (with_reducible refine (H0.out _).mono ?_) | (with_reducible refine (H4.out _).mono ?_) | (with_reducible refine (H5.out _).mono ?_)); rintro e w' ⟨rfl, rfl⟩) | (go_at_call 31; refine (HF.out _ (below2 w _ _)).mono ?_; rintro e w2 ⟨x1, y1, rfl, hxy, hb2⟩; have S2 := Lib.hid ((six_new w _ _ _ _ _ _ _ _).below hb2); obtain ⟨⟨u0, u1, u2, u3, u4, u5, k0, k1, k2, k3, k4, k5⟩, f0, f1, f2, f3, f4, f5⟩ := S2.out; have HX := Lib.hid hxy; have HB2 := Lib.hid (below2_then hb2); clear hb2 hxy))
      exact bodyPost_ret (results_two Tryz.results17 _ S2.out _ _ _ _ _ _ rfl rfl) rfl (Told.same HW.out HX.out (below_put6 HB2.out (Nat.le_refl _) _ _ _ _ _ _))
set_option maxRecDepth 100000 in
set_option maxHeartbeats 4000000 in
theorem next_11 {s R : ByteArray} {at_ : Nat} {a : Int} {c : UInt8} {r : List UInt8} {w : World} (C : Ctx s at_ a R c r w) (m : Nx) (hm : m = signL lang r) (h1 : a ≠ 0 ∨ Lib.hasPrefix s.data.toList mark = false) (h2 : isBl c = false) (h3 : c ≠ 10) (h4 : Lib.hasPrefix r [47, 47] = false) (h5 : Lib.hasPrefix r [47, 42] = false) (h6 : isLt c = false) (h7 : isDg c = false) (h8 : c ≠ 34) (h9 : c ≠ 39) (h10 : c ≠ 96) :
    Calls Tryz.prog 17 #[.string s, .int .i64 a] w (Told m at_ w) := by
  have HW := Lib.hid hm
  have HF := Lib.hid C.sign
  have H2 := Lib.hid (fun u => isBlank_any c u)
  rw [h2] at H2
  clear h2
  have b3 : ((c.toNat : Int) == 10) = false := byte_ne (d := 10) h3
  have H4 := Lib.hid C.pre1
  rw [h4] at H4
  clear h4
  have H5 := Lib.hid C.pre2
  rw [h5] at H5
  have H6 := Lib.hid (fun u => isLetter_any c u)
  rw [h6] at H6
  clear h6
  have H7 := Lib.hid (fun u => isDigit_any c u)
  rw [h7] at H7
  clear h7
  have b8 : ((c.toNat : Int) == 34) = false := byte_ne (d := 34) h8
  have b9 : ((c.toNat : Int) == 39) = false := byte_ne (d := 39) h9
  have b10 : ((c.toNat : Int) == 96) = false := byte_ne (d := 96) h10
  have hsl := C.sl
  have hix := C.ix
  have H0 := Lib.hid C.pre0
  clear C hm h3 h5 h8 h9 h10
  rcases h1 with h1 | h1
  · have b1 : (a == 0) = false := beq_eq_false_iff_ne.2 h1
    clear h1
    go_enter Tryz.func17, Tryz.ntmps17
    go_wp2_with (first | (go_at_call 28; refine (H2.out _).mono ?_; rintro e w' ⟨rfl, rfl⟩) | (go_at_call 32; refine (H6.out _).mono ?_; rintro e w' ⟨rfl, rfl⟩) | (go_at_call 34; refine (H7.out _).mono ?_; rintro e w' ⟨rfl, rfl⟩) | (go_at_call 26; (first | (with_reducible refine (H0.out _).mono ?_) | (with_reducible refine (H4.out _).mono ?_) | (with_reducible refine (H5.out _).mono ?_)); rintro e w' ⟨rfl, rfl⟩) | (go_at_call 37; refine (HF.out _ (below2 w _ _)).mono ?_; rintro e w2 ⟨x1, y1, rfl, hxy, hb2⟩; have S2 := Lib.hid ((six_new w _ _ _ _ _ _ _ _).below hb2); obtain ⟨⟨u0, u1, u2, u3, u4, u5, k0, k1, k2, k3, k4, k5⟩, f0, f1, f2, f3, f4, f5⟩ := S2.out; have HX := Lib.hid hxy; have HB2 := Lib.hid (below2_then hb2); clear hb2 hxy))
    exact bodyPost_ret (results_two Tryz.results17 _ S2.out _ _ _ _ _ _ rfl rfl) rfl (Told.same HW.out HX.out (below_put6 HB2.out (Nat.le_refl _) _ _ _ _ _ _))
  · rw [h1] at H0
    clear h1
    obtain ⟨b, hb⟩ : ∃ b, (a == 0) = b := ⟨_, rfl⟩
    cases b
    all_goals
      go_enter Tryz.func17, Tryz.ntmps17
      go_wp2_with (first | (go_at_call 28; refine (H2.out _).mono ?_; rintro e w' ⟨rfl, rfl⟩) | (go_at_call 32; refine (H6.out _).mono ?_; rintro e w' ⟨rfl, rfl⟩) | (go_at_call 34; refine (H7.out _).mono ?_; rintro e w' ⟨rfl, rfl⟩) | (go_at_call 26; (first | (with_reducible refine (H0.out _).mono ?_) | (with_reducible refine (H4.out _).mono ?_) | (with_reducible refine (H5.out _).mono ?_)); rintro e w' ⟨rfl, rfl⟩) | (go_at_call 37; refine (HF.out _ (below2 w _ _)).mono ?_; rintro e w2 ⟨x1, y1, rfl, hxy, hb2⟩; have S2 := Lib.hid ((six_new w _ _ _ _ _ _ _ _).below hb2); obtain ⟨⟨u0, u1, u2, u3, u4, u5, k0, k1, k2, k3, k4, k5⟩, f0, f1, f2, f3, f4, f5⟩ := S2.out; have HX := Lib.hid hxy; have HB2 := Lib.hid (below2_then hb2); clear hb2 hxy))
      exact bodyPost_ret (results_two Tryz.results17 _ S2.out _ _ _ _ _ _ rfl rfl) rfl (Told.same HW.out HX.out (below_put6 HB2.out (Nat.le_refl _) _ _ _ _ _ _))
end Go.Proofs.YtjbamlmdeopcaaaGreatDoor.lx
end

section
/-
  lexer.next.
-/
namespace Go.Proofs.YtjbamlmdeopcaaaGreatDoor.lx
open Go.RowKit Go.Proofs.YtjbamlmdeopcaaaGreatDoor.tok

theorem run_is (k : Nat) (p : UInt8 → Bool) (hk : Asked k p) (ek : Enters Tryz.prog k) (l : List UInt8) (hl : l.length ≤ 4194304) (u : World) :
    Calls Tryz.prog 29 #[.string (B l), .func (.func k) #[] #[]] u (Ints (runL p l) u) := by
  have := run_any k p hk ek (B l) u (by rw [bsize]; omega)
  rw [bdata] at this
  exact this
theorem pre_is (s p : ByteArray) (l q : List UInt8) (hs : s.data.toList = l) (hp : p.data.toList = q) (u : World) : Calls Tryz.prog 26 #[.string s, .string p] u (Bools (Lib.hasPrefix l q) u) := by
  subst hs hp
  refine (Tryz.strings_HasPrefix s p u).mono ?_
  rintro e w' ⟨rfl, rfl⟩
  exact ⟨rfl, rfl⟩
theorem ctx_of (s : ByteArray) (at_ : Nat) (w : World) (hE : Env w) (hs : s.size ≤ 4194304) (h : at_ < s.size) :
    Ctx s at_ (at_ : Int) (B (s.data.toList.drop at_)) s[at_] (s.data.toList.drop at_) w := by
  have hl : (s.data.toList.drop at_).length = s.size - at_ := by rw [List.length_drop, sdata]
  have hbs : (B (s.data.toList.drop at_)).size = s.size - at_ := by rw [bsize, hl]
  have h0 : 0 < (B (s.data.toList.drop at_)).size := by omega
  have hd : s.data.toList.drop at_ = s[at_] :: s.data.toList.drop (at_ + 1) := List.drop_eq_getElem_cons (by rw [sdata]; exact h)
  have h00 : (B (s.data.toList.drop at_))[0]'h0 = s[at_] := by
    have : ∀ (l : List UInt8) (hh : 0 < (B l).size) (c : UInt8) (r : List UInt8), l = c :: r → (B l)[0]'hh = c := by
      rintro l hh c r rfl; rfl
    exact this _ h0 _ _ hd
  constructor
  · exact slice_from s at_ (by omega)
  · intro u
    rw [← h00]
    exact index_at (B (s.data.toList.drop at_)) 0 0 rfl h0 u
  · intro kind n u hn
    exact right_any kind at_ n u (by omega) hn
  · exact run_is 28 isBl isBlank_any (enters_of Tryz.func28 (by kernel_rfl) rfl) _ (by omega)
  · exact run_is 30 noFeed isNoFeed_any (enters_of Tryz.func30 (by kernel_rfl) rfl) _ (by omega)
  · have := runL_len isBl (s.data.toList.drop at_); omega
  · have := runL_len noFeed (s.data.toList.drop at_); omega
  · exact pre_is _ _ _ _ rfl rfl
  · exact pre_is _ _ _ _ (bdata _) rfl
  · exact pre_is _ _ _ _ (bdata _) rfl
  · intro u hu hp
    have h2 := (List.isPrefixOf_iff_prefix.1 hp).length_le
    rw [hl] at h2
    have := closed_any (B (s.data.toList.drop at_)) ⟨#[47, 42]⟩ ⟨#[42, 47]⟩ 4 105 at_ u (hE.below hu) (by omega) (by rw [hbs]; exact h2) (by decide) (by omega)
    rw [bdata] at this
    exact this
  · intro u hu
    have := closed_any (B (s.data.toList.drop at_)) ⟨#[96]⟩ ⟨#[96]⟩ 14 106 at_ u (hE.below hu) (by omega) (by rw [hbs]; show 1 ≤ _; omega) (by decide) (by omega)
    rw [bdata] at this
    exact this
  · intro u
    have := lexWord_any (B (s.data.toList.drop at_)) at_ u (by omega) (by omega)
    rwa [bdata] at this
  · intro u
    have := lexNumber_any (B (s.data.toList.drop at_)) at_ u (by omega) (by omega)
    rwa [bdata] at this
  · intro u hu hc
    have := quoted_any lang.str (B (s.data.toList.drop at_)) 13 106 at_ 34 u (by omega) h0 (by rw [h00]; exact hc) (by omega) lang.str_place (fun x v hx hv => said_str x v ((hE.below hu).below hv) hx)
    rwa [bdata] at this
  · intro u hu hc
    have := quoted_any lang.rune (B (s.data.toList.drop at_)) 12 107 at_ 39 u (by omega) h0 (by rw [h00]; exact hc) (by omega) lang.rune_place (fun x v hx hv => said_rune x v ((hE.below hu).below hv) hx)
    rwa [bdata] at this
  · intro u hu
    have := lexSign_any (B (s.data.toList.drop at_)) at_ u (hE.below hu) (by omega) h0 (by omega)
    rwa [bdata] at this
theorem next_any (s : ByteArray) (at_ : Nat) (w : World) (hE : Env w) (hs : s.size ≤ 4194304) (h : at_ < s.size) :
    Calls Tryz.prog 17 #[.string s, .int .i64 (at_ : Int)] w (Told (nxAt lang s.data.toList at_) at_ w) := by
  have C := ctx_of s at_ w hE hs h
  have hd : s.data.toList.drop at_ = s[at_] :: s.data.toList.drop (at_ + 1) := List.drop_eq_getElem_cons (by rw [sdata]; exact h)
  have hn : nxAt lang s.data.toList at_ = nxOf lang (cls (at_ == 0) (s.data.toList.drop at_)) (s.data.toList.drop at_) := rfl
  have h0 : at_ = 0 → s.data.toList.drop at_ = s.data.toList := by rintro rfl; rfl
  generalize s.data.toList.drop at_ = r at *
  generalize s[at_] = c at *
  have hcls : cls (at_ == 0) r = cls (at_ == 0) (c :: s.data.toList.drop (at_ + 1)) := by rw [hd]
  rw [cls, ← hd] at hcls
  rw [hn]
  by_cases h1 : ((at_ == 0) && Lib.hasPrefix r mark) = true
  · rw [if_pos h1] at hcls
    rw [Bool.and_eq_true, beq_iff_eq] at h1
    exact next_1 C _ (by rw [hcls]; rfl) (by omega) (by rw [← h0 h1.1]; exact h1.2)
  rw [if_neg h1] at hcls
  have g1 : (at_ : Int) ≠ 0 ∨ Lib.hasPrefix s.data.toList mark = false := by
    by_cases ha : at_ = 0
    · refine .inr ?_
      rw [← h0 ha]
      rw [ha] at h1
      simpa using h1
    · exact .inl (by omega)
  by_cases h2 : isBl c = true
  · rw [if_pos h2] at hcls
    exact next_2 C _ (by rw [hcls]; rfl) g1 h2
  rw [if_neg h2] at hcls
  have h2 : isBl c = false := by simpa using h2
  by_cases h3 : c = 10
  · rw [if_pos h3] at hcls
    exact next_3 C _ (by rw [hcls]; rfl) g1 h2 h3
  rw [if_neg h3] at hcls
  by_cases h4 : Lib.hasPrefix r [47, 47] = true
  · rw [if_pos h4] at hcls
    exact next_4 C _ (by rw [hcls]; rfl) g1 h2 h3 h4
  rw [if_neg h4] at hcls
  have h4 : Lib.hasPrefix r [47, 47] = false := by simpa using h4
  by_cases h5 : Lib.hasPrefix r [47, 42] = true
  · rw [if_pos h5] at hcls
    exact next_5 C _ (by rw [hcls]; rfl) g1 h2 h3 h4 h5
  rw [if_neg h5] at hcls
  have h5 : Lib.hasPrefix r [47, 42] = false := by simpa using h5
  by_cases h6 : isLt c = true
  · rw [if_pos h6] at hcls
    exact next_6 C _ (by rw [hcls]; rfl) g1 h2 h3 h4 h5 h6
  rw [if_neg h6] at hcls
  have h6 : isLt c = false := by simpa using h6
  by_cases h7 : isDg c = true
  · rw [if_pos h7] at hcls
    exact next_7 C _ (by rw [hcls]; rfl) g1 h2 h3 h4 h5 h6 h7
  rw [if_neg h7] at hcls
  have h7 : isDg c = false := by simpa using h7
  by_cases h8 : c = 34
  · rw [if_pos h8] at hcls
    exact next_8 C _ (by rw [hcls]; rfl) g1 h2 h3 h4 h5 h6 h7 h8
  rw [if_neg h8] at hcls
  by_cases h9 : c = 39
  · rw [if_pos h9] at hcls
    exact next_9 C _ (by rw [hcls]; rfl) g1 h2 h3 h4 h5 h6 h7 h8 h9
  rw [if_neg h9] at hcls
  by_cases h10 : c = 96
  · rw [if_pos h10] at hcls
    exact next_10 C _ (by rw [hcls]; rfl) g1 h2 h3 h4 h5 h6 h7 h8 h9 h10
  rw [if_neg h10] at hcls
  exact next_11 C _ (by rw [hcls]; rfl) g1 h2 h3 h4 h5 h6 h7 h8 h9 h10
end Go.Proofs.YtjbamlmdeopcaaaGreatDoor.lx
end

section
/-
  Rows of tokens that are read; lexer.endsLine.
-/
namespace Go.Proofs.YtjbamlmdeopcaaaGreatDoor.lx
open Go.RowKit Go.Proofs.YtjbamlmdeopcaaaGreatDoor.tok

def cellsT (T : List Tr) : List Value := T.flatMap fun t => [.int .i64 t.k, .int .i64 (t.i : Int), .int .i64 (t.j : Int)]
theorem cellsT_append (a b : List Tr) : cellsT (a ++ b) = cellsT a ++ cellsT b := by simp [cellsT]
theorem cellsT_length (T : List Tr) : (cellsT T).length = T.length * 3 := by
  induction T with
  | nil => rfl
  | cons d T ih => simp only [cellsT, List.flatMap_cons, List.length_append, List.length_cons, List.length_nil] at *; omega
theorem cellsT_at (T : List Tr) : ∀ (j : Nat) (hj : j < T.length), (cellsT T)[j * 3]? = some (.int .i64 T[j].k) ∧ (cellsT T)[j * 3 + 1]? = some (.int .i64 (T[j].i : Int)) ∧ (cellsT T)[j * 3 + 2]? = some (.int .i64 (T[j].j : Int)) := by
  induction T with
  | nil => intro j hj; simp at hj
  | cons d T ih =>
    intro j hj
    have e : cellsT (d :: T) = .int .i64 d.k :: .int .i64 d.i :: .int .i64 d.j :: cellsT T := rfl
    rw [e]
    cases j with
    | zero => exact ⟨rfl, rfl, rfl⟩
    | succ j =>
      obtain ⟨a, b, c⟩ := ih j (by simpa using hj)
      rw [show (j + 1) * 3 = j * 3 + 1 + 1 + 1 by omega, show j * 3 + 1 + 1 + 1 + 2 = j * 3 + 2 + 1 + 1 + 1 by omega]
      simp only [List.getElem?_cons_succ, List.getElem_cons_succ]
      exact ⟨a, b, c⟩
/-- A row of tokens can be read there. -/
def Cells (w : World) (g off : Nat) (T : List Tr) : Prop := ∀ j (h : j < T.length), w.cell? ⟨g, off + j * 3, none⟩ = some (.int .i64 T[j].k) ∧ w.cell? ⟨g, off + j * 3 + 1, none⟩ = some (.int .i64 (T[j].i : Int)) ∧ w.cell? ⟨g, off + j * 3 + 2, none⟩ = some (.int .i64 (T[j].j : Int))
def Row (w : World) (v : Value) (T : List Tr) : Prop := ∃ (g off : Nat) (o : Option Addr) (cap : Nat), T.length ≤ cap ∧ v = .slice o T.length cap ∧ (T ≠ [] → o = some ⟨g, off, none⟩) ∧ Cells w g off T
theorem Cells.drop {w : World} {g off : Nat} {T : List Tr} (h : Cells w g off T) (n : Nat) : Cells w g (off + n * 3) (T.drop n) := by
  intro j hj
  rw [List.length_drop] at hj
  have := h (n + j) (by omega)
  rw [List.getElem_drop]
  rw [show off + n * 3 + j * 3 = off + (n + j) * 3 by omega]
  exact this
theorem Cells.below {w w' : World} {g off : Nat} {T : List Tr} (h : Cells w g off T) (hb : Below w.heap.size w w') : Cells w' g off T := by
  intro j hj
  obtain ⟨a, b, c⟩ := h j hj
  have l := World.block_lt_of_cell? _ _ a
  exact ⟨(hb.cell (p := ⟨g, off + j * 3, none⟩) l).trans a, (hb.cell (p := ⟨g, off + j * 3 + 1, none⟩) l).trans b, (hb.cell (p := ⟨g, off + j * 3 + 2, none⟩) l).trans c⟩
theorem Row.below {w w' : World} {v : Value} {T : List Tr} (h : Row w v T) (hb : Below w.heap.size w w') : Row w' v T := by
  obtain ⟨g, off, o, cap, hc, hv, ho, hcell⟩ := h
  exact ⟨g, off, o, cap, hc, hv, ho, hcell.below hb⟩
theorem Row.nil (w : World) (o : Option Addr) (cap : Nat) : Row w (.slice o 0 cap) [] := ⟨0, 0, o, cap, Nat.zero_le _, rfl, fun h => absurd rfl h, fun j h => by simp at h⟩
theorem row_of_own {w : World} {B0 : Nat} {v : Value} {T : List Tr} (h : w.ownsRow B0 29 3 v T.length (cellsT T)) : Row w v T := by
  rcases h.2 with ⟨rfl, b⟩ | ⟨g, cap, cur, rfl, _, _, hcap, _⟩
  · have : T = [] := List.eq_nil_of_length_eq_zero b
    subst this
    exact Row.nil w none 0
  · refine ⟨g, 0, _, cap, ?_, rfl, fun _ => rfl, fun j hj => ?_⟩
    · exact hcap
    · have hc := h.cells (g := g) rfl
      obtain ⟨a, b, c⟩ := cellsT_at T j hj
      have e : ∀ k, ((⟨g, 0, none⟩ : Addr).add k) = ⟨g, 0 + k, none⟩ := fun k => by rw [Addr.add_lit]
      have e1 := hc _ _ a
      have e2 := hc _ _ b
      have e3 := hc _ _ c
      rw [e] at e1 e2 e3
      exact ⟨e1, e2, e3⟩
theorem piece_mid (s : ByteArray) (a b : Nat) (z y : Int) (hz : z = (a : Int)) (hy : y = (b : Int)) (h1 : a ≤ b) (h2 : b ≤ s.size) (u : World) :
    (Instr.slice 9 (.string s) (some (.int .i64 z)) (some (.int .i64 y)) none).run Tryz.prog u = .ok (.string (B ((s.data.toList.drop a).take (b - a)))) u := by
  subst hz hy
  rw [← b_extract]
  exact run_slice_string (P := Tryz.prog) u 9 s .i64 .i64 a (b : Int) Tryz.underlying9 (by omega) (by omega) (by omega)
theorem run_slice_tok (u : World) (o : Option Addr) (n cap : Nat) (z : Int) (i : Nat) (hz : z = (i : Int)) (h : i ≤ n) :
    (Instr.slice 22 (.slice o n cap) (some (.int .i64 z)) none none).run Tryz.prog u = .ok (.slice (if cap = i then o else o.map (·.add (i * 3))) (n - i) (cap - i)) u := by
  subst hz
  rw [run_slice_l (P := Tryz.prog) (w := u) (t := 22) (a := o) (len := n) (cap := cap) (ht := by kernel_rfl) .i64 (i : Int) (by omega) (by omega)]
  have hs : (sizeOf (Tryz.prog.elem 22)).run Tryz.prog u = .ok 3 u := by kernel_rfl
  rw [hs]
  rfl
theorem Row.drop {w : World} {v : Value} {T : List Tr} (h : Row w v T) (i : Nat) (hi : i ≤ T.length) : ∃ v', (∀ u, (Instr.slice 22 v (some (.int .i64 (i : Int))) none none).run Tryz.prog u = .ok v' u) ∧ Row w v' (T.drop i) := by
  obtain ⟨g, off, o, cap, hc, rfl, ho, hcell⟩ := h
  refine ⟨_, fun u => run_slice_tok u o T.length cap _ i rfl hi, g, off + i * 3, _, cap - i, by rw [List.length_drop]; omega, by rw [List.length_drop], fun hne => ?_, hcell.drop i⟩
  have h1 : i < T.length := by
    rcases Nat.lt_or_ge i T.length with h | h
    · exact h
    · exact absurd (List.drop_of_length_le h) hne
  rw [if_neg (by omega), ho (fun e => by rw [e] at h1; simp at h1)]
  simp [Addr.add]
/-- All tokens of a list lie in a text. -/
def Within (n : Nat) (T : List Tr) : Prop := ∀ t ∈ T, t.i ≤ t.j ∧ t.j ≤ n
theorem Within.drop {n : Nat} {T : List Tr} (h : Within n T) (i : Nat) : Within n (T.drop i) := fun t ht => h t (List.mem_of_mem_drop ht)
theorem contains_any (x : List UInt8) (u : World) : Calls Tryz.prog 66 #[.string (B x), .string { data := #[10] }] u (Bools (Lib.contains x [10]) u) := by
  refine (Tryz.strings_Contains_one (B x) 10 u).mono ?_
  rintro e w' ⟨rfl, rfl⟩
  rw [bdata]
  unfold Lib.contains
  rw [Lib.index_one]
  exact ⟨rfl, rfl⟩

set_option maxRecDepth 100000 in
set_option maxHeartbeats 4000000 in
theorem endsLine_any (s : ByteArray) (v : Value) (T : List Tr) (more : Bool) (w : World) (hr : Row w v T) (hw : Within s.size T) (hn : T.length ≤ 16777216) :
    Calls Tryz.prog 39 #[.string s, v, .bool more] w (fun e w' => e = .returned (.bool (lineEnd s.data.toList more T)) ∧ Below w.heap.size w w') := by
  obtain ⟨g, off, o, cap, hc, rfl, ho, hcell⟩ := hr
  have HC := Lib.hid hcell
  have HW := Lib.hid hw
  have HO := Lib.hid ho
  clear hcell hw ho
  obtain ⟨len, hlen⟩ : ∃ len, T.length = len := ⟨_, rfl⟩
  rw [hlen] at hc hn
  have HN := Lib.hid hlen
  clear hlen
  rw [HN.out]
  go_enter Tryz.func39, Tryz.ntmps39
  go_wp2
  go_loopw [11] (fun p wr => ∃ n : Nat, n ≤ len ∧ p = .int .i64 n ∧ lineEnd s.data.toList more (T.drop n) = lineEnd s.data.toList more T ∧ Below w.heap.size w wr) (fun p _ => len - (intOf p).toNat)
  case atStart => exact ⟨0, Nat.zero_le _, rfl, rfl, Below.refl _ _⟩
  case round =>
    obtain ⟨n, hnl, rfl, hle, hb⟩ := hrel
    have HB := Lib.hid hb
    have HL := Lib.hid hle
    have hsz := hb.size
    clear hb hle
    by_cases hlt : n < len
    · have hltT : n < T.length := by rw [HN.out]; exact hlt
      have hd : decide ((n : Int) < (len : Int)) = true := decide_eq_true (by omega)
      have hne : T ≠ [] := by rintro rfl; simp at hltT
      have ho := HO.out hne
      subst ho
      have hD := List.drop_eq_getElem_cons hltT
      obtain ⟨c0, c1, c2⟩ := HC.out.below HB.out n hltT
      obtain ⟨w1, w2⟩ := HW.out T[n] (List.getElem_mem hltT)
      generalize T[n] = t at *
      obtain ⟨k, i, j⟩ := t
      simp only [] at c0 c1 c2 w1 w2
      rw [hD, lineEnd] at HL
      simp only [] at HL
      have HT := Lib.hid (fun u => trivia_any k u)
      have ht : triviaOf k = triv k := rfl
      rw [ht] at HT
      clear hne hltT ht hD
      cases h1 : triv k with
      | false =>
        rw [h1, if_pos rfl] at HL
        rw [h1] at HT
        clear h1
        go_wp2_with (go_at_call 65; refine (HT.out _).mono ?_; rintro e w' ⟨rfl, rfl⟩)
        go_ret
        exact ⟨by rw [← HL.out]; rfl, HB.out.alloc hsz _⟩
      | true =>
        rw [h1, if_neg (by simp)] at HL
        rw [h1] at HT
        clear h1
        by_cases h2 : k = 2
        · have b2 : (k == 2) = true := beq_iff_eq.2 h2
          rw [if_pos h2] at HL
          clear h2
          go_wp2_with (go_at_call 65; refine (HT.out _).mono ?_; rintro e w' ⟨rfl, rfl⟩)
          go_ret
          exact ⟨by rw [← HL.out]; rfl, HB.out.alloc hsz _⟩
        have b2 : (k == 2) = false := beq_eq_false_iff_ne.2 h2
        rw [if_neg h2] at HL
        clear h2
        by_cases h4 : k = 4
        · have b4 : (k == 4) = true := beq_iff_eq.2 h4
          have hsl := piece_mid s i j (i : Int) (j : Int) rfl rfl w1 w2
          have HP : Hid (∀ u : World, Calls Tryz.prog 66 #[.string (B ((s.data.toList.drop i).take (j - i))), .string { data := #[10] }] u (Bools (hasFeed s.data.toList ⟨k, i, j⟩) u)) := Lib.hid (fun u => contains_any _ u)
          obtain ⟨x, hx⟩ : ∃ x, B ((s.data.toList.drop i).take (j - i)) = x := ⟨_, rfl⟩
          rw [hx] at hsl HP
          cases hf : hasFeed s.data.toList ⟨k, i, j⟩ with
          | true =>
            rw [hf, h4] at HL
            rw [if_pos (by simp)] at HL
            rw [hf] at HP
            clear h4 hf hx
            go_wp2_with (first | (go_at_call 65; refine (HT.out _).mono ?_; rintro e w' ⟨rfl, rfl⟩) | (go_at_call 66; refine (HP.out _).mono ?_; rintro e w' ⟨rfl, rfl⟩))
            go_ret
            exact ⟨by rw [← HL.out]; rfl, HB.out.alloc hsz _⟩
          | false =>
            rw [hf, Bool.and_false, if_neg (by simp)] at HL
            rw [hf] at HP
            clear h4 hf hx
            go_wp2_with (first | (go_at_call 65; refine (HT.out _).mono ?_; rintro e w' ⟨rfl, rfl⟩) | (go_at_call 66; refine (HP.out _).mono ?_; rintro e w' ⟨rfl, rfl⟩))
            go_roundw
            case rel => exact ⟨n + 1, by omega, by go_num, HL.out, HB.out.alloc hsz _⟩
            case measure => simp [intOf]; omega
        · have b4 : (k == 4) = false := beq_eq_false_iff_ne.2 h4
          rw [decide_eq_false h4, Bool.false_and, if_neg (by simp)] at HL
          clear h4
          go_wp2_with (go_at_call 65; refine (HT.out _).mono ?_; rintro e w' ⟨rfl, rfl⟩)
          go_roundw
          case rel => exact ⟨n + 1, by omega, by go_num, HL.out, HB.out.alloc hsz _⟩
          case measure => simp [intOf]; omega
    · have hd : decide ((n : Int) < (len : Int)) = false := decide_eq_false (by omega)
      have hD : T.drop n = [] := List.drop_of_length_le (by rw [HN.out]; omega)
      rw [hD] at HL
      clear hD
      go_wp2_with fail
      go_ret
      exact ⟨by rw [← HL.out]; rfl, HB.out⟩
end Go.Proofs.YtjbamlmdeopcaaaGreatDoor.lx
end

section
/-
  lexer.appendEnded.
-/
namespace Go.Proofs.YtjbamlmdeopcaaaGreatDoor.lx
open Go.RowKit Go.Proofs.YtjbamlmdeopcaaaGreatDoor.tok

theorem grown_cell {w w' : World} {row : Option Nat} (hg : w.grownBy w' row) {k : Nat} (o : Nat) (hk : k < w.heap.size) (hr : some k ≠ row) : w'.cell? ⟨k, o, none⟩ = w.cell? ⟨k, o, none⟩ := by
  unfold World.cell?
  rw [hg.block k hk hr]
theorem own_mono {w : World} {B0 B1 e size n : Nat} {v : Value} {xs : List Value} (h : w.ownsRow B0 e size v n xs) (hB : B1 ≤ B0) : w.ownsRow B1 e size v n xs := by
  refine ⟨h.1, ?_⟩
  rcases h.2 with hn | ⟨g, cap, cur, rfl, hg, rest⟩
  · exact .inl hn
  · exact .inr ⟨g, cap, cur, rfl, by omega, rest⟩
/-- A row of tokens in a block below a number. -/
def RowB (B0 : Nat) (w : World) (v : Value) (T : List Tr) : Prop := ∃ (g off : Nat) (o : Option Addr) (cap : Nat), T.length ≤ cap ∧ v = .slice o T.length cap ∧ (T ≠ [] → o = some ⟨g, off, none⟩ ∧ g < B0) ∧ Cells w g off T
theorem RowB.row {B0 : Nat} {w : World} {v : Value} {T : List Tr} (h : RowB B0 w v T) : Row w v T := by
  obtain ⟨g, off, o, cap, hc, hv, ho, hcell⟩ := h
  exact ⟨g, off, o, cap, hc, hv, fun e => (ho e).1, hcell⟩
theorem Row.rowB {w : World} {v : Value} {T : List Tr} (h : Row w v T) : RowB w.heap.size w v T := by
  obtain ⟨g, off, o, cap, hc, hv, ho, hcell⟩ := h
  refine ⟨g, off, o, cap, hc, hv, fun e => ⟨ho e, ?_⟩, hcell⟩
  have : 0 < T.length := by cases T with | nil => exact absurd rfl e | cons => simp
  exact World.block_lt_of_cell? _ _ (hcell 0 this).1
theorem RowB.below {B0 B1 : Nat} {w w' : World} {v : Value} {T : List Tr} (h : RowB B0 w v T) (hb : Below B1 w w') (hB : B0 ≤ B1) : RowB B0 w' v T := by
  obtain ⟨g, off, o, cap, hc, hv, ho, hcell⟩ := h
  refine ⟨g, off, o, cap, hc, hv, ho, fun j hj => ?_⟩
  have hne : T ≠ [] := by rintro rfl; simp at hj
  have hg := (ho hne).2
  obtain ⟨a, b, c⟩ := hcell j hj
  exact ⟨(hb.cell (p := ⟨g, off + j * 3, none⟩) (by show g < B1; omega)).trans a, (hb.cell (p := ⟨g, off + j * 3 + 1, none⟩) (by show g < B1; omega)).trans b, (hb.cell (p := ⟨g, off + j * 3 + 2, none⟩) (by show g < B1; omega)).trans c⟩
theorem infoT : (Tryz.prog.info? 29).map (fun i => (i.zero, i.size, i.bytes)) = some (some (.agg #[.int .i64 0, .int .i64 0, .int .i64 0]), 3, 24) := by kernel_rfl
theorem infoG : (Tryz.prog.info? 27).map (fun i => (i.zero, i.size, i.bytes)) = some (some (.agg #[.int .i64 0, .int .i64 0, .int .i64 0]), 3, 24) := by kernel_rfl
/-- A row of tokens of the call's own. -/
def OwnT (w : World) (B0 : Nat) (v : Value) (T : List Tr) : Prop := w.ownsRow B0 29 3 v T.length (cellsT T)
def OwnG (w : World) (B0 : Nat) (v : Value) (D : List Tr) : Prop := w.ownsRow B0 27 3 v D.length (cellsT D)
/-- What an append does. -/
theorem own_more {w wr W w2 : World} {B0 e : Nat} {v v' : Value} {T : List Tr} {t : Tr} (hb : Below B0 w wr) (hW : Below B0 wr W) (hBW : B0 ≤ W.heap.size) (hlt : ∀ k, v.ownBlock = some k → B0 ≤ k)
    (hown2 : w2.ownsRow B0 e 3 v' (T.length + 1) (cellsT T ++ [.int .i64 t.k, .int .i64 (t.i : Int), .int .i64 (t.j : Int)])) (hg : W.grownBy w2 v.ownBlock) :
    w2.ownsRow B0 e 3 v' (T ++ [t]).length (cellsT (T ++ [t])) ∧ Below B0 w w2 := by
  refine ⟨?_, ?_⟩
  · rw [cellsT_append, List.length_append]
    exact hown2
  · exact (hb.trans hW).grown hg hBW hlt
/-- What an append behind a box does. -/
theorem step_own {w wr w2 : World} {B0 e : Nat} {v v' x0 x1 x2 : Value} {T : List Tr} {t : Tr} {t' : TypeId} {q : Obj} (hb : Below B0 w wr) (hB : B0 ≤ wr.heap.size) (hm : wr.ownsRow B0 e 3 v T.length (cellsT T))
    (hown2 : w2.ownsRow B0 e 3 v' (T.length + 1) (cellsT T ++ [.int .i64 t.k, .int .i64 (t.i : Int), .int .i64 (t.j : Int)])) (hg : ((wr.alloc (.cells #[x0, x1, x2] t')).alloc q).grownBy w2 v.ownBlock) :
    (w2.ownsRow B0 e 3 v' (T ++ [t]).length (cellsT (T ++ [t])) ∧ Below B0 w w2) ∧ w2.cell? ⟨wr.heap.size, 0, none⟩ = some x0 ∧ w2.cell? ⟨wr.heap.size, 1, none⟩ = some x1 ∧ w2.cell? ⟨wr.heap.size, 2, none⟩ = some x2 ∧ wr.heap.size + 1 < w2.heap.size := by
  have hlt := World.ownsRow.lt hm
  have hne : some wr.heap.size ≠ v.ownBlock := fun h => by have := (hlt _ h.symm).2; omega
  have hs := hg.size
  refine ⟨own_more hb ((((Below.refl B0 wr).alloc hB _).alloc (by simp; omega) _)) (by simp; omega) (fun k hk => (hlt k hk).1) hown2 hg, hg.cell (by simp) hne, hg.cell (by simp) hne, hg.cell (by simp) hne, by simp at hs; omega⟩
theorem step_own1 {w wr w2 : World} {B0 e : Nat} {v v' : Value} {T : List Tr} {t : Tr} {q : Obj} (hb : Below B0 w wr) (hB : B0 ≤ wr.heap.size) (hm : wr.ownsRow B0 e 3 v T.length (cellsT T))
    (hown2 : w2.ownsRow B0 e 3 v' (T.length + 1) (cellsT T ++ [.int .i64 t.k, .int .i64 (t.i : Int), .int .i64 (t.j : Int)])) (hg : (wr.alloc q).grownBy w2 v.ownBlock) :
    w2.ownsRow B0 e 3 v' (T ++ [t]).length (cellsT (T ++ [t])) ∧ Below B0 w w2 := by
  have hlt := World.ownsRow.lt hm
  exact own_more hb ((Below.refl B0 wr).alloc hB _) (by simp; omega) (fun k hk => (hlt k hk).1) hown2 hg
theorem three_at (w : World) (x y z : Value) (t : TypeId) : ∀ j u, [x, y, z][j]? = some u → (w.alloc (.cells #[x, y, z] t)).cell? ((⟨w.heap.size, 0, none⟩ : Addr).add j) = some u := dec.three_new w x y z t
def MadeT (B0 : Nat) (T : List Tr) (w : World) (e : Ending) (w' : World) : Prop := ∃ v', e = .returned v' ∧ OwnT w' B0 v' T ∧ Below B0 w w'
set_option maxRecDepth 100000 in
set_option maxHeartbeats 8000000 in
theorem appendEnded_any (s : ByteArray) (vt v : Value) (T0 T : List Tr) (more : Bool) (B0 : Nat) (w : World) (hto : OwnT w B0 vt T0) (hB : B0 ≤ w.heap.size) (hr : RowB B0 w v T) (hw : Within s.size T) (hn : T0.length + 2 * T.length ≤ 16777216) :
    Calls Tryz.prog 18 #[vt, .string s, v, .bool more] w (MadeT B0 (T0 ++ autos s.data.toList more T) w) := by
  obtain ⟨i0, hi, hz0, hz1, hz2⟩ := info_parts infoT
  have hrow := hr
  obtain ⟨g, off, o, cap, hc, rfl, ho, hcell⟩ := hr
  have HR := Lib.hid hrow
  have HW := Lib.hid hw
  have HO := Lib.hid ho
  have HT := Lib.hid hto
  obtain ⟨len, hlen⟩ : ∃ len, T.length = len := ⟨_, rfl⟩
  have HC : Hid (∀ w1, Below B0 w w1 → ∀ j (h : j < T.length), w1.cell? ⟨g, off + j * 3, none⟩ = some (.int .i64 T[j].k) ∧ w1.cell? ⟨g, off + j * 3 + 1, none⟩ = some (.int .i64 (T[j].i : Int)) ∧ w1.cell? ⟨g, off + j * 3 + 2, none⟩ = some (.int .i64 (T[j].j : Int))) := Lib.hid (fun w1 h1 j hj => by
    have hne : T ≠ [] := by rintro rfl; simp at hj
    have hg := (ho hne).2
    obtain ⟨a, b, c⟩ := hcell j hj
    exact ⟨(h1.cell (p := ⟨g, off + j * 3, none⟩) hg).trans a, (h1.cell (p := ⟨g, off + j * 3 + 1, none⟩) hg).trans b, (h1.cell (p := ⟨g, off + j * 3 + 2, none⟩) hg).trans c⟩)
  clear hcell hw ho hto hrow
  rw [hlen] at hc hn HR
  have HN := Lib.hid hlen
  clear hlen
  rw [HN.out]
  go_enter Tryz.func18, Tryz.ntmps18
  go_wp2
  go_loopw [0, 13] (fun vv p wr => ∃ (n : Nat) (M : List Tr), n ≤ len ∧ p = .int .i64 n ∧ M ++ autos s.data.toList more (T.drop n) = T0 ++ autos s.data.toList more T ∧ M.length ≤ T0.length + 2 * n ∧ OwnT wr B0 vv M ∧ Below B0 w wr) (fun _ p _ => len - (intOf p).toNat)
  case atStart => exact ⟨0, T0, Nat.zero_le _, rfl, rfl, by omega, HT.out, Below.refl _ _⟩
  case round =>
    obtain ⟨n, M, hnl, rfl, hle, hfew, hown, hb⟩ := hrel
    have HB := Lib.hid hb
    have HL := Lib.hid hle
    have HM := Lib.hid hown
    have hsz := hb.size
    have hlt := World.ownsRow.lt hown
    have HLT := Lib.hid hlt
    clear hb hle hown hlt
    by_cases hlt : n < len
    · have hltT : n < T.length := by rw [HN.out]; exact hlt
      have hd : decide ((n : Int) < (len : Int)) = true := decide_eq_true (by omega)
      have hne : T ≠ [] := by rintro rfl; simp at hltT
      obtain ⟨ho, hgB⟩ := HO.out hne
      subst ho
      have hD := List.drop_eq_getElem_cons hltT
      obtain ⟨c0, c1, c2⟩ := HC.out _ HB.out n hltT
      generalize T[n] = t at *
      obtain ⟨k, i, j⟩ := t
      simp only [] at c0 c1 c2
      rw [hD, autos] at HL
      clear hne hltT hD
      go_wp2_with (at_builtin; refine wpList_append_own _ rfl _ _ 22 rfl B0 29 i0 (.agg #[.int .i64 0, .int .i64 0, .int .i64 0]) 3 24 Tryz.underlying22 hi hz0 hz1 hz2 rfl (by decide) _ _ _ rfl ((World.ownsRow.alloc HM.out _).alloc _) ⟨wr.heap.size + 1, 0, none⟩ 1 1 [.int .i64 k, .int .i64 (i : Int), .int .i64 (j : Int)] rfl rfl ?c1 ?c2 ?c3 ?c4 ?c5 ?_)
      try (case c1 => exact three_at (wr.alloc _) _ _ _ 29)
      case c2 => first | exact ⟨rfl, rfl, rfl⟩ | (intro u hu; simp only [List.mem_cons, List.not_mem_nil, or_false] at hu; rcases hu with rfl | rfl | rfl <;> rfl)
      case c3 => unfold maxLen; omega
      case c4 => omega
      case c5 => first | omega | (simp; omega)
      intro v2 w2 hown2 hg _
      have HS := Lib.hid (step_own (t := ⟨k, i, j⟩) HB.out (by omega) HM.out hown2 hg)
      obtain ⟨_, b0, b1, b2, hs2⟩ := HS.out
      have hlt2 : wr.heap.size < w2.heap.size := Nat.lt_of_succ_lt hs2
      have hML : (M ++ [(⟨k, i, j⟩ : Tr)]).length = M.length + 1 := by simp
      have HE := Lib.hid (fun u => ends_any k u)
      have he : endsOf k = ends k := rfl
      rw [he] at HE
      clear hown2 hg c0 c1 c2 he HM
      cases h1 : ends k with
      | false =>
        have HA : Hid (autoOf s.data.toList more ⟨k, i, j⟩ (T.drop (n + 1)) = []) := Lib.hid (by unfold autoOf; rw [h1]; rfl)
        rw [HA.out, List.nil_append] at HL
        rw [h1] at HE
        clear h1 b1 b2
        go_wp2_with (go_at_call 38; refine (HE.out _).mono ?_; rintro e w' ⟨rfl, rfl⟩)
        go_roundw
        case rel => exact ⟨n + 1, _, by omega, by go_num, by rw [← HL.out]; simp, by rw [hML]; omega, HS.out.1.1, HS.out.1.2⟩
        case measure => simp [intOf]; omega
      | true =>
        rw [h1] at HE
        obtain ⟨v3, hsl, hrow⟩ := ((HR.out.below HS.out.1.2 (Nat.le_refl _)).row).drop (n + 1) (by rw [HN.out]; omega)
        have HX := Lib.hid (endsLine_any s v3 (T.drop (n + 1)) more w2 hrow (HW.out.drop _) (by rw [List.length_drop, HN.out]; omega))
        clear hrow
        have e3 : ((n + 1 : Nat) : Int) = (n : Int) + 1 := by omega
        rw [e3] at hsl
        clear e3
        cases h2 : lineEnd s.data.toList more (T.drop (n + 1)) with
        | false =>
          have HA : Hid (autoOf s.data.toList more ⟨k, i, j⟩ (T.drop (n + 1)) = []) := Lib.hid (by unfold autoOf; rw [h2, Bool.and_false, if_neg (by simp)])
          rw [HA.out, List.nil_append] at HL
          rw [h2] at HX
          clear h1 h2
          go_wp2_with (first | (go_at_call 38; refine (HE.out _).mono ?_; rintro e w' ⟨rfl, rfl⟩) | (go_at_call 39; refine HX.out.mono ?_; rintro e w3 ⟨rfl, hb3⟩; have HB3 := Lib.hid hb3; clear hb3))
          go_roundw
          case rel => exact ⟨n + 1, _, by omega, by go_num, by rw [← HL.out]; simp, by rw [hML]; omega, dec.own_below HS.out.1.1 HB3.out, HS.out.1.2.trans (HB3.out.mono (by omega))⟩
          case measure => simp [intOf]; omega
        | true =>
          have HA : Hid (autoOf s.data.toList more ⟨k, i, j⟩ (T.drop (n + 1)) = [⟨16, j, j⟩]) := Lib.hid (by unfold autoOf; rw [h1, h2]; rfl)
          rw [HA.out] at HL
          rw [h2] at HX
          clear h1 h2
          go_wp2_with (first | (go_at_call 38; refine (HE.out _).mono ?_; rintro e w' ⟨rfl, rfl⟩) | (go_at_call 39; refine HX.out.mono ?_; rintro e w3 ⟨rfl, hb3⟩; have HB3 := Lib.hid hb3; have HM3 := Lib.hid (dec.own_below HS.out.1.1 hb3); have hs3 : w2.heap.size ≤ w3.heap.size := hb3.size; have d0 : w3.cell? ⟨wr.heap.size, 0, none⟩ = some (.int .i64 k) := (hb3.cell (p := ⟨wr.heap.size, 0, none⟩) hlt2).trans b0; have d2 : w3.cell? ⟨wr.heap.size, 2, none⟩ = some (.int .i64 (j : Int)) := (hb3.cell (p := ⟨wr.heap.size, 2, none⟩) hlt2).trans b2; clear hb3) | (at_builtin; refine wpList_append_own _ rfl _ _ 22 rfl B0 29 i0 (.agg #[.int .i64 0, .int .i64 0, .int .i64 0]) 3 24 Tryz.underlying22 hi hz0 hz1 hz2 rfl (by decide) _ _ _ rfl (World.ownsRow.alloc HM3.out _) ⟨w3.heap.size, 0, none⟩ 1 1 [.int .i64 16, .int .i64 (j : Int), .int .i64 (j : Int)] rfl rfl ?d1 ?d2 ?d3 ?d4 ?d5 ?_))
          try (case d1 => exact three_at w3 _ _ _ 29)
          case d2 => first | exact ⟨rfl, rfl, rfl⟩ | (intro u hu; simp only [List.mem_cons, List.not_mem_nil, or_false] at hu; rcases hu with rfl | rfl | rfl <;> rfl)
          case d3 => unfold maxLen; omega
          case d4 => omega
          case d5 => first | omega | (simp; omega)
          intro v4 w4 hown4 hg4 _
          have HS4 := Lib.hid (step_own1 (t := ⟨16, j, j⟩) (HS.out.1.2.trans (HB3.out.mono (by omega))) (by omega) HM3.out (by rw [hML]; exact hown4) hg4)
          clear hown4 hg4
          go_wp2_with fail
          go_roundw
          case rel => exact ⟨n + 1, _, by omega, by go_num, by rw [← HL.out]; simp, by rw [List.length_append, hML]; simp; omega, HS4.out.1, HS4.out.2⟩
          case measure => simp [intOf]; omega
    · have hd : decide ((n : Int) < (len : Int)) = false := decide_eq_false (by omega)
      have hD : T.drop n = [] := List.drop_of_length_le (by rw [HN.out]; omega)
      rw [hD, autos, List.append_nil] at HL
      clear hD
      go_wp2_with fail
      go_ret
      exact ⟨_, rfl, by rw [← HL.out]; exact HM.out, HB.out⟩
end Go.Proofs.YtjbamlmdeopcaaaGreatDoor.lx
end

section
/-
  lexer.Scan.
-/
namespace Go.Proofs.YtjbamlmdeopcaaaGreatDoor.lx
open Go.RowKit Go.Proofs.YtjbamlmdeopcaaaGreatDoor.tok

theorem own_apart {w : World} {B0 B1 e1 e2 s1 s2 n1 n2 : Nat} {v1 v2 : Value} {x1 x2 : List Value} (h1 : w.ownsRow B0 e1 s1 v1 n1 x1) (h2 : w.ownsRow B1 e2 s2 v2 n2 x2) (hne : e1 ≠ e2) : v1.ownBlock = none ∨ v1.ownBlock ≠ v2.ownBlock := by
  rcases h1.2 with ⟨rfl, _⟩ | ⟨g, cap, cur, rfl, _, hg, _⟩
  · exact .inl rfl
  · refine .inr fun e => ?_
    rcases h2.2 with ⟨rfl, _⟩ | ⟨g', cap', cur', rfl, _, hg', _⟩
    · cases e
    · have : g = g' := Option.some.inj e
      subst this
      rw [hg] at hg'
      have := Obj.cells.inj (Option.some.inj hg')
      exact hne this.2.1
theorem three_at2 (w : World) (o p : Obj) (x y z : Value) (t : TypeId) : ∀ j u, [x, y, z][j]? = some u → (((w.alloc o).alloc p).alloc (.cells #[x, y, z] t)).cell? ((⟨w.heap.size + 1 + 1, 0, none⟩ : Addr).add j) = some u := by
  have := three_at ((w.alloc o).alloc p) x y z t
  rw [World.size_alloc, World.size_alloc] at this
  exact this
/-- What an append behind two boxes does. -/
theorem step_two {w wr w1 w2 : World} {B0 e : Nat} {v v' x0 x1 x2 y0 y1 y2 : Value} {T : List Tr} {t : Tr} {t' u' : TypeId} {q : Obj} (hb : Below B0 w wr) (hb1 : Below wr.heap.size wr w1) (hB : B0 ≤ wr.heap.size) (hm : wr.ownsRow B0 e 3 v T.length (cellsT T))
    (hown2 : w2.ownsRow B0 e 3 v' (T.length + 1) (cellsT T ++ [.int .i64 t.k, .int .i64 (t.i : Int), .int .i64 (t.j : Int)])) (hg : (((w1.alloc (.cells #[x0, x1, x2] t')).alloc (.cells #[y0, y1, y2] u')).alloc q).grownBy w2 v.ownBlock) :
    (w2.ownsRow B0 e 3 v' (T ++ [t]).length (cellsT (T ++ [t])) ∧ Below B0 w w2) ∧ w2.cell? ⟨w1.heap.size, 0, none⟩ = some x0 ∧ w2.cell? ⟨w1.heap.size, 1, none⟩ = some x1 ∧ w2.cell? ⟨w1.heap.size, 2, none⟩ = some x2 ∧ w2.cell? ⟨w1.heap.size + 1, 0, none⟩ = some y0 ∧ w2.cell? ⟨w1.heap.size + 1, 1, none⟩ = some y1 ∧ w2.cell? ⟨w1.heap.size + 1, 2, none⟩ = some y2 ∧ w1.heap.size + 2 < w2.heap.size := by
  have hlt := World.ownsRow.lt hm
  have h1 := hb1.size
  have hne : some w1.heap.size ≠ v.ownBlock := fun h => by have := (hlt _ h.symm).2; omega
  have hne2 : some (w1.heap.size + 1) ≠ v.ownBlock := fun h => by have := (hlt _ h.symm).2; omega
  have hs := hg.size
  have e : ∀ k o, k < ((w1.alloc (.cells #[x0, x1, x2] t')).alloc (.cells #[y0, y1, y2] u')).heap.size → (((w1.alloc (.cells #[x0, x1, x2] t')).alloc (.cells #[y0, y1, y2] u')).alloc q).cell? ⟨k, o, none⟩ = ((w1.alloc (.cells #[x0, x1, x2] t')).alloc (.cells #[y0, y1, y2] u')).cell? ⟨k, o, none⟩ := fun k o hk => World.cell?_alloc_lt _ _ _ hk
  refine ⟨own_more hb ((((hb1.mono hB).alloc (by omega) _).alloc (by simp; omega) _).alloc (by simp; omega) _) (by simp; omega) (fun k hk => (hlt k hk).1) hown2 hg, hg.cell ((e _ _ (by simp; try omega)).trans (by simp)) hne, hg.cell ((e _ _ (by simp; try omega)).trans (by simp)) hne, hg.cell ((e _ _ (by simp; try omega)).trans (by simp)) hne, hg.cell ((e _ _ (by simp; try omega)).trans (by simp)) hne2, hg.cell ((e _ _ (by simp; try omega)).trans (by simp)) hne2, hg.cell ((e _ _ (by simp; try omega)).trans (by simp)) hne2, by simp at hs; omega⟩
theorem kept3 {w1 w2 : World} {B0 B1 e1 e2 s1 s2 n1 n2 : Nat} {v1 v2 : Value} {x1 x2 : List Value} (hG : w1.ownsRow B0 e2 s2 v2 n2 x2) (hT : w1.ownsRow B1 e1 s1 v1 n1 x1) (hne : e2 ≠ e1) {a b c : Obj}
    (hg : (((w1.alloc a).alloc b).alloc c).grownBy w2 v1.ownBlock) : w2.ownsRow B0 e2 s2 v2 n2 x2 := World.ownsRow.kept (((World.ownsRow.alloc hG a).alloc b).alloc c) hg (own_apart hG hT hne)
theorem kept1 {w1 w2 : World} {B0 B1 e1 e2 s1 s2 n1 n2 : Nat} {v1 v2 : Value} {x1 x2 : List Value} (hG : w1.ownsRow B0 e2 s2 v2 n2 x2) (hT : w1.ownsRow B1 e1 s1 v1 n1 x1) (hne : e2 ≠ e1) {c : Obj}
    (hg : (w1.alloc c).grownBy w2 v1.ownBlock) : w2.ownsRow B0 e2 s2 v2 n2 x2 := World.ownsRow.kept (World.ownsRow.alloc hG c) hg (own_apart hG hT hne)
def ScanPost (T D : List Tr) (w : World) (e : Ending) (w' : World) : Prop := ∃ v1 v2, e = .returned (.tuple #[v1, v2]) ∧ OwnT w' w.heap.size v1 T ∧ OwnG w' w.heap.size v2 D ∧ Below w.heap.size w w'
theorem bare_in (l : List UInt8) : Within l.length (bare lang l 0) := fun t ht => bare_within l 0 t ht

set_option maxRecDepth 100000 in
set_option maxHeartbeats 8000000 in
theorem scan_any (s : ByteArray) (w : World) (hE : Env w) (hs : s.size ≤ 4194304) :
    Calls Tryz.prog 8 #[.string s] w (ScanPost (scan lang s.data.toList) (dgs lang s.data.toList 0) w) := by
  obtain ⟨i0, hi, hz0, hz1, hz2⟩ := info_parts infoT
  obtain ⟨j0, hj, hy0, hy1, hy2⟩ := info_parts infoG
  have HE := Lib.hid hE
  have hsd := sdata s
  have HD := Lib.hid hsd
  clear hE hsd
  go_enter Tryz.func8, Tryz.ntmps8
  go_wp2
  go_loopw [4, 5, 6] (fun v1 v2 a wr => ∃ (p : Nat) (T D : List Tr), a = .int .i64 p ∧ Far lang s.data.toList p T D ∧ OwnT wr w.heap.size v1 T ∧ OwnG wr w.heap.size v2 D ∧ Below w.heap.size w wr) (fun _ _ a _ => s.size - (intOf a).toNat)
  case atStart => exact ⟨0, [], [], rfl, Far.zero _, World.ownsRow_nil _ _ _ _, World.ownsRow_nil _ _ _ _, Below.refl _ _⟩
  case round =>
    obtain ⟨p, T, D, rfl, hF, hT, hG, hb⟩ := hrel
    have hfew := hF.few
    have hfew' := hF.few'
    have hple : p ≤ s.size := by have := hF.le; rwa [HD.out] at this
    have HF := Lib.hid hF
    have HT := Lib.hid hT
    have HG := Lib.hid hG
    have HB := Lib.hid hb
    have hsz := hb.size
    clear hF hT hG hb
    by_cases hlt : p < s.size
    · have hd : decide ((p : Int) < (s.size : Int)) = true := decide_eq_true (by omega)
      have HX := Lib.hid (next_any s p wr (HE.out.below HB.out) hs hlt)
      have hltL : p < s.data.toList.length := by rw [HD.out]; exact hlt
      have HS := Lib.hid (HF.out.step hltL)
      have hwp := at_pos (L := lang) hltL
      have hwl := at_le (L := lang) hltL
      rw [HD.out] at hwl
      have HK : Hid (tkAt lang s.data.toList p = ⟨(nxAt lang s.data.toList p).kind, p, p + (nxAt lang s.data.toList p).width⟩) := Lib.hid rfl
      have HQ : Hid (dgAt lang s.data.toList p = if (nxAt lang s.data.toList p).code = 0 then [] else [⟨(nxAt lang s.data.toList p).code, p + (nxAt lang s.data.toList p).off, p + (nxAt lang s.data.toList p).off + (nxAt lang s.data.toList p).dw⟩]) := Lib.hid rfl
      generalize nxAt lang s.data.toList p = N at *
      rw [HK.out, HQ.out] at HS
      clear HQ HK hltL
      obtain ⟨nk, nw, nc, no, nd⟩ := N
      simp only [] at HS hwp hwl
      by_cases hc0 : nc = 0
      · rw [if_pos hc0, List.append_nil] at HS
        have hcz : (nc != 0) = false := by rw [hc0]; rfl
        clear hc0
        go_wp2_with (first | (go_at_call 17; refine HX.out.mono ?_; rintro e w1 ⟨x, y, rfl, hxy, hb1⟩; have HB1 := Lib.hid hb1; have hs1 := hb1.size; have HT1 := Lib.hid (dec.own_below HT.out hb1); clear hb1 hxy) | (at_builtin; refine wpList_append_own _ rfl _ _ 22 rfl w.heap.size 29 i0 (.agg #[.int .i64 0, .int .i64 0, .int .i64 0]) 3 24 Tryz.underlying22 hi hz0 hz1 hz2 rfl (by decide) _ _ _ rfl (((World.ownsRow.alloc HT1.out _).alloc _).alloc _) ⟨w1.heap.size + 1 + 1, 0, none⟩ 1 1 [.int .i64 nk, .int .i64 (p : Int), .int .i64 ((p : Int) + (nw : Int))] rfl rfl ?c1 ?c2 ?c3 ?c4 ?c5 ?_))
        case c1 => first | exact three_at2 w1 _ _ _ _ _ _ | (refine ⟨?_, ?_, ?_⟩ <;> simp)
        case c2 => first | exact ⟨rfl, rfl, rfl⟩ | (intro u hu; simp only [List.mem_cons, List.not_mem_nil, or_false] at hu; rcases hu with rfl | rfl | rfl <;> rfl)
        case c3 => unfold maxLen; omega
        case c4 => omega
        case c5 => first | omega | (simp; omega)
        intro v2 w2 hown2 hg _
        have H2 := Lib.hid (step_two (t := ⟨nk, p, p + nw⟩) HB.out HB1.out hsz HT.out hown2 hg)
        have HG2 := Lib.hid (kept3 (dec.own_below HG.out HB1.out) HT1.out (by decide) hg)
        have HGL := Lib.hid (World.ownsRow.lt HG.out)
        obtain ⟨_, a0, a1, a2, b0, b1, b2, hs2⟩ := H2.out
        clear hown2 hg HT1 HG
        clear a0 a1 b1 b2 HGL
        go_wp2_with fail
        go_roundw
        case rel => exact ⟨p + nw, _, _, by go_num, HS.out, H2.out.1.1, HG2.out, H2.out.1.2⟩
        case measure => simp [intOf]; omega
      · rw [if_neg hc0] at HS
        have hcz : (nc != 0) = true := bne_iff_ne.2 hc0
        have HNE := Lib.hid hc0
        clear hc0
        go_wp2_with (first | (go_at_call 17; refine HX.out.mono ?_; rintro e w1 ⟨x, y, rfl, hxy, hb1⟩; obtain ⟨rfl, rfl⟩ := hxy HNE.out; have HB1 := Lib.hid hb1; have hs1 := hb1.size; have HT1 := Lib.hid (dec.own_below HT.out hb1); clear hb1 hxy) | (at_builtin; refine wpList_append_own _ rfl _ _ 22 rfl w.heap.size 29 i0 (.agg #[.int .i64 0, .int .i64 0, .int .i64 0]) 3 24 Tryz.underlying22 hi hz0 hz1 hz2 rfl (by decide) _ _ _ rfl (((World.ownsRow.alloc HT1.out _).alloc _).alloc _) ⟨w1.heap.size + 1 + 1, 0, none⟩ 1 1 [.int .i64 nk, .int .i64 (p : Int), .int .i64 ((p : Int) + (nw : Int))] rfl rfl ?d1 ?d2 ?d3 ?d4 ?d5 ?_))
        case d1 => first | exact three_at2 w1 _ _ _ _ _ _ | (refine ⟨?_, ?_, ?_⟩ <;> simp)
        case d2 => first | exact ⟨rfl, rfl, rfl⟩ | (intro u hu; simp only [List.mem_cons, List.not_mem_nil, or_false] at hu; rcases hu with rfl | rfl | rfl <;> rfl)
        case d3 => unfold maxLen; omega
        case d4 => omega
        case d5 => first | omega | (simp; omega)
        intro v2 w2 hown2 hg _
        have H2 := Lib.hid (step_two (t := ⟨nk, p, p + nw⟩) HB.out HB1.out hsz HT.out hown2 hg)
        have HG2 := Lib.hid (kept3 (dec.own_below HG.out HB1.out) HT1.out (by decide) hg)
        have HGL := Lib.hid (World.ownsRow.lt HG.out)
        obtain ⟨_, a0, a1, a2, b0, b1, b2, hs2⟩ := H2.out
        clear hown2 hg HT1 HG
        clear a0 a1
        go_wp2_with (at_builtin; refine wpList_append_own _ rfl _ _ 23 rfl w.heap.size 27 j0 (.agg #[.int .i64 0, .int .i64 0, .int .i64 0]) 3 24 Tryz.underlying23 hj hy0 hy1 hy2 rfl (by decide) _ _ _ rfl (World.ownsRow.alloc HG2.out _) ⟨w2.heap.size, 0, none⟩ 1 1 [.int .i64 nc, .int .i64 ((p : Int) + (no : Int)), .int .i64 ((p : Int) + (no : Int) + (nd : Int))] rfl rfl ?e1 ?e2 ?e3 ?e4 ?e5 ?_)
        try (case e1 => exact three_at w2 _ _ _ 27)
        case e2 => first | exact ⟨rfl, rfl, rfl⟩ | (intro u hu; simp only [List.mem_cons, List.not_mem_nil, or_false] at hu; rcases hu with rfl | rfl | rfl <;> rfl)
        case e3 => unfold maxLen; omega
        case e4 => omega
        case e5 => first | omega | (simp; omega)
        intro v3 w3 hown3 hg3 _
        have H3 := Lib.hid (step_own1 (t := ⟨nc, p + no, p + no + nd⟩) H2.out.1.2 (by omega) HG2.out hown3 hg3)
        have HT3 := Lib.hid (kept1 H2.out.1.1 HG2.out (by decide) hg3)
        have a3 : w3.cell? ⟨w1.heap.size, 2, none⟩ = some (.int .i64 ((p : Int) + (nw : Int))) := hg3.cell ((World.cell?_alloc_lt _ _ _ (show w1.heap.size < w2.heap.size by omega)).trans a2) (fun h => by have : w1.heap.size < wr.heap.size := (HGL.out _ h.symm).2; omega)
        clear hown3 hg3 a2
        go_wp2_with fail
        go_roundw
        case rel => exact ⟨p + nw, _, _, by go_num, HS.out, HT3.out, H3.out.1, H3.out.2⟩
        case measure => simp [intOf]; omega
    · have hd : decide ((p : Int) < (s.size : Int)) = false := decide_eq_false (by omega)
      obtain ⟨e1, e2⟩ := HF.out.done (by rw [HD.out]; omega)
      have hln := bare_few (L := lang) s.data.toList 0
      rw [← e1, HD.out] at hln
      have hwi : Within s.size T := by rw [e1, ← HD.out]; exact bare_in s.data.toList
      have HA := Lib.hid (appendEnded_any s (.slice none 0 0) u4 [] T false wr.heap.size wr (World.ownsRow_nil _ _ _ _) (Nat.le_refl _) (row_of_own HT.out).rowB hwi (by simp; omega))
      have HR : Hid (scan lang s.data.toList = autos s.data.toList false T) := Lib.hid (by rw [e1]; rfl)
      have HR2 := Lib.hid e2
      clear e1 e2 hwi
      go_wp2_with (go_at_call 18; refine HA.out.mono ?_; rintro e w1 ⟨v1, rfl, ho1, hb1⟩; have HO1 := Lib.hid ho1; have HB1 := Lib.hid hb1; clear ho1 hb1)
      go_ret2
      exact ⟨_, _, rfl, by rw [HR.out]; exact own_mono HO1.out hsz, by rw [← HR2.out]; exact dec.own_below HG.out HB1.out, HB.out.trans (HB1.out.mono hsz)⟩
end Go.Proofs.YtjbamlmdeopcaaaGreatDoor.lx
end

section
/-
  The statements' own comparisons of two rows.
-/
namespace Go.Proofs.YtjbamlmdeopcaaaGreatDoor.lx
open Go.RowKit Go.Proofs.YtjbamlmdeopcaaaGreatDoor.tok

set_option maxRecDepth 100000 in
set_option maxHeartbeats 2000000 in
theorem toks_empty (oa ob : Option Addr) (ca cb : Nat) (w : World) :
    Calls Tryz.prog 9 #[.slice oa 0 ca, .slice ob 0 cb] w fun e w' => e = .returned (.bool true) ∧ w = w' := by
  go_enter Tryz.func9, Tryz.ntmps9
  go_wp2
  go_rounds 1
  go_ret
  exact ⟨rfl, rfl⟩
set_option maxRecDepth 100000 in
set_option maxHeartbeats 2000000 in
theorem toks_full (g a h b n ca cb : Nat) (x y z : Nat → Int) (w : World) (hn : n ≤ 1073741824)
    (h1 : ∀ j, j < n → w.cell? ⟨g, a + j * 3, none⟩ = some (.int .i64 (x j)) ∧ w.cell? ⟨g, a + j * 3 + 1, none⟩ = some (.int .i64 (y j)) ∧ w.cell? ⟨g, a + j * 3 + 2, none⟩ = some (.int .i64 (z j)))
    (h2 : ∀ j, j < n → w.cell? ⟨h, b + j * 3, none⟩ = some (.int .i64 (x j)) ∧ w.cell? ⟨h, b + j * 3 + 1, none⟩ = some (.int .i64 (y j)) ∧ w.cell? ⟨h, b + j * 3 + 2, none⟩ = some (.int .i64 (z j))) :
    Calls Tryz.prog 9 #[.slice (some ⟨g, a, none⟩) n ca, .slice (some ⟨h, b, none⟩) n cb] w fun e w' => e = .returned (.bool true) ∧ ∃ q, w' = w.drewN q := by
  have H1 := Lib.hid h1
  have H2 := Lib.hid h2
  clear h1 h2
  go_enter Tryz.func9, Tryz.ntmps9
  go_wp2
  go_loopw [5] (fun p wr => ∃ (i : Nat) (q : Nat), i ≤ n ∧ p = .int .i64 i ∧ wr = w.drewN q) (fun p _ => n - (intOf p).toNat)
  case atStart => exact ⟨0, 0, by omega, rfl, rfl⟩
  case round =>
    obtain ⟨i, q, hle, rfl, rfl⟩ := hrel
    by_cases hlt : i < n
    · obtain ⟨a0, a1, a2⟩ := H1.out i hlt
      obtain ⟨b0, b1, b2⟩ := H2.out i hlt
      go_wp2_with fail
      go_quiet (fail)
      go_wp2
      go_roundw
      case rel => exact ⟨i + 1, _, by omega, by go_num, rfl⟩
      case measure => simp [intOf]; omega
    · go_wp2
      go_ret
      exact ⟨rfl, q, rfl⟩
theorem toks_any {w : World} {v1 v2 : Value} {T : List Tr} (h1 : Row w v1 T) (h2 : Row w v2 T) (hn : T.length ≤ 1073741824) :
    Calls Tryz.prog 9 #[v1, v2] w fun e w' => e = .returned (.bool true) ∧ Below w.heap.size w w' := by
  obtain ⟨g, a, o, ca, _, rfl, ho, hc⟩ := h1
  obtain ⟨h, b, o', cb, _, rfl, ho', hc'⟩ := h2
  by_cases hT : T = []
  · subst hT
    exact (toks_empty o o' ca cb w).mono fun e w' ⟨x, y⟩ => ⟨x, by rw [← y]; exact Below.refl _ _⟩
  · rw [ho hT, ho' hT]
    have conv : ∀ q p, Cells w q p T → ∀ j, j < T.length → w.cell? ⟨q, p + j * 3, none⟩ = some (.int .i64 ((T.getD j ⟨0, 0, 0⟩).k)) ∧ w.cell? ⟨q, p + j * 3 + 1, none⟩ = some (.int .i64 ((T.getD j ⟨0, 0, 0⟩).i : Nat)) ∧ w.cell? ⟨q, p + j * 3 + 2, none⟩ = some (.int .i64 ((T.getD j ⟨0, 0, 0⟩).j : Nat)) := fun q p hb j hj => by
      have e : T.getD j ⟨0, 0, 0⟩ = T[j] := by simp [List.getD, hj]
      rw [e]
      exact hb j hj
    exact (toks_full g a h b T.length ca cb (fun j => (T.getD j ⟨0, 0, 0⟩).k) (fun j => ((T.getD j ⟨0, 0, 0⟩).i : Nat)) (fun j => ((T.getD j ⟨0, 0, 0⟩).j : Nat)) w hn (conv g a hc) (conv h b hc')).mono fun e w' ⟨x, q, y⟩ => ⟨x, by rw [y]; exact tok.below_drewN (Below.refl _ _)⟩
set_option maxRecDepth 100000 in
set_option maxHeartbeats 2000000 in
theorem diags_empty (oa ob : Option Addr) (ca cb : Nat) (w : World) :
    Calls Tryz.prog 10 #[.slice oa 0 ca, .slice ob 0 cb] w fun e w' => e = .returned (.bool true) ∧ w = w' := by
  go_enter Tryz.func10, Tryz.ntmps10
  go_wp2
  go_rounds 1
  go_ret
  exact ⟨rfl, rfl⟩
set_option maxRecDepth 100000 in
set_option maxHeartbeats 2000000 in
theorem diags_full (g a h b n ca cb : Nat) (x y z : Nat → Int) (w : World) (hn : n ≤ 1073741824)
    (h1 : ∀ j, j < n → w.cell? ⟨g, a + j * 3, none⟩ = some (.int .i64 (x j)) ∧ w.cell? ⟨g, a + j * 3 + 1, none⟩ = some (.int .i64 (y j)) ∧ w.cell? ⟨g, a + j * 3 + 2, none⟩ = some (.int .i64 (z j)))
    (h2 : ∀ j, j < n → w.cell? ⟨h, b + j * 3, none⟩ = some (.int .i64 (x j)) ∧ w.cell? ⟨h, b + j * 3 + 1, none⟩ = some (.int .i64 (y j)) ∧ w.cell? ⟨h, b + j * 3 + 2, none⟩ = some (.int .i64 (z j))) :
    Calls Tryz.prog 10 #[.slice (some ⟨g, a, none⟩) n ca, .slice (some ⟨h, b, none⟩) n cb] w fun e w' => e = .returned (.bool true) ∧ ∃ q, w' = w.drewN q := by
  have H1 := Lib.hid h1
  have H2 := Lib.hid h2
  clear h1 h2
  go_enter Tryz.func10, Tryz.ntmps10
  go_wp2
  go_loopw [5] (fun p wr => ∃ (i : Nat) (q : Nat), i ≤ n ∧ p = .int .i64 i ∧ wr = w.drewN q) (fun p _ => n - (intOf p).toNat)
  case atStart => exact ⟨0, 0, by omega, rfl, rfl⟩
  case round =>
    obtain ⟨i, q, hle, rfl, rfl⟩ := hrel
    by_cases hlt : i < n
    · obtain ⟨a0, a1, a2⟩ := H1.out i hlt
      obtain ⟨b0, b1, b2⟩ := H2.out i hlt
      go_wp2_with fail
      go_quiet (fail)
      go_wp2
      go_roundw
      case rel => exact ⟨i + 1, _, by omega, by go_num, rfl⟩
      case measure => simp [intOf]; omega
    · go_wp2
      go_ret
      exact ⟨rfl, q, rfl⟩
theorem diags_any {w : World} {v1 v2 : Value} {T : List Tr} (h1 : Row w v1 T) (h2 : Row w v2 T) (hn : T.length ≤ 1073741824) :
    Calls Tryz.prog 10 #[v1, v2] w fun e w' => e = .returned (.bool true) ∧ Below w.heap.size w w' := by
  obtain ⟨g, a, o, ca, _, rfl, ho, hc⟩ := h1
  obtain ⟨h, b, o', cb, _, rfl, ho', hc'⟩ := h2
  by_cases hT : T = []
  · subst hT
    exact (diags_empty o o' ca cb w).mono fun e w' ⟨x, y⟩ => ⟨x, by rw [← y]; exact Below.refl _ _⟩
  · rw [ho hT, ho' hT]
    have conv : ∀ q p, Cells w q p T → ∀ j, j < T.length → w.cell? ⟨q, p + j * 3, none⟩ = some (.int .i64 ((T.getD j ⟨0, 0, 0⟩).k)) ∧ w.cell? ⟨q, p + j * 3 + 1, none⟩ = some (.int .i64 ((T.getD j ⟨0, 0, 0⟩).i : Nat)) ∧ w.cell? ⟨q, p + j * 3 + 2, none⟩ = some (.int .i64 ((T.getD j ⟨0, 0, 0⟩).j : Nat)) := fun q p hb j hj => by
      have e : T.getD j ⟨0, 0, 0⟩ = T[j] := by simp [List.getD, hj]
      rw [e]
      exact hb j hj
    exact (diags_full g a h b T.length ca cb (fun j => (T.getD j ⟨0, 0, 0⟩).k) (fun j => ((T.getD j ⟨0, 0, 0⟩).i : Nat)) (fun j => ((T.getD j ⟨0, 0, 0⟩).j : Nat)) w hn (conv g a hc) (conv h b hc')).mono fun e w' ⟨x, q, y⟩ => ⟨x, by rw [y]; exact tok.below_drewN (Below.refl _ _)⟩
end Go.Proofs.YtjbamlmdeopcaaaGreatDoor.lx
end

section
/-
  The reference's bytes, and where a text stands in another.
-/
namespace Go.Proofs.YtjbamlmdeopcaaaGreatDoor.lx
open Go.RowKit Go.Proofs.YtjbamlmdeopcaaaGreatDoor.tok

set_option maxRecDepth 100000 in
theorem refBlank_any (c : UInt8) (w : World) : Calls Tryz.prog 47 #[.int .u8 (c.toNat : Int)] w (Says (isBl c) w) := by
  have hz := isBl_z c
  generalize (c.toNat : Int) = z at *
  obtain ⟨h1, h2⟩ := bool_of hz
  have HA := Lib.hid h1
  have HB := Lib.hid h2
  clear hz h1 h2
  by_cases c1 : z = 32
  · have b1 : (z == 32) = true := beq_iff_eq.2 c1
    have HC := Lib.hid (HA.out (.inl c1))
    clear c1 HA HB
    go_enter Tryz.func47, Tryz.ntmps47
    go_wp2_with fail
    go_ret
    exact ⟨HC.out, rfl⟩
  have b1 : (z == 32) = false := beq_eq_false_iff_ne.2 c1
  by_cases c2 : z = 9
  · have b2 : (z == 9) = true := beq_iff_eq.2 c2
    have HC := Lib.hid (HA.out (.inr (.inl c2)))
    clear c1 c2 HA HB
    go_enter Tryz.func47, Tryz.ntmps47
    go_wp2_with fail
    go_ret
    exact ⟨HC.out, rfl⟩
  have b2 : (z == 9) = false := beq_eq_false_iff_ne.2 c2
  by_cases c3 : z = 13
  · have b3 : (z == 13) = true := beq_iff_eq.2 c3
    have HC := Lib.hid (HA.out (.inr (.inr c3)))
    clear c1 c2 c3 HA HB
    go_enter Tryz.func47, Tryz.ntmps47
    go_wp2_with fail
    go_ret
    exact ⟨HC.out, rfl⟩
  have b3 : (z == 13) = false := beq_eq_false_iff_ne.2 c3
  have HC := Lib.hid (HB.out (by omega))
  clear c1 c2 c3 HA HB
  go_enter Tryz.func47, Tryz.ntmps47
  go_wp2_with fail
  go_ret
  exact ⟨HC.out, rfl⟩
theorem refLetter_any (c : UInt8) (w : World) : Calls Tryz.prog 48 #[.int .u8 (c.toNat : Int)] w (Says (isLt c) w) := by
  have hz := isLt_z c
  generalize (c.toNat : Int) = z at *
  obtain ⟨h1, h2⟩ := bool_of hz
  have HA := Lib.hid h1
  have HB := Lib.hid h2
  clear hz h1 h2
  by_cases c1 : 97 ≤ z ∧ z ≤ 122
  · obtain ⟨c1, c2⟩ := c1
    have d1 : decide (97 ≤ z) = true := decide_eq_true c1
    have d2 : decide (z ≤ 122) = true := decide_eq_true c2
    have HC := Lib.hid (HA.out (.inr (.inl ⟨c1, c2⟩)))
    clear HA HB c1 c2
    go_enter Tryz.func48, Tryz.ntmps48
    go_wp2_with fail
    go_ret
    exact ⟨HC.out, rfl⟩
  by_cases c2 : 65 ≤ z ∧ z ≤ 90
  · obtain ⟨c3, c4⟩ := c2
    have d1 : decide (97 ≤ z) = false := decide_eq_false (by omega)
    have d3 : decide (65 ≤ z) = true := decide_eq_true c3
    have d4 : decide (z ≤ 90) = true := decide_eq_true c4
    have HC := Lib.hid (HA.out (.inl ⟨c3, c4⟩))
    clear HA HB c1 c3 c4
    go_enter Tryz.func48, Tryz.ntmps48
    go_wp2_with fail
    go_ret
    exact ⟨HC.out, rfl⟩
  have both : ∀ (b : Bool), (z == 95) = b → Ending.returned (.bool b) = Ending.returned (.bool (isLt c)) := by
    intro b hb
    cases b with
    | true => exact HA.out (.inr (.inr (beq_iff_eq.1 hb)))
    | false => exact HB.out (by have := beq_eq_false_iff_ne.1 hb; omega)
  obtain ⟨b, hb⟩ : ∃ b, (z == 95) = b := ⟨_, rfl⟩
  have HC := Lib.hid (both b hb)
  clear HA HB both
  by_cases c3 : z < 65
  · have d1 : decide (97 ≤ z) = false := decide_eq_false (by omega)
    have d3 : decide (65 ≤ z) = false := decide_eq_false (by omega)
    clear c1 c2 c3
    go_enter Tryz.func48, Tryz.ntmps48
    go_wp2_with fail
    go_ret
    exact ⟨HC.out, rfl⟩
  have d3 : decide (65 ≤ z) = true := decide_eq_true (by omega)
  have d4 : decide (z ≤ 90) = false := decide_eq_false (by omega)
  by_cases c4 : z < 97
  · have d1 : decide (97 ≤ z) = false := decide_eq_false (by omega)
    clear c1 c2 c3 c4
    go_enter Tryz.func48, Tryz.ntmps48
    go_wp2_with fail
    go_ret
    exact ⟨HC.out, rfl⟩
  have d1 : decide (97 ≤ z) = true := decide_eq_true (by omega)
  have d2 : decide (z ≤ 122) = false := decide_eq_false (by omega)
  clear c1 c2 c3 c4
  go_enter Tryz.func48, Tryz.ntmps48
  go_wp2_with fail
  go_ret
  exact ⟨HC.out, rfl⟩
theorem refDigit_any (c : UInt8) (w : World) : Calls Tryz.prog 49 #[.int .u8 (c.toNat : Int)] w (Says (isDg c) w) := by
  have hz := isDg_z c
  generalize (c.toNat : Int) = z at *
  obtain ⟨h1, h2⟩ := bool_of hz
  have HA := Lib.hid h1
  have HB := Lib.hid h2
  clear hz h1 h2
  by_cases c1 : 48 ≤ z
  · have d1 : decide (48 ≤ z) = true := decide_eq_true c1
    by_cases c2 : z ≤ 57
    · have d2 : decide (z ≤ 57) = true := decide_eq_true c2
      have HC := Lib.hid (HA.out ⟨c1, c2⟩)
      clear HA HB c1 c2
      go_enter Tryz.func49, Tryz.ntmps49
      go_wp2_with fail
      go_ret
      exact ⟨HC.out, rfl⟩
    · have d2 : decide (z ≤ 57) = false := decide_eq_false c2
      have HC := Lib.hid (HB.out (fun h => c2 h.2))
      clear HA HB c1 c2
      go_enter Tryz.func49, Tryz.ntmps49
      go_wp2_with fail
      go_ret
      exact ⟨HC.out, rfl⟩
  · have d1 : decide (48 ≤ z) = false := decide_eq_false c1
    have HC := Lib.hid (HB.out (fun h => c1 h.1))
    clear HA HB c1
    go_enter Tryz.func49, Tryz.ntmps49
    go_wp2_with fail
    go_ret
    exact ⟨HC.out, rfl⟩

/-- Where a text stands from a place on, or the end. -/
def findL (l : List UInt8) (i : Nat) (q : List UInt8) : Nat := if Lib.index (l.drop i) q < 0 then l.length else i + (Lib.index (l.drop i) q).toNat
theorem occ_drop (l q : List UInt8) (i j : Nat) : Lib.occAt (l.drop i) q j = Lib.hasPrefix (l.drop (i + j)) q := by
  unfold Lib.occAt Lib.hasPrefix
  rw [List.drop_drop]
theorem find_hit {l q : List UInt8} {i n : Nat} (hin : i ≤ n) (hn : n ≤ l.length) (h : Lib.hasPrefix (l.drop n) q = true) (hno : ∀ j, i ≤ j → j < n → Lib.hasPrefix (l.drop j) q = false) : findL l i q = n := by
  have : Lib.index (l.drop i) q = ((n - i : Nat) : Int) := by
    refine Lib.index_first (by rw [List.length_drop]; omega) ?_ ?_
    · rw [occ_drop, show i + (n - i) = n by omega]; exact h
    · intro j hj
      rw [occ_drop]
      exact hno _ (by omega) (by omega)
  unfold findL
  rw [this, if_neg (by omega)]
  omega
theorem find_miss {l q : List UInt8} {i n : Nat} (hil : i ≤ l.length) (hn : l.length < n + q.length) (hno : ∀ j, i ≤ j → j < n → Lib.hasPrefix (l.drop j) q = false) : findL l i q = l.length := by
  unfold findL
  rcases Lib.index_spec (l.drop i) q with ⟨h1, _⟩ | ⟨j, h1, h2, h3, _⟩
  · rw [h1, if_pos (by decide)]
  · exfalso
    rw [occ_drop] at h3
    have hp := (List.isPrefixOf_iff_prefix.1 h3).length_le
    rw [List.length_drop] at hp
    rw [List.length_drop] at h2
    by_cases hj : i + j < n
    · rw [hno _ (by omega) hj] at h3; cases h3
    · omega
theorem find_le (l q : List UInt8) (i : Nat) (h : i ≤ l.length) : i ≤ findL l i q ∧ findL l i q ≤ l.length := by
  unfold findL
  rcases Lib.index_spec (l.drop i) q with ⟨h1, _⟩ | ⟨j, h1, h2, _⟩
  · rw [h1, if_pos (by decide)]; omega
  · rw [h1, if_neg (by omega)]; rw [List.length_drop] at h2; omega
theorem piece_is (l q : List UInt8) (n : Nat) : ((l.drop n).take q.length == q) = Lib.hasPrefix (l.drop n) q := by
  rw [Bool.eq_iff_iff, beq_iff_eq]
  show _ ↔ q.isPrefixOf (l.drop n) = true
  rw [List.isPrefixOf_iff_prefix, List.prefix_iff_eq_take]
  exact ⟨fun e => e.symm, fun e => e.symm⟩
set_option maxRecDepth 100000 in
set_option maxHeartbeats 2000000 in
theorem refFind_any (s q : ByteArray) (i : Nat) (w : World) (hs : s.size ≤ 4194304) (hq : q.size ≤ 4) (hi : i ≤ s.size) :
    Calls Tryz.prog 25 #[.string s, .int .i64 (i : Int), .string q] w fun e w' => e = .returned (.int .i64 (findL s.data.toList i q.data.toList : Int)) ∧ w = w' := by
  have hsd := sdata s
  have hqd := sdata q
  have HD := Lib.hid hsd
  have HQ := Lib.hid hqd
  clear hsd hqd
  go_enter Tryz.func25, Tryz.ntmps25
  go_wp2
  go_loop [7] (fun p => ∃ n : Nat, i ≤ n ∧ n ≤ s.size + 1 ∧ p = .int .i64 n ∧ ∀ j, i ≤ j → j < n → Lib.hasPrefix (s.data.toList.drop j) q.data.toList = false) (fun p => s.size + 1 - (intOf p).toNat)
  case atStart => exact ⟨i, Nat.le_refl _, by omega, rfl, fun j h1 h2 => by omega⟩
  case round =>
    obtain ⟨n, h1, h2, rfl, hb⟩ := hrel
    have HB := Lib.hid hb
    clear hb
    by_cases hlt : n + q.size ≤ s.size
    · have hd : decide ((n : Int) + (q.size : Int) ≤ (s.size : Int)) = true := decide_eq_true (by omega)
      have hsl := piece_mid s n (n + q.size) (n : Int) ((n : Int) + (q.size : Int)) rfl (by omega) (by omega) hlt
      have hP : Hid (((s.data.toList.drop n).take q.size == q.data.toList) = Lib.hasPrefix (s.data.toList.drop n) q.data.toList) := Lib.hid (by
        have := piece_is s.data.toList q.data.toList n
        rw [HQ.out] at this
        exact this)
      rw [show n + q.size - n = q.size by omega] at hsl
      cases hh : Lib.hasPrefix (s.data.toList.drop n) q.data.toList with
      | true =>
        have HH := Lib.hid hh
        have HF := Lib.hid (find_hit h1 (by rw [HD.out]; omega) hh HB.out)
        rw [hh] at hP
        have he : ((B ((s.data.toList.drop n).take q.size)).toList == q.toList) = true := by rw [blist, Lib.toList_data]; exact hP.out
        clear hh
        go_wp2_with fail
        go_ret
        exact ⟨by rw [HF.out]; rfl, rfl⟩
      | false =>
        have HH := Lib.hid hh
        rw [hh] at hP
        have he : ((B ((s.data.toList.drop n).take q.size)).toList == q.toList) = false := by rw [blist, Lib.toList_data]; exact hP.out
        clear hh
        go_wp2_with fail
        go_round
        case rel => exact ⟨n + 1, by omega, by omega, by go_num, fun j g1 g2 => by
                      by_cases e : j = n
                      · subst e; exact HH.out
                      · exact HB.out j g1 (by omega)⟩
        case measure => simp [intOf]; omega
    · have hd : decide ((n : Int) + (q.size : Int) ≤ (s.size : Int)) = false := decide_eq_false (by omega)
      have HF := Lib.hid (find_miss (q := q.data.toList) (by rw [HD.out]; exact hi) (by rw [HD.out, HQ.out]; omega) HB.out)
      go_wp2_with fail
      go_ret
      exact ⟨by rw [HF.out, HD.out]; rfl, rfl⟩
end Go.Proofs.YtjbamlmdeopcaaaGreatDoor.lx
end
