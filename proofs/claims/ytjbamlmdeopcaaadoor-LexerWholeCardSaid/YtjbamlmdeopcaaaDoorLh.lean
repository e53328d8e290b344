/-
  lexer.quoted.
-/
import Derived.Test.YtjbamlmdeopcaaaDoorLg
namespace Go.Proofs.YtjbamlmdeopcaaaDoor.lx
open Go.RowKit Go.Proofs.YtjbamlmdeopcaaaDoor.tok

theorem boxes_then {w1 w3 : World} {x0 x1 x2 y0 y1 y2 : Value} {t u : TypeId} (hb : Below ((w1.alloc (.cells #[x0, x1, x2] t)).alloc (.cells #[y0, y1, y2] u)).heap.size ((w1.alloc (.cells #[x0, x1, x2] t)).alloc (.cells #[y0, y1, y2] u)) w3) :
    (w3.cell? ⟨w1.heap.size, 0, none⟩ = some x0 ∧ w3.cell? ⟨w1.heap.size, 1, none⟩ = some x1 ∧ w3.cell? ⟨w1.heap.size, 2, none⟩ = some x2 ∧ w3.cell? ⟨w1.heap.size + 1, 0, none⟩ = some y0 ∧ w3.cell? ⟨w1.heap.size + 1, 1, none⟩ = some y1 ∧ w3.cell? ⟨w1.heap.size + 1, 2, none⟩ = some y2) ∧
    w3.frozen? ⟨w1.heap.size + 1, 0, none⟩ = false ∧ w3.frozen? ⟨w1.heap.size + 1, 1, none⟩ = false ∧ w3.frozen? ⟨w1.heap.size + 1, 2, none⟩ = false := by
  obtain ⟨hc, hf⟩ := bcell hb
  refine ⟨⟨?_, ?_, ?_, ?_, ?_, ?_⟩, ?_, ?_, ?_⟩
  all_goals first
    | (rw [hc _ _ (by simp; try omega)]; simp)
    | (rw [hf _ _ (by simp; try omega)]; simp)
theorem six_past {w : World} {b q o : Nat} (h : Six w b) (hq : b + 1 < q) (v : Value) : Six (w.setCell ⟨q, o, none⟩ v) b := by
  obtain ⟨⟨u0, u1, u2, u3, u4, u5, k0, k1, k2, k3, k4, k5⟩, f0, f1, f2, f3, f4, f5⟩ := h
  have c : ∀ (p i : Nat) (u : Value), p < q → w.cell? ⟨p, i, none⟩ = some u → (w.setCell ⟨q, o, none⟩ v).cell? ⟨p, i, none⟩ = some u := fun p i u hp hv => by
    rw [World.cell?_setCell_other _ _ _ _ (fun e => by have := congrArg Addr.block e; simp at this; omega)]; exact hv
  have f : ∀ (p i : Nat), w.frozen? ⟨p, i, none⟩ = false → (w.setCell ⟨q, o, none⟩ v).frozen? ⟨p, i, none⟩ = false := fun p i hv => by
    simpa using hv
  exact ⟨⟨u0, u1, u2, u3, u4, u5, c _ _ _ (by omega) k0, c _ _ _ (by omega) k1, c _ _ _ (by omega) k2, c _ _ _ (by omega) k3, c _ _ _ (by omega) k4, c _ _ _ (by omega) k5⟩, f _ _ f0, f _ _ f1, f _ _ f2, f _ _ f3, f _ _ f4, f _ _ f5⟩
theorem Told.mk' {m : Nx} {at_ : Nat} {w w' : World} {v : Value} {x y : Int} (hv : v = .tuple #[.agg #[.int .i64 m.kind, .int .i64 (at_ : Int), .int .i64 ((at_ : Int) + (m.width : Int))], .agg #[.int .i64 m.code, .int .i64 x, .int .i64 y]])
    (hxy : m.code ≠ 0 → x = (at_ : Int) + (m.off : Int) ∧ y = (at_ : Int) + (m.off : Int) + (m.dw : Int)) (hb : Below w.heap.size w w') : Told m at_ w (.returned v) w' := by
  subst hv
  exact ⟨x, y, rfl, hxy, hb⟩
set_option maxRecDepth 100000 in
theorem results_drew {fn : Func} {i j : Tmp} (h : fn.results = #[.cell i 27, .cell j 30]) (tmps : Array Value) {w : World} {b : Nat} (hs : Six w b) (a0 a1 a2 a3 a4 a5 : Value)
    (hi : tmps.getD i undef = .pointer (some ⟨b, 0, none⟩)) (hj : tmps.getD j undef = .pointer (some ⟨b + 1, 0, none⟩)) :
    (results fn tmps).run Tryd.prog (put6 w b a0 a1 a2 a3 a4 a5).drew = .ok (.tuple #[.agg #[a0, a1, a2], .agg #[a3, a4, a5]]) (put6 w b a0 a1 a2 a3 a4 a5).drew := by
  obtain ⟨r0, r1, r2, r3, r4, r5⟩ := put6_reads hs a0 a1 a2 a3 a4 a5
  have hi' : tmps[i]?.getD undef = .pointer (some ⟨b, 0, none⟩) := by simpa using hi
  have hj' : tmps[j]?.getD undef = .pointer (some ⟨b + 1, 0, none⟩) := by simpa using hj
  generalize put6 w b a0 a1 a2 a3 a4 a5 = W at *
  simp [results, h, hi', hj', r0, r1, r2, r3, r4, r5, go_sem]
set_option maxRecDepth 100000 in
set_option maxHeartbeats 4000000 in
theorem quoted_any (f : List UInt8 → Int × Nat) (s : ByteArray) (kind code : Int) (at_ : Nat) (q : UInt8) (w : World) (hs : s.size ≤ 4194304) (h1 : 0 < s.size) (hq : s[0] = q) (ha : at_ ≤ 4194304)
    (hf : ∀ r, (f r).1 ≠ 0 → r ≠ [] → (f r).2 < r.length)
    (hsaid : ∀ (x : ByteArray) (u : World), x.size ≤ 4194304 → Below w.heap.size w u → Calls Tryd.prog 32 #[.int .i64 kind, .string x] u (CodePost (f x.data.toList).1 (f x.data.toList).2 u)) :
    Calls Tryd.prog 21 #[.string s, .int .i64 (at_ : Int), .int .i64 kind, .int .i64 code] w (Told (quotedL f kind code q s.data.toList) at_ w) := by
  have HQ := Lib.hid (fun u => literal_any s q u hs h1 hq)
  have hll := lit_len q (s.data.toList.drop 1)
  rw [List.length_drop, sdata] at hll
  have HW : Hid (quotedL f kind code q s.data.toList = if (lit q (s.data.toList.drop 1)).2 = false then wrong kind (1 + (lit q (s.data.toList.drop 1)).1) code else if (f (s.data.toList.take (1 + (lit q (s.data.toList.drop 1)).1))).1 = 0 then right kind (1 + (lit q (s.data.toList.drop 1)).1) else ⟨kind, 1 + (lit q (s.data.toList.drop 1)).1, (f (s.data.toList.take (1 + (lit q (s.data.toList.drop 1)).1))).1, (f (s.data.toList.take (1 + (lit q (s.data.toList.drop 1)).1))).2, 1⟩) := Lib.hid rfl
  have hn1 : 1 + (lit q (s.data.toList.drop 1)).1 ≤ s.size := by omega
  have hn0 : 1 ≤ 1 + (lit q (s.data.toList.drop 1)).1 := by omega
  obtain ⟨n, hn⟩ : ∃ n, 1 + (lit q (s.data.toList.drop 1)).1 = n := ⟨_, rfl⟩
  obtain ⟨b, hb⟩ : ∃ b, (lit q (s.data.toList.drop 1)).2 = b := ⟨_, rfl⟩
  rw [hn] at HQ HW hn1 hn0
  rw [hb] at HQ HW
  clear hn hb hll hq
  cases b with
  | false =>
    rw [if_pos rfl] at HW
    clear hsaid hf
    go_enter Tryd.func21, Tryd.ntmps21
    go_wp2_with (first | (go_at_call 31; refine (HQ.out _).mono ?_; rintro e w' ⟨rfl, rfl⟩; have S1 := Lib.hid (six_new w (.int .i64 0) (.int .i64 0) (.int .i64 0) (.int .i64 0) (.int .i64 0) (.int .i64 0) 27 30); have HB := Lib.hid (below2 w (.cells #[.int .i64 0, .int .i64 0, .int .i64 0] 27) (.cells #[.int .i64 0, .int .i64 0, .int .i64 0] 30))) | (go_at_call 27; refine (wrong_any _ _ _ _ _ (by omega) (by omega)).mono ?_; rintro e w2 ⟨x1, y1, rfl, hxy, hb2⟩; have S2 := Lib.hid (S1.out.below hb2); obtain ⟨⟨u0, u1, u2, u3, u4, u5, k0, k1, k2, k3, k4, k5⟩, f0, f1, f2, f3, f4, f5⟩ := S2.out; have HX := Lib.hid hxy; have HB2 := Lib.hid (HB.out.trans (hb2.mono HB.out.size)); clear hb2 hxy))
    exact bodyPost_ret (results_two Tryd.results21 _ S2.out _ _ _ _ _ _ rfl rfl) rfl (Told.same HW.out HX.out (below_put6 HB2.out (Nat.le_refl _) _ _ _ _ _ _))
  | true =>
    rw [if_neg (by simp)] at HW
    have hsl := slice_to s n (n : Int) rfl hn1
    have htl : (s.data.toList.take n).length = n := by rw [List.length_take, sdata]; omega
    have HS := Lib.hid (fun (u : World) (hu : Below w.heap.size w u) => hsaid (B (s.data.toList.take n)) u (by rw [bsize, htl]; omega) hu)
    rw [bdata] at HS
    have hpl := hf (s.data.toList.take n)
    rw [htl] at hpl
    have hne : s.data.toList.take n ≠ [] := by intro h; rw [h, List.length_nil] at htl; omega
    obtain ⟨c, p, hcp⟩ : ∃ c p, f (s.data.toList.take n) = (c, p) := ⟨_, _, rfl⟩
    obtain ⟨x, hx⟩ : ∃ x, B (s.data.toList.take n) = x := ⟨_, rfl⟩
    rw [hcp] at HW HS hpl
    rw [hx] at hsl HS
    simp only [] at HW HS hpl
    have hpl2 : c ≠ 0 → p < n := fun h => hpl h hne
    clear hcp hx htl hne hpl hsaid hf
    by_cases hc0 : c = 0
    · rw [if_pos hc0] at HW
      have hcz : (c != 0) = false := by rw [hc0]; rfl
      clear hc0 hpl2
      go_enter Tryd.func21, Tryd.ntmps21
      go_wp2_with (first | (go_at_call 31; refine (HQ.out _).mono ?_; rintro e w' ⟨rfl, rfl⟩; have S1 := Lib.hid (six_new w (.int .i64 0) (.int .i64 0) (.int .i64 0) (.int .i64 0) (.int .i64 0) (.int .i64 0) 27 30); have HB := Lib.hid (below2 w (.cells #[.int .i64 0, .int .i64 0, .int .i64 0] 27) (.cells #[.int .i64 0, .int .i64 0, .int .i64 0] 30))) | (go_at_call 12; refine (right_any _ _ _ _ (by omega) (by omega)).mono ?_; rintro e w2 ⟨x1, y1, rfl, hxy, hb2⟩; have S2 := Lib.hid (S1.out.below hb2); have hz : w.heap.size + 1 < w2.heap.size := (by have := hb2.size; simp at this; omega); have hz0 : w.heap.size < w2.heap.size := (by omega); have HB2 := Lib.hid (HB.out.trans (hb2.mono HB.out.size)); clear hb2 hxy) | (go_at_call 32; refine (HS.out _ (HB2.out.trans ((below2 w2 _ _).mono HB2.out.size))).mono ?_; rintro e w3 ⟨rfl, hb3⟩; obtain ⟨⟨j0, j1, j2, j3, j4, j5⟩, g3, g4, g5⟩ := boxes_then hb3; have S3 := Lib.hid ((S2.out.below (below2 w2 _ _)).below hb3); obtain ⟨⟨u0, u1, u2, u3, u4, u5, k0, k1, k2, k3, k4, k5⟩, f0, f1, f2, f3, f4, f5⟩ := S3.out; have HB3 := Lib.hid (HB2.out.trans ((below2_then hb3).mono HB2.out.size)); clear hb3))
      go_region
      go_wp2_with fail
      exact bodyPost_ret (results_drew Tryd.results21 _ S3.out (.int .i64 kind) (.int .i64 (at_ : Int)) (.int .i64 ((at_ : Int) + (n : Int))) (.int .i64 0) (.int .i64 x1) (.int .i64 y1) rfl rfl) rfl (Told.mk' (x := x1) (y := y1) (by rw [HW.out]; rfl) (by rw [HW.out]; exact fun h => absurd rfl h) (below_put6 HB3.out (Nat.le_refl _) _ _ _ _ _ _).drew)
    · rw [if_neg hc0] at HW
      have hcz : (c != 0) = true := bne_iff_ne.2 hc0
      have hp := hpl2 hc0
      clear hc0 hpl2
      go_enter Tryd.func21, Tryd.ntmps21
      go_wp2_with (first | (go_at_call 31; refine (HQ.out _).mono ?_; rintro e w' ⟨rfl, rfl⟩; have S1 := Lib.hid (six_new w (.int .i64 0) (.int .i64 0) (.int .i64 0) (.int .i64 0) (.int .i64 0) (.int .i64 0) 27 30); have HB := Lib.hid (below2 w (.cells #[.int .i64 0, .int .i64 0, .int .i64 0] 27) (.cells #[.int .i64 0, .int .i64 0, .int .i64 0] 30))) | (go_at_call 12; refine (right_any _ _ _ _ (by omega) (by omega)).mono ?_; rintro e w2 ⟨x1, y1, rfl, hxy, hb2⟩; have S2 := Lib.hid (S1.out.below hb2); have hz : w.heap.size + 1 < w2.heap.size := (by have := hb2.size; simp at this; omega); have hz0 : w.heap.size < w2.heap.size := (by omega); have HB2 := Lib.hid (HB.out.trans (hb2.mono HB.out.size)); clear hb2 hxy) | (go_at_call 32; refine (HS.out _ (HB2.out.trans ((below2 w2 _ _).mono HB2.out.size))).mono ?_; rintro e w3 ⟨rfl, hb3⟩; obtain ⟨⟨j0, j1, j2, j3, j4, j5⟩, g3, g4, g5⟩ := boxes_then hb3; have S3 := Lib.hid ((S2.out.below (below2 w2 _ _)).below hb3); obtain ⟨⟨u0, u1, u2, u3, u4, u5, k0, k1, k2, k3, k4, k5⟩, f0, f1, f2, f3, f4, f5⟩ := S3.out; have HB3 := Lib.hid (HB2.out.trans ((below2_then hb3).mono HB2.out.size)); clear hb3))
      go_region
      go_wp2_with fail
      have S4 : Six ((((w3.setCell ⟨w2.heap.size + 1, 0, none⟩ (.int .i64 c)).setCell ⟨w2.heap.size + 1, 1, none⟩ (.int .i64 ((at_ : Int) + (p : Int)))).setCell ⟨w2.heap.size + 1, 2, none⟩ (.int .i64 ((at_ : Int) + (p : Int) + 1)))) w.heap.size := six_past (six_past (six_past S3.out (by omega) _) (by omega) _) (by omega) _
      exact bodyPost_ret (results_drew Tryd.results21 _ S4 (.int .i64 kind) (.int .i64 (at_ : Int)) (.int .i64 ((at_ : Int) + (n : Int))) (.int .i64 c) (.int .i64 ((at_ : Int) + (p : Int))) (.int .i64 ((at_ : Int) + (p : Int) + 1)) rfl rfl) rfl (Told.mk' (x := (at_ : Int) + (p : Int)) (y := (at_ : Int) + (p : Int) + 1) (by rw [HW.out]) (by rw [HW.out]; exact fun _ => ⟨rfl, by simp⟩) (below_put6 (((HB3.out.setCell (by show w.heap.size ≤ w2.heap.size + 1; omega) _).setCell (by show w.heap.size ≤ w2.heap.size + 1; omega) _).setCell (by show w.heap.size ≤ w2.heap.size + 1; omega) _) (Nat.le_refl _) _ _ _ _ _ _).drew)
end Go.Proofs.YtjbamlmdeopcaaaDoor.lx
