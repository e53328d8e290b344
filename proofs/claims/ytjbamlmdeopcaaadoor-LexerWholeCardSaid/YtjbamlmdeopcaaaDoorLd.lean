/-
  lexer.closed, lexer.word, lexer.number, lexer.said.
-/
import Derived.Test.YtjbamlmdeopcaaaDoorLe
import Derived.Test.YtjbamlmdeopcaaaDoorLc
namespace Go.Proofs.YtjbamlmdeopcaaaDoor.lx
open Go.RowKit Go.Proofs.YtjbamlmdeopcaaaDoor.tok

set_option maxRecDepth 100000 in
set_option maxHeartbeats 2000000 in
theorem lexWord_any (s : ByteArray) (at_ : Nat) (w : World) (hs : s.size ≤ 4194304) (ha : at_ ≤ 4194304) :
    Calls Tryd.prog 18 #[.string s, .int .i64 (at_ : Int)] w (Told (wordL lang s.data.toList) at_ w) := by
  have hl := runL_len isWd s.data.toList
  rw [sdata] at hl
  have HW : Hid (wordL lang s.data.toList = right (if kwOf (s.data.toList.take (runL isWd s.data.toList)) = 0 then 10 else kwOf (s.data.toList.take (runL isWd s.data.toList))) (runL isWd s.data.toList)) := Lib.hid rfl
  have HR := Lib.hid (fun u => run_any 28 isWd isWord_any (enters_of Tryd.func28 (by kernel_rfl) rfl) s u (by omega))
  obtain ⟨n, hn⟩ : ∃ n, runL isWd s.data.toList = n := ⟨_, rfl⟩
  rw [hn] at hl HW HR
  clear hn
  have hsl := slice_to s n (n : Int) rfl hl
  have HK := Lib.hid (fun u => keyword_any (B (s.data.toList.take n)) u)
  rw [bdata] at HK
  obtain ⟨x, hx⟩ : ∃ x, B (s.data.toList.take n) = x := ⟨_, rfl⟩
  obtain ⟨k, hk⟩ : ∃ k, kwOf (s.data.toList.take n) = k := ⟨_, rfl⟩
  rw [hx] at hsl HK
  rw [hk] at HW HK
  clear hx hk
  by_cases h0 : k = 0
  · subst h0
    rw [if_pos rfl] at HW
    go_enter Tryd.func18, Tryd.ntmps18
    go_wp2_with (first | (go_at_call 14; refine (HR.out _).mono ?_; rintro e w' ⟨rfl, rfl⟩) | (go_at_call 29; refine (HK.out _).mono ?_; rintro e w1 ⟨rfl, hb⟩; have S1 := Lib.hid ((six_new w _ _ _ _ _ _ _ _).below hb); have HB := Lib.hid (below2_then hb); clear hb) | (go_at_call 12; refine (right_any _ _ _ _ (by omega) (by omega)).mono ?_; rintro e w2 ⟨x1, y1, rfl, hxy, hb2⟩; have S2 := Lib.hid (S1.out.below hb2); obtain ⟨⟨u0, u1, u2, u3, u4, u5, k0, k1, k2, k3, k4, k5⟩, f0, f1, f2, f3, f4, f5⟩ := S2.out; have HX := Lib.hid hxy; have HB2 := Lib.hid (HB.out.trans (hb2.mono HB.out.size)); clear hb2 hxy))
    exact bodyPost_ret (results_two Tryd.results18 _ S2.out _ _ _ _ _ _ rfl rfl) rfl (Told.same HW.out HX.out (below_put6 HB2.out (Nat.le_refl _) _ _ _ _ _ _))
  · rw [if_neg h0] at HW
    have hbz : (k == 0) = false := beq_eq_false_iff_ne.2 h0
    clear h0
    go_enter Tryd.func18, Tryd.ntmps18
    go_wp2_with (first | (go_at_call 14; refine (HR.out _).mono ?_; rintro e w' ⟨rfl, rfl⟩) | (go_at_call 29; refine (HK.out _).mono ?_; rintro e w1 ⟨rfl, hb⟩; have S1 := Lib.hid ((six_new w _ _ _ _ _ _ _ _).below hb); have HB := Lib.hid (below2_then hb); clear hb) | (go_at_call 12; refine (right_any _ _ _ _ (by omega) (by omega)).mono ?_; rintro e w2 ⟨x1, y1, rfl, hxy, hb2⟩; have S2 := Lib.hid (S1.out.below hb2); obtain ⟨⟨u0, u1, u2, u3, u4, u5, k0, k1, k2, k3, k4, k5⟩, f0, f1, f2, f3, f4, f5⟩ := S2.out; have HX := Lib.hid hxy; have HB2 := Lib.hid (HB.out.trans (hb2.mono HB.out.size)); clear hb2 hxy))
    exact bodyPost_ret (results_two Tryd.results18 _ S2.out _ _ _ _ _ _ rfl rfl) rfl (Told.same HW.out HX.out (below_put6 HB2.out (Nat.le_refl _) _ _ _ _ _ _))
set_option maxRecDepth 100000 in
set_option maxHeartbeats 2000000 in
theorem lexNumber_any (s : ByteArray) (at_ : Nat) (w : World) (hs : s.size ≤ 4194304) (ha : at_ ≤ 4194304) :
    Calls Tryd.prog 20 #[.string s, .int .i64 (at_ : Int)] w (Told (numL lang s.data.toList) at_ w) := by
  have hl := runL_len isWd s.data.toList
  rw [sdata] at hl
  have HW : Hid (numL lang s.data.toList = if (numOf (s.data.toList.take (runL isWd s.data.toList))).2.2 = true then right 11 (runL isWd s.data.toList) else wrong 11 (runL isWd s.data.toList) 109) := Lib.hid rfl
  have HR := Lib.hid (fun u => run_any 28 isWd isWord_any (enters_of Tryd.func28 (by kernel_rfl) rfl) s u (by omega))
  obtain ⟨n, hn⟩ : ∃ n, runL isWd s.data.toList = n := ⟨_, rfl⟩
  rw [hn] at hl HW HR
  clear hn
  have hsl := slice_to s n (n : Int) rfl hl
  have HK := Lib.hid (fun u => digits_any (B (s.data.toList.take n)) u (by rw [bsize, List.length_take, sdata]; omega))
  rw [bdata] at HK
  obtain ⟨x, hx⟩ : ∃ x, B (s.data.toList.take n) = x := ⟨_, rfl⟩
  obtain ⟨a, b, ok, hk⟩ : ∃ a b ok, numOf (s.data.toList.take n) = (a, b, ok) := ⟨_, _, _, rfl⟩
  rw [hx] at hsl HK
  rw [hk] at HW HK
  clear hx hk
  cases ok
  all_goals
    simp only [if_true, Bool.false_eq_true, if_false] at HW
    go_enter Tryd.func20, Tryd.ntmps20
    go_wp2_with (first | (go_at_call 14; refine (HR.out _).mono ?_; rintro e w' ⟨rfl, rfl⟩) | (go_at_call 30; refine (HK.out _).mono ?_; rintro e w1 ⟨rfl, hb⟩; have S1 := Lib.hid ((six_new w _ _ _ _ _ _ _ _).below hb); have HB := Lib.hid (below2_then hb); clear hb) | (go_at_call 12; refine (right_any _ _ _ _ (by omega) (by omega)).mono ?_; rintro e w2 ⟨x1, y1, rfl, hxy, hb2⟩; have S2 := Lib.hid (S1.out.below hb2); obtain ⟨⟨u0, u1, u2, u3, u4, u5, k0, k1, k2, k3, k4, k5⟩, f0, f1, f2, f3, f4, f5⟩ := S2.out; have HX := Lib.hid hxy; have HB2 := Lib.hid (HB.out.trans (hb2.mono HB.out.size)); clear hb2 hxy) | (go_at_call 27; refine (wrong_any _ _ _ _ _ (by omega) (by omega)).mono ?_; rintro e w2 ⟨x1, y1, rfl, hxy, hb2⟩; have S2 := Lib.hid (S1.out.below hb2); obtain ⟨⟨u0, u1, u2, u3, u4, u5, k0, k1, k2, k3, k4, k5⟩, f0, f1, f2, f3, f4, f5⟩ := S2.out; have HX := Lib.hid hxy; have HB2 := Lib.hid (HB.out.trans (hb2.mono HB.out.size)); clear hb2 hxy))
    exact bodyPost_ret (results_two Tryd.results20 _ S2.out _ _ _ _ _ _ rfl rfl) rfl (Told.same HW.out HX.out (below_put6 HB2.out (Nat.le_refl _) _ _ _ _ _ _))
set_option maxRecDepth 100000 in
set_option maxHeartbeats 2000000 in
theorem closed_any (s o c : ByteArray) (kind code : Int) (at_ : Nat) (w : World) (hE : Env w) (hs : s.size ≤ 4194304) (ho : o.size ≤ s.size) (hc : c.size ≤ 4) (ha : at_ ≤ 4194304) :
    Calls Tryd.prog 16 #[.string s, .int .i64 (at_ : Int), .int .i64 kind, .int .i64 code, .string o, .string c] w (Told (closedL kind code o.size c.data.toList s.data.toList) at_ w) := by
  have hsl := slice_from s o.size ho
  have HW : Hid (closedL kind code o.size c.data.toList s.data.toList = if Lib.index (s.data.toList.drop o.size) c.data.toList < 0 then wrong kind s.data.toList.length code else right kind (o.size + (Lib.index (s.data.toList.drop o.size) c.data.toList).toNat + c.data.toList.length)) := Lib.hid rfl
  have HI : Hid (∀ u : World, Below w.heap.size w u → Calls Tryd.prog 26 #[.string (B (s.data.toList.drop o.size)), .string c] u fun e w' => e = .returned (.int .i64 (Lib.index (s.data.toList.drop o.size) c.data.toList)) ∧ w' = u) := Lib.hid (fun u hu => by
    obtain ⟨m, hm⟩ := (hE.below hu).most
    have := Tryd.strings_Index (B (s.data.toList.drop o.size)) c m u (by rw [bsize, List.length_drop, sdata]; omega) hm
    rwa [bdata] at this)
  have hroom := Lib.index_room (s.data.toList.drop o.size) c.data.toList
  have hge := Lib.index_ge (s.data.toList.drop o.size) c.data.toList
  rw [List.length_drop, sdata, sdata] at hroom
  rw [sdata, sdata] at HW
  obtain ⟨x, hx⟩ : ∃ x, B (s.data.toList.drop o.size) = x := ⟨_, rfl⟩
  obtain ⟨z, hz⟩ : ∃ z, Lib.index (s.data.toList.drop o.size) c.data.toList = z := ⟨_, rfl⟩
  rw [hx] at hsl HI
  rw [hz] at HW HI hroom hge
  clear hx hz hE
  by_cases h0 : z < 0
  · rw [if_pos h0] at HW
    have hd : decide (z < 0) = true := decide_eq_true h0
    clear hroom hge
    go_enter Tryd.func16, Tryd.ntmps16
    go_wp2_with (first | (go_at_call 26; refine (HI.out _ (below2 w _ _)).mono ?_; rintro e w' ⟨rfl, rfl⟩; have S1 := Lib.hid (six_new w (.int .i64 0) (.int .i64 0) (.int .i64 0) (.int .i64 0) (.int .i64 0) (.int .i64 0) 27 30); have HB := Lib.hid (below2 w (.cells #[.int .i64 0, .int .i64 0, .int .i64 0] 27) (.cells #[.int .i64 0, .int .i64 0, .int .i64 0] 30)) ) | (go_at_call 27; refine (wrong_any _ _ _ _ _ (by omega) (by omega)).mono ?_; rintro e w2 ⟨x1, y1, rfl, hxy, hb2⟩; have S2 := Lib.hid (S1.out.below hb2); obtain ⟨⟨u0, u1, u2, u3, u4, u5, k0, k1, k2, k3, k4, k5⟩, f0, f1, f2, f3, f4, f5⟩ := S2.out; have HX := Lib.hid hxy; have HB2 := Lib.hid (HB.out.trans (hb2.mono HB.out.size)); clear hb2 hxy))
    exact bodyPost_ret (results_two Tryd.results16 _ S2.out _ _ _ _ _ _ rfl rfl) rfl (Told.same HW.out HX.out (below_put6 HB2.out (Nat.le_refl _) _ _ _ _ _ _))
  · rw [if_neg h0] at HW
    obtain ⟨k, rfl⟩ : ∃ k : Nat, z = k := ⟨z.toNat, by omega⟩
    have hr := hroom (by omega)
    rw [Int.toNat_natCast] at HW
    have hd : decide ((k : Int) < 0) = false := decide_eq_false h0
    have e3 : ((o.size : Int) + (k : Int) + (c.size : Int)) = ((o.size + k + c.size : Nat) : Int) := by omega
    have HT := Lib.hid (fun u => right_any kind at_ (o.size + k + c.size) u (by omega) (by omega))
    rw [← e3] at HT
    clear hroom hge h0 e3
    go_enter Tryd.func16, Tryd.ntmps16
    go_wp2_with (first | (go_at_call 26; refine (HI.out _ (below2 w _ _)).mono ?_; rintro e w' ⟨rfl, rfl⟩; have S1 := Lib.hid (six_new w (.int .i64 0) (.int .i64 0) (.int .i64 0) (.int .i64 0) (.int .i64 0) (.int .i64 0) 27 30); have HB := Lib.hid (below2 w (.cells #[.int .i64 0, .int .i64 0, .int .i64 0] 27) (.cells #[.int .i64 0, .int .i64 0, .int .i64 0] 30)) ) | (go_at_call 12; refine (HT.out _).mono ?_; rintro e w2 ⟨x1, y1, rfl, hxy, hb2⟩; have S2 := Lib.hid (S1.out.below hb2); obtain ⟨⟨u0, u1, u2, u3, u4, u5, k0, k1, k2, k3, k4, k5⟩, f0, f1, f2, f3, f4, f5⟩ := S2.out; have HX := Lib.hid hxy; have HB2 := Lib.hid (HB.out.trans (hb2.mono HB.out.size)); clear hb2 hxy))
    exact bodyPost_ret (results_two Tryd.results16 _ S2.out _ _ _ _ _ _ rfl rfl) rfl (Told.same HW.out HX.out (below_put6 HB2.out (Nat.le_refl _) _ _ _ _ _ _))
end Go.Proofs.YtjbamlmdeopcaaaDoor.lx
