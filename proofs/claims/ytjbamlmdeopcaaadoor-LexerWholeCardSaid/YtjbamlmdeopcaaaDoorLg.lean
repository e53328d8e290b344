/-
  lexer.said, lexer.sign.
-/
import Derived.Test.YtjbamlmdeopcaaaDoorLf
import Derived.Test.YtjbamlmdeopcaaaDoorLc
namespace Go.Proofs.YtjbamlmdeopcaaaDoor.lx
open Go.RowKit Go.Proofs.YtjbamlmdeopcaaaDoor.tok

theorem cat_eq {x y : List UInt8} (h : x.length + y.length ≤ 9223372036854775807) : Op.stringOp .add (B x) (B y) = pure (.string (B (x ++ y))) := by
  unfold Op.stringOp
  simp only []
  rw [if_neg (by rw [bsize, bsize]; show ¬ ((_ : Nat) : Int) > 9223372036854775807; omega), b_append]
def CodePost (code : Int) (place : Nat) (w : World) (e : Ending) (w' : World) : Prop := e = .returned (.tuple #[.int .i64 code, .int .i64 place]) ∧ Below w.heap.size w w'
set_option maxRecDepth 100000 in
set_option maxHeartbeats 1000000 in
theorem said_rune (s : ByteArray) (w : World) (hE : Env w) (hs : s.size ≤ 4194304) : Calls Tryd.prog 32 #[.int .i64 12, .string s] w (CodePost (lang.rune s.data.toList).1 (lang.rune s.data.toList).2 w) := by
  have HK := Lib.hid (rune_any s w hE (by omega))
  have HL : Hid ((lang.rune s.data.toList).1 = (runeOf s.data.toList).2.1 ∧ (lang.rune s.data.toList).2 = (runeOf s.data.toList).2.2) := Lib.hid ⟨rfl, rfl⟩
  obtain ⟨a, b, c, hk⟩ : ∃ a b c, runeOf s.data.toList = (a, b, c) := ⟨_, _, _, rfl⟩
  rw [hk] at HK HL
  rw [HL.out.1, HL.out.2]
  clear hk hE HL
  go_enter Tryd.func32, Tryd.ntmps32
  go_wp2_with (go_at_call 41; refine HK.out.mono ?_; rintro e w1 ⟨rfl, hb⟩; have HB := Lib.hid hb; clear hb)
  go_ret2
  exact ⟨rfl, HB.out⟩
set_option maxRecDepth 100000 in
set_option maxHeartbeats 1000000 in
theorem said_str (s : ByteArray) (w : World) (hE : Env w) (hs : s.size ≤ 4194304) : Calls Tryd.prog 32 #[.int .i64 13, .string s] w (CodePost (lang.str s.data.toList).1 (lang.str s.data.toList).2 w) := by
  have HK := Lib.hid (unquote_any s w hE (by omega))
  have HL : Hid ((lang.str s.data.toList).1 = (unqOf s.data.toList).2.1 ∧ (lang.str s.data.toList).2 = (unqOf s.data.toList).2.2) := Lib.hid ⟨rfl, rfl⟩
  obtain ⟨a, b, c, hk⟩ : ∃ a b c, unqOf s.data.toList = (a, b, c) := ⟨_, _, _, rfl⟩
  rw [hk] at HK HL
  rw [HL.out.1, HL.out.2]
  clear hk hE HL
  go_enter Tryd.func32, Tryd.ntmps32
  go_wp2_with (go_at_call 42; refine HK.out.mono ?_; rintro e w1 ⟨rfl, hb⟩; have HB := Lib.hid hb; clear hb)
  go_ret2
  exact ⟨rfl, HB.out⟩

/-! One character. -/
theorem decN_take {n b0 b1 b2 b3 b1' b2' b3' w : Nat} (hw : (Lib.decodeN n b0 b1 b2 b3).2 = w) (h1 : 1 < w → b1' = b1) (h2 : 2 < w → b2' = b2) (h3 : 3 < w → b3' = b3) : Lib.decodeN w b0 b1' b2' b3' = Lib.decodeN n b0 b1 b2 b3 := by
  have one : w = 1 → 128 ≤ b0 → Lib.decodeN w b0 b1' b2' b3' = (65533, 1) := by
    intro h hb
    unfold Lib.decodeN
    rw [if_neg (by omega), if_neg (by omega), if_neg (by omega), if_neg (by omega)]
  by_cases a : b0 < 128
  · unfold Lib.decodeN
    rw [if_pos a, if_pos a]
  unfold Lib.decodeN at hw
  rw [if_neg a] at hw
  conv => rhs; unfold Lib.decodeN
  rw [if_neg a]
  by_cases c2 : b0 / 32 = 6 ∧ (1 < n ∧ b1 / 64 = 2)
  · rw [if_pos c2] at hw ⊢
    by_cases v : b0 % 32 * 64 + b1 % 64 ≥ 128
    · rw [if_pos v] at hw ⊢
      have hw2 : w = 2 := hw.symm
      have := h1 (by omega)
      subst this
      unfold Lib.decodeN
      rw [if_neg a, if_pos (by omega), if_pos v]
    · rw [if_neg v] at hw ⊢
      exact one hw.symm (by omega)
  rw [if_neg c2] at hw ⊢
  by_cases c3 : b0 / 16 = 14 ∧ (1 < n ∧ b1 / 64 = 2) ∧ (2 < n ∧ b2 / 64 = 2)
  · rw [if_pos c3] at hw ⊢
    split at hw
    · rename_i v
      rw [if_pos v]
      have hw2 : w = 3 := hw.symm
      have e1 := h1 (by omega)
      have e2 := h2 (by omega)
      subst e1 e2
      unfold Lib.decodeN
      rw [if_neg a, if_neg (by omega), if_pos (by omega), if_pos v]
    · rename_i v
      rw [if_neg v]
      exact one hw.symm (by omega)
  rw [if_neg c3] at hw ⊢
  by_cases c4 : b0 / 8 = 30 ∧ (1 < n ∧ b1 / 64 = 2) ∧ (2 < n ∧ b2 / 64 = 2) ∧ (3 < n ∧ b3 / 64 = 2)
  · rw [if_pos c4] at hw ⊢
    split at hw
    · rename_i v
      rw [if_pos v]
      have hw2 : w = 4 := hw.symm
      have e1 := h1 (by omega)
      have e2 := h2 (by omega)
      have e3 := h3 (by omega)
      subst e1 e2 e3
      unfold Lib.decodeN
      rw [if_neg a, if_neg (by omega), if_neg (by omega), if_pos (by omega), if_pos v]
    · rename_i v
      rw [if_neg v]
      exact one hw.symm (by omega)
  rw [if_neg c4] at hw ⊢
  exact one hw.symm (by omega)
theorem dec_take (r : List UInt8) (hr : r ≠ []) : decL (r.take (chrOf r)) = decL r := by
  have hl : chrOf r ≤ r.length := lang.chr_len r hr
  have hp : 1 ≤ chrOf r := lang.chr_pos r
  have e : ∀ i, i < chrOf r → g_ (r.take (chrOf r)) i = g_ r i := fun i hi => by
    unfold g_; rw [List.getD_eq_getElem?_getD, List.getD_eq_getElem?_getD, List.getElem?_take_of_lt hi]
  have hlen : (r.take (chrOf r)).length = chrOf r := by rw [List.length_take]; omega
  unfold decL
  rw [hlen, e 0 (by omega)]
  exact decN_take rfl (fun h => e 1 h) (fun h => e 2 h) (fun h => e 3 h)
/-- What layer 1 tells of a character behind a blank. -/
theorem check_char (r : List UInt8) (hr : r ≠ []) : (dec.diags (B (32 :: r.take (chrOf r))) 0).length = if saidOf r = true then 1 else 0 := by
  have hl : chrOf r ≤ r.length := lang.chr_len r hr
  have hlen : (r.take (chrOf r)).length = chrOf r := by rw [List.length_take]; omega
  have hp : 1 ≤ chrOf r := lang.chr_pos r
  have hsz : (B (32 :: r.take (chrOf r))).size = chrOf r + 1 := by rw [bsize, List.length_cons, hlen]
  have d0 : decL (32 :: r.take (chrOf r)) = (32, 1) := by
    unfold decL
    have : g_ (32 :: r.take (chrOf r)) 0 = 32 := rfl
    rw [this]
    rfl
  have w0 : dec.wideAt (B (32 :: r.take (chrOf r))) 0 = 1 := by rw [(chrOf_b _).1]; exact congrArg Prod.snd d0
  have r0 : dec.runeAt (B (32 :: r.take (chrOf r))) 0 = 32 := by rw [(chrOf_b _).2, d0]
  have d1 : Utf8.decode (B (32 :: r.take (chrOf r))) 1 = decL r := by
    have := Lib.tail_decode (B (32 :: r.take (chrOf r))) 1 0
    rw [← this]
    have e : (B (32 :: r.take (chrOf r))).extract 1 (B (32 :: r.take (chrOf r))).size = B (r.take (chrOf r)) := by
      rw [b_extract, bdata, hsz, List.drop_succ_cons, List.drop_zero, Nat.add_sub_cancel, List.take_of_length_le (by omega)]
    rw [e, dec_b, dec_take r hr]
  have w1 : dec.wideAt (B (32 :: r.take (chrOf r))) 1 = chrOf r := by unfold dec.wideAt; rw [d1]; rfl
  have c1 : dec.codeAt (B (32 :: r.take (chrOf r))) 1 = dec.faultZ (decL r).1 (decL r).2 1 := by unfold dec.codeAt; rw [w1]; unfold dec.runeAt; rw [d1]; rfl
  rw [dec.diags_step _ 0 (by omega), w0, Nat.zero_add, dec.diags_step _ 1 (by omega), w1, dec.diags_end _ _ (by omega)]
  have h0 : dec.headOf (B (32 :: r.take (chrOf r))) 0 = [] := by
    unfold dec.headOf
    rw [if_pos]
    unfold dec.codeAt
    rw [r0, w0]
    decide
  rw [h0]
  unfold dec.headOf saidOf
  rw [c1]
  by_cases h : dec.faultZ (decL r).1 (decL r).2 1 = 0
  · rw [if_pos h, if_neg (by simp [h])]; rfl
  · rw [if_neg h, if_pos (by simp [h])]; rfl
def LenPost (n : Nat) (w : World) (e : Ending) (w' : World) : Prop := ∃ (o : Option Addr) (cap : Nat), e = .returned (.slice o n cap) ∧ Below w.heap.size w w'
theorem check_len (s : ByteArray) (w : World) (hs : s.size ≤ 1073741824) (hE : Env w) : Calls Tryd.prog 6 #[.string s] w (LenPost (dec.diags s 0).length w) := by
  refine (dec.check_any s w hs hE.tabs).mono ?_
  rintro e w' ⟨v, rfl, ho, hb⟩
  rcases ho.2 with ⟨rfl, b⟩ | ⟨g, cap, cur, rfl, _⟩
  · rw [b]; exact ⟨none, 0, rfl, hb⟩
  · exact ⟨_, _, rfl, hb⟩
theorem dec_calls (s : ByteArray) (w : World) (hE : Env w) (h0 : 0 < s.size) :
    Calls Tryd.prog 9 #[.string s] w fun e w' => e = .returned (.tuple #[.int .i32 (decL s.data.toList).1, .int .i64 (chrOf s.data.toList)]) ∧ Below w.heap.size w w' := by
  have h := Tryd.utf8_DecodeRuneInString s w hE.tabs
  have e : Lib.decodeGo s = decL s.data.toList := by
    unfold Lib.decodeGo
    rw [if_neg (by omega), ← dec_b, bof]
  rw [e] at h
  exact h
set_option maxRecDepth 100000 in
set_option maxHeartbeats 2000000 in
theorem lexSign_any (s : ByteArray) (at_ : Nat) (w : World) (hE : Env w) (hs : s.size ≤ 4194304) (h0 : 0 < s.size) (ha : at_ ≤ 4194304) :
    Calls Tryd.prog 22 #[.string s, .int .i64 (at_ : Int)] w (Told (signL lang s.data.toList) at_ w) := by
  have hne : s.data.toList ≠ [] := by intro h; have := congrArg List.length h; rw [sdata, List.length_nil] at this; omega
  have HO := Lib.hid (fun u => operator_any s u)
  have hol := lang.op_len s.data.toList
  rw [sdata] at hol
  have HW : Hid (signL lang s.data.toList = if 0 < (opOf s.data.toList).2 then right (opOf s.data.toList).1 (opOf s.data.toList).2 else if saidOf s.data.toList = true then right 5 (chrOf s.data.toList) else wrong 5 (chrOf s.data.toList) 104) := Lib.hid rfl
  have hol' : (opOf s.data.toList).2 ≤ s.size := hol
  obtain ⟨k, n, hk⟩ : ∃ k n, opOf s.data.toList = (k, n) := ⟨_, _, rfl⟩
  rw [hk] at HO HW hol'
  simp only [] at HW hol'
  clear hk hol
  by_cases hn : 0 < n
  · rw [if_pos hn] at HW
    have hd : decide ((0 : Int) < (n : Int)) = true := decide_eq_true (by omega)
    clear hE hne
    go_enter Tryd.func22, Tryd.ntmps22
    go_wp2_with (first | (go_at_call 33; refine (HO.out _).mono ?_; rintro e w1 ⟨rfl, hb⟩; have S1 := Lib.hid ((six_new w _ _ _ _ _ _ _ _).below hb); have HB := Lib.hid (below2_then hb); clear hb) | (go_at_call 12; refine (right_any _ _ _ _ (by omega) (by omega)).mono ?_; rintro e w2 ⟨x1, y1, rfl, hxy, hb2⟩; have S2 := Lib.hid (S1.out.below hb2); obtain ⟨⟨u0, u1, u2, u3, u4, u5, k0, k1, k2, k3, k4, k5⟩, f0, f1, f2, f3, f4, f5⟩ := S2.out; have HX := Lib.hid hxy; have HB2 := Lib.hid (HB.out.trans (hb2.mono HB.out.size)); clear hb2 hxy))
    exact bodyPost_ret (results_two Tryd.results22 _ S2.out _ _ _ _ _ _ rfl rfl) rfl (Told.same HW.out HX.out (below_put6 HB2.out (Nat.le_refl _) _ _ _ _ _ _))
  · rw [if_neg hn] at HW
    have hd : decide ((0 : Int) < (n : Int)) = false := decide_eq_false (by omega)
    have hcl : chrOf s.data.toList ≤ s.size := by have := lang.chr_len s.data.toList hne; rwa [sdata] at this
    have HD := Lib.hid (fun (u : World) (hu : Below w.heap.size w u) => dec_calls s u (hE.below hu) h0)
    have HL := Lib.hid (check_char s.data.toList hne)
    have HC := Lib.hid (fun (u : World) (hu : Below w.heap.size w u) => check_len (B (32 :: s.data.toList.take (chrOf s.data.toList))) u (by rw [bsize, List.length_cons, List.length_take]; omega) (hE.below hu))
    rw [HL.out] at HC
    have hsl := slice_to s (chrOf s.data.toList) (chrOf s.data.toList : Int) rfl hcl
    have hcat := cat_eq (x := [32]) (y := s.data.toList.take (chrOf s.data.toList)) (by rw [List.length_take]; simp; omega)
    obtain ⟨m, hm⟩ : ∃ m, chrOf s.data.toList = m := ⟨_, rfl⟩
    obtain ⟨b, hb⟩ : ∃ b, saidOf s.data.toList = b := ⟨_, rfl⟩
    rw [hm] at HW hcl HD HC hsl hcat
    rw [hb] at HW HC
    obtain ⟨x, hx⟩ : ∃ x, B (s.data.toList.take m) = x := ⟨_, rfl⟩
    obtain ⟨y, hy⟩ : ∃ y, B (32 :: s.data.toList.take m) = y := ⟨_, rfl⟩
    obtain ⟨r, hr⟩ : ∃ r, (decL s.data.toList).1 = r := ⟨_, rfl⟩
    have hcat2 : Op.stringOp .add { data := #[32] } x = pure (.string y) := by rw [← hx, ← hy]; exact hcat
    rw [hx] at hsl
    rw [hy] at HC
    rw [hr] at HD
    clear hm hb hx hy hr hcat HL hne hE
    cases b
    all_goals
      simp only [if_true, Bool.false_eq_true, if_false] at HW HC
      go_enter Tryd.func22, Tryd.ntmps22
      go_wp2_with (first | (go_at_call 33; refine (HO.out _).mono ?_; rintro e w1 ⟨rfl, hb⟩; have S0 := Lib.hid ((six_new w _ _ _ _ _ _ _ _).below hb); have HA := Lib.hid (below2_then hb); clear hb) | (go_at_call 9; refine (HD.out _ HA.out).mono ?_; rintro e w4 ⟨rfl, hb4⟩; have S4 := Lib.hid (S0.out.below hb4); have HB4 := Lib.hid (HA.out.trans (hb4.mono HA.out.size)); clear hb4) | (go_at_call 6; refine (HC.out _ HB4.out).mono ?_; rintro e w5 ⟨o5, c5, rfl, hb5⟩; have S1 := Lib.hid (S4.out.below hb5); have HB := Lib.hid (HB4.out.trans (hb5.mono HB4.out.size)); clear hb5) | (go_at_call 12; refine (right_any _ _ _ _ (by omega) (by omega)).mono ?_; rintro e w2 ⟨x1, y1, rfl, hxy, hb2⟩; have S2 := Lib.hid (S1.out.below hb2); obtain ⟨⟨u0, u1, u2, u3, u4, u5, k0, k1, k2, k3, k4, k5⟩, f0, f1, f2, f3, f4, f5⟩ := S2.out; have HX := Lib.hid hxy; have HB2 := Lib.hid (HB.out.trans (hb2.mono HB.out.size)); clear hb2 hxy) | (go_at_call 27; refine (wrong_any _ _ _ _ _ (by omega) (by omega)).mono ?_; rintro e w2 ⟨x1, y1, rfl, hxy, hb2⟩; have S2 := Lib.hid (S1.out.below hb2); obtain ⟨⟨u0, u1, u2, u3, u4, u5, k0, k1, k2, k3, k4, k5⟩, f0, f1, f2, f3, f4, f5⟩ := S2.out; have HX := Lib.hid hxy; have HB2 := Lib.hid (HB.out.trans (hb2.mono HB.out.size)); clear hb2 hxy))
      exact bodyPost_ret (results_two Tryd.results22 _ S2.out _ _ _ _ _ _ rfl rfl) rfl (Told.same HW.out HX.out (below_put6 HB2.out (Nat.le_refl _) _ _ _ _ _ _))
end Go.Proofs.YtjbamlmdeopcaaaDoor.lx
