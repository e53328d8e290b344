/-
  Layer 4: the law ChunkJoins, as a call.
-/
import Derived.Test.YtlemecnmjhhbiaaCm
import Derived.Test.YtlemecnmjhhbiaaCq
namespace Go.Proofs.Ytlemecnmjhhbiaa.ck
open Go.RowKit
set_option linter.unusedVariables false

/-- Two rows of tokens, put together in a row of one's own. -/
theorem join_tk {w : World} {va vb : Value} {A B : List Tk} (ha : Row tk w va A) (hb : Row tk w vb B) (hA : A.length ≤ 1048576) (hB : B.length ≤ 1048576) :
    ∃ v3 w3 v4 w4, (∀ ty, (Builtin.append_ #[22, 22] ty #[.slice none 0 0, va]).run Try.prog w = .ok v3 w3) ∧ (∀ ty, (Builtin.append_ #[22, 22] ty #[v3, vb]).run Try.prog w3 = .ok v4 w4) ∧ Row tk w4 v4 (A ++ B) ∧ Below w.heap.size w w4 := by
  obtain ⟨v3, w3, h3, hm3, hb3⟩ := copy_tk ha (by omega)
  obtain ⟨v4, w4, h4, hm4, hg4⟩ := run_append_row hm3 (hb.below hb3) hb3.size (by simp [maxLen]; omega) (by show (A.length + B.length) * 24 ≤ _; omega)
  exact ⟨v3, w3, v4, w4, h3, h4, hm4.row, hm3.more hb3 (Nat.le_refl _) hb3.size hg4⟩
/-- A row of tokens and one more, in a row of one's own. -/
theorem more_tk {w : World} {va : Value} {A : List Tk} (ha : Row tk w va A) (hA : A.length ≤ 1048576) (a b c : Int) :
    ∃ v3 w3 v4 w4, (∀ ty, (Builtin.append_ #[22, 22] ty #[.slice none 0 0, va]).run Try.prog w = .ok v3 w3) ∧ (∀ ty, (Builtin.append_ #[22, 22] ty #[v3, .slice (some ⟨w3.heap.size, 0, none⟩) 1 1]).run Try.prog (w3.alloc (.cells #[.int .i64 a, .int .i64 b, .int .i64 c] 25)) = .ok v4 w4) ∧ Row tk w4 v4 (A ++ [⟨a, b, c⟩]) ∧ Below w.heap.size w w4 := by
  obtain ⟨v3, w3, h3, hm3, hb3⟩ := copy_tk ha (by omega)
  obtain ⟨v4, w4, h4, hm4, hb4⟩ := push_tk hm3 a b c hb3.size (by omega)
  exact ⟨v3, w3, v4, w4, h3, h4, hm4.row, hb4 _ _ (Nat.le_refl _) hb3⟩
def idt : Tk := ⟨10, 0, 0⟩
/-- What the law asks of the first list. -/
def Ends (A : List Tk) : Prop := A = [] ∨ ∃ hne : regs A ≠ [], ((regs A).getLast hne).b = (A.length : Int) ∧ (regs (A ++ [idt])).length = (regs A).length + 1
theorem ends_join {A : List Tk} (B : List Tk) (h : Ends A) : regs (A ++ B) = regs A ++ (regs B).map (shift A.length) := regs_join A B idt ⟨by decide, by decide⟩ h
/-- A span is put behind a row of one's own; where the row then lies. -/
theorem push_sn_at {w : World} {base : Nat} {v : Value} {T0 : List Sn} (hown : Mine sn w base v T0) (a b : Int) (hb : base ≤ w.heap.size) (hm : (T0.length + 1) * 16 ≤ 140737488355328) :
    ∃ v' w', (∀ ty, (Builtin.append_ #[26, 26] ty #[v, .slice (some ⟨w.heap.size, 0, none⟩) 1 1]).run Try.prog (w.alloc (.cells #[.int .i64 a, .int .i64 b] 30)) = .ok v' w') ∧ Mine sn w' base v' (T0 ++ [⟨a, b⟩]) ∧ (w.alloc (.cells #[.int .i64 a, .int .i64 b] 30)).grownBy w' v.ownBlock ∧ (v'.ownBlock = v.ownBlock ∨ v'.ownBlock = some (w.heap.size + 1)) := by
  have hB : Below w.heap.size w (w.alloc (.cells #[.int .i64 a, .int .i64 b] 30)) := (Below.refl _ _).alloc (Nat.le_refl _) _
  obtain ⟨i0, hi, hz0, hz1, hz2⟩ := info_parts sn.hi
  obtain ⟨v', w', h1, h2, h3, _, h4⟩ := run_append_own_at (P := Try.prog) (w.alloc (.cells #[.int .i64 a, .int .i64 b] 30)) base 26 0 30 i0 sn.z 2 16 Try.underlying26 hi hz0 hz1 hz2 rfl (by decide) v T0.length (flat sn T0) (hown.below hB) ⟨w.heap.size, 0, none⟩ 1 1 [.int .i64 a, .int .i64 b] rfl (two_new _ _ _ _) (sn.one ⟨a, b⟩) (by simp [maxLen]; omega) hm (by simp; omega)
  refine ⟨v', w', fun ty => h1, ?_, h3, ?_⟩
  · unfold Mine
    rw [List.length_append, flat_append]
    exact h2
  · rw [World.size_alloc] at h4
    exact h4
theorem regs_more (A : List Tk) : (regs (A ++ [idt])).length = (regs A).length ∨ (regs (A ++ [idt])).length = (regs A).length + 1 := by
  obtain ⟨O, fr', d', s', g1, g2, g3, g4, g5⟩ := rcut_append A 0 0 0 false (Nat.le_refl _) (fun _ => ⟨rfl, rfl⟩)
  have e0 : regs A = O ++ rcut fr' (0 + A.length) d' s' [] := by
    have := g5 []
    rw [List.append_nil] at this
    exact this
  have e1 : regs (A ++ [idt]) = O ++ rcut fr' (0 + A.length) d' s' [idt] := g5 [idt]
  have e2 : rcut fr' (0 + A.length) d' s' [idt] = [⟨fr', (0 + A.length + 1 : Nat)⟩] := by
    rw [rcut, show (semi idt.k && d' == 0) = false from rfl, if_neg (by simp), rcut, show (s' || !triv idt.k) = true by cases s' <;> rfl, if_pos rfl]
  rw [e0, e1, e2]
  cases s' <;> simp [rcut]

set_option maxRecDepth 100000 in
set_option maxHeartbeats 16000000 in
theorem joins_empty (va vb : Value) (A B : List Tk) (w : World) (h1 : Row tk w va A) (h2 : Row tk w vb B) (hA : A.length ≤ 1048576) (hB : B.length ≤ 1048576) (hE : A = []) :
    Calls Try.prog 7 #[va, vb] w (True1 w) := by
  have HRA := Lib.hid h1
  have HRB := Lib.hid h2
  have HS := Lib.hid (shown_any w)
  have hRA := regs_le A
  have hRB := regs_le B
  obtain ⟨oa, ca, rfl⟩ := h1.len
  obtain ⟨ob, cb, rfl⟩ := h2.len
  obtain ⟨la, hla⟩ : ∃ la, A.length = la := ⟨_, rfl⟩
  obtain ⟨lb, hlb⟩ : ∃ lb, B.length = lb := ⟨_, rfl⟩
  obtain ⟨m, hm⟩ : ∃ m, (regs A).length = m := ⟨_, rfl⟩
  rw [hla] at HRA hA hRA
  rw [hlb] at HRB hB hRB
  rw [hm] at hRA
  have HNA := Lib.hid hla
  have HNB := Lib.hid hlb
  have HM := Lib.hid hm
  rw [HNA.out, HNB.out]
  have HE : Hid (Ends A) := Lib.hid (.inl hE)
  obtain rfl : la = 0 := by rw [← hla, hE]; rfl
  obtain rfl : m = 0 := by rw [← hm, hE]; rfl
  clear hE
  clear h1 h2 hla hlb hm
  go_enter Try.func7, Try.ntmps7
  go_wp2_with (first
    | (go_at_call 9; refine HS.out.mono ?_; rintro e w1 ⟨rfl, hb1⟩; have HB1 := Lib.hid hb1; have HX1 := Lib.hid (cut_any _ A w1 (HRA.out.below hb1) (by rw [HNA.out]; omega)); clear hb1 HS)
    | (go_at_call 10; refine HX1.out.mono ?_; rintro e w2 ⟨vr, rfl, hm2, hb2⟩; have HR2 := Lib.hid hm2.row; have HB2 := Lib.hid (HB1.out.trans (hb2.mono HB1.out.size)); obtain ⟨gr, or', ro, rc, hrc, hvr, hro, hrcell⟩ := HR2.out; rw [HM.out] at hvr hrc; subst hvr; have HRC := Lib.hid hrcell; have HRO := Lib.hid hro; clear hm2 hb2 hrcell hro HX1 HB1; have HBT := HB2; have HRT := HR2; obtain ⟨v3, w3, v4, w4, hr3, hr4, hrow4, hb4⟩ := join_tk (HRA.out.below HBT.out) (HRB.out.below HBT.out) (by rw [HNA.out]; omega) (by rw [HNB.out]; omega); have HRUN3 := Lib.hid hr3; have HRUN4 := Lib.hid hr4; have HX2 := Lib.hid (cut_any v4 (A ++ B) w4 hrow4 (by rw [List.length_append, HNA.out, HNB.out]; omega)); have HB4 := Lib.hid (HBT.out.trans (hb4.mono HBT.out.size)); have HR4 := Lib.hid (HRT.out.below hb4); clear hr3 hr4 hrow4 hb4; clear HBT HRT HR2 HB2)
    | (at_builtin; refine Lib.wpList_append_run _ rfl _ _ _ _ rfl _ _ rfl rfl _ _ (HRUN3.out _) ?_; clear HRUN3)
    | (at_builtin; refine Lib.wpList_append_run _ rfl _ _ _ _ rfl _ _ rfl rfl _ _ (HRUN4.out _) ?_; clear HRUN4)
    | (go_at_call 10; refine HX2.out.mono ?_; rintro e w5 ⟨vt, rfl, hm5, hb5⟩; have HR5 := Lib.hid hm5.row; have HB5 := Lib.hid (HB4.out.trans (hb5.mono HB4.out.size)); have hz5 := HB5.out.size; obtain ⟨v6, w6, hrun6, hm6, hb6⟩ := copy_sn (HR4.out.below hb5) (by rw [HM.out]; omega); have HRUN6 := Lib.hid hrun6; have HM6 := Lib.hid hm6; have HB6 := Lib.hid (HB5.out.trans (hb6.mono HB5.out.size)); have HB56 := Lib.hid hb6; have hz6 := hb6.size; have HX3 := Lib.hid (cut_any _ B w6 (HRB.out.below HB6.out) (by rw [HNB.out]; omega)); clear hm5 hb5 hrun6 hm6 hb6 HX2 HR4 HB4 HB5)
    | (at_builtin; refine Lib.wpList_append_run _ rfl _ _ _ _ rfl _ _ rfl rfl _ _ (HRUN6.out _) ?_; clear HRUN6)
    | (go_at_call 10; refine HX3.out.mono ?_; rintro e w7 ⟨vq, rfl, hm7, hb7⟩; have HM7 := Lib.hid (HM6.out.below hb7); have HB57 := Lib.hid (HB56.out.trans (hb7.mono hz6)); have HB7 := Lib.hid (HB6.out.trans (hb7.mono HB6.out.size)); have hz7 := hb7.size; have HLT := Lib.hid (World.ownsRow.lt HM6.out); have HQ7 := Lib.hid hm7; obtain ⟨gq, qo, qc, hvq, hqo, hq1, hq2⟩ := hm7.shape; subst hvq; have HQO := Lib.hid hqo; clear hm7 hb7 hqo HX3 HM6 HB56 HB6))
  obtain ⟨mb, hmb⟩ : ∃ mb, (regs B).length = mb := ⟨_, rfl⟩
  rw [hmb] at hRB HQ7 ⊢
  have HMB := Lib.hid hmb
  obtain ⟨st, hst⟩ := chain_regs B
  have HC := Lib.hid hst
  have HJ := Lib.hid (ends_join B HE.out)
  rw [HNA.out] at HJ
  have HLJ : Hid ((regs (A ++ B)).length ≤ 0 + mb) := Lib.hid (by rw [HJ.out, List.length_append, List.length_map, HM.out, HMB.out]; exact Nat.le_refl _)
  clear hmb hst
  go_loopw [9, 56] (fun vv p wr => ∃ (n : Nat) (X : List Sn), n ≤ mb ∧ X.length ≤ 0 + n ∧ p = .int .i64 n ∧ X ++ ((regs B).drop n).map (shift 0) = regs (A ++ B) ∧ Mine sn wr w5.heap.size vv X ∧ (∀ q, vv.ownBlock = some q → q < w6.heap.size ∨ w7.heap.size ≤ q) ∧ Below w5.heap.size w7 wr ∧ (∀ k, w6.heap.size ≤ k → k < w7.heap.size → wr.heap[k]? = w7.heap[k]?)) (fun _ p _ => mb - (intOf p).toNat)
  case atStart => exact ⟨0, regs A, Nat.zero_le _, by rw [HM.out]; exact Nat.le_refl _, rfl, by rw [List.drop_zero]; exact HJ.out.symm, HM7.out, fun q hq => .inl (HLT.out q hq).2, Below.refl _ _, fun _ _ _ => rfl⟩
  case round =>
    obtain ⟨n, X, hnm, hX, rfl, hle, hown, hnb, hb, hmid⟩ := hrel
    have HB := Lib.hid hb
    have HL := Lib.hid hle
    have HO := Lib.hid hown
    have HNB2 := Lib.hid hnb
    have HMID := Lib.hid hmid
    have hsz : w5.heap.size ≤ wr.heap.size ∧ w7.heap.size ≤ wr.heap.size := by have := hb.size; omega
    clear hb hle hown hnb hmid
    by_cases hlt : n < mb
    · have hltR : n < (regs B).length := by rw [HMB.out]; exact hlt
      have hd : decide ((n : Int) < (mb : Int)) = true := decide_eq_true (by omega)
      have hne : regs B ≠ [] := by intro e; rw [e] at hltR; simp at hltR
      have hqo := HQO.out hne
      subst hqo
      obtain ⟨h1, h2, h3, _⟩ := HC.out.at' n hltR
      rw [HNB.out] at h3
      have hq3 : gq < w7.heap.size := by
        rcases hq2 with h | ⟨h, _⟩
        · exact h
        · exact absurd h hne
      have hmono := HC.out.mono
      obtain ⟨c0, c1⟩ := cells_sn HQ7.out.cells n hltR
      rw [h1, Nat.zero_add] at c0 c1
      simp only [] at c0 c1
      have c0 := (World.cell?_of_block (a := ⟨gq, n * 2, none⟩) (HMID.out gq hq1 hq3)).trans c0
      have c1 := (World.cell?_of_block (a := ⟨gq, n * 2 + 1, none⟩) (HMID.out gq hq1 hq3)).trans c1
      rw [List.drop_eq_getElem_cons hltR, h1, List.map_cons] at HL
      generalize st (n + 1) = c' at *
      generalize st n = a' at *
      have HA := Lib.hid ((Below.refl wr.heap.size wr).alloc (Nat.le_refl _) (.cells #[.int .i64 (a' : Int), .int .i64 (c' : Int)] 30))
      have HO1 := Lib.hid (HO.out.below HA.out)
      obtain ⟨v8, w8, hrun8, hm8, hg8, ho8⟩ := push_sn_at HO1.out ((a' : Int)) ((c' : Int)) (by simp; omega) (by omega)
      rw [World.size_alloc] at hrun8 ho8
      have HRUN8 := Lib.hid hrun8
      have HM8 := Lib.hid hm8
      have HN8 : Hid (∀ q, v8.ownBlock = some q → q < w6.heap.size ∨ w7.heap.size ≤ q) := Lib.hid (fun q hq => by
        rcases ho8 with h | h
        · exact HNB2.out q (by rw [← h]; exact hq)
        · rw [h] at hq; cases hq; right; omega)
      have HB8 : Hid (Below w5.heap.size w7 w8) := Lib.hid (((HB.out.alloc hsz.1 _).alloc (by simp; omega) _).grown hg8 (by simp; omega) (fun q hq => (World.ownsRow.lt HO.out q hq).1))
      have HD8 : Hid (∀ k, w6.heap.size ≤ k → k < w7.heap.size → w8.heap[k]? = w7.heap[k]?) := Lib.hid (fun k hk1 hk2 => by
        have e1 := hg8.block k (by simp; omega) (fun e => by have := HNB2.out k e.symm; omega)
        rw [e1, (World.grownBy_alloc _ _ none).block k (by simp; omega) (fun e => by cases e), (World.grownBy_alloc _ _ none).block k (by omega) (fun e => by cases e)]
        exact HMID.out k hk1 hk2)
      clear hrun8 hm8 hg8 ho8 HO1 HA HB HO HNB2 HMID h1 hne hltR hmono hq2
      go_wp2_with (at_builtin; refine Lib.wpList_append_run _ rfl _ _ _ _ rfl _ _ rfl rfl _ _ (HRUN8.out _) ?_)
      go_roundw
      case rel => exact ⟨n + 1, X ++ [⟨(a' : Int), (c' : Int)⟩], by omega, by rw [List.length_append]; simp; omega, by go_num, by rw [← HL.out, List.append_assoc]; simp [shift], HM8.out, HN8.out, HB8.out, HD8.out⟩
      case measure => simp [intOf]; omega
    · have hd : decide ((n : Int) < (mb : Int)) = false := decide_eq_false (by omega)
      have hD : (regs B).drop n = [] := List.drop_of_length_le (by rw [HMB.out]; omega)
      rw [hD, List.map_nil, List.append_nil] at HL
      rw [HL.out] at HO
      obtain ⟨_, _, ow, cw, _, hvv, _, _⟩ := HO.out.row
      subst hvv
      have HSP := Lib.hid (spans_any (HR5.out.below (HB57.out.trans HB.out)) HO.out.row (by have := HLJ.out; omega))
      have HBE := Lib.hid (HB7.out.trans (HB.out.mono (by omega)))
      clear hD HO HL
      go_wp2_with (go_at_call 12; refine HSP.out.mono ?_; rintro e w9 ⟨rfl, hb9⟩; have HB9 := Lib.hid (HBE.out.trans (hb9.mono HBE.out.size)); clear hb9)
      go_ret
      exact ⟨rfl, HB9.out⟩

set_option maxRecDepth 100000 in
set_option maxHeartbeats 16000000 in
theorem joins_none (va vb : Value) (A B : List Tk) (w : World) (h1 : Row tk w va A) (h2 : Row tk w vb B) (hA : A.length ≤ 1048576) (hB : B.length ≤ 1048576) (hE : A ≠ []) (hR : regs A = []) :
    Calls Try.prog 7 #[va, vb] w (True1 w) := by
  have HRA := Lib.hid h1
  have HRB := Lib.hid h2
  have HS := Lib.hid (shown_any w)
  have hRA := regs_le A
  have hRB := regs_le B
  obtain ⟨oa, ca, rfl⟩ := h1.len
  obtain ⟨ob, cb, rfl⟩ := h2.len
  obtain ⟨la, hla⟩ : ∃ la, A.length = la := ⟨_, rfl⟩
  obtain ⟨lb, hlb⟩ : ∃ lb, B.length = lb := ⟨_, rfl⟩
  obtain ⟨m, hm⟩ : ∃ m, (regs A).length = m := ⟨_, rfl⟩
  rw [hla] at HRA hA hRA
  rw [hlb] at HRB hB hRB
  rw [hm] at hRA
  have HNA := Lib.hid hla
  have HNB := Lib.hid hlb
  have HM := Lib.hid hm
  rw [HNA.out, HNB.out]
  have hd0' : decide (0 < la) = true := decide_eq_true (by have : la ≠ 0 := fun e => hE (List.eq_nil_of_length_eq_zero (by rw [hla, e])); omega)
  have hd0 : decide (0 < (la : Int)) = true := decide_eq_true (by have : la ≠ 0 := fun e => hE (List.eq_nil_of_length_eq_zero (by rw [hla, e])); omega)
  obtain rfl : m = 0 := by rw [← hm, hR]; rfl
  clear hE hR
  clear h1 h2 hla hlb hm
  go_enter Try.func7, Try.ntmps7
  go_wp2_with (first
    | (go_at_call 9; refine HS.out.mono ?_; rintro e w1 ⟨rfl, hb1⟩; have HB1 := Lib.hid hb1; have HX1 := Lib.hid (cut_any _ A w1 (HRA.out.below hb1) (by rw [HNA.out]; omega)); clear hb1 HS)
    | (go_at_call 10; refine HX1.out.mono ?_; rintro e w2 ⟨vr, rfl, hm2, hb2⟩; have HR2 := Lib.hid hm2.row; have HB2 := Lib.hid (HB1.out.trans (hb2.mono HB1.out.size)); obtain ⟨gr, or', ro, rc, hrc, hvr, hro, hrcell⟩ := HR2.out; rw [HM.out] at hvr hrc; subst hvr; have HRC := Lib.hid hrcell; have HRO := Lib.hid hro; clear hm2 hb2 hrcell hro HX1 HB1))
  go_ret
  exact ⟨rfl, HB2.out⟩

set_option maxRecDepth 100000 in
set_option maxHeartbeats 16000000 in
theorem joins_far (va vb : Value) (A B : List Tk) (w : World) (h1 : Row tk w va A) (h2 : Row tk w vb B) (hA : A.length ≤ 1048576) (hB : B.length ≤ 1048576) (hE : A ≠ []) (hR : regs A ≠ []) (hz : ((regs A).getLast hR).b ≠ (A.length : Int)) :
    Calls Try.prog 7 #[va, vb] w (True1 w) := by
  have HRA := Lib.hid h1
  have HRB := Lib.hid h2
  have HS := Lib.hid (shown_any w)
  have hRA := regs_le A
  have hRB := regs_le B
  obtain ⟨oa, ca, rfl⟩ := h1.len
  obtain ⟨ob, cb, rfl⟩ := h2.len
  obtain ⟨la, hla⟩ : ∃ la, A.length = la := ⟨_, rfl⟩
  obtain ⟨lb, hlb⟩ : ∃ lb, B.length = lb := ⟨_, rfl⟩
  obtain ⟨m, hm⟩ : ∃ m, (regs A).length = m := ⟨_, rfl⟩
  rw [hla] at HRA hA hRA
  rw [hlb] at HRB hB hRB
  rw [hm] at hRA
  have HNA := Lib.hid hla
  have HNB := Lib.hid hlb
  have HM := Lib.hid hm
  rw [HNA.out, HNB.out]
  have hd0' : decide (0 < la) = true := decide_eq_true (by have : la ≠ 0 := fun e => hE (List.eq_nil_of_length_eq_zero (by rw [hla, e])); omega)
  have hd0 : decide (0 < (la : Int)) = true := decide_eq_true (by have : la ≠ 0 := fun e => hE (List.eq_nil_of_length_eq_zero (by rw [hla, e])); omega)
  obtain ⟨k, rfl⟩ : ∃ k, m = k + 1 := ⟨m - 1, by have : m ≠ 0 := fun e => hR (List.eq_nil_of_length_eq_zero (by rw [hm, e])); omega⟩
  have hkl : k < (regs A).length := by rw [hm]; omega
  obtain ⟨z, hz0⟩ : ∃ z, ((regs A)[k]'hkl).b = z := ⟨_, rfl⟩
  have HZ : Hid (∀ h, ((regs A)[k]'h).b = z) := Lib.hid (fun h => hz0)
  have hgl : ∀ hne, ((regs A).getLast hne).b = z := fun hne => by rw [List.getLast_eq_getElem]; simp only [hm]; exact hz0
  have hzl : (z != (la : Int)) = true := bne_iff_ne.2 (by rw [hgl, hla] at hz; exact hz)
  have hk0 : ((k : Int) + 1 == 0) = false := beq_eq_false_iff_ne.2 (by omega)
  clear hE hR hkl hz hz0 hgl
  clear h1 h2 hla hlb hm
  go_enter Try.func7, Try.ntmps7
  go_wp2_with (first
    | (go_at_call 9; refine HS.out.mono ?_; rintro e w1 ⟨rfl, hb1⟩; have HB1 := Lib.hid hb1; have HX1 := Lib.hid (cut_any _ A w1 (HRA.out.below hb1) (by rw [HNA.out]; omega)); clear hb1 HS)
    | (go_at_call 10; refine HX1.out.mono ?_; rintro e w2 ⟨vr, rfl, hm2, hb2⟩; have HR2 := Lib.hid hm2.row; have HB2 := Lib.hid (HB1.out.trans (hb2.mono HB1.out.size)); obtain ⟨gr, or', ro, rc, hrc, hvr, hro, hrcell⟩ := HR2.out; rw [HM.out] at hvr hrc; subst hvr; have HRC := Lib.hid hrcell; have HRO := Lib.hid hro; clear hm2 hb2 hrcell hro HX1 HB1; have hro' := HRO.out (by intro e; have h := HM.out; rw [e] at h; simp at h); subst hro'; obtain ⟨_, c1⟩ := cells_sn HRC.out k (by rw [HM.out]; omega); rw [HZ.out] at c1; clear HRO HRC))
  go_ret
  exact ⟨rfl, HB2.out⟩

set_option maxRecDepth 100000 in
set_option maxHeartbeats 16000000 in
theorem joins_open (va vb : Value) (A B : List Tk) (w : World) (h1 : Row tk w va A) (h2 : Row tk w vb B) (hA : A.length ≤ 1048576) (hB : B.length ≤ 1048576) (hE : A ≠ []) (hR : regs A ≠ []) (hz : ((regs A).getLast hR).b = (A.length : Int)) (hq : (regs (A ++ [idt])).length = (regs A).length) :
    Calls Try.prog 7 #[va, vb] w (True1 w) := by
  have HRA := Lib.hid h1
  have HRB := Lib.hid h2
  have HS := Lib.hid (shown_any w)
  have hRA := regs_le A
  have hRB := regs_le B
  obtain ⟨oa, ca, rfl⟩ := h1.len
  obtain ⟨ob, cb, rfl⟩ := h2.len
  obtain ⟨la, hla⟩ : ∃ la, A.length = la := ⟨_, rfl⟩
  obtain ⟨lb, hlb⟩ : ∃ lb, B.length = lb := ⟨_, rfl⟩
  obtain ⟨m, hm⟩ : ∃ m, (regs A).length = m := ⟨_, rfl⟩
  rw [hla] at HRA hA hRA
  rw [hlb] at HRB hB hRB
  rw [hm] at hRA
  have HNA := Lib.hid hla
  have HNB := Lib.hid hlb
  have HM := Lib.hid hm
  rw [HNA.out, HNB.out]
  have hd0' : decide (0 < la) = true := decide_eq_true (by have : la ≠ 0 := fun e => hE (List.eq_nil_of_length_eq_zero (by rw [hla, e])); omega)
  have hd0 : decide (0 < (la : Int)) = true := decide_eq_true (by have : la ≠ 0 := fun e => hE (List.eq_nil_of_length_eq_zero (by rw [hla, e])); omega)
  obtain ⟨k, rfl⟩ : ∃ k, m = k + 1 := ⟨m - 1, by have : m ≠ 0 := fun e => hR (List.eq_nil_of_length_eq_zero (by rw [hm, e])); omega⟩
  have hkl : k < (regs A).length := by rw [hm]; omega
  obtain ⟨z, hz0⟩ : ∃ z, ((regs A)[k]'hkl).b = z := ⟨_, rfl⟩
  have HZ : Hid (∀ h, ((regs A)[k]'h).b = z) := Lib.hid (fun h => hz0)
  have hgl : ∀ hne, ((regs A).getLast hne).b = z := fun hne => by rw [List.getLast_eq_getElem]; simp only [hm]; exact hz0
  have hzl : z = (la : Int) := by rw [hgl, hla] at hz; exact hz
  subst hzl
  have HQ : Hid ((regs (A ++ [idt])).length = k + 1) := Lib.hid (by rw [hq, hm])
  clear hE hR hkl hz hz0 hgl hq
  clear h1 h2 hla hlb hm
  go_enter Try.func7, Try.ntmps7
  go_wp2_with (first
    | (go_at_call 9; refine HS.out.mono ?_; rintro e w1 ⟨rfl, hb1⟩; have HB1 := Lib.hid hb1; have HX1 := Lib.hid (cut_any _ A w1 (HRA.out.below hb1) (by rw [HNA.out]; omega)); clear hb1 HS)
    | (go_at_call 10; refine HX1.out.mono ?_; rintro e w2 ⟨vr, rfl, hm2, hb2⟩; have HR2 := Lib.hid hm2.row; have HB2 := Lib.hid (HB1.out.trans (hb2.mono HB1.out.size)); obtain ⟨gr, or', ro, rc, hrc, hvr, hro, hrcell⟩ := HR2.out; rw [HM.out] at hvr hrc; subst hvr; have HRC := Lib.hid hrcell; have HRO := Lib.hid hro; clear hm2 hb2 hrcell hro HX1 HB1; have hro' := HRO.out (by intro e; have h := HM.out; rw [e] at h; simp at h); subst hro'; obtain ⟨_, c1⟩ := cells_sn HRC.out k (by rw [HM.out]; omega); rw [HZ.out] at c1; clear HRO HRC; obtain ⟨v3, w3, v4, w4, hr3, hr4, hrow4, hb4⟩ := more_tk (HRA.out.below HB2.out) (by rw [HNA.out]; omega) 10 0 0; have HRUNA := Lib.hid hr3; have HRUNB := Lib.hid hr4; have HXL := Lib.hid (cut_any v4 (A ++ [idt]) w4 hrow4 (by rw [List.length_append, HNA.out]; simp; omega)); have HB4L := Lib.hid (HB2.out.trans (hb4.mono HB2.out.size)); have HR4L := Lib.hid (HR2.out.below hb4); clear hr3 hr4 hrow4 hb4)
    | (at_builtin; refine Lib.wpList_append_run _ rfl _ _ _ _ rfl _ _ rfl rfl _ _ (HRUNA.out _) ?_; clear HRUNA)
    | (at_builtin; refine Lib.wpList_append_run _ rfl _ _ _ _ rfl _ _ rfl rfl _ _ (HRUNB.out _) ?_; clear HRUNB)
    | (go_at_call 10; refine HXL.out.mono ?_; rintro e wl ⟨vl, rfl, hml, hbl⟩; have HBL := Lib.hid (HB4L.out.trans (hbl.mono HB4L.out.size)); have HRL := Lib.hid (HR4L.out.below hbl); obtain ⟨_, ol, cl, hvl, _, _, _⟩ := hml.shape; rw [HQ.out] at hvl; subst hvl; clear hml hbl HXL HB4L HR4L HR2 HB2 c1))
  go_ret
  exact ⟨rfl, HBL.out⟩

set_option maxRecDepth 100000 in
set_option maxHeartbeats 16000000 in
theorem joins_ends (va vb : Value) (A B : List Tk) (w : World) (h1 : Row tk w va A) (h2 : Row tk w vb B) (hA : A.length ≤ 1048576) (hB : B.length ≤ 1048576) (hE : A ≠ []) (hR : regs A ≠ []) (hz : ((regs A).getLast hR).b = (A.length : Int)) (hq : (regs (A ++ [idt])).length = (regs A).length + 1) :
    Calls Try.prog 7 #[va, vb] w (True1 w) := by
  have HRA := Lib.hid h1
  have HRB := Lib.hid h2
  have HS := Lib.hid (shown_any w)
  have hRA := regs_le A
  have hRB := regs_le B
  obtain ⟨oa, ca, rfl⟩ := h1.len
  obtain ⟨ob, cb, rfl⟩ := h2.len
  obtain ⟨la, hla⟩ : ∃ la, A.length = la := ⟨_, rfl⟩
  obtain ⟨lb, hlb⟩ : ∃ lb, B.length = lb := ⟨_, rfl⟩
  obtain ⟨m, hm⟩ : ∃ m, (regs A).length = m := ⟨_, rfl⟩
  rw [hla] at HRA hA hRA
  rw [hlb] at HRB hB hRB
  rw [hm] at hRA
  have HNA := Lib.hid hla
  have HNB := Lib.hid hlb
  have HM := Lib.hid hm
  rw [HNA.out, HNB.out]
  have hd0' : decide (0 < la) = true := decide_eq_true (by have : la ≠ 0 := fun e => hE (List.eq_nil_of_length_eq_zero (by rw [hla, e])); omega)
  have hd0 : decide (0 < (la : Int)) = true := decide_eq_true (by have : la ≠ 0 := fun e => hE (List.eq_nil_of_length_eq_zero (by rw [hla, e])); omega)
  obtain ⟨k, rfl⟩ : ∃ k, m = k + 1 := ⟨m - 1, by have : m ≠ 0 := fun e => hR (List.eq_nil_of_length_eq_zero (by rw [hm, e])); omega⟩
  have hkl : k < (regs A).length := by rw [hm]; omega
  obtain ⟨z, hz0⟩ : ∃ z, ((regs A)[k]'hkl).b = z := ⟨_, rfl⟩
  have HZ : Hid (∀ h, ((regs A)[k]'h).b = z) := Lib.hid (fun h => hz0)
  have hgl : ∀ hne, ((regs A).getLast hne).b = z := fun hne => by rw [List.getLast_eq_getElem]; simp only [hm]; exact hz0
  have hzl : z = (la : Int) := by rw [hgl, hla] at hz; exact hz
  subst hzl
  have HQ : Hid ((regs (A ++ [idt])).length = k + 1 + 1) := Lib.hid (by rw [hq, hm])
  have HE : Hid (Ends A) := Lib.hid (.inr ⟨hR, hz, hq⟩)
  clear hE hR hkl hz hz0 hgl hq
  clear h1 h2 hla hlb hm
  go_enter Try.func7, Try.ntmps7
  go_wp2_with (first
    | (go_at_call 9; refine HS.out.mono ?_; rintro e w1 ⟨rfl, hb1⟩; have HB1 := Lib.hid hb1; have HX1 := Lib.hid (cut_any _ A w1 (HRA.out.below hb1) (by rw [HNA.out]; omega)); clear hb1 HS)
    | (go_at_call 10; refine HX1.out.mono ?_; rintro e w2 ⟨vr, rfl, hm2, hb2⟩; have HR2 := Lib.hid hm2.row; have HB2 := Lib.hid (HB1.out.trans (hb2.mono HB1.out.size)); obtain ⟨gr, or', ro, rc, hrc, hvr, hro, hrcell⟩ := HR2.out; rw [HM.out] at hvr hrc; subst hvr; have HRC := Lib.hid hrcell; have HRO := Lib.hid hro; clear hm2 hb2 hrcell hro HX1 HB1; have hro' := HRO.out (by intro e; have h := HM.out; rw [e] at h; simp at h); subst hro'; obtain ⟨_, c1⟩ := cells_sn HRC.out k (by rw [HM.out]; omega); rw [HZ.out] at c1; clear HRO HRC; obtain ⟨v3, w3, v4, w4, hr3, hr4, hrow4, hb4⟩ := more_tk (HRA.out.below HB2.out) (by rw [HNA.out]; omega) 10 0 0; have HRUNA := Lib.hid hr3; have HRUNB := Lib.hid hr4; have HXL := Lib.hid (cut_any v4 (A ++ [idt]) w4 hrow4 (by rw [List.length_append, HNA.out]; simp; omega)); have HB4L := Lib.hid (HB2.out.trans (hb4.mono HB2.out.size)); have HR4L := Lib.hid (HR2.out.below hb4); clear hr3 hr4 hrow4 hb4)
    | (at_builtin; refine Lib.wpList_append_run _ rfl _ _ _ _ rfl _ _ rfl rfl _ _ (HRUNA.out _) ?_; clear HRUNA)
    | (at_builtin; refine Lib.wpList_append_run _ rfl _ _ _ _ rfl _ _ rfl rfl _ _ (HRUNB.out _) ?_; clear HRUNB)
    | (go_at_call 10; refine HXL.out.mono ?_; rintro e wl ⟨vl, rfl, hml, hbl⟩; have HBL := Lib.hid (HB4L.out.trans (hbl.mono HB4L.out.size)); have HRL := Lib.hid (HR4L.out.below hbl); obtain ⟨_, ol, cl, hvl, _, _, _⟩ := hml.shape; rw [HQ.out] at hvl; subst hvl; clear hml hbl HXL HB4L HR4L HR2 HB2 c1; have HBT := HBL; have HRT := HRL; obtain ⟨v3, w3, v4, w4, hr3, hr4, hrow4, hb4⟩ := join_tk (HRA.out.below HBT.out) (HRB.out.below HBT.out) (by rw [HNA.out]; omega) (by rw [HNB.out]; omega); have HRUN3 := Lib.hid hr3; have HRUN4 := Lib.hid hr4; have HX2 := Lib.hid (cut_any v4 (A ++ B) w4 hrow4 (by rw [List.length_append, HNA.out, HNB.out]; omega)); have HB4 := Lib.hid (HBT.out.trans (hb4.mono HBT.out.size)); have HR4 := Lib.hid (HRT.out.below hb4); clear hr3 hr4 hrow4 hb4; clear HBT HRT HRL HBL)
    | (at_builtin; refine Lib.wpList_append_run _ rfl _ _ _ _ rfl _ _ rfl rfl _ _ (HRUN3.out _) ?_; clear HRUN3)
    | (at_builtin; refine Lib.wpList_append_run _ rfl _ _ _ _ rfl _ _ rfl rfl _ _ (HRUN4.out _) ?_; clear HRUN4)
    | (go_at_call 10; refine HX2.out.mono ?_; rintro e w5 ⟨vt, rfl, hm5, hb5⟩; have HR5 := Lib.hid hm5.row; have HB5 := Lib.hid (HB4.out.trans (hb5.mono HB4.out.size)); have hz5 := HB5.out.size; obtain ⟨v6, w6, hrun6, hm6, hb6⟩ := copy_sn (HR4.out.below hb5) (by rw [HM.out]; omega); have HRUN6 := Lib.hid hrun6; have HM6 := Lib.hid hm6; have HB6 := Lib.hid (HB5.out.trans (hb6.mono HB5.out.size)); have HB56 := Lib.hid hb6; have hz6 := hb6.size; have HX3 := Lib.hid (cut_any _ B w6 (HRB.out.below HB6.out) (by rw [HNB.out]; omega)); clear hm5 hb5 hrun6 hm6 hb6 HX2 HR4 HB4 HB5)
    | (at_builtin; refine Lib.wpList_append_run _ rfl _ _ _ _ rfl _ _ rfl rfl _ _ (HRUN6.out _) ?_; clear HRUN6)
    | (go_at_call 10; refine HX3.out.mono ?_; rintro e w7 ⟨vq, rfl, hm7, hb7⟩; have HM7 := Lib.hid (HM6.out.below hb7); have HB57 := Lib.hid (HB56.out.trans (hb7.mono hz6)); have HB7 := Lib.hid (HB6.out.trans (hb7.mono HB6.out.size)); have hz7 := hb7.size; have HLT := Lib.hid (World.ownsRow.lt HM6.out); have HQ7 := Lib.hid hm7; obtain ⟨gq, qo, qc, hvq, hqo, hq1, hq2⟩ := hm7.shape; subst hvq; have HQO := Lib.hid hqo; clear hm7 hb7 hqo HX3 HM6 HB56 HB6))
  obtain ⟨mb, hmb⟩ : ∃ mb, (regs B).length = mb := ⟨_, rfl⟩
  rw [hmb] at hRB HQ7 ⊢
  have HMB := Lib.hid hmb
  obtain ⟨st, hst⟩ := chain_regs B
  have HC := Lib.hid hst
  have HJ := Lib.hid (ends_join B HE.out)
  rw [HNA.out] at HJ
  have HLJ : Hid ((regs (A ++ B)).length ≤ (k + 1) + mb) := Lib.hid (by rw [HJ.out, List.length_append, List.length_map, HM.out, HMB.out]; exact Nat.le_refl _)
  clear hmb hst
  go_loopw [9, 56] (fun vv p wr => ∃ (n : Nat) (X : List Sn), n ≤ mb ∧ X.length ≤ (k + 1) + n ∧ p = .int .i64 n ∧ X ++ ((regs B).drop n).map (shift la) = regs (A ++ B) ∧ Mine sn wr w5.heap.size vv X ∧ (∀ q, vv.ownBlock = some q → q < w6.heap.size ∨ w7.heap.size ≤ q) ∧ Below w5.heap.size w7 wr ∧ (∀ k, w6.heap.size ≤ k → k < w7.heap.size → wr.heap[k]? = w7.heap[k]?)) (fun _ p _ => mb - (intOf p).toNat)
  case atStart => exact ⟨0, regs A, Nat.zero_le _, by rw [HM.out]; exact Nat.le_refl _, rfl, by rw [List.drop_zero]; exact HJ.out.symm, HM7.out, fun q hq => .inl (HLT.out q hq).2, Below.refl _ _, fun _ _ _ => rfl⟩
  case round =>
    obtain ⟨n, X, hnm, hX, rfl, hle, hown, hnb, hb, hmid⟩ := hrel
    have HB := Lib.hid hb
    have HL := Lib.hid hle
    have HO := Lib.hid hown
    have HNB2 := Lib.hid hnb
    have HMID := Lib.hid hmid
    have hsz : w5.heap.size ≤ wr.heap.size ∧ w7.heap.size ≤ wr.heap.size := by have := hb.size; omega
    clear hb hle hown hnb hmid
    by_cases hlt : n < mb
    · have hltR : n < (regs B).length := by rw [HMB.out]; exact hlt
      have hd : decide ((n : Int) < (mb : Int)) = true := decide_eq_true (by omega)
      have hne : regs B ≠ [] := by intro e; rw [e] at hltR; simp at hltR
      have hqo := HQO.out hne
      subst hqo
      obtain ⟨h1, h2, h3, _⟩ := HC.out.at' n hltR
      rw [HNB.out] at h3
      have hq3 : gq < w7.heap.size := by
        rcases hq2 with h | ⟨h, _⟩
        · exact h
        · exact absurd h hne
      have hmono := HC.out.mono
      obtain ⟨c0, c1⟩ := cells_sn HQ7.out.cells n hltR
      rw [h1, Nat.zero_add] at c0 c1
      simp only [] at c0 c1
      have c0 := (World.cell?_of_block (a := ⟨gq, n * 2, none⟩) (HMID.out gq hq1 hq3)).trans c0
      have c1 := (World.cell?_of_block (a := ⟨gq, n * 2 + 1, none⟩) (HMID.out gq hq1 hq3)).trans c1
      rw [List.drop_eq_getElem_cons hltR, h1, List.map_cons] at HL
      generalize st (n + 1) = c' at *
      generalize st n = a' at *
      have HA := Lib.hid ((Below.refl wr.heap.size wr).alloc (Nat.le_refl _) (.cells #[.int .i64 (a' : Int), .int .i64 (c' : Int)] 30))
      have HO1 := Lib.hid (HO.out.below HA.out)
      obtain ⟨v8, w8, hrun8, hm8, hg8, ho8⟩ := push_sn_at HO1.out ((a' : Int) + (la : Int)) ((c' : Int) + (la : Int)) (by simp; omega) (by omega)
      rw [World.size_alloc] at hrun8 ho8
      have HRUN8 := Lib.hid hrun8
      have HM8 := Lib.hid hm8
      have HN8 : Hid (∀ q, v8.ownBlock = some q → q < w6.heap.size ∨ w7.heap.size ≤ q) := Lib.hid (fun q hq => by
        rcases ho8 with h | h
        · exact HNB2.out q (by rw [← h]; exact hq)
        · rw [h] at hq; cases hq; right; omega)
      have HB8 : Hid (Below w5.heap.size w7 w8) := Lib.hid (((HB.out.alloc hsz.1 _).alloc (by simp; omega) _).grown hg8 (by simp; omega) (fun q hq => (World.ownsRow.lt HO.out q hq).1))
      have HD8 : Hid (∀ k, w6.heap.size ≤ k → k < w7.heap.size → w8.heap[k]? = w7.heap[k]?) := Lib.hid (fun k hk1 hk2 => by
        have e1 := hg8.block k (by simp; omega) (fun e => by have := HNB2.out k e.symm; omega)
        rw [e1, (World.grownBy_alloc _ _ none).block k (by simp; omega) (fun e => by cases e), (World.grownBy_alloc _ _ none).block k (by omega) (fun e => by cases e)]
        exact HMID.out k hk1 hk2)
      clear hrun8 hm8 hg8 ho8 HO1 HA HB HO HNB2 HMID h1 hne hltR hmono hq2
      go_wp2_with (at_builtin; refine Lib.wpList_append_run _ rfl _ _ _ _ rfl _ _ rfl rfl _ _ (HRUN8.out _) ?_)
      go_roundw
      case rel => exact ⟨n + 1, X ++ [⟨(a' : Int) + (la : Int), (c' : Int) + (la : Int)⟩], by omega, by rw [List.length_append]; simp; omega, by go_num, by rw [← HL.out, List.append_assoc]; rfl, HM8.out, HN8.out, HB8.out, HD8.out⟩
      case measure => simp [intOf]; omega
    · have hd : decide ((n : Int) < (mb : Int)) = false := decide_eq_false (by omega)
      have hD : (regs B).drop n = [] := List.drop_of_length_le (by rw [HMB.out]; omega)
      rw [hD, List.map_nil, List.append_nil] at HL
      rw [HL.out] at HO
      obtain ⟨_, _, ow, cw, _, hvv, _, _⟩ := HO.out.row
      subst hvv
      have HSP := Lib.hid (spans_any (HR5.out.below (HB57.out.trans HB.out)) HO.out.row (by have := HLJ.out; omega))
      have HBE := Lib.hid (HB7.out.trans (HB.out.mono (by omega)))
      clear hD HO HL
      go_wp2_with (go_at_call 12; refine HSP.out.mono ?_; rintro e w9 ⟨rfl, hb9⟩; have HB9 := Lib.hid (HBE.out.trans (hb9.mono HBE.out.size)); clear hb9)
      go_ret
      exact ⟨rfl, HB9.out⟩
theorem joins_law (va vb : Value) (A B : List Tk) (w : World) (h1 : Row tk w va A) (h2 : Row tk w vb B) (hA : A.length ≤ 1048576) (hB : B.length ≤ 1048576) :
    Calls Try.prog 7 #[va, vb] w (True1 w) := by
  by_cases hE : A = []
  · exact joins_empty va vb A B w h1 h2 hA hB hE
  by_cases hR : regs A = []
  · exact joins_none va vb A B w h1 h2 hA hB hE hR
  by_cases hz : ((regs A).getLast hR).b = (A.length : Int)
  · rcases regs_more A with hq | hq
    · exact joins_open va vb A B w h1 h2 hA hB hE hR hz hq
    · exact joins_ends va vb A B w h1 h2 hA hB hE hR hz hq
  · exact joins_far va vb A B w h1 h2 hA hB hE hR hz
end Go.Proofs.Ytlemecnmjhhbiaa.ck
