/-
  Plain: where a token ends, a character ends; so where nothing is said of a text no token is bad.
-/
import Derived.Test.YtjbamlmdeopcaaaDoorLg
namespace Go.Proofs.YtjbamlmdeopcaaaDoor.lx
open Go Go.Proofs.YtjbamlmdeopcaaaDoor.tok

/-- How a token's end shows that a character ends there. -/
def Edge (r : List UInt8) (w : Nat) : Prop := w = r.length ∨ (∃ c, 1 ≤ w ∧ r[w - 1]? = some c ∧ c.toNat < 128) ∨ (∃ c, r[w]? = some c ∧ c.toNat < 128) ∨ w = chrOf r
theorem run_last {p : UInt8 → Bool} {r : List UInt8} (h : 1 ≤ runL p r) : ∃ c, r[runL p r - 1]? = some c ∧ p c = true := by
  induction r with
  | nil => simp [runL] at h
  | cons c r ih =>
    by_cases hc : p c = true
    · simp only [runL, if_pos hc, Nat.add_sub_cancel]
      by_cases h0 : runL p r = 0
      · rw [h0]; exact ⟨c, rfl, hc⟩
      · obtain ⟨d, h1, h2⟩ := ih (by omega)
        refine ⟨d, ?_, h2⟩
        obtain ⟨n, hn⟩ : ∃ n, runL p r = n + 1 := ⟨runL p r - 1, by omega⟩
        rw [hn] at h1 ⊢
        simpa using h1
    · simp [runL, hc] at h
theorem run_stop {p : UInt8 → Bool} {r : List UInt8} (h : runL p r < r.length) : ∃ c, r[runL p r]? = some c ∧ p c = false := by
  induction r with
  | nil => simp [runL] at h
  | cons c r ih =>
    by_cases hc : p c = true
    · simp only [runL, if_pos hc, List.length_cons] at h ⊢
      obtain ⟨d, h1, h2⟩ := ih (by omega)
      exact ⟨d, by simpa using h1, h2⟩
    · simp only [runL, if_neg hc]
      exact ⟨c, rfl, by simpa using hc⟩
theorem lit_edge (q : UInt8) (r : List UInt8) : ((lit q r).2 = true → ∃ n, (lit q r).1 = n + 1 ∧ r[n]? = some q) ∧ ((lit q r).2 = false → (lit q r).1 = r.length ∨ r[(lit q r).1]? = some 10) := by
  induction hn : r.length using Nat.strongRecOn generalizing r with
  | ind n ih =>
    match r, hn with
    | [], hn => exact ⟨fun h => by simp [lit] at h, fun _ => .inl (by rw [← hn]; rfl)⟩
    | [c], hn =>
      rw [lit]
      by_cases h1 : c = q
      · rw [if_pos h1]; exact ⟨fun _ => ⟨0, rfl, by rw [h1]; rfl⟩, fun h => by simp at h⟩
      · rw [if_neg h1]
        by_cases h2 : c = 10
        · rw [if_pos h2]; exact ⟨fun h => by simp at h, fun _ => .inr (by rw [h2]; rfl)⟩
        · rw [if_neg h2]; exact ⟨fun h => by simp at h, fun _ => .inl hn⟩
    | c :: d :: r, hn =>
      simp only [List.length_cons] at hn
      have i1 := ih r.length (by omega) r rfl
      have i2 := ih (d :: r).length (by simp; omega) (d :: r) rfl
      rw [lit]
      by_cases h1 : c = q
      · rw [if_pos h1]; exact ⟨fun _ => ⟨0, rfl, by rw [h1]; rfl⟩, fun h => by simp at h⟩
      rw [if_neg h1]
      by_cases h2 : c = 10
      · rw [if_pos h2]; exact ⟨fun h => by simp at h, fun _ => .inr (by rw [h2]; rfl)⟩
      rw [if_neg h2]
      by_cases h3 : c = 92
      · rw [if_pos h3]
        by_cases h4 : d = 10
        · rw [if_pos h4]; exact ⟨fun h => by simp at h, fun _ => .inr (by rw [h4]; rfl)⟩
        · rw [if_neg h4]
          refine ⟨fun h => ?_, fun h => ?_⟩
          · obtain ⟨m, e1, e2⟩ := i1.1 h
            exact ⟨m + 2, by simp only; omega, by simpa using e2⟩
          · rcases i1.2 h with e | e
            · exact .inl (by simp only; omega)
            · exact .inr (by simpa using e)
      · rw [if_neg h3]
        refine ⟨fun h => ?_, fun h => ?_⟩
        · obtain ⟨m, e1, e2⟩ := i2.1 h
          exact ⟨m + 1, by simp only; omega, by simpa using e2⟩
        · rcases i2.2 h with e | e
          · exact .inl (by simp only [List.length_cons] at e ⊢; omega)
          · exact .inr (by simpa using e)
theorem closed_edge {kind code : Int} {n : Nat} {clo r : List UInt8} {c : UInt8} {k : Nat} (hk : clo.length = k + 1) (hc : clo[k]? = some c) (h128 : c.toNat < 128) : Edge r (closedL kind code n clo r).width := by
  unfold closedL
  split
  · exact .inl rfl
  · rename_i h
    refine .inr (.inl ⟨c, by simp only [right_width]; omega, ?_, h128⟩)
    simp only [right_width]
    rcases Lib.index_spec (r.drop n) clo with ⟨h1, _⟩ | ⟨i, h1, h2, h3, _⟩
    · omega
    · rw [h1, Int.toNat_natCast, hk, show n + i + (k + 1) - 1 = n + i + k by omega]
      obtain ⟨t, ht⟩ := List.isPrefixOf_iff_prefix.1 h3
      have e : r[n + i + k]? = ((r.drop n).drop i)[k]? := by rw [List.drop_drop, List.getElem?_drop]
      rw [e, ← ht, List.getElem?_append_left (by omega)]
      exact hc
theorem signs_ascii (k : Nat) : ∀ c ∈ signs.getD k [], c.toNat < 128 := by
  by_cases h : k < 46
  · have : ∀ j : Fin 46, ∀ c ∈ signs.getD j.val [], c.toNat < 128 := by decide
    exact this ⟨k, h⟩
  · rw [List.getD_eq_getElem?_getD, List.getElem?_eq_none (by rw [signs_length]; omega)]; simp
theorem best_edge (r : List UInt8) (k : Nat) : 1 ≤ (best r k).2 → ∃ c, r[(best r k).2 - 1]? = some c ∧ c.toNat < 128 := by
  induction k with
  | zero => simp [best]
  | succ k ih =>
    unfold best
    split
    · rename_i h
      intro h1
      simp only at h1 ⊢
      obtain ⟨t, ht⟩ := List.isPrefixOf_iff_prefix.1 h.2
      have hl : (signs.getD k []).length - 1 < (signs.getD k []).length := by omega
      refine ⟨(signs.getD k [])[(signs.getD k []).length - 1], ?_, signs_ascii k _ (List.getElem_mem hl)⟩
      rw [← ht, List.getElem?_append_left hl, List.getElem?_eq_getElem hl]
    · exact ih
theorem op_edge (r : List UInt8) (h : 0 < (opOf r).2) : ∃ c, r[(opOf r).2 - 1]? = some c ∧ c.toNat < 128 := by
  unfold opOf at h ⊢
  split
  · rename_i hp
    obtain ⟨t, ht⟩ := List.isPrefixOf_iff_prefix.1 hp
    exact ⟨59, by rw [← ht]; rfl, by decide⟩
  · rename_i hp
    rw [if_neg hp] at h
    exact best_edge r 46 h
theorem byte_of_z {c : UInt8} (h : isBl c = true ∨ isWd c = true) : c.toNat < 128 := by
  rcases h with h | h
  · unfold isBl at h
    simp only [Bool.or_eq_true, beq_iff_eq] at h
    rcases h with (h | h) | h <;> (rw [h]; decide)
  · unfold isWd isLt isDg at h
    simp only [Bool.or_eq_true, Bool.and_eq_true, decide_eq_true_iff, beq_iff_eq, UInt8.le_iff_toNat_le] at h
    have e2 : (90 : UInt8).toNat = 90 := rfl
    have e4 : (122 : UInt8).toNat = 122 := rfl
    have e5 : (57 : UInt8).toNat = 57 := rfl
    rcases h with ((h | h) | h) | h
    · omega
    · omega
    · rw [h]; decide
    · omega
theorem quoted_edge {f : List UInt8 → Int × Nat} {kind code : Int} {q c : UInt8} {b : List UInt8} (hq : q.toNat < 128) : Edge (c :: b) (quotedL f kind code q (c :: b)).width := by
  rw [(quoted_width f kind code q (c :: b)).1]
  have h := lit_edge q b
  show Edge (c :: b) (1 + (lit q b).1)
  cases h2 : (lit q b).2 with
  | true =>
    obtain ⟨n, e1, e2⟩ := h.1 h2
    exact .inr (.inl ⟨q, by omega, by rw [e1, show 1 + (n + 1) - 1 = n + 1 by omega]; simpa using e2, hq⟩)
  | false =>
    rcases h.2 h2 with e | e
    · exact .inl (by rw [e, List.length_cons]; omega)
    · exact .inr (.inr (.inl ⟨10, by rw [Nat.add_comm]; simpa using e, by decide⟩))
theorem nx_edge (z : Bool) (c : UInt8) (b : List UInt8) : Edge (c :: b) (nx lang z (c :: b)).width := by
  have hs := nx_sized (L := lang) z c b
  unfold nx at hs ⊢
  have hk := cls_le z c b
  have hc := cls_clue z c b
  generalize cls z (c :: b) = k at *
  have word : isWd c = true → ∃ d, 1 ≤ runL isWd (c :: b) ∧ (c :: b)[runL isWd (c :: b) - 1]? = some d ∧ d.toNat < 128 := fun h => by
    have h1 := runL_pos (p := isWd) (r := b) h
    obtain ⟨d, e1, e2⟩ := run_last (p := isWd) h1
    exact ⟨d, h1, e1, byte_of_z (.inr e2)⟩
  match k, hk, hc, hs with
  | 1, _, hc, _ =>
    refine .inr (.inr (.inr ?_))
    obtain ⟨t, ht⟩ := List.isPrefixOf_iff_prefix.1 (hc.one rfl).1
    rw [← ht]
    show 3 = (Lib.decodeN (mark ++ t).length 239 187 191 _).2
    have hl : (mark ++ t).length = 3 + t.length := by rw [List.length_append]; rfl
    unfold Lib.decodeN
    rw [if_neg (by omega), if_neg (by omega), if_pos (by omega), if_pos (by omega)]
  | 2, _, hc, _ =>
    have h1 := runL_pos (p := isBl) (r := b) (hc.two rfl)
    obtain ⟨d, e1, e2⟩ := run_last (p := isBl) h1
    exact .inr (.inl ⟨d, h1, e1, byte_of_z (.inl e2)⟩)
  | 3, _, hc, _ => exact .inr (.inl ⟨10, Nat.le_refl _, by rw [hc.three rfl]; rfl, by decide⟩)
  | 4, _, hc, _ =>
    by_cases h : runL noFeed (c :: b) < (c :: b).length
    · obtain ⟨d, e1, e2⟩ := run_stop h
      refine .inr (.inr (.inl ⟨d, e1, ?_⟩))
      unfold noFeed at e2
      have : d = 10 := by simpa using e2
      rw [this]; decide
    · have := runL_len noFeed (c :: b)
      exact .inl (by show runL noFeed (c :: b) = _; omega)
  | 5, _, _, _ =>
    exact closed_edge (c := 47) (k := 1) rfl rfl (by decide)
  | 6, _, hc, _ => exact .inr (.inl (word (by unfold isWd; rw [hc.six rfl]; rfl)))
  | 7, _, hc, _ =>
    have hw : (numL lang (c :: b)).width = runL isWd (c :: b) := by unfold numL; split <;> rfl
    show Edge _ (numL lang (c :: b)).width
    rw [hw]
    exact .inr (.inl (word (by unfold isWd; rw [hc.seven rfl]; simp)))
  | 8, _, _, _ => exact quoted_edge (by decide)
  | 9, _, _, _ => exact quoted_edge (by decide)
  | 10, _, _, _ => exact closed_edge (c := 96) (k := 0) rfl rfl (by decide)
  | 11, _, _, _ =>
    show Edge _ (signL lang (c :: b)).width
    unfold signL
    split
    · rename_i h
      obtain ⟨d, e1, e2⟩ := op_edge (c :: b) h
      exact .inr (.inl ⟨d, h, e1, e2⟩)
    · split
      · exact .inr (.inr (.inr rfl))
      · exact .inr (.inr (.inr rfl))
/-- A bad token: something is said of it, or of the character. -/
theorem bad_is (z : Bool) (c : UInt8) (b : List UInt8) (h : (nx lang z (c :: b)).kind = 5) : ((nx lang z (c :: b)).code ≠ 0 ∨ saidOf (c :: b) = true) ∧ (z && Lib.hasPrefix (c :: b) mark) = false := by
  unfold nx at h ⊢
  have hk := cls_le z c b
  have hc := cls_clue z c b
  generalize cls z (c :: b) = k at *
  match k, hk, hc, h with
  | 1, _, _, h => exact absurd (show (1 : Int) = 5 from h) (by decide)
  | 2, _, _, h => exact absurd (show (1 : Int) = 5 from h) (by decide)
  | 3, _, _, h => exact absurd (show (2 : Int) = 5 from h) (by decide)
  | 4, _, _, h => exact absurd (show (3 : Int) = 5 from h) (by decide)
  | 5, _, _, h =>
    have : (closedL 4 105 2 [42, 47] (c :: b)).kind = 4 := by unfold closedL; split <;> rfl
    exact absurd (this.symm.trans h) (by decide)
  | 6, _, _, h =>
    have := lang.kw_kind ((c :: b).take (runL isWd (c :: b)))
    have h : (if lang.kw ((c :: b).take (runL isWd (c :: b))) = 0 then (10 : Int) else lang.kw ((c :: b).take (runL isWd (c :: b)))) = 5 := h
    split at h <;> omega
  | 7, _, _, h =>
    have : (numL lang (c :: b)).kind = 11 := by unfold numL; split <;> rfl
    exact absurd (this.symm.trans h) (by decide)
  | 8, _, _, h => exact absurd ((quoted_width lang.str 13 106 34 (c :: b)).2.symm.trans h) (by decide)
  | 9, _, _, h => exact absurd ((quoted_width lang.rune 12 107 39 (c :: b)).2.symm.trans h) (by decide)
  | 10, _, _, h =>
    have : (closedL 14 106 1 [96] (c :: b)).kind = 14 := by unfold closedL; split <;> rfl
    exact absurd (this.symm.trans h) (by decide)
  | 11, _, hc, h =>
    refine ⟨?_, (hc.eleven rfl).2.2.2.2⟩
    have h : (signL lang (c :: b)).kind = 5 := h
    show (signL lang (c :: b)).code ≠ 0 ∨ _
    unfold signL at h ⊢
    split
    · rename_i h0
      rw [if_pos h0] at h
      have := (lang.op_kind (c :: b) h0).1
      have h : ((lang.op (c :: b)).1 : Int) = 5 := h
      omega
    · split
      · rename_i h1; exact .inr h1
      · exact .inl (show (104 : Int) ≠ 0 by decide)

/-! A text of which nothing is said. -/
theorem cont_bytes {n b0 b1 b2 b3 k : Nat} (h : (Lib.decodeN n b0 b1 b2 b3).2 = k) : (1 < k → 128 ≤ b1) ∧ (2 < k → 128 ≤ b2) ∧ (3 < k → 128 ≤ b3) := by
  unfold Lib.decodeN at h
  revert h
  repeat' split
  all_goals (intro h; simp only at h; omega)
theorem wide_drop (s : ByteArray) (p : Nat) : Utf8.decode s p = decL (s.data.toList.drop p) := by
  have e := Lib.tail_decode s p 0
  rw [Nat.add_zero] at e
  rw [← e]
  by_cases h : p ≤ s.size
  · have : s.extract p s.size = B (s.data.toList.drop p) := by
      rw [b_extract, List.take_of_length_le (by rw [List.length_drop, sdata]; omega)]
    rw [this, dec_b]
  · have : s.extract p s.size = B (s.data.toList.drop p) := by
      rw [b_extract, List.drop_of_length_le (by rw [sdata]; omega), List.take_nil]
    rw [this, dec_b]
def Fine (s : ByteArray) (p : Nat) : Prop := dec.diags s p = []
theorem Fine.step {s : ByteArray} {p : Nat} (h : Fine s p) (hp : p < s.size) : dec.codeAt s p = 0 ∧ Fine s (p + dec.wideAt s p) := by
  unfold Fine at h
  rw [dec.diags_step s p hp] at h
  obtain ⟨h1, h2⟩ := List.append_eq_nil_iff.1 h
  refine ⟨?_, h2⟩
  unfold dec.headOf at h1
  by_cases c : dec.codeAt s p = 0
  · exact c
  · rw [if_neg c] at h1; cases h1
theorem Fine.ascii {s : ByteArray} : ∀ (n p i : Nat), i - p ≤ n → Fine s p → p ≤ i → (hi : i < s.size) → s[i].toNat < 128 → Fine s i ∧ Fine s (i + 1) := by
  intro n
  induction n with
  | zero =>
    intro p i hn hf hpi hi hc
    obtain rfl : p = i := by omega
    refine ⟨hf, ?_⟩
    have := (hf.step hi).2
    have hw : dec.wideAt s p = 1 := by
      unfold dec.wideAt
      rw [dec.decode_bytes, dec.get_lt s p hi]
      unfold Lib.decodeN
      rw [if_pos hc]
    rwa [hw] at this
  | succ n ih =>
    intro p i hn hf hpi hi hc
    by_cases he : p = i
    · exact ih p i (by omega) hf hpi hi hc
    · have hp : p < s.size := by omega
      have h2 := (hf.step hp).2
      have hw1 := dec.wide_pos s p
      have hcb := cont_bytes (n := s.size - p) (b0 := (s.get! p).toNat) (b1 := (s.get! (p + 1)).toNat) (b2 := (s.get! (p + 2)).toNat) (b3 := (s.get! (p + 3)).toNat) (k := dec.wideAt s p) (by unfold dec.wideAt; rw [dec.decode_bytes])
      have hle : dec.wideAt s p ≤ 4 := by
        unfold dec.wideAt
        rw [dec.decode_bytes]
        unfold Lib.decodeN
        repeat' split
        all_goals simp
      have hpast : p + dec.wideAt s p ≤ i := by
        rcases Nat.lt_or_ge i (p + dec.wideAt s p) with h | h
        · exfalso
          rw [← dec.get_lt s i hi] at hc
          rcases (show i = p + 1 ∨ i = p + 2 ∨ i = p + 3 by omega) with e | e | e
          · rw [e] at hc; have := hcb.1 (by omega); omega
          · rw [e] at hc; have := hcb.2.1 (by omega); omega
          · rw [e] at hc; have := hcb.2.2 (by omega); omega
        · exact h
      exact ih (p + dec.wideAt s p) i (by omega) h2 hpast hi hc
theorem Fine.edge {s : ByteArray} {p : Nat} (hf : Fine s p) (hp : p < s.size) : Fine s (p + (nxAt lang s.data.toList p).width) := by
  have hpl : p < s.data.toList.length := by rw [sdata]; exact hp
  have hle := at_le (L := lang) hpl
  rw [sdata] at hle
  by_cases hend : p + (nxAt lang s.data.toList p).width < s.size
  · have hd := List.drop_eq_getElem_cons hpl
    have he : Edge (s.data.toList.drop p) (nxAt lang s.data.toList p).width := by
      unfold nxAt
      rw [hd]
      exact nx_edge _ _ _
    have hb : ∀ i (h : p + i < s.size) c, (s.data.toList.drop p)[i]? = some c → s[p + i] = c := by
      intro i h c hc
      rw [List.getElem?_drop, List.getElem?_eq_getElem (by rw [sdata]; exact h)] at hc
      exact Option.some.inj hc
    generalize (nxAt lang s.data.toList p).width = w at *
    rcases he with e | ⟨c, h1, h2, h3⟩ | ⟨c, h2, h3⟩ | e
    · rw [List.length_drop, sdata] at e; omega
    · have hi : p + (w - 1) < s.size := by omega
      have := hb (w - 1) hi c h2
      have := (Fine.ascii _ p (p + (w - 1)) (Nat.le_refl _) hf (by omega) hi (by rw [this]; exact h3)).2
      rwa [show p + (w - 1) + 1 = p + w by omega] at this
    · have := hb w hend c h2
      exact (Fine.ascii _ p (p + w) (Nat.le_refl _) hf (by omega) hend (by rw [this]; exact h3)).1
    · have hw : dec.wideAt s p = w := by unfold dec.wideAt; rw [wide_drop, e]; rfl
      have := (hf.step hp).2
      rwa [hw] at this
  · exact dec.diags_end s _ hend
/-- Where nothing is said of a text no token is bad. -/
theorem no_bad (s : ByteArray) (hf : Fine s 0) (hd : dgs lang s.data.toList 0 = []) : ∀ t ∈ bare lang s.data.toList 0, t.k ≠ 5 := by
  have all : ∀ p, Fine s p → dgs lang s.data.toList p = [] → ∀ t ∈ bare lang s.data.toList p, t.k ≠ 5 := by
    refine along (L := lang) (l := s.data.toList) (fun p h _ _ => by rw [bare_end h]; simp) (fun p h ih hf hd => ?_)
    have hp : p < s.size := by rw [sdata] at h; exact h
    rw [dgs_step h] at hd
    obtain ⟨d1, d2⟩ := List.append_eq_nil_iff.1 hd
    rw [bare_step h]
    intro t ht
    rcases List.mem_cons.1 ht with rfl | ht
    · intro h5
      have hdr := List.drop_eq_getElem_cons h
      have h5 : (nxAt lang s.data.toList p).kind = 5 := h5
      have hb := bad_is (p == 0) _ _ (by rw [← hdr]; exact h5)
      rw [← hdr] at hb
      rcases hb.1 with hc | hs
      · unfold dgAt at d1
        rw [if_neg (show (nxAt lang s.data.toList p).code ≠ 0 from hc)] at d1
        cases d1
      · have hc := (hf.step hp).1
        unfold saidOf at hs
        have hs := of_decide_eq_true hs
        have hr : dec.runeAt s p = (decL (s.data.toList.drop p)).1 := by unfold dec.runeAt; rw [wide_drop]
        have hw : dec.wideAt s p = (decL (s.data.toList.drop p)).2 := by unfold dec.wideAt; rw [wide_drop]
        unfold dec.codeAt at hc
        rw [hr, hw] at hc
        have hm : p = 0 → dec.runeAt s p ≠ 65279 := by
          rintro rfl hm
          obtain ⟨m1, m2, m3, m4⟩ := dec.mark_iff.1 hm
          have hb2 := hb.2
          have : Lib.hasPrefix s.data.toList mark = true := by
            unfold Lib.hasPrefix
            rw [List.isPrefixOf_iff_prefix]
            have g : ∀ i (hi : i < s.size), s.data.toList[i]'(by rw [sdata]; exact hi) = s.get! i := fun i hi => (dec.get_lt s i hi).symm
            have e0 : s.get! 0 = 239 := UInt8.toNat_inj.1 m2
            have e1 : s.get! (0 + 1) = 187 := UInt8.toNat_inj.1 m3
            have e2 : s.get! (0 + 2) = 191 := UInt8.toNat_inj.1 m4
            refine ⟨s.data.toList.drop 3, ?_⟩
            conv => rhs; rw [← List.drop_zero (l := s.data.toList), List.drop_eq_getElem_cons (by rw [sdata]; omega), List.drop_eq_getElem_cons (by rw [sdata]; omega), List.drop_eq_getElem_cons (by rw [sdata]; omega)]
            rw [g 0 (by omega), g (0 + 1) (by omega), g (0 + 1 + 1) (by omega), e0, e1, e2]
            rfl
          rw [List.drop_zero, this] at hb2
          simp at hb2
        rw [hr] at hm
        unfold dec.faultZ at hc hs
        by_cases f1 : ((decL (s.data.toList.drop p)).1 : Int) = 65533 ∧ ((decL (s.data.toList.drop p)).2 : Int) = 1
        · rw [if_pos f1] at hc; omega
        · rw [if_neg f1] at hc hs
          by_cases f2 : ((decL (s.data.toList.drop p)).1 : Int) = 0
          · rw [if_pos f2] at hc; omega
          · rw [if_neg f2] at hc hs
            by_cases f3 : ((decL (s.data.toList.drop p)).1 : Int) = 65279
            · have hp0 : p ≠ 0 := fun e => hm e (by omega)
              rw [if_pos ⟨f3, by omega⟩] at hc
              omega
            · rw [if_neg (fun h => f3 h.1)] at hs
              exact hs rfl
    · exact ih (hf.edge hp) d2 t ht
  exact all 0 hf hd
end Go.Proofs.YtjbamlmdeopcaaaDoor.lx
