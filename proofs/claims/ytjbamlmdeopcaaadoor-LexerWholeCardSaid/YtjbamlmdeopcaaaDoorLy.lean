/-
  Plain: what a token hangs on: the bytes near it, and nothing behind a line feed; its size.
-/
import Derived.Test.YtjbamlmdeopcaaaDoorLx
namespace Go.Proofs.YtjbamlmdeopcaaaDoor.lx
open Go

variable {L : Lang}
theorem right_width (k : Int) (w : Nat) : (right k w).width = w := rfl
theorem wrong_width (k : Int) (w : Nat) (c : Int) : (wrong k w c).width = w := rfl

theorem closed_near {kind code : Int} {n : Nat} {clo a : List UInt8} (x y : List UInt8) (hn : n ≤ a.length) (h : (closedL kind code n clo (a ++ x)).width < a.length) : closedL kind code n clo (a ++ y) = closedL kind code n clo (a ++ x) := by
  unfold closedL at h ⊢
  rw [List.drop_append_of_le_length hn, List.drop_append_of_le_length hn] at *
  by_cases c : Lib.index (a.drop n ++ x) clo < 0
  · rw [if_pos c, wrong_width, List.length_append] at h; omega
  · rw [if_neg c, right_width] at h
    have := index_near (a := a.drop n) (sub := clo) x y (by omega) (by rw [List.length_drop]; omega)
    rw [this]
    rw [if_neg c, if_neg c]
theorem closed_feed {kind code : Int} {n : Nat} {clo r : List UInt8} (y : List UInt8) (hn : n ≤ r.length) (hc : code ≠ 0) (h : (closedL kind code n clo r).code = 0) : closedL kind code n clo (r ++ 10 :: y) = closedL kind code n clo r := by
  unfold closedL at h ⊢
  rw [List.drop_append_of_le_length hn]
  by_cases c : Lib.index (r.drop n) clo < 0
  · rw [if_pos c] at h; exact absurd h hc
  · rw [index_more (10 :: y) (by omega), if_neg c, if_neg c]
theorem quoted_near {f : List UInt8 → Int × Nat} {kind code : Int} {q : UInt8} {a : List UInt8} (x y : List UInt8) (h1 : 1 ≤ a.length) (h : (quotedL f kind code q (a ++ x)).width < a.length) : quotedL f kind code q (a ++ y) = quotedL f kind code q (a ++ x) := by
  have hw : (quotedL f kind code q (a ++ x)).width = 1 + (lit q ((a ++ x).drop 1)).1 := by
    unfold quotedL
    simp only
    repeat' split
    all_goals rfl
  rw [hw, List.drop_append_of_le_length h1] at h
  have e := lit_near (q := q) (a := a.drop 1) x y (by rw [List.length_drop]; omega)
  unfold quotedL
  simp only []
  rw [List.drop_append_of_le_length h1, List.drop_append_of_le_length h1, e]
  rw [List.take_append_of_le_length (by omega), List.take_append_of_le_length (by omega)]
theorem quoted_feed {f : List UInt8 → Int × Nat} {kind code : Int} {q : UInt8} {r : List UInt8} (hq : q ≠ 10) (y : List UInt8) (h1 : 1 ≤ r.length) : quotedL f kind code q (r ++ 10 :: y) = quotedL f kind code q r := by
  have hl := lit_len q (r.drop 1)
  rw [List.length_drop] at hl
  unfold quotedL
  simp only []
  rw [List.drop_append_of_le_length h1, lit_feed hq, List.take_append_of_le_length (by omega)]
theorem quoted_width (f : List UInt8 → Int × Nat) (kind code : Int) (q : UInt8) (r : List UInt8) : (quotedL f kind code q r).width = 1 + (lit q (r.drop 1)).1 ∧ (quotedL f kind code q r).kind = kind := by
  unfold quotedL
  simp only
  repeat' split
  all_goals exact ⟨rfl, rfl⟩

/-- A token hangs on no more than three bytes behind it. -/
theorem nx_near {z : Bool} {a : List UInt8} (x y : List UInt8) (h : (nx L z (a ++ x)).width + 3 ≤ a.length) : nx L z (a ++ y) = nx L z (a ++ x) := by
  have h3 : 3 ≤ a.length := by omega
  unfold nx at h ⊢
  rw [← cls_near x y h3]
  have hpos : a ≠ [] := by rintro rfl; simp at h3
  obtain ⟨c, b, rfl⟩ : ∃ c b, a = c :: b := List.exists_cons_of_ne_nil hpos
  have hk := cls_le z c (b ++ x)
  rw [show c :: (b ++ x) = (c :: b) ++ x from rfl] at hk
  generalize cls z ((c :: b) ++ x) = k at h hk
  match k, hk, h with
  | 1, _, _ => rfl
  | 2, _, h => simp only [nxOf, right_width] at h ⊢; rw [runL_near x y (by omega)]
  | 3, _, _ => rfl
  | 4, _, h => simp only [nxOf, right_width] at h ⊢; rw [runL_near x y (by omega)]
  | 5, _, h => simp only [nxOf] at h ⊢; exact closed_near x y (by omega) (by omega)
  | 6, _, h =>
    simp only [nxOf, wordL, right_width] at h ⊢
    rw [runL_near x y (by omega), List.take_append_of_le_length (by omega), List.take_append_of_le_length (by omega)]
  | 7, _, h =>
    have hw : (numL L (c :: b ++ x)).width = runL isWd (c :: b ++ x) := by unfold numL; split <;> rfl
    simp only [nxOf] at h ⊢
    rw [hw] at h
    unfold numL
    rw [runL_near x y (by omega), List.take_append_of_le_length (by omega), List.take_append_of_le_length (by omega)]
  | 8, _, h => simp only [nxOf] at h ⊢; exact quoted_near x y (by omega) (by omega)
  | 9, _, h => simp only [nxOf] at h ⊢; exact quoted_near x y (by omega) (by omega)
  | 10, _, h => simp only [nxOf] at h ⊢; exact closed_near x y (by omega) (by omega)
  | 11, _, h =>
    simp only [nxOf] at h ⊢
    have hw : 1 ≤ (signL L (c :: b ++ x)).width := by
      unfold signL
      have := L.chr_pos (c :: b ++ x)
      repeat' split
      all_goals simp only [right_width, wrong_width]; omega
    obtain ⟨e1, e2⟩ := L.chr_near (c :: b) x y (by omega)
    unfold signL
    rw [e1, e2, L.op_near (c :: b) x y (by omega)]

/-- What the class of a beginning says of it. -/
structure Clue (z : Bool) (c : UInt8) (r : List UInt8) (k : Nat) : Prop where
  one : k = 1 → Lib.hasPrefix r mark = true ∧ z = true
  two : k = 2 → isBl c = true
  three : k = 3 → c = 10
  four : k = 4 → Lib.hasPrefix r [47, 47] = true ∧ noFeed c = true
  five : k = 5 → Lib.hasPrefix r [47, 42] = true
  six : k = 6 → isLt c = true
  seven : k = 7 → isDg c = true
  eight : k = 8 → c = 34
  nine : k = 9 → c = 39
  ten : k = 10 → c = 96
  eleven : k = 11 → isLt c = false ∧ isDg c = false ∧ isBl c = false ∧ c ≠ 10 ∧ (z && Lib.hasPrefix r mark) = false
theorem cls_clue (z : Bool) (c : UInt8) (b : List UInt8) : Clue z c (c :: b) (cls z (c :: b)) := by
  rw [cls]
  by_cases h1 : (z && Lib.hasPrefix (c :: b) mark) = true
  · rw [if_pos h1]; rw [Bool.and_eq_true] at h1; constructor <;> intro h <;> first | omega | exact ⟨h1.2, h1.1⟩
  rw [if_neg h1]
  by_cases h2 : isBl c = true
  · rw [if_pos h2]; constructor <;> intro h <;> first | omega | exact h2
  rw [if_neg h2]
  by_cases h3 : c = 10
  · rw [if_pos h3]; constructor <;> intro h <;> first | omega | exact h3
  rw [if_neg h3]
  by_cases h4 : Lib.hasPrefix (c :: b) [47, 47] = true
  · rw [if_pos h4]; constructor <;> intro h <;> first | omega | exact ⟨h4, by unfold noFeed; simpa using h3⟩
  rw [if_neg h4]
  by_cases h5 : Lib.hasPrefix (c :: b) [47, 42] = true
  · rw [if_pos h5]; constructor <;> intro h <;> first | omega | exact h5
  rw [if_neg h5]
  by_cases h6 : isLt c = true
  · rw [if_pos h6]; constructor <;> intro h <;> first | omega | exact h6
  rw [if_neg h6]
  by_cases h7 : isDg c = true
  · rw [if_pos h7]; constructor <;> intro h <;> first | omega | exact h7
  rw [if_neg h7]
  by_cases h8 : c = 34
  · rw [if_pos h8]; constructor <;> intro h <;> first | omega | exact h8
  rw [if_neg h8]
  by_cases h9 : c = 39
  · rw [if_pos h9]; constructor <;> intro h <;> first | omega | exact h9
  rw [if_neg h9]
  by_cases h10 : c = 96
  · rw [if_pos h10]; constructor <;> intro h <;> first | omega | exact h10
  rw [if_neg h10]
  constructor <;> intro h <;> first | omega | exact ⟨by simpa using h6, by simpa using h7, by simpa using h2, h3, by simpa using h1⟩
/-- What stands behind a line feed changes no token ahead of it, unless it goes on. -/
theorem nx_feed {z : Bool} {r : List UInt8} (hr : r ≠ []) (y : List UInt8) (h : (nx L z r).code ≠ 105) (h' : (nx L z r).code = 106 → r.head? ≠ some 96) : nx L z (r ++ 10 :: y) = nx L z r := by
  unfold nx at h h' ⊢
  rw [cls_feed hr]
  obtain ⟨c, b, rfl⟩ : ∃ c b, r = c :: b := List.exists_cons_of_ne_nil hr
  have hk := cls_le z c b
  obtain ⟨k, hkk⟩ : ∃ k, cls z (c :: b) = k := ⟨_, rfl⟩
  have hc := cls_clue z c b
  rw [hkk] at hc
  have two : k = 5 → 2 ≤ (c :: b).length := fun e => by
    have := (List.isPrefixOf_iff_prefix.1 (hc.five e)).length_le
    simpa using this
  have ten := hc.ten
  clear hc
  rw [hkk] at h h' hk ⊢
  match k, hk, h, h', two, ten with
  | 1, _, _, _, _, _ => rfl
  | 2, _, h, _, _, _ => simp only [nxOf]; rw [runL_feed (by decide)]
  | 3, _, _, _, _, _ => rfl
  | 4, _, h, _, _, _ => simp only [nxOf]; rw [runL_feed (by decide)]
  | 5, _, h, _, two, _ =>
    simp only [nxOf] at h ⊢
    refine closed_feed y (two rfl) (by decide) ?_
    unfold closedL at h ⊢
    split
    · rename_i c; rw [if_pos c] at h; exact absurd rfl h
    · rfl
  | 6, _, h, _, _, _ =>
    have hl := runL_len isWd (c :: b)
    simp only [nxOf, wordL]
    rw [runL_feed (by decide), List.take_append_of_le_length hl]
  | 7, _, h, _, _, _ =>
    have hl := runL_len isWd (c :: b)
    simp only [nxOf, numL]
    rw [runL_feed (by decide), List.take_append_of_le_length hl]
  | 8, _, h, _, _, _ => simp only [nxOf]; exact quoted_feed (by decide) y (by simp)
  | 9, _, h, _, _, _ => simp only [nxOf]; exact quoted_feed (by decide) y (by simp)
  | 10, _, h, h', _, ten =>
    simp only [nxOf] at h h' ⊢
    refine closed_feed y (by simp) (by decide) ?_
    unfold closedL at h h' ⊢
    split
    · rename_i c; rw [if_pos c] at h'; exact absurd (by rw [ten rfl]; rfl) (h' rfl)
    · rfl
  | 11, _, h, _, _, _ =>
    obtain ⟨e1, e2⟩ := L.chr_feed (c :: b) y (by simp)
    simp only [nxOf, signL]
    rw [e1, e2, L.op_feed]

/-- The size of a token and of what is said of it; its kind. -/
structure Sized (n : Nx) (r : List UInt8) : Prop where
  pos : 1 ≤ n.width
  len : n.width ≤ r.length
  said : n.code ≠ 0 → n.off + n.dw ≤ r.length
  kind : n.kind ≠ 16 ∧ 1 ≤ n.kind
theorem closed_sized {kind code : Int} {n : Nat} {clo r : List UInt8} (hn : n ≤ r.length) (h1 : 1 ≤ n) (hk : kind ≠ 16 ∧ 1 ≤ kind) : Sized (closedL kind code n clo r) r := by
  unfold closedL
  split
  · exact ⟨by simp only [wrong_width]; omega, Nat.le_refl _, fun _ => by simp [wrong], hk⟩
  · rename_i c
    have := Lib.index_room (r.drop n) clo (by omega)
    rw [List.length_drop] at this
    exact ⟨by simp only [right_width]; omega, by simp only [right_width]; omega, fun h => absurd rfl h, hk⟩
theorem quoted_sized {f : List UInt8 → Int × Nat} {kind code : Int} {q : UInt8} {r : List UInt8} (hf : ∀ r, (f r).1 ≠ 0 → r ≠ [] → (f r).2 < r.length) (h1 : 1 ≤ r.length) (hk : kind ≠ 16 ∧ 1 ≤ kind) : Sized (quotedL f kind code q r) r := by
  have hl := lit_len q (r.drop 1)
  rw [List.length_drop] at hl
  obtain ⟨hw, hkk⟩ := quoted_width f kind code q r
  refine ⟨by omega, by omega, ?_, by rw [hkk]; exact hk⟩
  unfold quotedL
  simp only
  split
  · intro _; show 0 + (1 + (lit q (r.drop 1)).1) ≤ _; omega
  · split
    · intro h; exact absurd rfl h
    · rename_i c
      intro _
      have := hf (r.take (1 + (lit q (r.drop 1)).1)) c (by intro e; have := congrArg List.length e; rw [List.length_take, List.length_nil] at this; omega)
      rw [List.length_take] at this
      show (f (r.take (1 + (lit q (r.drop 1)).1))).2 + 1 ≤ _
      omega
theorem nx_sized (z : Bool) (c : UInt8) (b : List UInt8) : Sized (nx L z (c :: b)) (c :: b) := by
  unfold nx
  have hk := cls_le z c b
  have hc := cls_clue z c b
  obtain ⟨k, hkk⟩ : ∃ k, cls z (c :: b) = k := ⟨_, rfl⟩
  rw [hkk] at hk hc ⊢
  have h1 : k = 1 → 3 ≤ (c :: b).length := fun e => by
    have := (List.isPrefixOf_iff_prefix.1 (hc.one e).1).length_le
    simpa [mark] using this
  have h2 := hc.two
  have h4 := fun e => (hc.four e).2
  have h5 : k = 5 → 2 ≤ (c :: b).length := fun e => by
    have := (List.isPrefixOf_iff_prefix.1 (hc.five e)).length_le
    simpa using this
  have h6 : k = 6 ∨ k = 7 → isWd c = true := fun e => by
    unfold isWd
    rcases e with e | e
    · rw [hc.six e]; rfl
    · rw [hc.seven e]; simp
  clear hkk hc
  match k, hk, h1, h2, h4, h5, h6 with
  | 1, _, h1, _, _, _, _ => exact ⟨by simp [nxOf, right], h1 rfl, fun h => absurd rfl h, by simp [nxOf, right]⟩
  | 2, _, _, h2, _, _, _ => exact ⟨runL_pos (h2 rfl), runL_len _ _, fun h => absurd rfl h, by simp [nxOf, right]⟩
  | 3, _, _, _, _, _, _ => exact ⟨by simp [nxOf, right], by simp [nxOf, right], fun h => absurd rfl h, by simp [nxOf, right]⟩
  | 4, _, _, _, h4, _, _ => exact ⟨runL_pos (h4 rfl), runL_len _ _, fun h => absurd rfl h, by simp [nxOf, right]⟩
  | 5, _, _, _, _, h5, _ => exact closed_sized (h5 rfl) (by omega) (by decide)
  | 6, _, _, _, _, _, h6 =>
    refine ⟨runL_pos (h6 (.inl rfl)), runL_len _ _, fun h => absurd rfl h, ?_⟩
    have := L.kw_kind ((c :: b).take (runL isWd (c :: b)))
    show (if _ then _ else _) ≠ _ ∧ _ ≤ (if _ then _ else _)
    split
    · decide
    · omega
  | 7, _, _, _, _, _, h6 =>
    have hp := runL_pos (p := isWd) (r := b) (h6 (.inr rfl))
    have hl := runL_len isWd (c :: b)
    show Sized (numL L (c :: b)) _
    unfold numL
    split
    · exact ⟨hp, hl, fun h => absurd rfl h, by simp [right]⟩
    · exact ⟨hp, hl, fun _ => by simpa [wrong] using hl, by simp [wrong]⟩
  | 8, _, _, _, _, _, _ => exact quoted_sized L.str_place (by simp) (by decide)
  | 9, _, _, _, _, _, _ => exact quoted_sized L.rune_place (by simp) (by decide)
  | 10, _, _, _, _, _, _ => exact closed_sized (by simp) (by omega) (by decide)
  | 11, _, _, _, _, _, _ =>
    have p1 := L.chr_pos (c :: b)
    have p2 := L.chr_len (c :: b) (by simp)
    have p3 := L.op_len (c :: b)
    have p4 := L.op_kind (c :: b)
    show Sized (signL L (c :: b)) _
    unfold signL
    split
    · rename_i hh
      have := p4 hh
      exact ⟨hh, p3, fun h => absurd rfl h, ⟨by show ((L.op (c :: b)).1 : Int) ≠ 16; omega, by show (1 : Int) ≤ ((L.op (c :: b)).1 : Int); omega⟩⟩
    · split
      · exact ⟨p1, p2, fun h => absurd rfl h, by simp [right]⟩
      · exact ⟨p1, p2, fun _ => by simpa [wrong] using p2, by simp [wrong]⟩
end Go.Proofs.YtjbamlmdeopcaaaDoor.lx
