/-
  Layer 4: Touched, the reference's; the statements' own comparison of two rows of spans.
-/
import Derived.Test.YtlemecnmjhhbiaaCa
namespace Go.Proofs.Ytlemecnmjhhbiaa.ck
open Go.RowKit

/-- How many spans stand at the beginning with such an end; then, with such a beginning. -/
def toN (x : Int) : List Sn → Nat
  | [] => 0
  | s :: r => if s.b ≤ x then toN x r + 1 else 0
def frN (y : Int) : List Sn → Nat
  | [] => 0
  | s :: r => if s.a < y then frN y r + 1 else 0
theorem toN_le (x : Int) (T : List Sn) : toN x T ≤ T.length := by
  induction T with
  | nil => simp [toN]
  | cons s r ih => rw [toN, List.length_cons]; split <;> omega
theorem frN_le (x : Int) (T : List Sn) : frN x T ≤ T.length := by
  induction T with
  | nil => simp [frN]
  | cons s r ih => rw [frN, List.length_cons]; split <;> omega
def touA (x : Int) (T : List Sn) : Nat := toN x T
def touB (x y : Int) (T : List Sn) : Nat := toN x T + frN y (T.drop (toN x T))
def Two (a b : Int) (w : World) (e : Ending) (w' : World) : Prop := e = .returned (.agg #[.int .i64 a, .int .i64 b]) ∧ Below w.heap.size w w'

theorem two_at (w : World) (B : Nat) (a b : Value) (e : TypeId) (h : w.heap[B]? = some (.cells #[a, b] e (0, 0))) : (w.cell? ⟨B, 0, none⟩ = some a ∧ w.cell? ⟨B, 1, none⟩ = some b) ∧ w.frozen? ⟨B, 0, none⟩ = false ∧ w.frozen? ⟨B, 1, none⟩ = false :=
  ⟨⟨by rw [cell_of_row w B 0 _ e (0, 0) h]; rfl, by rw [cell_of_row w B 1 _ e (0, 0) h]; rfl⟩, frozen_of_row w B 0 _ e h, frozen_of_row w B 1 _ e h⟩

set_option maxRecDepth 100000 in
set_option maxHeartbeats 4000000 in
theorem touched_any (v : Value) (T : List Sn) (x y : Int) (w : World) (hr : Row sn w v T) (hn : T.length ≤ 140737488355328) :
    Calls Try.prog 15 #[v, .int .i64 x, .int .i64 y] w (Two (touA x T) (touB x y T) w) := by
  obtain ⟨g, off, o, cap, hc, rfl, ho, hcell⟩ := hr
  have HC := Lib.hid hcell
  have HO := Lib.hid ho
  clear hcell ho
  obtain ⟨len, hlen⟩ : ∃ len, T.length = len := ⟨_, rfl⟩
  rw [hlen] at hc hn
  have HN := Lib.hid hlen
  rw [HN.out]
  clear hlen
  go_enter Try.func15, Try.ntmps15
  go_wp2
  obtain ⟨B, hBd⟩ : ∃ B, w.heap.size = B := ⟨_, rfl⟩
  have h60 : ((w.alloc (.cells #[.int .i64 0, .int .i64 0] 30)).alloc (.cells #[.int .i64 0, .int .i64 0] 30)).heap[B]? = some (.cells #[.int .i64 0, .int .i64 0] 30 (0, 0)) := by
    rw [← hBd, (World.grownBy_alloc _ _ none).block _ (by simp) (fun e => by cases e)]; exact heap_alloc_last w _
  have h70 : ((w.alloc (.cells #[.int .i64 0, .int .i64 0] 30)).alloc (.cells #[.int .i64 0, .int .i64 0] 30)).heap[B + 1]? = some (.cells #[.int .i64 0, .int .i64 0] 30 (0, 0)) := by
    have := heap_alloc_last (w.alloc (.cells #[.int .i64 0, .int .i64 0] 30)) (.cells #[.int .i64 0, .int .i64 0] 30)
    rw [World.size_alloc, hBd] at this; exact this
  have hb0 : Below w.heap.size w ((w.alloc (.cells #[.int .i64 0, .int .i64 0] 30)).alloc (.cells #[.int .i64 0, .int .i64 0] 30)) := ((Below.refl _ w).alloc (Nat.le_refl _) _).alloc (by simp) _
  rw [hBd]
  go_loopw [] (fun wr => ∃ n : Nat, n ≤ len ∧ n + toN x (T.drop n) = toN x T ∧ wr.heap[B]? = some (.cells #[.int .i64 0, .int .i64 0] 30 (0, 0)) ∧ wr.heap[B + 1]? = some (.cells #[.int .i64 n, .int .i64 0] 30 (0, 0)) ∧ Below w.heap.size w wr) (fun wr => len - (intOf ((wr.cell? ⟨B + 1, 0, none⟩).getD undef)).toNat)
  case atStart => exact ⟨0, Nat.zero_le _, by simp, h60, h70, hb0⟩
  case round =>
    obtain ⟨n, hnl, hle, h6, h7, hb⟩ := hrel
    have HB := Lib.hid hb
    have HL := Lib.hid hle
    have H6 := Lib.hid h6
    have H7 := Lib.hid h7
    obtain ⟨⟨c7, c7'⟩, f7, f7'⟩ := two_at wr (B + 1) _ _ _ h7
    clear hb hle h6 h7
    by_cases hlt : n < len
    · have hltT : n < T.length := by rw [HN.out]; exact hlt
      have hd : decide ((n : Int) < (len : Int)) = true := decide_eq_true (by omega)
      have hne : T ≠ [] := by rintro rfl; simp at hltT
      have ho := HO.out hne
      subst ho
      obtain ⟨c0, c1⟩ := cells_sn (HC.out.below HB.out) n hltT
      rw [List.drop_eq_getElem_cons hltT, toN] at HL
      generalize T[n] = t at *
      obtain ⟨a, b⟩ := t
      simp only [] at c0 c1 HL
      clear hne hltT
      by_cases hbx : b ≤ x
      · have hdx : decide (b ≤ x) = true := decide_eq_true hbx
        rw [if_pos hbx] at HL
        clear hbx
        go_wp2_with fail
        go_roundw
        case rel => exact ⟨n + 1, by omega, by rw [← HL.out]; omega, (heap_setCell_other wr ⟨B + 1, 0, none⟩ B _ (by simp)).trans H6.out, heap_setCell_same wr (B + 1) 0 _ _ _ H7.out, HB.out.setCell (p := ⟨B + 1, 0, none⟩) (by show w.heap.size ≤ B + 1; omega) _⟩
        case measure =>
          have := (two_at _ (B + 1) _ _ _ (heap_setCell_same wr (B + 1) 0 _ _ (.int .i64 ((n : Int) + 1)) H7.out)).1.1
          rw [this, c7]
          simp [intOf]
          omega
      · have hdx : decide (b ≤ x) = false := decide_eq_false hbx
        rw [if_neg hbx] at HL
        clear hbx
        go_wp2_with fail
        have H6 := Lib.hid ((heap_setCell_other wr ⟨B + 1, 1, none⟩ B (.int .i64 (n : Int)) (by simp)).trans H6.out)
        have H7 := Lib.hid (heap_setCell_same wr (B + 1) 1 _ _ (.int .i64 (n : Int)) H7.out)
        have HB := Lib.hid (HB.out.setCell (p := ⟨B + 1, 1, none⟩) (by show w.heap.size ≤ B + 1; omega) (.int .i64 (n : Int)))
        generalize wr.setCell ⟨B + 1, 1, none⟩ (.int .i64 (n : Int)) = w1 at H6 H7 HB ⊢
        have HE : Hid (touB x y T = n + frN y (T.drop n)) := Lib.hid (by unfold touB; rw [← HL.out, Nat.add_zero])
        have HE0 : Hid (touA x T = n) := Lib.hid (by unfold touA; rw [← HL.out, Nat.add_zero])
        go_loopw [] (fun wr => ∃ m : Nat, m ≤ len ∧ m + frN y (T.drop m) = touB x y T ∧ wr.heap[B]? = some (.cells #[.int .i64 0, .int .i64 0] 30 (0, 0)) ∧ wr.heap[B + 1]? = some (.cells #[.int .i64 n, .int .i64 m] 30 (0, 0)) ∧ Below w.heap.size w wr) (fun wr => len - (intOf ((wr.cell? ⟨B + 1, 1, none⟩).getD undef)).toNat)
        case atStart => exact ⟨n, hnl, HE.out.symm, H6.out, H7.out, HB.out⟩
        case round =>
          clear H6 H7 HB HL HE
          obtain ⟨m, hml, hle, h6, h7, hb⟩ := hrel
          have HB := Lib.hid hb
          have HL := Lib.hid hle
          have H6 := Lib.hid h6
          have H7 := Lib.hid h7
          obtain ⟨⟨c7, c7'⟩, f7, f7'⟩ := two_at wr (B + 1) _ _ _ h7
          obtain ⟨⟨c6, c6'⟩, f6, f6'⟩ := two_at wr B _ _ _ h6
          clear hb hle h6 h7
          by_cases hlt : m < len
          · have hltT : m < T.length := by rw [HN.out]; exact hlt
            have hd : decide ((m : Int) < (len : Int)) = true := decide_eq_true (by omega)
            have hne : T ≠ [] := by rintro rfl; simp at hltT
            have ho := HO.out hne
            try subst ho
            obtain ⟨c0, c1⟩ := cells_sn (HC.out.below HB.out) m hltT
            rw [List.drop_eq_getElem_cons hltT, frN] at HL
            generalize T[m] = t at *
            obtain ⟨a, b⟩ := t
            simp only [] at c0 c1 HL
            clear hne hltT
            by_cases hbx : a < y
            · have hdx : decide (a < y) = true := decide_eq_true hbx
              rw [if_pos hbx] at HL
              clear hbx
              go_wp2_with fail
              go_roundw
              case rel => exact ⟨m + 1, by omega, by rw [← HL.out]; omega, (heap_setCell_other wr ⟨B + 1, 1, none⟩ B _ (by simp)).trans H6.out, heap_setCell_same wr (B + 1) 1 _ _ _ H7.out, HB.out.setCell (p := ⟨B + 1, 1, none⟩) (by show w.heap.size ≤ B + 1; omega) _⟩
              case measure =>
                have := (two_at _ (B + 1) _ _ _ (heap_setCell_same wr (B + 1) 1 _ _ (.int .i64 ((m : Int) + 1)) H7.out)).1.2
                rw [this, c7']
                simp [intOf]
                omega
            · have hdx : decide (a < y) = false := decide_eq_false hbx
              rw [if_neg hbx] at HL
              clear hbx
              go_wp2_with fail
              refine bodyPost_ret (v := .agg #[.int .i64 n, .int .i64 m]) (results_cell_row Try.results15 _ _ B 30 _ (0, 0) _ rfl (heap_setCell_same _ B 1 _ _ _ (heap_setCell_same _ B 0 _ _ _ H6.out)) Try.underlying30 rfl (by as_aux_lemma => kernel_rfl)) rfl ⟨?_, ?_⟩
              · rw [HE0.out, ← HL.out, Nat.add_zero]
              · exact (HB.out.setCell (p := ⟨B, 0, none⟩) (by show w.heap.size ≤ B; omega) _).setCell (p := ⟨B, 1, none⟩) (by show w.heap.size ≤ B; omega) _
          · have hd : decide ((m : Int) < (len : Int)) = false := decide_eq_false (by omega)
            have hD : T.drop m = [] := List.drop_of_length_le (by rw [HN.out]; omega)
            rw [hD, frN] at HL
            clear hD
            go_wp2_with fail
            refine bodyPost_ret (v := .agg #[.int .i64 n, .int .i64 m]) (results_cell_row Try.results15 _ _ B 30 _ (0, 0) _ rfl (heap_setCell_same _ B 1 _ _ _ (heap_setCell_same _ B 0 _ _ _ H6.out)) Try.underlying30 rfl (by as_aux_lemma => kernel_rfl)) rfl ⟨?_, ?_⟩
            · rw [HE0.out, ← HL.out, Nat.add_zero]
            · exact (HB.out.setCell (p := ⟨B, 0, none⟩) (by show w.heap.size ≤ B; omega) _).setCell (p := ⟨B, 1, none⟩) (by show w.heap.size ≤ B; omega) _
    · have hd : decide ((n : Int) < (len : Int)) = false := decide_eq_false (by omega)
      have hD : T.drop n = [] := List.drop_of_length_le (by rw [HN.out]; omega)
      rw [hD, toN] at HL
      clear hD
      go_wp2_with fail
      have H6 := Lib.hid ((heap_setCell_other wr ⟨B + 1, 1, none⟩ B (.int .i64 (n : Int)) (by simp)).trans H6.out)
      have H7 := Lib.hid (heap_setCell_same wr (B + 1) 1 _ _ (.int .i64 (n : Int)) H7.out)
      have HB := Lib.hid (HB.out.setCell (p := ⟨B + 1, 1, none⟩) (by show w.heap.size ≤ B + 1; omega) (.int .i64 (n : Int)))
      generalize wr.setCell ⟨B + 1, 1, none⟩ (.int .i64 (n : Int)) = w1 at H6 H7 HB ⊢
      have HE : Hid (touB x y T = n + frN y (T.drop n)) := Lib.hid (by unfold touB; rw [← HL.out, Nat.add_zero])
      have HE0 : Hid (touA x T = n) := Lib.hid (by unfold touA; rw [← HL.out, Nat.add_zero])
      go_loopw [] (fun wr => ∃ m : Nat, m ≤ len ∧ m + frN y (T.drop m) = touB x y T ∧ wr.heap[B]? = some (.cells #[.int .i64 0, .int .i64 0] 30 (0, 0)) ∧ wr.heap[B + 1]? = some (.cells #[.int .i64 n, .int .i64 m] 30 (0, 0)) ∧ Below w.heap.size w wr) (fun wr => len - (intOf ((wr.cell? ⟨B + 1, 1, none⟩).getD undef)).toNat)
      case atStart => exact ⟨n, hnl, HE.out.symm, H6.out, H7.out, HB.out⟩
      case round =>
        clear H6 H7 HB HL HE
        obtain ⟨m, hml, hle, h6, h7, hb⟩ := hrel
        have HB := Lib.hid hb
        have HL := Lib.hid hle
        have H6 := Lib.hid h6
        have H7 := Lib.hid h7
        obtain ⟨⟨c7, c7'⟩, f7, f7'⟩ := two_at wr (B + 1) _ _ _ h7
        obtain ⟨⟨c6, c6'⟩, f6, f6'⟩ := two_at wr B _ _ _ h6
        clear hb hle h6 h7
        by_cases hlt : m < len
        · have hltT : m < T.length := by rw [HN.out]; exact hlt
          have hd : decide ((m : Int) < (len : Int)) = true := decide_eq_true (by omega)
          have hne : T ≠ [] := by rintro rfl; simp at hltT
          have ho := HO.out hne
          try subst ho
          obtain ⟨c0, c1⟩ := cells_sn (HC.out.below HB.out) m hltT
          rw [List.drop_eq_getElem_cons hltT, frN] at HL
          generalize T[m] = t at *
          obtain ⟨a, b⟩ := t
          simp only [] at c0 c1 HL
          clear hne hltT
          by_cases hbx : a < y
          · have hdx : decide (a < y) = true := decide_eq_true hbx
            rw [if_pos hbx] at HL
            clear hbx
            go_wp2_with fail
            go_roundw
            case rel => exact ⟨m + 1, by omega, by rw [← HL.out]; omega, (heap_setCell_other wr ⟨B + 1, 1, none⟩ B _ (by simp)).trans H6.out, heap_setCell_same wr (B + 1) 1 _ _ _ H7.out, HB.out.setCell (p := ⟨B + 1, 1, none⟩) (by show w.heap.size ≤ B + 1; omega) _⟩
            case measure =>
              have := (two_at _ (B + 1) _ _ _ (heap_setCell_same wr (B + 1) 1 _ _ (.int .i64 ((m : Int) + 1)) H7.out)).1.2
              rw [this, c7']
              simp [intOf]
              omega
          · have hdx : decide (a < y) = false := decide_eq_false hbx
            rw [if_neg hbx] at HL
            clear hbx
            go_wp2_with fail
            refine bodyPost_ret (v := .agg #[.int .i64 n, .int .i64 m]) (results_cell_row Try.results15 _ _ B 30 _ (0, 0) _ rfl (heap_setCell_same _ B 1 _ _ _ (heap_setCell_same _ B 0 _ _ _ H6.out)) Try.underlying30 rfl (by as_aux_lemma => kernel_rfl)) rfl ⟨?_, ?_⟩
            · rw [HE0.out, ← HL.out, Nat.add_zero]
            · exact (HB.out.setCell (p := ⟨B, 0, none⟩) (by show w.heap.size ≤ B; omega) _).setCell (p := ⟨B, 1, none⟩) (by show w.heap.size ≤ B; omega) _
        · have hd : decide ((m : Int) < (len : Int)) = false := decide_eq_false (by omega)
          have hD : T.drop m = [] := List.drop_of_length_le (by rw [HN.out]; omega)
          rw [hD, frN] at HL
          clear hD
          go_wp2_with fail
          refine bodyPost_ret (v := .agg #[.int .i64 n, .int .i64 m]) (results_cell_row Try.results15 _ _ B 30 _ (0, 0) _ rfl (heap_setCell_same _ B 1 _ _ _ (heap_setCell_same _ B 0 _ _ _ H6.out)) Try.underlying30 rfl (by as_aux_lemma => kernel_rfl)) rfl ⟨?_, ?_⟩
          · rw [HE0.out, ← HL.out, Nat.add_zero]
          · exact (HB.out.setCell (p := ⟨B, 0, none⟩) (by show w.heap.size ≤ B; omega) _).setCell (p := ⟨B, 1, none⟩) (by show w.heap.size ≤ B; omega) _
set_option maxRecDepth 100000 in
set_option maxHeartbeats 4000000 in
theorem refTouched_any (v : Value) (T : List Sn) (x y : Int) (w : World) (hr : Row sn w v T) (hn : T.length ≤ 140737488355328) :
    Calls Try.prog 16 #[v, .int .i64 x, .int .i64 y] w (Two (touA x T) (touB x y T) w) := by
  obtain ⟨g, off, o, cap, hc, rfl, ho, hcell⟩ := hr
  have HC := Lib.hid hcell
  have HO := Lib.hid ho
  clear hcell ho
  obtain ⟨len, hlen⟩ : ∃ len, T.length = len := ⟨_, rfl⟩
  rw [hlen] at hc hn
  have HN := Lib.hid hlen
  rw [HN.out]
  clear hlen
  go_enter Try.func16, Try.ntmps16
  go_wp2
  obtain ⟨B, hBd⟩ : ∃ B, w.heap.size = B := ⟨_, rfl⟩
  have h60 : ((w.alloc (.cells #[.int .i64 0, .int .i64 0] 30)).alloc (.cells #[.int .i64 0, .int .i64 0] 30)).heap[B]? = some (.cells #[.int .i64 0, .int .i64 0] 30 (0, 0)) := by
    rw [← hBd, (World.grownBy_alloc _ _ none).block _ (by simp) (fun e => by cases e)]; exact heap_alloc_last w _
  have h70 : ((w.alloc (.cells #[.int .i64 0, .int .i64 0] 30)).alloc (.cells #[.int .i64 0, .int .i64 0] 30)).heap[B + 1]? = some (.cells #[.int .i64 0, .int .i64 0] 30 (0, 0)) := by
    have := heap_alloc_last (w.alloc (.cells #[.int .i64 0, .int .i64 0] 30)) (.cells #[.int .i64 0, .int .i64 0] 30)
    rw [World.size_alloc, hBd] at this; exact this
  have hb0 : Below w.heap.size w ((w.alloc (.cells #[.int .i64 0, .int .i64 0] 30)).alloc (.cells #[.int .i64 0, .int .i64 0] 30)) := ((Below.refl _ w).alloc (Nat.le_refl _) _).alloc (by simp) _
  rw [hBd]
  go_loopw [] (fun wr => ∃ n : Nat, n ≤ len ∧ n + toN x (T.drop n) = toN x T ∧ wr.heap[B]? = some (.cells #[.int .i64 0, .int .i64 0] 30 (0, 0)) ∧ wr.heap[B + 1]? = some (.cells #[.int .i64 n, .int .i64 0] 30 (0, 0)) ∧ Below w.heap.size w wr) (fun wr => len - (intOf ((wr.cell? ⟨B + 1, 0, none⟩).getD undef)).toNat)
  case atStart => exact ⟨0, Nat.zero_le _, by simp, h60, h70, hb0⟩
  case round =>
    obtain ⟨n, hnl, hle, h6, h7, hb⟩ := hrel
    have HB := Lib.hid hb
    have HL := Lib.hid hle
    have H6 := Lib.hid h6
    have H7 := Lib.hid h7
    obtain ⟨⟨c7, c7'⟩, f7, f7'⟩ := two_at wr (B + 1) _ _ _ h7
    clear hb hle h6 h7
    by_cases hlt : n < len
    · have hltT : n < T.length := by rw [HN.out]; exact hlt
      have hd : decide ((n : Int) < (len : Int)) = true := decide_eq_true (by omega)
      have hne : T ≠ [] := by rintro rfl; simp at hltT
      have ho := HO.out hne
      subst ho
      obtain ⟨c0, c1⟩ := cells_sn (HC.out.below HB.out) n hltT
      rw [List.drop_eq_getElem_cons hltT, toN] at HL
      generalize T[n] = t at *
      obtain ⟨a, b⟩ := t
      simp only [] at c0 c1 HL
      clear hne hltT
      by_cases hbx : b ≤ x
      · have hdx : decide (b ≤ x) = true := decide_eq_true hbx
        rw [if_pos hbx] at HL
        clear hbx
        go_wp2_with fail
        go_roundw
        case rel => exact ⟨n + 1, by omega, by rw [← HL.out]; omega, (heap_setCell_other wr ⟨B + 1, 0, none⟩ B _ (by simp)).trans H6.out, heap_setCell_same wr (B + 1) 0 _ _ _ H7.out, HB.out.setCell (p := ⟨B + 1, 0, none⟩) (by show w.heap.size ≤ B + 1; omega) _⟩
        case measure =>
          have := (two_at _ (B + 1) _ _ _ (heap_setCell_same wr (B + 1) 0 _ _ (.int .i64 ((n : Int) + 1)) H7.out)).1.1
          rw [this, c7]
          simp [intOf]
          omega
      · have hdx : decide (b ≤ x) = false := decide_eq_false hbx
        rw [if_neg hbx] at HL
        clear hbx
        go_wp2_with fail
        have H6 := Lib.hid ((heap_setCell_other wr ⟨B + 1, 1, none⟩ B (.int .i64 (n : Int)) (by simp)).trans H6.out)
        have H7 := Lib.hid (heap_setCell_same wr (B + 1) 1 _ _ (.int .i64 (n : Int)) H7.out)
        have HB := Lib.hid (HB.out.setCell (p := ⟨B + 1, 1, none⟩) (by show w.heap.size ≤ B + 1; omega) (.int .i64 (n : Int)))
        generalize wr.setCell ⟨B + 1, 1, none⟩ (.int .i64 (n : Int)) = w1 at H6 H7 HB ⊢
        have HE : Hid (touB x y T = n + frN y (T.drop n)) := Lib.hid (by unfold touB; rw [← HL.out, Nat.add_zero])
        have HE0 : Hid (touA x T = n) := Lib.hid (by unfold touA; rw [← HL.out, Nat.add_zero])
        go_loopw [] (fun wr => ∃ m : Nat, m ≤ len ∧ m + frN y (T.drop m) = touB x y T ∧ wr.heap[B]? = some (.cells #[.int .i64 0, .int .i64 0] 30 (0, 0)) ∧ wr.heap[B + 1]? = some (.cells #[.int .i64 n, .int .i64 m] 30 (0, 0)) ∧ Below w.heap.size w wr) (fun wr => len - (intOf ((wr.cell? ⟨B + 1, 1, none⟩).getD undef)).toNat)
        case atStart => exact ⟨n, hnl, HE.out.symm, H6.out, H7.out, HB.out⟩
        case round =>
          clear H6 H7 HB HL HE
          obtain ⟨m, hml, hle, h6, h7, hb⟩ := hrel
          have HB := Lib.hid hb
          have HL := Lib.hid hle
          have H6 := Lib.hid h6
          have H7 := Lib.hid h7
          obtain ⟨⟨c7, c7'⟩, f7, f7'⟩ := two_at wr (B + 1) _ _ _ h7
          obtain ⟨⟨c6, c6'⟩, f6, f6'⟩ := two_at wr B _ _ _ h6
          clear hb hle h6 h7
          by_cases hlt : m < len
          · have hltT : m < T.length := by rw [HN.out]; exact hlt
            have hd : decide ((m : Int) < (len : Int)) = true := decide_eq_true (by omega)
            have hne : T ≠ [] := by rintro rfl; simp at hltT
            have ho := HO.out hne
            try subst ho
            obtain ⟨c0, c1⟩ := cells_sn (HC.out.below HB.out) m hltT
            rw [List.drop_eq_getElem_cons hltT, frN] at HL
            generalize T[m] = t at *
            obtain ⟨a, b⟩ := t
            simp only [] at c0 c1 HL
            clear hne hltT
            by_cases hbx : a < y
            · have hdx : decide (a < y) = true := decide_eq_true hbx
              rw [if_pos hbx] at HL
              clear hbx
              go_wp2_with fail
              go_roundw
              case rel => exact ⟨m + 1, by omega, by rw [← HL.out]; omega, (heap_setCell_other wr ⟨B + 1, 1, none⟩ B _ (by simp)).trans H6.out, heap_setCell_same wr (B + 1) 1 _ _ _ H7.out, HB.out.setCell (p := ⟨B + 1, 1, none⟩) (by show w.heap.size ≤ B + 1; omega) _⟩
              case measure =>
                have := (two_at _ (B + 1) _ _ _ (heap_setCell_same wr (B + 1) 1 _ _ (.int .i64 ((m : Int) + 1)) H7.out)).1.2
                rw [this, c7']
                simp [intOf]
                omega
            · have hdx : decide (a < y) = false := decide_eq_false hbx
              rw [if_neg hbx] at HL
              clear hbx
              go_wp2_with fail
              refine bodyPost_ret (v := .agg #[.int .i64 n, .int .i64 m]) (results_cell_row Try.results16 _ _ B 30 _ (0, 0) _ rfl (heap_setCell_same _ B 1 _ _ _ (heap_setCell_same _ B 0 _ _ _ H6.out)) Try.underlying30 rfl (by as_aux_lemma => kernel_rfl)) rfl ⟨?_, ?_⟩
              · rw [HE0.out, ← HL.out, Nat.add_zero]
              · exact (HB.out.setCell (p := ⟨B, 0, none⟩) (by show w.heap.size ≤ B; omega) _).setCell (p := ⟨B, 1, none⟩) (by show w.heap.size ≤ B; omega) _
          · have hd : decide ((m : Int) < (len : Int)) = false := decide_eq_false (by omega)
            have hD : T.drop m = [] := List.drop_of_length_le (by rw [HN.out]; omega)
            rw [hD, frN] at HL
            clear hD
            go_wp2_with fail
            refine bodyPost_ret (v := .agg #[.int .i64 n, .int .i64 m]) (results_cell_row Try.results16 _ _ B 30 _ (0, 0) _ rfl (heap_setCell_same _ B 1 _ _ _ (heap_setCell_same _ B 0 _ _ _ H6.out)) Try.underlying30 rfl (by as_aux_lemma => kernel_rfl)) rfl ⟨?_, ?_⟩
            · rw [HE0.out, ← HL.out, Nat.add_zero]
            · exact (HB.out.setCell (p := ⟨B, 0, none⟩) (by show w.heap.size ≤ B; omega) _).setCell (p := ⟨B, 1, none⟩) (by show w.heap.size ≤ B; omega) _
    · have hd : decide ((n : Int) < (len : Int)) = false := decide_eq_false (by omega)
      have hD : T.drop n = [] := List.drop_of_length_le (by rw [HN.out]; omega)
      rw [hD, toN] at HL
      clear hD
      go_wp2_with fail
      have H6 := Lib.hid ((heap_setCell_other wr ⟨B + 1, 1, none⟩ B (.int .i64 (n : Int)) (by simp)).trans H6.out)
      have H7 := Lib.hid (heap_setCell_same wr (B + 1) 1 _ _ (.int .i64 (n : Int)) H7.out)
      have HB := Lib.hid (HB.out.setCell (p := ⟨B + 1, 1, none⟩) (by show w.heap.size ≤ B + 1; omega) (.int .i64 (n : Int)))
      generalize wr.setCell ⟨B + 1, 1, none⟩ (.int .i64 (n : Int)) = w1 at H6 H7 HB ⊢
      have HE : Hid (touB x y T = n + frN y (T.drop n)) := Lib.hid (by unfold touB; rw [← HL.out, Nat.add_zero])
      have HE0 : Hid (touA x T = n) := Lib.hid (by unfold touA; rw [← HL.out, Nat.add_zero])
      go_loopw [] (fun wr => ∃ m : Nat, m ≤ len ∧ m + frN y (T.drop m) = touB x y T ∧ wr.heap[B]? = some (.cells #[.int .i64 0, .int .i64 0] 30 (0, 0)) ∧ wr.heap[B + 1]? = some (.cells #[.int .i64 n, .int .i64 m] 30 (0, 0)) ∧ Below w.heap.size w wr) (fun wr => len - (intOf ((wr.cell? ⟨B + 1, 1, none⟩).getD undef)).toNat)
      case atStart => exact ⟨n, hnl, HE.out.symm, H6.out, H7.out, HB.out⟩
      case round =>
        clear H6 H7 HB HL HE
        obtain ⟨m, hml, hle, h6, h7, hb⟩ := hrel
        have HB := Lib.hid hb
        have HL := Lib.hid hle
        have H6 := Lib.hid h6
        have H7 := Lib.hid h7
        obtain ⟨⟨c7, c7'⟩, f7, f7'⟩ := two_at wr (B + 1) _ _ _ h7
        obtain ⟨⟨c6, c6'⟩, f6, f6'⟩ := two_at wr B _ _ _ h6
        clear hb hle h6 h7
        by_cases hlt : m < len
        · have hltT : m < T.length := by rw [HN.out]; exact hlt
          have hd : decide ((m : Int) < (len : Int)) = true := decide_eq_true (by omega)
          have hne : T ≠ [] := by rintro rfl; simp at hltT
          have ho := HO.out hne
          try subst ho
          obtain ⟨c0, c1⟩ := cells_sn (HC.out.below HB.out) m hltT
          rw [List.drop_eq_getElem_cons hltT, frN] at HL
          generalize T[m] = t at *
          obtain ⟨a, b⟩ := t
          simp only [] at c0 c1 HL
          clear hne hltT
          by_cases hbx : a < y
          · have hdx : decide (a < y) = true := decide_eq_true hbx
            rw [if_pos hbx] at HL
            clear hbx
            go_wp2_with fail
            go_roundw
            case rel => exact ⟨m + 1, by omega, by rw [← HL.out]; omega, (heap_setCell_other wr ⟨B + 1, 1, none⟩ B _ (by simp)).trans H6.out, heap_setCell_same wr (B + 1) 1 _ _ _ H7.out, HB.out.setCell (p := ⟨B + 1, 1, none⟩) (by show w.heap.size ≤ B + 1; omega) _⟩
            case measure =>
              have := (two_at _ (B + 1) _ _ _ (heap_setCell_same wr (B + 1) 1 _ _ (.int .i64 ((m : Int) + 1)) H7.out)).1.2
              rw [this, c7']
              simp [intOf]
              omega
          · have hdx : decide (a < y) = false := decide_eq_false hbx
            rw [if_neg hbx] at HL
            clear hbx
            go_wp2_with fail
            refine bodyPost_ret (v := .agg #[.int .i64 n, .int .i64 m]) (results_cell_row Try.results16 _ _ B 30 _ (0, 0) _ rfl (heap_setCell_same _ B 1 _ _ _ (heap_setCell_same _ B 0 _ _ _ H6.out)) Try.underlying30 rfl (by as_aux_lemma => kernel_rfl)) rfl ⟨?_, ?_⟩
            · rw [HE0.out, ← HL.out, Nat.add_zero]
            · exact (HB.out.setCell (p := ⟨B, 0, none⟩) (by show w.heap.size ≤ B; omega) _).setCell (p := ⟨B, 1, none⟩) (by show w.heap.size ≤ B; omega) _
        · have hd : decide ((m : Int) < (len : Int)) = false := decide_eq_false (by omega)
          have hD : T.drop m = [] := List.drop_of_length_le (by rw [HN.out]; omega)
          rw [hD, frN] at HL
          clear hD
          go_wp2_with fail
          refine bodyPost_ret (v := .agg #[.int .i64 n, .int .i64 m]) (results_cell_row Try.results16 _ _ B 30 _ (0, 0) _ rfl (heap_setCell_same _ B 1 _ _ _ (heap_setCell_same _ B 0 _ _ _ H6.out)) Try.underlying30 rfl (by as_aux_lemma => kernel_rfl)) rfl ⟨?_, ?_⟩
          · rw [HE0.out, ← HL.out, Nat.add_zero]
          · exact (HB.out.setCell (p := ⟨B, 0, none⟩) (by show w.heap.size ≤ B; omega) _).setCell (p := ⟨B, 1, none⟩) (by show w.heap.size ≤ B; omega) _
set_option maxRecDepth 100000 in
set_option maxHeartbeats 2000000 in
theorem spans_empty (oa ob : Option Addr) (ca cb : Nat) (w : World) :
    Calls Try.prog 12 #[.slice oa 0 ca, .slice ob 0 cb] w fun e w' => e = .returned (.bool true) ∧ w = w' := by
  go_enter Try.func12, Try.ntmps12
  go_wp2
  go_rounds 1
  go_ret
  exact ⟨rfl, rfl⟩
set_option maxRecDepth 100000 in
set_option maxHeartbeats 2000000 in
theorem spans_full (g a h b n ca cb : Nat) (x y : Nat → Int) (w : World) (hn : n ≤ 140737488355328)
    (h1 : ∀ j, j < n → w.cell? ⟨g, a + j * 2, none⟩ = some (.int .i64 (x j)) ∧ w.cell? ⟨g, a + j * 2 + 1, none⟩ = some (.int .i64 (y j)))
    (h2 : ∀ j, j < n → w.cell? ⟨h, b + j * 2, none⟩ = some (.int .i64 (x j)) ∧ w.cell? ⟨h, b + j * 2 + 1, none⟩ = some (.int .i64 (y j))) :
    Calls Try.prog 12 #[.slice (some ⟨g, a, none⟩) n ca, .slice (some ⟨h, b, none⟩) n cb] w fun e w' => e = .returned (.bool true) ∧ ∃ q, w' = w.drewN q := by
  have H1 := Lib.hid h1
  have H2 := Lib.hid h2
  clear h1 h2
  go_enter Try.func12, Try.ntmps12
  go_wp2
  go_loopw [13] (fun p wr => ∃ (i : Nat) (q : Nat), i ≤ n ∧ p = .int .i64 i ∧ wr = w.drewN q) (fun p _ => n - (intOf p).toNat)
  case atStart => exact ⟨0, 0, by omega, rfl, rfl⟩
  case round =>
    obtain ⟨i, q, hle, rfl, rfl⟩ := hrel
    by_cases hlt : i < n
    · obtain ⟨a0, a1⟩ := H1.out i hlt
      obtain ⟨b0, b1⟩ := H2.out i hlt
      go_wp2_with fail
      go_quiet (fail)
      go_wp2
      go_roundw
      case rel => exact ⟨i + 1, _, by omega, by go_num, rfl⟩
      case measure => simp [intOf]; omega
    · go_wp2
      go_ret
      exact ⟨rfl, q, rfl⟩
theorem below_drewN {K : Nat} {a w : World} (h : Below K a w) (n : Nat) : Below K a (w.drewN n) := ⟨h.os, h.tape, h.output, h.size, h.block⟩
theorem spans_any {w : World} {v1 v2 : Value} {T : List Sn} (h1 : Row sn w v1 T) (h2 : Row sn w v2 T) (hn : T.length ≤ 140737488355328) :
    Calls Try.prog 12 #[v1, v2] w fun e w' => e = .returned (.bool true) ∧ Below w.heap.size w w' := by
  obtain ⟨g, a, o, ca, _, rfl, ho, hc⟩ := h1
  obtain ⟨h, b, o', cb, _, rfl, ho', hc'⟩ := h2
  by_cases hT : T = []
  · subst hT
    exact (spans_empty o o' ca cb w).mono fun e w' ⟨x, y⟩ => ⟨x, by rw [← y]; exact Below.refl _ _⟩
  · rw [ho hT, ho' hT]
    have conv : ∀ q p, Cells sn w q p T → ∀ j, j < T.length → w.cell? ⟨q, p + j * 2, none⟩ = some (.int .i64 ((T.getD j ⟨0, 0⟩).a)) ∧ w.cell? ⟨q, p + j * 2 + 1, none⟩ = some (.int .i64 ((T.getD j ⟨0, 0⟩).b)) := fun q p hb j hj => by
      have e : T.getD j ⟨0, 0⟩ = T[j] := by simp [List.getD, hj]
      rw [e]
      exact cells_sn hb j hj
    exact (spans_full g a h b T.length ca cb (fun j => (T.getD j ⟨0, 0⟩).a) (fun j => (T.getD j ⟨0, 0⟩).b) w hn (conv g a hc) (conv h b hc')).mono fun e w' ⟨x, q, y⟩ => ⟨x, by rw [y]; exact below_drewN (Below.refl _ _) q⟩
end Go.Proofs.Ytlemecnmjhhbiaa.ck
