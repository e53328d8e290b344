/-
  Layer 8: the program's isLeaf, fits, Check.
-/
import Derived.Test.YtnnffcfdokejbaaNf
namespace Go.Proofs.Ytnnffcfdokejbaa.rd
open Go.RowKit

theorem isLeaf_any (k i j : Int) (o : Option Addr) (n c : Nat) (w : World) : Calls Try.prog 61 #[.agg #[.int .i64 k, .int .i64 i, .int .i64 j, .slice o n c]] w fun e w' => e = .returned (.bool (leafK k)) ∧ Below w.heap.size w w' := by
  have hb : Below w.heap.size w (w.alloc (.cells #[.int .i64 k, .int .i64 i, .int .i64 j, .slice o n c] 24)) := (Below.refl _ _).alloc (Nat.le_refl _) _
  by_cases h : 0 < k
  · have hd : decide (0 < k) = true := decide_eq_true h
    by_cases h2 : k < 200
    · have hd2 : decide (k < 200) = true := decide_eq_true h2
      have hl : leafK k = true := by unfold leafK; simp; omega
      rw [hl]
      clear hl
      go_enter Try.func61, Try.ntmps61
      go_wp2_with fail
      go_ret
      exact ⟨rfl, hb⟩
    · have hd2 : decide (k < 200) = false := decide_eq_false h2
      have hl : leafK k = false := by unfold leafK; simp; omega
      rw [hl]
      clear hl
      go_enter Try.func61, Try.ntmps61
      go_wp2_with fail
      go_ret
      exact ⟨rfl, hb⟩
  · have hd : decide (0 < k) = false := decide_eq_false h
    have hl : leafK k = false := by unfold leafK; simp; omega
    rw [hl]
    clear hl
    go_enter Try.func61, Try.ntmps61
    go_wp2_with fail
    go_ret
    exact ⟨rfl, hb⟩
/-- What fits is held to. -/
def FitsC (f : Nat) (t : Tree) : Prop := ∀ (w : World) (n : Rn) (N : Int), Hid (TieB w t n) → Calls Try.prog f #[n.v, .int .i64 N] w fun e w' => e = .returned (.bool (fitT N t)) ∧ Below w.heap.size w w'
set_option maxRecDepth 100000 in
set_option maxHeartbeats 4000000 in
theorem fits_node (k i j : Int) (l : List Tree) (ih : ∀ t ∈ l, FitsC 43 t) : FitsC 43 (.mk k i j l) := by
  intro w n N hT
  obtain ⟨o, c, g, off, R, rfl, hc, hl, hlR, ho, HC, HT⟩ := TieB.out hT
  obtain ⟨len, hlen⟩ : ∃ len, l.length = len := ⟨_, rfl⟩
  have HLN := Lib.hid (And.intro hlen hlR)
  have HIH := Lib.hid ih
  have HO := Lib.hid ho
  have hb1 : Below w.heap.size w (w.alloc (.cells #[.int .i64 k, .int .i64 i, .int .i64 j, .slice o l.length c] 24)) := (Below.refl _ _).alloc (Nat.le_refl _) _
  have hx := heap_alloc_last w (.cells #[.int .i64 k, .int .i64 i, .int .i64 j, .slice o l.length c] 24)
  obtain ⟨lk, hlk⟩ : ∃ b, leafK k = b := ⟨_, rfl⟩
  have HLF : Hid (∀ (o : Option Addr) (n c : Nat) (w : World), Calls Try.prog 61 #[.agg #[.int .i64 k, .int .i64 i, .int .i64 j, .slice o n c]] w fun e w' => e = .returned (.bool lk) ∧ Below w.heap.size w w') := Lib.hid (fun o n c w => by rw [← hlk]; exact isLeaf_any k i j o n c w)
  have hie : l.isEmpty = decide (len = 0) := by
    cases l with
    | nil => simp at hlen; subst hlen; rfl
    | cons t l => simp at hlen; simp; omega
  have HF : Hid (fitT N (.mk k i j l) = (decide (0 < k) && decide (0 ≤ i) && decide (i ≤ j) && decide (j ≤ N) && (if lk then decide (len = 0) else (!decide (len = 0) || i == j)) && (match fitTs N i l with | none => false | some e => decide (len = 0) || e == j))) := Lib.hid (by rw [fitT, hlk, hie]; rfl)
  obtain ⟨b, hb⟩ : ∃ b, fitT N (.mk k i j l) = b := ⟨_, rfl⟩
  show Calls Try.prog 43 #[.agg #[.int .i64 k, .int .i64 i, .int .i64 j, .slice o l.length c], .int .i64 N] w _
  rw [hb]
  rw [hb] at HF
  rw [hlen] at hb1 hx hl ⊢
  obtain ⟨X, hX⟩ : ∃ X, w.heap.size = X := ⟨_, rfl⟩
  have HX := Lib.hid hX
  have HB1 := Lib.hid hb1
  clear hT hlen hlR ho hc ih hlk hie hb hX hb1 hx
  by_cases h1 : 0 < k
  case neg =>
    have d1 : decide (k ≤ 0) = true := decide_eq_true (by omega)
    obtain rfl : b = false := by rw [HF.out, decide_eq_false h1]; simp
    go_enter Try.func43, Try.ntmps43
    go_wp2_with fail
    go_ret
    exact ⟨rfl, HB1.out⟩
  case pos =>
  have d1 : decide (k ≤ 0) = false := decide_eq_false (by omega)
  by_cases h2 : 0 ≤ i
  case neg =>
    have d2 : decide (i < 0) = true := decide_eq_true (by omega)
    obtain rfl : b = false := by rw [HF.out, decide_eq_false h2]; simp
    go_enter Try.func43, Try.ntmps43
    go_wp2_with fail
    go_ret
    exact ⟨rfl, HB1.out⟩
  case pos =>
  have d2 : decide (i < 0) = false := decide_eq_false (by omega)
  by_cases h3 : i ≤ j
  case neg =>
    have d3 : decide (j < i) = true := decide_eq_true (by omega)
    obtain rfl : b = false := by rw [HF.out, decide_eq_false h3]; simp
    go_enter Try.func43, Try.ntmps43
    go_wp2_with fail
    go_ret
    exact ⟨rfl, HB1.out⟩
  case pos =>
  have d3 : decide (j < i) = false := decide_eq_false (by omega)
  by_cases h4 : j ≤ N
  case neg =>
    have d4 : decide (N < j) = true := decide_eq_true (by omega)
    obtain rfl : b = false := by rw [HF.out, decide_eq_false h4]; simp
    go_enter Try.func43, Try.ntmps43
    go_wp2_with fail
    go_ret
    exact ⟨rfl, HB1.out⟩
  case pos =>
  have d4 : decide (N < j) = false := decide_eq_false (by omega)
  obtain ⟨W1, hW1⟩ : ∃ W1, w.alloc (.cells #[.int .i64 k, .int .i64 i, .int .i64 j, .slice o len c] 24) = W1 := ⟨_, rfl⟩
  have ha : W1.heap[X]? = some (.cells #[.int .i64 k, .int .i64 i, .int .i64 j, .slice o len c] 24 (0, 0)) := by rw [← hW1, ← HX.out]; exact heap_alloc_last _ _
  have HA := Lib.hid ha
  have HB2 : Hid (Below w.heap.size w W1) := Lib.hid (by rw [← hW1]; exact HB1.out)
  have HW1 := Lib.hid hW1
  clear ha hW1
  cases lk with
  | true =>
    have hfin : b = decide (len = 0) := by
      rw [HF.out]
      by_cases h5 : len = 0
      · obtain rfl : l = [] := List.eq_nil_of_length_eq_zero (by rw [HLN.out.1]; exact h5)
        rw [fitTs]
        simp [h1, h2, h3, h4, h5]
      · simp [h5]
    by_cases h5 : len = 0
    · obtain rfl : b = true := by rw [hfin]; exact decide_eq_true h5
      subst h5
      clear hfin
      go_enter Try.func43, Try.ntmps43
      go_wp2_with (go_at_call 61; rw [HW1.out]; refine (HLF.out _ _ _ _).mono ?_; rintro e w2 ⟨rfl, hb2⟩; rw [HX.out]; have hx2 := (hb2.block X (Array.getElem?_eq_some_iff.1 HA.out).1).trans HA.out; obtain ⟨⟨x0, x1, x2, x3⟩, _⟩ := four_cells0 hx2; have xz := (Array.getElem?_eq_some_iff.1 hx2).1; have HB3 := Lib.hid (HB2.out.trans (hb2.mono HB2.out.size)); clear hb2 hx2)
      go_ret
      exact ⟨rfl, HB3.out⟩
    · obtain rfl : b = false := by rw [hfin]; exact decide_eq_false h5
      have d5 : decide ((len : Int) = 0) = false := decide_eq_false (by omega)
      have d5' : decide (len = 0) = false := decide_eq_false h5
      clear hfin
      go_enter Try.func43, Try.ntmps43
      go_wp2_with (go_at_call 61; rw [HW1.out]; refine (HLF.out _ _ _ _).mono ?_; rintro e w2 ⟨rfl, hb2⟩; rw [HX.out]; have hx2 := (hb2.block X (Array.getElem?_eq_some_iff.1 HA.out).1).trans HA.out; obtain ⟨⟨x0, x1, x2, x3⟩, _⟩ := four_cells0 hx2; have xz := (Array.getElem?_eq_some_iff.1 hx2).1; have HB3 := Lib.hid (HB2.out.trans (hb2.mono HB2.out.size)); clear hb2 hx2)
      go_ret
      exact ⟨congrArg (fun b => Ending.returned (Value.bool b)) (beq_eq_false_iff_ne.2 (by omega) : ((len : Int) == 0) = false), HB3.out⟩
  | false =>
    have hfin : b = (match fitTs N i l with | none => false | some e => e == j) := by
      rw [HF.out]
      by_cases h5 : len = 0
      · obtain rfl : l = [] := List.eq_nil_of_length_eq_zero (by rw [HLN.out.1]; exact h5)
        rw [fitTs]
        simp [h1, h2, h3, h4, h5]
      · simp [h1, h2, h3, h4, h5]
    have HF2 := Lib.hid hfin
    clear hfin
    go_enter Try.func43, Try.ntmps43
    go_wp2_with (go_at_call 61; rw [HW1.out]; refine (HLF.out _ _ _ _).mono ?_; rintro e w2 ⟨rfl, hb2⟩; rw [HX.out]; have hx2 := (hb2.block X (Array.getElem?_eq_some_iff.1 HA.out).1).trans HA.out; obtain ⟨⟨x0, x1, x2, x3⟩, _⟩ := four_cells0 hx2; have xz := (Array.getElem?_eq_some_iff.1 hx2).1; have HB3 := Lib.hid (HB2.out.trans (hb2.mono HB2.out.size)); have HA2 := Lib.hid hx2; clear hb2 hx2)
    clear x0 x1 x2 x3 xz
    go_loopw [42, 5] (fun p a wr => ∃ (q : Nat) (z : Int), q ≤ len ∧ p = .int .i64 (q : Int) ∧ a = .int .i64 z ∧ Below w2.heap.size w2 wr ∧ fitTs N z (l.drop q) = fitTs N i l) (fun p _ _ => len - (intOf p).toNat)
    case atStart => exact ⟨0, i, Nat.zero_le _, rfl, rfl, Below.refl _ _, rfl⟩
    case round =>
      obtain ⟨q, z, hql, rfl, rfl, hb, hft⟩ := hrel
      have y1 := (hb.block X (Array.getElem?_eq_some_iff.1 HA2.out).1).trans HA2.out
      obtain ⟨⟨x0, x1, x2, x3⟩, _⟩ := four_cells0 y1
      have xz := (Array.getElem?_eq_some_iff.1 y1).1
      have hbw : Below w.heap.size w wr := HB3.out.trans (hb.mono HB3.out.size)
      have HB := Lib.hid hb
      have HBW := Lib.hid hbw
      by_cases hlt : q < len
      · have hil : q < l.length := by rw [HLN.out.1]; exact hlt
        have hiR : q < R.length := by rw [HLN.out.2]; exact hil
        obtain ⟨ho, hg⟩ := HO.out (by intro e; rw [e] at hil; simp at hil)
        subst ho
        obtain ⟨a0, a1, a2, a3⟩ := cells_nd HC.out q hiR
        have HCALL : Hid (∀ u, Below wr.heap.size wr u → Calls Try.prog 43 #[R[q].v, .int .i64 N] u fun e w' => e = .returned (.bool (fitT N l[q])) ∧ Below u.heap.size u w') := Lib.hid (fun u hu => HIH.out l[q] (List.getElem_mem hil) u R[q] N (HT.out u (hbw.trans (hu.mono hbw.size)) q hil hiR))
        have hki : R[q].i = l[q].i := by
          obtain ⟨D, h, _⟩ := (HT.out wr hbw q hil hiR).out
          exact h.i
        have hkj : R[q].j = l[q].j := by
          obtain ⟨D, h, _⟩ := (HT.out wr hbw q hil hiR).out
          exact h.j
        have hfd : fitTs N z (l.drop q) = if l[q].i == z && fitT N l[q] then fitTs N l[q].j (l.drop (q + 1)) else none := by
          rw [List.drop_eq_getElem_cons hil, fitTs]
        rw [hft] at hfd
        obtain ⟨fk, hfk⟩ : ∃ fk, fitT N l[q] = fk := ⟨_, rfl⟩
        rw [hfk] at hfd HCALL
        obtain ⟨⟨nk, ni, nj, no, nn, nc⟩, hn1⟩ : ∃ n, R[q] = n := ⟨_, rfl⟩
        rw [hn1] at a0 a1 a2 a3 HCALL hki hkj
        simp only [] at hki hkj
        rw [← hki, ← hkj] at hfd
        rw [show (Rn.mk nk ni nj no nn nc).v = .agg #[.int .i64 nk, .int .i64 ni, .int .i64 nj, .slice no nn nc] from rfl] at HCALL
        have c0 := (hbw.cell (p := ⟨g, off + q * 4, none⟩) hg).trans a0
        have c1 := (hbw.cell (p := ⟨g, off + q * 4 + 1, none⟩) hg).trans a1
        have c2 := (hbw.cell (p := ⟨g, off + q * 4 + 2, none⟩) hg).trans a2
        have c3 := (hbw.cell (p := ⟨g, off + q * 4 + 3, none⟩) hg).trans a3
        have hgw : g < wr.heap.size := Nat.lt_of_lt_of_le hg hbw.size
        have hq0 : (0 : Int) ≤ (q : Int) := by omega
        have hww : (q : Int) + 1 ≤ 2932031007318 := by omega
        have hd : decide ((q : Int) < (len : Int)) = true := decide_eq_true (by omega)
        have hd' : decide (q < len) = true := decide_eq_true hlt
        have hZ : Below wr.heap.size wr (wr.alloc (.cells #[.int .i64 nk, .int .i64 ni, .int .i64 nj, .slice no nn nc] 24)) := (Below.refl _ _).alloc (Nat.le_refl _) _
        have HZ := Lib.hid hZ
        have HFD := Lib.hid hfd
        simp only [] at c0 c1 c2 c3
        clear a0 a1 a2 a3 hn1 hki hkj hfk hfd hft hb hbw y1 hZ
        by_cases h7 : ni = z
        case neg =>
          obtain rfl : b = false := by rw [HF2.out, HFD.out, beq_eq_false_iff_ne.2 h7]; simp
          go_wp2_with fail
          go_ret
          exact ⟨rfl, HBW.out.trans (HZ.out.mono HBW.out.size)⟩
        case pos =>
          subst h7
          have HZB : Hid (∀ W', Below wr.heap.size wr W' → Below w.heap.size w W' ∧ Below w2.heap.size w2 W') := Lib.hid (fun W' h => ⟨HBW.out.trans (h.mono HBW.out.size), HB.out.trans (h.mono HB.out.size)⟩)
          cases fk with
          | false =>
            obtain rfl : b = false := by rw [HF2.out, HFD.out]; simp
            go_wp2_with (go_at_call 43; refine (HCALL.out _ ?_).mono ?_; exact HZ.out; rintro e w9 ⟨rfl, hb9⟩; have HB9 := Lib.hid (HZ.out.trans (hb9.mono HZ.out.size)); clear hb9)
            all_goals (first | go_ret | go_end0)
            all_goals exact ⟨rfl, (HZB.out _ HB9.out).1⟩
          | true =>
            have hnx : fitTs N nj (l.drop (q + 1)) = fitTs N i l := by rw [HFD.out]; simp
            have HNX := Lib.hid hnx
            clear hnx
            have HZ4 : Hid (∀ W', Below (wr.alloc (.cells #[.int .i64 nk, .int .i64 ni, .int .i64 nj, .slice no nn nc] 24)).heap.size (wr.alloc (.cells #[.int .i64 nk, .int .i64 ni, .int .i64 nj, .slice no nn nc] 24)) W' → W'.cell? ⟨wr.heap.size, 2, none⟩ = some (.int .i64 nj) ∧ wr.heap.size < W'.heap.size) := Lib.hid (fun W' h => by
              have e := heap_alloc_last wr (.cells #[.int .i64 nk, .int .i64 ni, .int .i64 nj, .slice no nn nc] 24)
              have e2 := (h.block _ (Array.getElem?_eq_some_iff.1 e).1).trans e
              exact ⟨(four_cells0 e2).1.2.2.1, (Array.getElem?_eq_some_iff.1 e2).1⟩)
            go_wp2_with (go_at_call 43; refine (HCALL.out _ ?_).mono ?_; exact HZ.out; rintro e w9 ⟨rfl, hb9⟩; obtain ⟨z2, z3⟩ := HZ4.out _ hb9; have HB9 := Lib.hid (HZ.out.trans (hb9.mono HZ.out.size)); clear hb9)
            all_goals (go_roundw; (case rel => exact ⟨q + 1, nj, by omega, by go_num, rfl, (HZB.out _ HB9.out).2, HNX.out⟩); (case measure => simp [intOf]; omega))
      · obtain rfl : q = len := by omega
        have hd : decide ((q : Int) < (q : Int)) = false := decide_eq_false (by omega)
        have hfe : fitTs N i l = some z := by
          rw [← hft, List.drop_of_length_le (by rw [HLN.out.1]; exact Nat.le_refl _), fitTs]
        have hbz : b = (z == j) := by rw [HF2.out, hfe]
        clear hfe hft hb hbw y1
        by_cases h7 : z = j
        · obtain rfl : b = true := by rw [hbz, h7]; simp
          clear hbz
          subst h7
          go_wp2_with fail
          go_ret
          exact ⟨rfl, HBW.out⟩
        · obtain rfl : b = false := by rw [hbz]; exact beq_eq_false_iff_ne.2 h7
          clear hbz
          go_wp2_with fail
          go_ret
          exact ⟨congrArg (fun b => Ending.returned (Value.bool b)) (beq_eq_false_iff_ne.2 h7 : (z == j) = false), HBW.out⟩
mutual
theorem fits_t : ∀ t : Tree, FitsC 43 t
  | .mk k i j l => fits_node k i j l (fits_l l)
theorem fits_l : ∀ (l : List Tree), ∀ t ∈ l, FitsC 43 t
  | [], t, h => by cases h
  | u :: l, t, h => by
    rcases List.mem_cons.1 h with h | h
    · rw [h]; exact fits_t u
    · exact fits_l l t h
end
theorem gcheck_t (t : Tree) : CheckC 12 t := by
  intro w n s h
  obtain ⟨k, i, j, o, nn, c⟩ := n
  have HF := Lib.hid (fun u hu => fits_t t u ⟨k, i, j, o, nn, c⟩ (s.size : Int) (TieB.below h hu))
  have HB : Hid (Below w.heap.size w (w.alloc (.cells #[.int .i64 k, .int .i64 i, .int .i64 j, .slice o nn c] 24))) := Lib.hid ((Below.refl _ _).alloc (Nat.le_refl _) _)
  obtain ⟨b, hb⟩ : ∃ b, fitT s.size t = b := ⟨_, rfl⟩
  rw [hb] at HF ⊢
  show Calls Try.prog 12 #[.string s, .agg #[.int .i64 k, .int .i64 i, .int .i64 j, .slice o nn c]] w _
  clear h hb
  cases b with
  | true =>
    go_enter Try.func12, Try.ntmps12
    go_wp2_with (go_at_call 43; refine (HF.out _ HB.out).mono ?_; rintro e w2 ⟨rfl, hb2⟩; have HB2 := Lib.hid (HB.out.trans (hb2.mono HB.out.size)); clear hb2)
    go_ret
    exact ⟨rfl, HB2.out⟩
  | false =>
    go_enter Try.func12, Try.ntmps12
    go_wp2_with (go_at_call 43; refine (HF.out _ HB.out).mono ?_; rintro e w2 ⟨rfl, hb2⟩; have HB2 := Lib.hid (HB.out.trans (hb2.mono HB.out.size)); clear hb2)
    go_ret
    exact ⟨rfl, HB2.out⟩
end Go.Proofs.Ytnnffcfdokejbaa.rd
