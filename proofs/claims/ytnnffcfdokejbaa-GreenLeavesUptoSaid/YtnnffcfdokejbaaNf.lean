/-
  Layer 8: the reference's Leaf, Check.
-/
import Derived.Test.YtnnffcfdokejbaaNe
namespace Go.Proofs.Ytnnffcfdokejbaa.rd
open Go.RowKit

/-- Is a kind a leaf's? -/
def leafK (k : Int) : Bool := decide (1 ≤ k) && decide (k ≤ 199)
theorem leaf_any (k : Int) (w : World) : Calls Try.prog 44 #[.int .i64 k] w fun e w' => e = .returned (.bool (leafK k)) ∧ w = w' := by
  by_cases h : 1 ≤ k
  · have hd : decide (1 ≤ k) = true := decide_eq_true h
    by_cases h2 : k ≤ 199
    · have hl : leafK k = true := by unfold leafK; simp [h, h2]
      rw [hl]
      go_enter Try.func44, Try.ntmps44
      go_wp2_with fail
      go_ret
      exact ⟨rfl, rfl⟩
    · have hl : leafK k = false := by unfold leafK; simp [h, h2]
      rw [hl]
      go_enter Try.func44, Try.ntmps44
      go_wp2_with fail
      go_ret
      exact ⟨rfl, rfl⟩
  · have hl : leafK k = false := by unfold leafK; simp [h]
    rw [hl]
    go_enter Try.func44, Try.ntmps44
    go_wp2_with fail
    go_ret
    exact ⟨rfl, rfl⟩
mutual
/-- Does a tree fit a text of so many bytes? -/
def fitT (N : Int) : Tree → Bool
  | .mk k i j l => decide (0 < k) && decide (0 ≤ i) && decide (i ≤ j) && decide (j ≤ N) && (if leafK k then l.isEmpty else (!l.isEmpty || i == j)) && (match fitTs N i l with | none => false | some e => l.isEmpty || e == j)
/-- Where the kids end that lie one behind the other from a place on. -/
def fitTs (N a : Int) : List Tree → Option Int
  | [] => some a
  | t :: l => if t.i == a && fitT N t then fitTs N t.j l else none
end
def errOf (b : Bool) : Int := if b then 0 else 80
/-- What Check is held to. -/
def CheckC (f : Nat) (t : Tree) : Prop := ∀ (w : World) (n : Rn) (s : ByteArray), Hid (TieB w t n) → Calls Try.prog f #[.string s, n.v] w fun e w' => e = .returned (.int .i64 (errOf (fitT s.size t))) ∧ Below w.heap.size w w'
set_option maxRecDepth 100000 in
set_option maxHeartbeats 4000000 in
theorem check_node (k i j : Int) (l : List Tree) (ih : ∀ t ∈ l, CheckC 13 t) : CheckC 13 (.mk k i j l) := by
  intro w n s hT
  obtain ⟨o, c, g, off, R, rfl, hc, hl, hlR, ho, HC, HT⟩ := TieB.out hT
  obtain ⟨N, hN⟩ : ∃ N, s.size = N := ⟨_, rfl⟩
  obtain ⟨len, hlen⟩ : ∃ len, l.length = len := ⟨_, rfl⟩
  have HN := Lib.hid hN
  have HLN := Lib.hid (And.intro hlen hlR)
  have HIH := Lib.hid ih
  have HO := Lib.hid ho
  have hb1 : Below w.heap.size w (w.alloc (.cells #[.int .i64 k, .int .i64 i, .int .i64 j, .slice o l.length c] 24)) := (Below.refl _ _).alloc (Nat.le_refl _) _
  have hx := heap_alloc_last w (.cells #[.int .i64 k, .int .i64 i, .int .i64 j, .slice o l.length c] 24)
  obtain ⟨lk, hlk⟩ : ∃ b, leafK k = b := ⟨_, rfl⟩
  have HLF : Hid (∀ w, Calls Try.prog 44 #[.int .i64 k] w fun e w' => e = .returned (.bool lk) ∧ w = w') := Lib.hid (fun w => by rw [← hlk]; exact leaf_any k w)
  have hie : l.isEmpty = decide (len = 0) := by
    cases l with
    | nil => simp at hlen; subst hlen; rfl
    | cons t l => simp at hlen; simp; omega
  have HF : Hid (fitT (N : Int) (.mk k i j l) = (decide (0 < k) && decide (0 ≤ i) && decide (i ≤ j) && decide (j ≤ (N : Int)) && (if lk then decide (len = 0) else (!decide (len = 0) || i == j)) && (match fitTs N i l with | none => false | some e => decide (len = 0) || e == j))) := Lib.hid (by rw [fitT, hlk, hie])
  obtain ⟨b, hb⟩ : ∃ b, fitT (N : Int) (.mk k i j l) = b := ⟨_, rfl⟩
  show Calls Try.prog 13 #[.string s, .agg #[.int .i64 k, .int .i64 i, .int .i64 j, .slice o l.length c]] w _
  rw [hN, hb]
  rw [hb] at HF
  rw [hlen] at hb1 hx hl ⊢
  obtain ⟨X, hX⟩ : ∃ X, w.heap.size = X := ⟨_, rfl⟩
  have HX := Lib.hid hX
  have HB1 := Lib.hid hb1
  clear hT hlen hlR ho hc ih hlk hie hb hX hb1 hx
  by_cases h1 : 0 < k
  case neg =>
    have d1 : decide (k ≤ 0) = true := decide_eq_true (by omega)
    obtain rfl : b = false := by rw [HF.out, decide_eq_false h1]; simp
    go_enter Try.func13, Try.ntmps13
    go_wp2_with fail
    go_ret
    exact ⟨rfl, HB1.out⟩
  case pos =>
  have d1 : decide (k ≤ 0) = false := decide_eq_false (by omega)
  by_cases h2 : 0 ≤ i
  case neg =>
    have d2 : decide (i < 0) = true := decide_eq_true (by omega)
    obtain rfl : b = false := by rw [HF.out, decide_eq_false h2]; simp
    go_enter Try.func13, Try.ntmps13
    go_wp2_with fail
    go_ret
    exact ⟨rfl, HB1.out⟩
  case pos =>
  have d2 : decide (i < 0) = false := decide_eq_false (by omega)
  by_cases h3 : i ≤ j
  case neg =>
    have d3 : decide (j < i) = true := decide_eq_true (by omega)
    obtain rfl : b = false := by rw [HF.out, decide_eq_false h3]; simp
    go_enter Try.func13, Try.ntmps13
    go_wp2_with fail
    go_ret
    exact ⟨rfl, HB1.out⟩
  case pos =>
  have d3 : decide (j < i) = false := decide_eq_false (by omega)
  have hN' := HN.out
  by_cases h4 : j ≤ (N : Int)
  case neg =>
    have d4 : decide ((s.size : Int) < j) = true := decide_eq_true (by rw [hN']; omega)
    obtain rfl : b = false := by rw [HF.out, decide_eq_false h4]; simp
    clear hN'
    go_enter Try.func13, Try.ntmps13
    go_wp2_with fail
    go_ret
    exact ⟨rfl, HB1.out⟩
  case pos =>
  have d4 : decide ((s.size : Int) < j) = false := decide_eq_false (by rw [hN']; omega)
  clear hN'
  have HX' := HX
  obtain ⟨W1, hW1⟩ : ∃ W1, w.alloc (.cells #[.int .i64 k, .int .i64 i, .int .i64 j, .slice o len c] 24) = W1 := ⟨_, rfl⟩
  have ha : W1.heap[X]? = some (.cells #[.int .i64 k, .int .i64 i, .int .i64 j, .slice o len c] 24 (0, 0)) := by rw [← hW1, ← HX.out]; exact heap_alloc_last _ _
  have HA := Lib.hid ha
  have HB2 : Hid (Below w.heap.size w W1) := Lib.hid (by rw [← hW1]; exact HB1.out)
  have HW1 := Lib.hid hW1
  clear ha hW1 HX'
  cases lk with
  | true =>
    by_cases h5 : len = 0
    case neg =>
      have d5 : decide (0 < (len : Int)) = true := decide_eq_true (by omega)
      have d5' : decide (0 < len) = true := decide_eq_true (by omega)
      obtain rfl : b = false := by rw [HF.out, decide_eq_false h5]; simp
      go_enter Try.func13, Try.ntmps13
      go_wp2_with (go_at_call 44; refine (HLF.out _).mono ?_; rintro e w' ⟨rfl, rfl⟩)
      go_ret
      exact ⟨rfl, HB1.out⟩
    case pos =>
      subst h5
      obtain rfl : l = [] := List.eq_nil_of_length_eq_zero HLN.out.1
      obtain rfl : b = true := by rw [HF.out, fitTs]; simp [h1, h2, h3, h4]
      go_enter Try.func13, Try.ntmps13
      go_wp2_with (go_at_call 44; refine (HLF.out _).mono ?_; rintro e w' ⟨rfl, rfl⟩)
      rw [HW1.out, HX.out]
      go_loopw [63, 5] (fun p a wr => p = .int .i64 0 ∧ a = .int .i64 i ∧ wr = W1) (fun _ _ _ => 0)
      case atStart => exact ⟨rfl, rfl, rfl⟩
      case round =>
        obtain ⟨rfl, rfl, rfl⟩ := hrel
        obtain ⟨⟨x0, x1, x2, x3⟩, _⟩ := four_cells0 HA.out
        have xz := (Array.getElem?_eq_some_iff.1 HA.out).1
        go_wp2_with fail
        go_ret
        exact ⟨rfl, HB2.out⟩
  | false =>
    by_cases h5 : len = 0
    case pos =>
      subst h5
      obtain rfl : l = [] := List.eq_nil_of_length_eq_zero HLN.out.1
      by_cases h6 : i = j
      case neg =>
        have d6 : decide (i = j) = false := decide_eq_false h6
        obtain rfl : b = false := by rw [HF.out, beq_eq_false_iff_ne.2 h6]; simp
        go_enter Try.func13, Try.ntmps13
        go_wp2_with (go_at_call 44; refine (HLF.out _).mono ?_; rintro e w' ⟨rfl, rfl⟩)
        go_ret
        exact ⟨rfl, HB1.out⟩
      case pos =>
        subst h6
        obtain rfl : b = true := by rw [HF.out, fitTs]; simp [h1, h2, h4]
        go_enter Try.func13, Try.ntmps13
        go_wp2_with (go_at_call 44; refine (HLF.out _).mono ?_; rintro e w' ⟨rfl, rfl⟩)
        rw [HW1.out, HX.out]
        go_loopw [63, 5] (fun p a wr => p = .int .i64 0 ∧ a = .int .i64 i ∧ wr = W1) (fun _ _ _ => 0)
        case atStart => exact ⟨rfl, rfl, rfl⟩
        case round =>
          obtain ⟨rfl, rfl, rfl⟩ := hrel
          obtain ⟨⟨x0, x1, x2, x3⟩, _⟩ := four_cells0 HA.out
          have xz := (Array.getElem?_eq_some_iff.1 HA.out).1
          go_wp2_with fail
          go_ret
          exact ⟨rfl, HB2.out⟩
    case neg =>
      have d5 : decide (0 < (len : Int)) = true := decide_eq_true (by omega)
      have d5' : decide (0 < len) = true := decide_eq_true (by omega)
      have d6 : decide (len = 0) = false := decide_eq_false h5
      have HF2 : Hid (b = (match fitTs N i l with | none => false | some e => e == j)) := Lib.hid (by rw [HF.out]; simp [h1, h2, h3, h4, d6])
      go_enter Try.func13, Try.ntmps13
      go_wp2_with (go_at_call 44; refine (HLF.out _).mono ?_; rintro e w' ⟨rfl, rfl⟩)
      rw [HW1.out, HX.out]
      go_loopw [63, 5] (fun p a wr => ∃ (q : Nat) (z : Int), q ≤ len ∧ p = .int .i64 (q : Int) ∧ a = .int .i64 z ∧ Below W1.heap.size W1 wr ∧ fitTs N z (l.drop q) = fitTs N i l) (fun p _ _ => len - (intOf p).toNat)
      case atStart => exact ⟨0, i, Nat.zero_le _, rfl, rfl, Below.refl _ _, rfl⟩
      case round =>
        obtain ⟨q, z, hql, rfl, rfl, hb, hft⟩ := hrel
        have y1 := (hb.block X (Array.getElem?_eq_some_iff.1 HA.out).1).trans HA.out
        obtain ⟨⟨x0, x1, x2, x3⟩, _⟩ := four_cells0 y1
        have xz := (Array.getElem?_eq_some_iff.1 y1).1
        have hbw : Below w.heap.size w wr := HB2.out.trans (hb.mono HB2.out.size)
        have HB := Lib.hid hb
        have HBW := Lib.hid hbw
        by_cases hlt : q < len
        · have hil : q < l.length := by rw [HLN.out.1]; exact hlt
          have hiR : q < R.length := by rw [HLN.out.2]; exact hil
          obtain ⟨ho, hg⟩ := HO.out (by intro e; rw [e] at hil; simp at hil)
          subst ho
          obtain ⟨a0, a1, a2, a3⟩ := cells_nd HC.out q hiR
          have HCALL : Hid (∀ u, Below wr.heap.size wr u → Calls Try.prog 13 #[.string s, R[q].v] u fun e w' => e = .returned (.int .i64 (errOf (fitT N l[q]))) ∧ Below u.heap.size u w') := Lib.hid (fun u hu => by
            have := HIH.out l[q] (List.getElem_mem hil) u R[q] s (HT.out u (hbw.trans (hu.mono hbw.size)) q hil hiR)
            rw [hN] at this
            exact this)
          have hki : R[q].i = l[q].i := by
            obtain ⟨D, h, _⟩ := (HT.out wr hbw q hil hiR).out
            exact h.i
          have hkj : R[q].j = l[q].j := by
            obtain ⟨D, h, _⟩ := (HT.out wr hbw q hil hiR).out
            exact h.j
          have hfd : fitTs N z (l.drop q) = if l[q].i == z && fitT N l[q] then fitTs N l[q].j (l.drop (q + 1)) else none := by
            rw [List.drop_eq_getElem_cons hil, fitTs]
          rw [hft] at hfd
          obtain ⟨fk, hfk⟩ : ∃ fk, fitT N l[q] = fk := ⟨_, rfl⟩
          rw [hfk] at hfd HCALL
          obtain ⟨⟨nk, ni, nj, no, nn, nc⟩, hn1⟩ : ∃ n, R[q] = n := ⟨_, rfl⟩
          rw [hn1] at a0 a1 a2 a3 HCALL hki hkj
          simp only [] at hki hkj
          rw [← hki, ← hkj] at hfd
          rw [show (Rn.mk nk ni nj no nn nc).v = .agg #[.int .i64 nk, .int .i64 ni, .int .i64 nj, .slice no nn nc] from rfl] at HCALL
          have c0 := (hbw.cell (p := ⟨g, off + q * 4, none⟩) hg).trans a0
          have c1 := (hbw.cell (p := ⟨g, off + q * 4 + 1, none⟩) hg).trans a1
          have c2 := (hbw.cell (p := ⟨g, off + q * 4 + 2, none⟩) hg).trans a2
          have c3 := (hbw.cell (p := ⟨g, off + q * 4 + 3, none⟩) hg).trans a3
          have hgw : g < wr.heap.size := Nat.lt_of_lt_of_le hg hbw.size
          have hq0 : (0 : Int) ≤ (q : Int) := by omega
          have hww : (q : Int) + 1 ≤ 2932031007318 := by omega
          have hd : decide ((q : Int) < (len : Int)) = true := decide_eq_true (by omega)
          have hd' : decide (q < len) = true := decide_eq_true hlt
          have hZ : Below wr.heap.size wr (wr.alloc (.cells #[.int .i64 nk, .int .i64 ni, .int .i64 nj, .slice no nn nc] 24)) := (Below.refl _ _).alloc (Nat.le_refl _) _
          have HZ := Lib.hid hZ
          have HFD := Lib.hid hfd
          simp only [] at c0 c1 c2 c3
          clear a0 a1 a2 a3 hn1 hki hkj hfk hfd hft hb hbw y1 hZ
          by_cases h7 : ni = z
          case neg =>
            obtain rfl : b = false := by rw [HF2.out, HFD.out, beq_eq_false_iff_ne.2 h7]; simp
            go_wp2_with fail
            go_ret
            exact ⟨rfl, HBW.out.trans (HZ.out.mono HBW.out.size)⟩
          case pos =>
            subst h7
            have HZB : Hid (∀ W', Below wr.heap.size wr W' → Below w.heap.size w W' ∧ Below W1.heap.size W1 W') := Lib.hid (fun W' h => ⟨HBW.out.trans (h.mono HBW.out.size), HB.out.trans (h.mono HB.out.size)⟩)
            cases fk with
            | false =>
              obtain rfl : b = false := by rw [HF2.out, HFD.out]; simp
              go_wp2_with (go_at_call 13; refine (HCALL.out _ ?_).mono ?_; exact HZ.out; rintro e w9 ⟨rfl, hb9⟩; have HB9 := Lib.hid (HZ.out.trans (hb9.mono HZ.out.size)); clear hb9; dsimp only [errOf])
              all_goals (first | go_ret | go_end0)
              all_goals exact ⟨rfl, (HZB.out _ HB9.out).1⟩
            | true =>
              have hnx : fitTs N nj (l.drop (q + 1)) = fitTs N i l := by rw [HFD.out]; simp
              have HNX := Lib.hid hnx
              clear hnx
              have HZ4 : Hid (∀ W', Below (wr.alloc (.cells #[.int .i64 nk, .int .i64 ni, .int .i64 nj, .slice no nn nc] 24)).heap.size (wr.alloc (.cells #[.int .i64 nk, .int .i64 ni, .int .i64 nj, .slice no nn nc] 24)) W' → W'.cell? ⟨wr.heap.size, 2, none⟩ = some (.int .i64 nj) ∧ wr.heap.size < W'.heap.size) := Lib.hid (fun W' h => by
                have e := heap_alloc_last wr (.cells #[.int .i64 nk, .int .i64 ni, .int .i64 nj, .slice no nn nc] 24)
                have e2 := (h.block _ (Array.getElem?_eq_some_iff.1 e).1).trans e
                exact ⟨(four_cells0 e2).1.2.2.1, (Array.getElem?_eq_some_iff.1 e2).1⟩)
              go_wp2_with (go_at_call 13; refine (HCALL.out _ ?_).mono ?_; exact HZ.out; rintro e w9 ⟨rfl, hb9⟩; obtain ⟨z2, z3⟩ := HZ4.out _ hb9; have HB9 := Lib.hid (HZ.out.trans (hb9.mono HZ.out.size)); clear hb9; dsimp only [errOf])
              all_goals (go_roundw; (case rel => exact ⟨q + 1, nj, by omega, by go_num, rfl, (HZB.out _ HB9.out).2, HNX.out⟩); (case measure => simp [intOf]; omega))
        · obtain rfl : q = len := by omega
          have hd : decide ((q : Int) < (q : Int)) = false := decide_eq_false (by omega)
          have hfe : fitTs N i l = some z := by
            rw [← hft, List.drop_of_length_le (by rw [HLN.out.1]; exact Nat.le_refl _), fitTs]
          have hbz : b = (z == j) := by rw [HF2.out, hfe]
          clear hfe hft hb hbw y1
          by_cases h7 : z = j
          · obtain rfl : b = true := by rw [hbz, h7]; simp
            clear hbz
            subst h7
            go_wp2_with fail
            go_ret
            exact ⟨rfl, HBW.out⟩
          · obtain rfl : b = false := by rw [hbz]; exact beq_eq_false_iff_ne.2 h7
            clear hbz
            go_wp2_with fail
            go_ret
            exact ⟨rfl, HBW.out⟩
mutual
theorem check_t : ∀ t : Tree, CheckC 13 t
  | .mk k i j l => check_node k i j l (check_l l)
theorem check_l : ∀ (l : List Tree), ∀ t ∈ l, CheckC 13 t
  | [], t, h => by cases h
  | u :: l, t, h => by
    rcases List.mem_cons.1 h with h | h
    · rw [h]; exact check_t u
    · exact check_l l t h
end
end Go.Proofs.Ytnnffcfdokejbaa.rd
