/-
  Layer 8: the reference's holds, Find.
-/
import Derived.Test.YtnnffcfdokejbaaNg
namespace Go.Proofs.Ytnnffcfdokejbaa.rd
open Go.RowKit

def holdsI (i j a b : Int) : Bool := decide (i ≤ a) && decide (a ≤ b) && decide (b ≤ j)
theorem holds_any (k i j a b : Int) (o : Option Addr) (n c : Nat) (w : World) : Calls Try.prog 59 #[.agg #[.int .i64 k, .int .i64 i, .int .i64 j, .slice o n c], .int .i64 a, .int .i64 b] w fun e w' => e = .returned (.bool (holdsI i j a b)) ∧ Below w.heap.size w w' := by
  have hb : Below w.heap.size w (w.alloc (.cells #[.int .i64 k, .int .i64 i, .int .i64 j, .slice o n c] 24)) := (Below.refl _ _).alloc (Nat.le_refl _) _
  by_cases h1 : i ≤ a
  · have d1 : decide (i ≤ a) = true := decide_eq_true h1
    by_cases h2 : a ≤ b
    · have d2 : decide (a ≤ b) = true := decide_eq_true h2
      have hl : holdsI i j a b = decide (b ≤ j) := by unfold holdsI; simp [h1, h2]
      rw [hl]
      clear hl
      go_enter Try.func59, Try.ntmps59
      go_wp2_with fail
      go_ret
      exact ⟨rfl, hb⟩
    · have d2 : decide (a ≤ b) = false := decide_eq_false h2
      have hl : holdsI i j a b = false := by unfold holdsI; simp [h2]
      rw [hl]
      clear hl
      go_enter Try.func59, Try.ntmps59
      go_wp2_with fail
      go_ret
      exact ⟨rfl, hb⟩
  · have d1 : decide (i ≤ a) = false := decide_eq_false h1
    have hl : holdsI i j a b = false := by unfold holdsI; simp [h1]
    rw [hl]
    clear hl
    go_enter Try.func59, Try.ntmps59
    go_wp2_with fail
    go_ret
    exact ⟨rfl, hb⟩
mutual
/-- The way to the innermost node that holds a piece. -/
def findT (a b : Int) : Tree → Option (List Int)
  | .mk _ i j l => if holdsI i j a b then some (findTs a b 0 l) else none
def findTs (a b : Int) (q : Nat) : List Tree → List Int
  | [] => []
  | t :: l => match findT a b t with | some w => (q : Int) :: w | none => findTs a b (q + 1) l
end
theorem findT_some (a b : Int) (t : Tree) : (findT a b t).isSome = holdsI t.i t.j a b := by
  obtain ⟨k, i, j, l⟩ := t
  rw [findT]
  show _ = holdsI i j a b
  cases holdsI i j a b <;> rfl
theorem findTs_drop {a b : Int} {l : List Tree} {q : Nat} (h : q < l.length) : findTs a b q (l.drop q) = match findT a b l[q] with | some w => (q : Int) :: w | none => findTs a b (q + 1) (l.drop (q + 1)) := by
  rw [List.drop_eq_getElem_cons h, findTs]
/-- What Find is held to. -/
def FindC (f : Nat) (t : Tree) : Prop := ∀ (w : World) (n : Rn) (a b : Int), Hid (TieB w t n) → ((findT a b t).getD []).length ≤ 1099511627776 → Calls Try.prog f #[n.v, .int .i64 a, .int .i64 b] w fun e w' => ∃ v, e = .returned (.tuple #[v, .bool (findT a b t).isSome]) ∧ Below w.heap.size w w' ∧ Mine it w' w.heap.size v ((findT a b t).getD [])
set_option maxRecDepth 100000 in
set_option maxHeartbeats 4000000 in
theorem find_node (k i j : Int) (l : List Tree) (ih : ∀ t ∈ l, FindC 36 t) : FindC 36 (.mk k i j l) := by
  intro w n a b hT hfew
  obtain ⟨o, c, g, off, R, rfl, hc, hl, hlR, ho, HC, HT⟩ := TieB.out hT
  obtain ⟨len, hlen⟩ : ∃ len, l.length = len := ⟨_, rfl⟩
  have HLN := Lib.hid (And.intro hlen hlR)
  have HIH := Lib.hid ih
  have HO := Lib.hid ho
  have hb1 : Below w.heap.size w (w.alloc (.cells #[.int .i64 k, .int .i64 i, .int .i64 j, .slice o l.length c] 24)) := (Below.refl _ _).alloc (Nat.le_refl _) _
  have hx := heap_alloc_last w (.cells #[.int .i64 k, .int .i64 i, .int .i64 j, .slice o l.length c] 24)
  obtain ⟨hh, hhh⟩ : ∃ x, holdsI i j a b = x := ⟨_, rfl⟩
  have HHO : Hid (∀ (o : Option Addr) (n c : Nat) (w : World), Calls Try.prog 59 #[.agg #[.int .i64 k, .int .i64 i, .int .i64 j, .slice o n c], .int .i64 a, .int .i64 b] w fun e w' => e = .returned (.bool hh) ∧ Below w.heap.size w w') := Lib.hid (fun o n c w => by rw [← hhh]; exact holds_any k i j a b o n c w)
  show Calls Try.prog 36 #[.agg #[.int .i64 k, .int .i64 i, .int .i64 j, .slice o l.length c], .int .i64 a, .int .i64 b] w _
  rw [hlen] at hb1 hx hl ⊢
  rw [findT, hhh] at hfew ⊢
  obtain ⟨W1, hW1⟩ : ∃ W1, w.alloc (.cells #[.int .i64 k, .int .i64 i, .int .i64 j, .slice o len c] 24) = W1 := ⟨_, rfl⟩
  have HW1 := Lib.hid hW1
  have HB1 := Lib.hid hb1
  rw [hW1] at hx
  obtain ⟨X, hX⟩ : ∃ X, w.heap.size = X := ⟨_, rfl⟩
  have HX := Lib.hid hX
  rw [hX] at hx
  have HA := Lib.hid hx
  have HB2 : Hid (Below w.heap.size w W1) := Lib.hid (by rw [← hW1]; exact hb1)
  clear hT hlen hlR ho hc ih hhh hX hb1 hx hW1
  cases hh with
  | false =>
    clear hfew
    go_enter Try.func36, Try.ntmps36
    go_wp2_with (go_at_call 59; refine (HHO.out _ _ _ _).mono ?_; rintro e w2 ⟨rfl, hb2⟩; have HB3 := Lib.hid (HB1.out.trans (hb2.mono HB1.out.size)); clear hb2)
    go_ret2
    exact ⟨_, rfl, HB3.out, Mine.nil _ _⟩
  | true =>
    simp only [if_true, Option.getD_some, Option.isSome_some] at hfew ⊢
    have HFEW := Lib.hid hfew
    clear hfew
    go_enter Try.func36, Try.ntmps36
    go_wp2_with (go_at_call 59; rw [HW1.out]; refine (HHO.out _ _ _ _).mono ?_; rintro e w2 ⟨rfl, hb2⟩; rw [HX.out]; have hx2 := (hb2.block X (Array.getElem?_eq_some_iff.1 HA.out).1).trans HA.out; obtain ⟨⟨x0, x1, x2, x3⟩, _⟩ := four_cells0 hx2; have xz := (Array.getElem?_eq_some_iff.1 hx2).1; have HB3 := Lib.hid (HB2.out.trans (hb2.mono HB2.out.size)); clear hb2 hx2)
    clear x0 x1 x2 x3 xz
    go_loopw [20] (fun p wr => ∃ q : Nat, q ≤ len ∧ p = .int .i64 (q : Int) ∧ Below w.heap.size w wr ∧ findTs a b q (l.drop q) = findTs a b 0 l) (fun p _ => len - (intOf p).toNat)
    case atStart => exact ⟨0, Nat.zero_le _, rfl, HB3.out, rfl⟩
    case round =>
      obtain ⟨q, hql, rfl, hb, hft⟩ := hrel
      by_cases hlt : q < len
      · have hil : q < l.length := by rw [HLN.out.1]; exact hlt
        have hiR : q < R.length := by rw [HLN.out.2]; exact hil
        obtain ⟨ho, hg⟩ := HO.out (by intro e; rw [e] at hil; simp at hil)
        subst ho
        obtain ⟨a0, a1, a2, a3⟩ := cells_nd HC.out q hiR
        have hki : R[q].i = l[q].i := by
          obtain ⟨D, h, _⟩ := (HT.out wr hb q hil hiR).out
          exact h.i
        have hkj : R[q].j = l[q].j := by
          obtain ⟨D, h, _⟩ := (HT.out wr hb q hil hiR).out
          exact h.j
        have hfd := findTs_drop (a := a) (b := b) hil
        rw [hft] at hfd
        have hsm := findT_some a b l[q]
        rw [← hki, ← hkj] at hsm
        obtain ⟨fk, hfk⟩ : ∃ fk, findT a b l[q] = fk := ⟨_, rfl⟩
        have HCALL : Hid (∀ u, Below wr.heap.size wr u → (fk.getD []).length ≤ 1099511627776 → Calls Try.prog 36 #[R[q].v, .int .i64 a, .int .i64 b] u fun e w' => ∃ v, e = .returned (.tuple #[v, .bool fk.isSome]) ∧ Below u.heap.size u w' ∧ Mine it w' u.heap.size v (fk.getD [])) := Lib.hid (fun u hu hn => by
          have := HIH.out l[q] (List.getElem_mem hil) u R[q] a b (HT.out u (hb.trans (hu.mono hb.size)) q hil hiR)
          rw [hfk] at this
          exact this hn)
        rw [hfk] at hfd hsm
        obtain ⟨⟨nk, ni, nj, no, nn, nc⟩, hn1⟩ : ∃ n, R[q] = n := ⟨_, rfl⟩
        rw [hn1] at a0 a1 a2 a3 HCALL hsm
        simp only [] at hsm
        have HHK : Hid (∀ (o : Option Addr) (n c : Nat) (w : World), Calls Try.prog 59 #[.agg #[.int .i64 nk, .int .i64 ni, .int .i64 nj, .slice o n c], .int .i64 a, .int .i64 b] w fun e w' => e = .returned (.bool fk.isSome) ∧ Below w.heap.size w w') := Lib.hid (fun o n c w => by rw [hsm]; exact holds_any nk ni nj a b o n c w)
        rw [show (Rn.mk nk ni nj no nn nc).v = .agg #[.int .i64 nk, .int .i64 ni, .int .i64 nj, .slice no nn nc] from rfl] at HCALL
        have c0 := (hb.cell (p := ⟨g, off + q * 4, none⟩) hg).trans a0
        have c1 := (hb.cell (p := ⟨g, off + q * 4 + 1, none⟩) hg).trans a1
        have c2 := (hb.cell (p := ⟨g, off + q * 4 + 2, none⟩) hg).trans a2
        have c3 := (hb.cell (p := ⟨g, off + q * 4 + 3, none⟩) hg).trans a3
        have hgw : g < wr.heap.size := Nat.lt_of_lt_of_le hg hb.size
        have hq0 : (0 : Int) ≤ (q : Int) := by omega
        have hww : (q : Int) + 1 ≤ 2932031007318 := by omega
        have hd : decide ((q : Int) < (len : Int)) = true := decide_eq_true (by omega)
        have hd' : decide (q < len) = true := decide_eq_true hlt
        have HZ : Hid (Below wr.heap.size wr (wr.alloc (.cells #[.int .i64 nk, .int .i64 ni, .int .i64 nj, .slice no nn nc] 24))) := Lib.hid ((Below.refl _ _).alloc (Nat.le_refl _) _)
        have HZ4 : Hid (∀ W', Below (wr.alloc (.cells #[.int .i64 nk, .int .i64 ni, .int .i64 nj, .slice no nn nc] 24)).heap.size (wr.alloc (.cells #[.int .i64 nk, .int .i64 ni, .int .i64 nj, .slice no nn nc] 24)) W' → (W'.cell? ⟨wr.heap.size, 0, none⟩ = some (.int .i64 nk) ∧ W'.cell? ⟨wr.heap.size, 1, none⟩ = some (.int .i64 ni) ∧ W'.cell? ⟨wr.heap.size, 2, none⟩ = some (.int .i64 nj) ∧ W'.cell? ⟨wr.heap.size, 3, none⟩ = some (.slice no nn nc)) ∧ wr.heap.size < W'.heap.size) := Lib.hid (fun W' h => by
          have e := heap_alloc_last wr (.cells #[.int .i64 nk, .int .i64 ni, .int .i64 nj, .slice no nn nc] 24)
          have e2 := (h.block _ (Array.getElem?_eq_some_iff.1 e).1).trans e
          exact ⟨(four_cells0 e2).1, (Array.getElem?_eq_some_iff.1 e2).1⟩)
        have HB := Lib.hid hb
        have HFD := Lib.hid hfd
        simp only [] at c0 c1 c2 c3
        clear a0 a1 a2 a3 hn1 hki hkj hsm hfk hfd hft hb
        cases fk with
        | none =>
          have hnx : findTs a b (q + 1) (l.drop (q + 1)) = findTs a b 0 l := by rw [HFD.out]
          have HNX := Lib.hid hnx
          clear hnx
          go_wp2_with (go_at_call 59; refine (HHK.out _ _ _ _).mono ?_; rintro e w4 ⟨rfl, hb4⟩; have HB4 := Lib.hid (HB.out.trans ((HZ.out.trans (hb4.mono HZ.out.size)).mono HB.out.size)); clear hb4; dsimp only [Option.isSome])
          go_roundw
          case rel => exact ⟨q + 1, by omega, by go_num, HB4.out, HNX.out⟩
          case measure => simp [intOf]; omega
        | some way =>
          have hres : findTs a b 0 l = (q : Int) :: way := by rw [HFD.out]
          have hwl : way.length + 1 ≤ 1099511627776 := by
            have := HFEW.out
            rw [hres] at this
            exact this
          have HRES := Lib.hid hres
          have HGO : Hid (∀ w9 v, Below w.heap.size w w9 → Mine it w9 0 v way → ∃ v' w', (∀ ty, (Builtin.append_ #[32, 32] ty #[.slice (some ⟨w9.heap.size, 0, none⟩) 1 1, v]).run Try.prog (w9.alloc (.cells #[.int .i64 (q : Int)] 3)) = .ok v' w') ∧ Below w.heap.size w w' ∧ Mine it w' w.heap.size v' (findTs a b 0 l)) := Lib.hid (fun w9 v hw9 hv => by
            have hz := hw9.size
            have hlit := Mine.lit (F := it) (B := w.heap.size) w9 [(q : Int)] hz (by show 1 ≤ maxLen; decide)
            have hu : Below w9.heap.size w9 (w9.alloc (.cells #[.int .i64 (q : Int)] 3)) := (Below.refl _ _).alloc (Nat.le_refl _) _
            obtain ⟨v', w', e1, e2, e3⟩ := run_append_row (F := it) hlit (hv.below hu).row (by have := hu.size; exact Nat.le_trans hz this) (by simp [maxLen]; omega) (by show (1 + _) * 8 ≤ _; omega)
            exact ⟨v', w', e1, Mine.more hlit (hw9.alloc hz _) (Nat.le_refl _) (Nat.le_trans hz hu.size) e3, by rw [HRES.out]; exact e2⟩)
          clear hres
          go_wp2_with (first
            | (go_at_call 59; refine (HHK.out _ _ _ _).mono ?_; rintro e w4 ⟨rfl, hb4⟩; obtain ⟨⟨z0, z1, z2, z3⟩, zz⟩ := HZ4.out w4 hb4; have HB4 := Lib.hid (HZ.out.trans (hb4.mono HZ.out.size)); clear hb4; dsimp only [Option.isSome])
            | (go_at_call 36; refine (HCALL.out _ HB4.out (by dsimp only [Option.getD]; omega)).mono ?_; rintro e w9 ⟨v, rfl, hb9, hm9⟩; have hw9 : Below w.heap.size w w9 := HB.out.trans ((HB4.out.trans (hb9.mono HB4.out.size)).mono HB.out.size); obtain ⟨v', w', hrun, hB', hM'⟩ := HGO.out w9 v hw9 (hm9.mono (Nat.zero_le _)); have HRUN := Lib.hid hrun; have HB' := Lib.hid (And.intro hB' hM'); clear hb9 hm9 hw9 hrun hB' hM')
            | (at_builtin; refine Lib.wpList_append_run _ rfl _ _ _ _ rfl _ _ rfl rfl _ _ (HRUN.out _) ?_))
          go_ret2
          exact ⟨_, rfl, HB'.out.1, HB'.out.2⟩
      · obtain rfl : q = len := by omega
        have hd : decide ((q : Int) < (q : Int)) = false := decide_eq_false (by omega)
        have hfe : findTs a b 0 l = [] := by
          rw [← hft, List.drop_of_length_le (by rw [HLN.out.1]; exact Nat.le_refl _), findTs]
        have HFE := Lib.hid hfe
        have HB := Lib.hid hb
        clear hft hfe hb
        go_wp2_with fail
        go_ret2
        exact ⟨_, rfl, HB.out, by rw [HFE.out]; exact Mine.nil _ _⟩
mutual
theorem find_t : ∀ t : Tree, FindC 36 t
  | .mk k i j l => find_node k i j l (find_l l)
theorem find_l : ∀ (l : List Tree), ∀ t ∈ l, FindC 36 t
  | [], t, h => by cases h
  | u :: l, t, h => by
    rcases List.mem_cons.1 h with h | h
    · rw [h]; exact find_t u
    · exact find_l l t h
end
end Go.Proofs.Ytnnffcfdokejbaa.rd
