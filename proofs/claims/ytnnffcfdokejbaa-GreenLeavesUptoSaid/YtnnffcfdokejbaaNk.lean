/-
  Layer 8: the laws' marked.
-/
import Derived.Test.YtnnffcfdokejbaaNj
namespace Go.Proofs.Ytnnffcfdokejbaa.rd
open Go.RowKit

/-- A world in which blocks of some are written over. -/
structure Marked (D : Nat → Prop) (w w' : World) : Prop where
  os : w'.os = w.os
  tape : w'.tape = w.tape
  output : w'.output = w.output
  size : w.heap.size ≤ w'.heap.size
  keep : ∀ k, k < w.heap.size → ¬ D k → w'.heap[k]? = w.heap[k]?
theorem Marked.trans {D D' : Nat → Prop} {w w1 w2 : World} (h : Marked D w w1) (h' : Marked D' w1 w2) (hd : ∀ k, D' k → D k ∨ w.heap.size ≤ k) : Marked D w w2 :=
  ⟨h'.os.trans h.os, h'.tape.trans h.tape, h'.output.trans h.output, Nat.le_trans h.size h'.size, fun k hk hn => (h'.keep k (Nat.lt_of_lt_of_le hk h.size) (fun e => (hd k e).elim hn (by omega))).trans (h.keep k hk hn)⟩
theorem Marked.of_below {D : Nat → Prop} {w w' : World} (h : Below w.heap.size w w') : Marked D w w' := ⟨h.os, h.tape, h.output, h.size, fun k hk _ => h.block k hk⟩
def deadN : Rn := ⟨-4, 0, 0, none, 0, 0⟩
def lastN : Rn := ⟨-5, 0, 0, none, 0, 0⟩
theorem dead_set {R : List Rn} {q : Nat} (h : q < R.length) : (List.replicate q deadN ++ R.drop q).set q deadN = List.replicate (q + 1) deadN ++ R.drop (q + 1) := by
  rw [List.set_append_right _ _ (by simp), List.length_replicate, Nat.sub_self, List.drop_eq_getElem_cons h, List.set_cons_zero, List.replicate_succ', List.append_assoc]
  rfl
/-- Within marked: so many kids are written over. -/
structure Mk (D E : Nat → Prop) (w wr : World) (X : Nat) (k i j : Int) (o : Option Addr) (len c : Nat) (l : List Tree) (R : List Rn) (q : Nat) : Prop where
  m : Marked D w wr
  x : wr.heap[X]? = some (.cells #[.int .i64 k, .int .i64 i, .int .i64 j, .slice o len c] 24 (0, 0))
  row : Mine nd wr 0 (.slice o len c) (List.replicate q deadN ++ R.drop q)
  own : ∃ E', OTies wr E' (l.drop q) (R.drop q) ∧ ∀ g, E' g → E g
/-- What marked is held to. -/
def MarkC (f : Nat) (t : Tree) : Prop := ∀ (w : World) (D : Nat → Prop) (n : Rn), OTie w D t n → (∀ g, D g → g < w.heap.size) → Calls Try.prog f #[n.v] w fun e w' => (∃ v, e = .returned v) ∧ Marked D w w'
set_option maxRecDepth 100000 in
set_option maxHeartbeats 4000000 in
theorem mark_node (k i j : Int) (l : List Tree) (ih : ∀ t ∈ l, MarkC 23 t) : MarkC 23 (.mk k i j l) := by
  intro w D n hT hD
  obtain ⟨k', i', j', o, nn, c⟩ := n
  rw [OTie] at hT
  obtain ⟨rfl, rfl, rfl, hnn, hl, R, E, hm, hown, hED, hot⟩ := hT
  simp only [] at hnn hm hown
  subst hnn
  have hlR := hot.length
  obtain ⟨gv, ov, cv, hv, hov, _⟩ := Mine.shape hm
  obtain ⟨len, hlen⟩ : ∃ len, l.length = len := ⟨_, rfl⟩
  have hb1 : Below w.heap.size w (w.alloc (.cells #[.int .i64 k', .int .i64 i', .int .i64 j', .slice o l.length c] 24)) := (Below.refl _ _).alloc (Nat.le_refl _) _
  have hx := heap_alloc_last w (.cells #[.int .i64 k', .int .i64 i', .int .i64 j', .slice o l.length c] 24)
  show Calls Try.prog 23 #[.agg #[.int .i64 k', .int .i64 i', .int .i64 j', .slice o l.length c]] w _
  rw [hlen] at hm hown hl hb1 hx hv ⊢
  obtain ⟨W1, hW1⟩ : ∃ W1, w.alloc (.cells #[.int .i64 k', .int .i64 i', .int .i64 j', .slice o len c] 24) = W1 := ⟨_, rfl⟩
  rw [hW1] at hx hb1
  obtain ⟨X, hX⟩ : ∃ X, w.heap.size = X := ⟨_, rfl⟩
  have HX := Lib.hid hX
  rw [hX] at hx
  have hst : Mk D E w W1 X k' i' j' o len c l R 0 := ⟨Marked.of_below hb1, hx, by simpa using hm.below hb1, E, OTies.keep (fun g hg => hb1.block g (hD g (hED g hg))) (fun _ h => h) _ _ hot, fun _ h => h⟩
  have HST := Lib.hid hst
  have HW1 := Lib.hid hW1
  have HLN := Lib.hid (And.intro hlen hlR)
  have HIH := Lib.hid ih
  have HOWN := Lib.hid (And.intro hown (And.intro hED hD))
  have HOV : Hid (R ≠ [] → o = some ⟨gv, 0, none⟩) := Lib.hid (fun h => by
    simp only [Value.slice.injEq] at hv
    rw [hv.1]
    exact hov h)
  clear hm hown hED hD hot hlR hv hov hlen hb1 hx hW1 hX hst ih
  go_enter Try.func23, Try.ntmps23
  go_wp2_with fail
  rw [HW1.out, HX.out]
  go_loopw [6] (fun p wr => ∃ q : Nat, q ≤ len ∧ p = .int .i64 (q : Int) ∧ Mk D E w wr X k' i' j' o len c l R q) (fun p _ => len - (intOf p).toNat)
  case atStart => exact ⟨0, Nat.zero_le _, rfl, HST.out⟩
  case round =>
    obtain ⟨q, hql, rfl, hs⟩ := hrel
    obtain ⟨⟨_, _, _, x3⟩, fx⟩ := four_cells0 hs.x
    have xz := (Array.getElem?_eq_some_iff.1 hs.x).1
    by_cases hlt : q < len
    · have hil : q < l.length := by rw [HLN.out.1]; exact hlt
      have hiR : q < R.length := by rw [HLN.out.2]; exact hil
      obtain rfl := HOV.out (by intro e; rw [e] at hiR; simp at hiR)
      obtain ⟨E', hot, hE'⟩ := hs.own
      rw [List.drop_eq_getElem_cons hil, List.drop_eq_getElem_cons hiR, OTies] at hot
      obtain ⟨n0, R0, D1, D2, he, h1, h2, h3, h4, h5⟩ := hot
      simp only [List.cons.injEq] at he
      obtain ⟨rfl, rfl⟩ := he
      have hrl : (List.replicate q deadN ++ R.drop q).length = len := by rw [List.length_append, List.length_replicate, List.length_drop, HLN.out.2, HLN.out.1]; omega
      have hget : (List.replicate q deadN ++ R.drop q)[q]'(by rw [hrl]; exact hlt) = R[q] := by
        rw [List.getElem_append_right (by simp)]
        simp
      have hcl := cells_nd hs.row.cells q (by rw [hrl]; exact hlt)
      rw [hget] at hcl
      obtain ⟨a0, a1, a2, a3⟩ := hcl
      simp only [Nat.zero_add] at a0 a1 a2 a3
      obtain ⟨hown, hED, hD⟩ := HOWN.out
      have hgo := hown gv rfl
      have hgz : gv < wr.heap.size := Nat.lt_of_lt_of_le (hD gv hgo.1) hs.m.size
      have hE1 : ∀ g, E' g → g < wr.heap.size ∧ g ≠ gv ∧ g ≠ X := fun g hg => ⟨Nat.lt_of_lt_of_le (hD g (hED g (hE' g hg))) hs.m.size, fun e => hgo.2 (by rw [← e]; exact hE' g hg), fun e => by have := hD g (hED g (hE' g hg)); have := HX.out; omega⟩
      have HCALL : Hid (Calls Try.prog 23 #[R[q].v] wr fun e w' => (∃ v, e = .returned v) ∧ Marked D1 wr w') := Lib.hid (HIH.out l[q] (List.getElem_mem hil) wr D1 R[q] h4 (fun g hg => (hE1 g (h1 g hg)).1))
      have HTELL : Hid (∀ w9, Marked D1 wr w9 → (w9.cell? ⟨X, 3, none⟩ = some (.slice (some ⟨gv, 0, none⟩) len c) ∧ X < w9.heap.size ∧ gv < w9.heap.size) ∧ ((∃ u0, w9.cell? ⟨gv, q * 4, none⟩ = some u0) ∧ (∃ u1, w9.cell? ⟨gv, q * 4 + 1, none⟩ = some u1) ∧ (∃ u2, w9.cell? ⟨gv, q * 4 + 2, none⟩ = some u2) ∧ ∃ u3, w9.cell? ⟨gv, q * 4 + 3, none⟩ = some u3) ∧ (∀ j, w9.frozen? ⟨gv, j, none⟩ = false) ∧ Mk D E w ((((w9.setCell ⟨gv, q * 4, none⟩ (.int .i64 (-4))).setCell ⟨gv, q * 4 + 1, none⟩ (.int .i64 0)).setCell ⟨gv, q * 4 + 2, none⟩ (.int .i64 0)).setCell ⟨gv, q * 4 + 3, none⟩ (.slice none 0 0)) X k' i' j' (some ⟨gv, 0, none⟩) len c l R (q + 1)) := Lib.hid (fun w9 h9 => by
        have hgX : gv ≠ X := fun e => by have := hD gv hgo.1; have := HX.out; omega
        have hx9 := (h9.keep X xz (fun e => (hE1 X (h1 X e)).2.2 rfl)).trans hs.x
        have hg9 := h9.keep gv hgz (fun e => (hE1 gv (h1 gv e)).2.1 rfl)
        have hrow9 := hs.row.keep (w' := w9) (fun k hk _ => by simp only [Value.ownBlock, Option.some.injEq] at hk; subst hk; exact hg9)
        have hsm : ∀ k, k ≠ gv → ((((w9.setCell ⟨gv, q * 4, none⟩ (.int .i64 (-4))).setCell ⟨gv, q * 4 + 1, none⟩ (.int .i64 0)).setCell ⟨gv, q * 4 + 2, none⟩ (.int .i64 0)).setCell ⟨gv, q * 4 + 3, none⟩ (.slice none 0 0)).heap[k]? = w9.heap[k]? := fun k hk => by
          rw [set_one _ _ _ _ _ hk, set_one _ _ _ _ _ hk, set_one _ _ _ _ _ hk, set_one _ _ _ _ _ hk]
        have hm9 := hs.m.trans h9 (fun k hk => .inl (hED k (hE' k (h1 k hk))))
        refine ⟨⟨(four_cells0 hx9).1.2.2.2, Nat.lt_of_lt_of_le xz h9.size, Nat.lt_of_lt_of_le hgz h9.size⟩, ⟨⟨_, (cell_same hg9 _).trans a0⟩, ⟨_, (cell_same hg9 _).trans a1⟩, ⟨_, (cell_same hg9 _).trans a2⟩, ⟨_, (cell_same hg9 _).trans a3⟩⟩, fun j => hrow9.free j, ⟨hm9.os, hm9.tape, hm9.output, by rw [size_set, size_set, size_set, size_set]; exact hm9.size, fun k hk hn => (hsm k (fun e => hn (by rw [e]; exact hgo.1))).trans (hm9.keep k hk hn)⟩, (hsm X (fun e => hgX e.symm)).trans hx9, ?_, D2, ?_, fun g hg => hE' g (h2 g hg)⟩
        · have := hrow9.put_nd hrl q (by rw [hrl]; exact hlt) deadN
          rw [dead_set hiR] at this
          exact this
        · exact OTies.keep (fun g hg => (hsm g (hE1 g (h2 g hg)).2.1).trans (h9.keep g (hE1 g (h2 g hg)).1 (fun e => h3 g e hg))) (fun _ h => h) _ _ h5)
      obtain ⟨⟨nk, ni, nj, no, nn, nc⟩, hn1⟩ : ∃ n, R[q] = n := ⟨_, rfl⟩
      rw [hn1] at a0 a1 a2 a3 HCALL
      rw [show (Rn.mk nk ni nj no nn nc).v = .agg #[.int .i64 nk, .int .i64 ni, .int .i64 nj, .slice no nn nc] from rfl] at HCALL
      have hq0 : (0 : Int) ≤ (q : Int) := by omega
      have hww : (q : Int) + 1 ≤ 2932031007318 := by omega
      have hdd : decide ((q : Int) < (len : Int)) = true := decide_eq_true (by omega)
      have hdd' : decide (q < len) = true := decide_eq_true hlt
      simp only [] at a0 a1 a2 a3
      clear hn1 hs hE' h1 h2 h3 h4 h5 hrl hget hown hED hD hgo hE1 fx
      go_wp2_with (go_at_call 23; refine HCALL.out.mono ?_; rintro e w9 ⟨⟨v, rfl⟩, hm9⟩; obtain ⟨⟨z3, zx, zg⟩, ⟨⟨u0, z4⟩, ⟨u1, z5⟩, ⟨u2, z6⟩, ⟨u3, z7⟩⟩, zf, hmk⟩ := HTELL.out w9 hm9; have f0 := zf (q * 4); have f1 := zf (q * 4 + 1); have f2 := zf (q * 4 + 2); have f3 := zf (q * 4 + 3); have HMK := Lib.hid hmk; clear hm9 zf hmk)
      go_roundw
      case rel => exact ⟨q + 1, by omega, by go_num, HMK.out⟩
      case measure => simp [intOf]; omega
    · obtain rfl : q = len := by omega
      have hdd : decide ((q : Int) < (q : Int)) = false := decide_eq_false (by omega)
      have fx3 := fx 3
      have hrl : (List.replicate q deadN ++ R.drop q).length = q := by rw [List.length_append, List.length_replicate, List.length_drop, HLN.out.2, HLN.out.1]; omega
      have HGO : Hid (∀ u, Below wr.heap.size wr u → ∀ ad, u.heap[ad]? = some (.cells #[.int .i64 (-5), .int .i64 0, .int .i64 0, .slice none 0 0] 24 (0, 0)) → ∃ v' w', (∀ ty, (Builtin.append_ #[22, 22] ty #[.slice o q c, .slice (some ⟨ad, 0, none⟩) 1 1]).run Try.prog u = .ok v' w') ∧ (∃ g cap', v' = .slice (some ⟨g, 0, none⟩) (q + 1) cap') ∧ (∃ u3, w'.cell? ⟨X, 3, none⟩ = some u3) ∧ w'.frozen? ⟨X, 3, none⟩ = false ∧ X < w'.heap.size ∧ Marked D w (w'.setCell ⟨X, 3, none⟩ v')) := Lib.hid (fun u hu ad had => by
        obtain ⟨hown, hED, hD⟩ := HOWN.out
        obtain ⟨g, cap', w', h3, h4, h5, h6⟩ := app_lies (F := nd) (x := lastN) (hs.row.below hu) had (Nat.zero_le _) (by rw [hrl]; simp [maxLen]; omega) (by show (_ + 1) * 48 ≤ _; rw [hrl]; omega)
        rw [hrl] at h3
        have hxn : (Value.slice o q c).ownBlock ≠ some X := fun e => by have := hD X (hown X e).1; have := HX.out; omega
        have hxw : w'.heap[X]? = wr.heap[X]? := (h5.block X (Nat.lt_of_lt_of_le xz hu.size) (fun e => hxn e.symm)).trans (hu.block X xz)
        obtain ⟨⟨_, _, _, y3⟩, yf⟩ := four_cells0 (hxw.trans hs.x)
        have hz1 := hs.m.size
        have hz2 := hu.size
        have hz3 := h5.size
        refine ⟨_, w', h3, ⟨g, cap', rfl⟩, ⟨_, y3⟩, yf 3, by omega, h5.os.trans (hu.os.trans hs.m.os), h5.tape.trans (hu.tape.trans hs.m.tape), h5.output.trans (hu.output.trans hs.m.output), by rw [size_set]; omega, fun k hk hn => ?_⟩
        have hx := HX.out
        rw [set_one _ _ _ _ _ (by omega), h5.block k (by omega) (fun e => hn (hown k e.symm).1), hu.block k (by omega)]
        exact hs.m.keep k hk hn)
      clear hs fx hrl
      go_wp2_with (at_builtin; obtain ⟨v', w', hrun, ⟨g', cap', rfl⟩, ⟨u3, z3⟩, zf, zx, hmk⟩ := HGO.out _ ((Below.refl _ _).alloc (Nat.le_refl _) _) _ (heap_alloc_last wr _); have HMK := Lib.hid hmk; clear hmk; refine Lib.wpList_append_run _ rfl _ _ _ _ rfl _ _ rfl rfl _ _ (hrun _) ?_; clear hrun)
      first | go_end0 | go_ret
      exact ⟨⟨_, rfl⟩, HMK.out⟩
mutual
theorem mark_t : ∀ t : Tree, MarkC 23 t
  | .mk k i j l => mark_node k i j l (mark_l l)
theorem mark_l : ∀ (l : List Tree), ∀ t ∈ l, MarkC 23 t
  | [], t, h => by cases h
  | u :: l, t, h => by
    rcases List.mem_cons.1 h with h | h
    · rw [h]; exact mark_t u
    · exact mark_l l t h
end
end Go.Proofs.Ytnnffcfdokejbaa.rd
