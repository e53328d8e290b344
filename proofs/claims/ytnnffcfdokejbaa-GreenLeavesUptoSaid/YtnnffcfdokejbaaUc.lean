/-
  Layer 8: the law GreenText, over what the program's functions are held to.
-/
import Derived.Test.YtnnffcfdokejbaaUb
import Derived.Test.YtnnffcfdokejbaaQa
import Derived.Test.YtnnffcfdokejbaaQe
import Derived.Test.YtnnffcfdokejbaaQf
namespace Go.Proofs.Ytnnffcfdokejbaa.rd
open Go.RowKit

/-- A tree and its text in a box. -/
def TBox (w : World) (X : Nat) (s : ByteArray) (n : Rn) : Prop := w.heap[X]? = some (.cells #[.string s, .int .i64 n.k, .int .i64 n.i, .int .i64 n.j, .slice n.o n.n n.c] 38 (0, 0))
theorem TBox.below {w w' : World} {X : Nat} {s : ByteArray} {n : Rn} (h : TBox w X s n) (hb : Below w.heap.size w w') : TBox w' X s n := (hb.block _ (Array.getElem?_eq_some_iff.1 h).1).trans h
theorem TBox.low {w w' : World} {X B : Nat} {s : ByteArray} {n : Rn} (h : TBox w X s n) (hb : Below B w w') (hX : X < B) : TBox w' X s n := (hb.block _ hX).trans h
theorem TBox.cells {w : World} {X : Nat} {s : ByteArray} {k i j : Int} {o : Option Addr} {n c : Nat} (h : TBox w X s ⟨k, i, j, o, n, c⟩) : (w.cell? ⟨X, 0, none⟩ = some (.string s) ∧ w.cell? ⟨X, 1, none⟩ = some (.int .i64 k) ∧ w.cell? ⟨X, 2, none⟩ = some (.int .i64 i) ∧ w.cell? ⟨X, 3, none⟩ = some (.int .i64 j) ∧ w.cell? ⟨X, 4, none⟩ = some (.slice o n c)) ∧ X < w.heap.size :=
  ⟨⟨by rw [cell_of_row w X 0 _ _ _ h]; rfl, by rw [cell_of_row w X 1 _ _ _ h]; rfl, by rw [cell_of_row w X 2 _ _ _ h]; rfl, by rw [cell_of_row w X 3 _ _ _ h]; rfl, by rw [cell_of_row w X 4 _ _ _ h]; rfl⟩, (Array.getElem?_eq_some_iff.1 h).1⟩
/-- Put, of a tree that fits, into a pool of one's own. -/
theorem PoolC.put_fit {Pl : World → Nat → (Nat → Prop) → List Gr → Prop} (HC : PoolC Pl) {w u : World} {b B : Nat} {D : Nat → Prop} {L : List Gr} {t : Tree} {n : Rn} {s : ByteArray} (ht : Hid (TieB w t n)) (hin : InR t) (hs : s.size ≤ 281474976710656) (hfit : fitT s.size t = true) (hl : (putT s t L).1.length ≤ 4294967296) (hu : Below w.heap.size w u) (hp : Pl u b D L) (hB : w.heap.size ≤ B) (hBu : B ≤ u.heap.size) (hd : ∀ k, D k → B ≤ k) :
    Calls Try.prog 18 #[.pointer (some ⟨b, 0, none⟩), .string s, n.v] u fun e w' => e = .returned (.tuple #[.int .i64 ((putT s t L).2 : Int), .int .i64 0]) ∧ Below B u w' ∧ ∃ D', Pl w' b D' (putT s t L).1 ∧ ∀ k, D' k → B ≤ k := by
  obtain ⟨T0, h3, h4⟩ := ht.out
  have h := HC.put (s := s) hp (Tie.keep (fun k hk => hu.block k (h4 k hk)) (fun _ h => h) _ _ h3) (fun k hk => ⟨Nat.lt_of_lt_of_le (h4 k hk) hu.size, fun e => by have := hd k e; have := h4 k hk; omega⟩) hin hs hl
  rw [hfit] at h
  exact h.mono fun e w' ⟨e1, D', e2, e3, e4⟩ => ⟨e1, e3.low hd hBu, D', e2, fun k hk => (e4 k hk).elim (hd k) (fun e => Nat.le_trans hBu e)⟩

set_option maxRecDepth 100000 in
set_option maxHeartbeats 4000000 in
theorem text_good {Pl : World → Nat → (Nat → Prop) → List Gr → Prop} (HPL : PoolC Pl) (HSH : ShownC) (HCK : ∀ t, CheckC 12 t) (t : Tree) (s : ByteArray) (w : World) (n : Rn) (ht : Hid (TieB w t n)) (hin : InR t) (hs : s.size ≤ 140737488351232) (hb : bulkT t ≤ 1048576) (hfit : fitT s.size t = true) :
    Calls Try.prog 7 #[.agg #[.string s, .int .i64 n.k, .int .i64 n.i, .int .i64 n.j, .slice n.o n.n n.c]] w fun e w' => e = .returned (.bool true) ∧ Below w.heap.size w w' := by
  obtain ⟨k, i, j, l⟩ := t
  obtain ⟨o, c, g0, off0, R0, rfl, _, _, _, _, _, _⟩ := TieB.out ht
  obtain ⟨_, hi0, hij, hjN, _⟩ := fitT_node hfit
  obtain ⟨t, htt⟩ : ∃ t, Tree.mk k i j l = t := ⟨_, rfl⟩
  have hti : t.i = i := by rw [← htt]; rfl
  have htj : t.j = j := by rw [← htt]; rfl
  obtain ⟨nn, hnn⟩ : ∃ nn, l.length = nn := ⟨_, rfl⟩
  rw [htt, hnn] at ht
  rw [htt] at hin hb hfit
  show Calls Try.prog 7 #[.agg #[.string s, .int .i64 k, .int .i64 i, .int .i64 j, .slice o l.length c]] w _
  rw [hnn]
  have hfew : FewT t := by obtain ⟨D0, h1, _⟩ := ht.out; exact tie_few _ _ h1
  have hlv : (leavesT t).length ≤ 1048576 := Nat.le_trans (leavesT_bulk t) hb
  obtain ⟨hsub, hrng⟩ := leavesT_sub s t hfit
  obtain ⟨hid, hget, hsz⟩ := put_tells hs hfit hin hfew hb
  have hpb := putT_bulk s t []
  simp only [List.length_nil] at hpb
  rw [hti, htj] at hsub hget hsz
  obtain ⟨P, hP⟩ : ∃ P, sub s i j = P := ⟨_, rfl⟩
  rw [hP] at hsub hget hsz
  have hplen : (P.length : Int) = j - i := by rw [← hP]; exact sub_len s hi0 hij hjN
  have hlast : ∀ u, (Instr.slice 9 (.string s) (some (.int .i64 i)) (some (.int .i64 j)) none).run Try.prog u = .ok (.string (B P)) u := by
    intro u
    rw [← hP]
    exact slice_mid s i.toNat j.toNat i j (by omega) (by omega) (by omega) (by omega) u
  have hcheck : ∀ u, Below w.heap.size w u → Calls Try.prog 12 #[.string s, .agg #[.int .i64 k, .int .i64 i, .int .i64 j, .slice o nn c]] u fun e w' => e = .returned (.int .i64 0) ∧ Below u.heap.size u w' := fun u hu => by
    have h := HCK t u ⟨k, i, j, o, nn, c⟩ s (TieB.below ht hu)
    rw [hfit] at h
    exact h
  have hnew : ∀ u, Below w.heap.size w u → Calls Try.prog 15 #[] u fun e w' => ∃ b D, e = .returned (.pointer (some ⟨b, 0, none⟩)) ∧ Below u.heap.size u w' ∧ Pl w' b D [] ∧ ∀ k, D k → u.heap.size ≤ k := fun u _ => HPL.new u
  have hput : ∀ (u : World) (b A : Nat) (D : Nat → Prop), Below w.heap.size w u → Pl u b D [] → w.heap.size ≤ A → A ≤ u.heap.size → (∀ k, D k → A ≤ k) → Calls Try.prog 18 #[.pointer (some ⟨b, 0, none⟩), .string s, .agg #[.int .i64 k, .int .i64 i, .int .i64 j, .slice o nn c]] u fun e w' => e = .returned (.tuple #[.int .i64 ((putT s t []).2 : Int), .int .i64 0]) ∧ Below A u w' ∧ ∃ D', Pl w' b D' (putT s t []).1 ∧ ∀ k, D' k → A ≤ k :=
    fun u b A D hu hp hA hAu hd => HPL.put_fit (n := ⟨k, i, j, o, nn, c⟩) ht hin (by omega) hfit (by omega) hu hp hA hAu hd
  have htext : ∀ (u : World) (b : Nat) (D : Nat → Prop), Pl u b D (putT s t []).1 → Calls Try.prog 28 #[.pointer (some ⟨b, 0, none⟩), .int .i64 ((putT s t []).2 : Int)] u fun e w' => e = .returned (.tuple #[.string (B P), .int .i64 0]) ∧ Below u.heap.size u w' := fun u b D hp => by
    have h := HPL.text hp _ hid (by rw [hget]; exact hsz)
    rw [hget] at h
    exact h
  have hleaves : ∀ u, Below w.heap.size w u → Calls Try.prog 33 #[.agg #[.int .i64 k, .int .i64 i, .int .i64 j, .slice o nn c]] u fun e w' => ∃ (g off : Nat) (ov : Option Addr) (cap : Nat), e = .returned (.slice ov (leavesT t).length cap) ∧ Below u.heap.size u w' ∧ (leavesT t).length ≤ cap ∧ (leavesT t ≠ [] → ov = some ⟨g, off, none⟩ ∧ g < w'.heap.size) ∧ Cells tk w' g off (leavesT t) := fun u hu =>
    (leaves_t t u ⟨k, i, j, o, nn, c⟩ (TieB.below ht hu) (by omega)).mono fun e w' ⟨v, h1, h2, h3⟩ => by
      obtain ⟨g, off, ov, cap, hc, rfl, ho, hcl⟩ := h3.row.lt
      exact ⟨g, off, ov, cap, h1, h2, hc, ho, hcl⟩
  obtain ⟨L, hL⟩ : ∃ L, (putT s t []).1 = L := ⟨_, rfl⟩
  obtain ⟨id, hidd⟩ : ∃ id, (putT s t []).2 = id := ⟨_, rfl⟩
  rw [hL] at hput htext
  rw [hidd] at hput htext
  obtain ⟨T, hT⟩ : ∃ T, leavesT t = T := ⟨_, rfl⟩
  rw [hT] at hleaves hsub hrng hlv
  obtain ⟨len, hlen⟩ : ∃ len, T.length = len := ⟨_, rfl⟩
  rw [hlen] at hleaves hlv
  have hcut : ∀ q (hq : q < T.length), (∀ u, (Instr.slice 9 (.string s) (some (.int .i64 T[q].i)) (some (.int .i64 T[q].j)) none).run Try.prog u = .ok (.string (B (sub s T[q].i T[q].j))) u) ∧ Op.stringOp .add (B (subs s (T.take q))) (B (sub s T[q].i T[q].j)) = pure (.string (B (subs s (T.take (q + 1))))) := fun q hq => by
    obtain ⟨a1, a2, a3⟩ := hrng _ (List.getElem_mem hq)
    refine ⟨fun u => slice_mid s T[q].i.toNat T[q].j.toNat T[q].i T[q].j (by omega) (by omega) (by omega) (by omega) u, ?_⟩
    rw [subs_snoc s hq]
    refine cat_eq ?_
    have h1 := subs_few s T (q + 1)
    rw [subs_snoc s hq, List.length_append, hsub] at h1
    omega
  have hbx : Below w.heap.size w (w.alloc (.cells #[.string s, .int .i64 k, .int .i64 i, .int .i64 j, .slice o nn c] 38)) := (Below.refl _ _).alloc (Nat.le_refl _) _
  have hxb : TBox (w.alloc (.cells #[.string s, .int .i64 k, .int .i64 i, .int .i64 j, .slice o nn c] 38)) w.heap.size s ⟨k, i, j, o, nn, c⟩ := heap_alloc_last w _
  obtain ⟨W1, hW1⟩ : ∃ W1, w.alloc (.cells #[.string s, .int .i64 k, .int .i64 i, .int .i64 j, .slice o nn c] 38) = W1 := ⟨_, rfl⟩
  rw [hW1] at hbx hxb
  obtain ⟨X, hX⟩ : ∃ X, w.heap.size = X := ⟨_, rfl⟩
  rw [hX] at hxb
  have HB := Lib.hid (And.intro hbx (And.intro hxb hW1))
  have HSN := Lib.hid HSH
  have HCH := Lib.hid hcheck
  have HNW := Lib.hid hnew
  have HPT := Lib.hid hput
  have HTX := Lib.hid htext
  have HLV := Lib.hid hleaves
  have HCT := Lib.hid hcut
  have HLN := Lib.hid (And.intro hlen hlv)
  have HSB := Lib.hid hsub
  have HKP := Lib.hid HPL
  clear ht hin hs hb hfit hi0 hij hjN htt hti htj hnn hfew hlv hsub hrng hid hget hsz hpb hP hplen hcheck hnew hput htext hleaves hL hidd hT hlen hcut hbx hxb hW1 HSH HPL HCK
  go_enter Try.func7, Try.ntmps7
  go_wp2_with (first
    | (go_at_call 10; rw [HB.out.2.2]; refine (HSN.out _).mono ?_; rintro e w1 ⟨rfl, hb1⟩; obtain ⟨⟨x0, x1, x2, x3, x4⟩, xz⟩ := (HB.out.2.1.below hb1).cells; have HB1 := Lib.hid (And.intro (HB.out.1.trans (hb1.mono HB.out.1.size)) (HB.out.2.1.below hb1)); clear hb1)
    | (go_at_call 12; (with_reducible refine (HCH.out _ HB1.out.1).mono ?_); rintro e w2 ⟨rfl, hb2⟩; obtain ⟨⟨y0, y1, y2, y3, y4⟩, yz⟩ := (HB1.out.2.below hb2).cells; have HB2 := Lib.hid (And.intro (HB1.out.1.trans (hb2.mono HB1.out.1.size)) (HB1.out.2.below hb2)); clear hb2 x0 x1 x2 x3 x4 xz)
    | (go_at_call 33; (with_reducible refine (HLV.out _ HB2.out.1).mono ?_); rintro e w3 ⟨g, off, ov, cap, rfl, hb3, hcap, hov, hcl⟩; have HB3 := Lib.hid (And.intro (HB2.out.1.trans (hb3.mono HB2.out.1.size)) (And.intro (HB2.out.2.below hb3) (And.intro hcap (And.intro hov hcl)))); clear hb3 hcap hov hcl y0 y1 y2 y3 y4 yz))
  go_loopw [29, 3] (fun p a wr => ∃ q : Nat, q ≤ len ∧ p = .int .i64 (q : Int) ∧ a = .string (B (subs s (T.take q))) ∧ Below w3.heap.size w3 wr) (fun p _ _ => len - (intOf p).toNat)
  case atStart => exact ⟨0, Nat.zero_le _, rfl, by rw [List.take_zero]; rfl, Below.refl _ _⟩
  case round =>
    obtain ⟨q, hql, rfl, rfl, hb⟩ := hrel
    have hXb := HB3.out.2.1.below hb
    by_cases hlt : q < len
    · have hil : q < T.length := by rw [HLN.out.1]; exact hlt
      have hcap := HB3.out.2.2.1
      have hlL := HLN.out.2
      obtain ⟨rfl, hg⟩ := HB3.out.2.2.2.1 (by intro e; rw [e] at hil; simp at hil)
      obtain ⟨a0, a1, a2⟩ := cells_tk HB3.out.2.2.2.2 q hil
      obtain ⟨hsl, hcq⟩ := HCT.out q hil
      have c0 := (hb.cell (p := ⟨g, off + q * 3, none⟩) hg).trans a0
      have c1 := (hb.cell (p := ⟨g, off + q * 3 + 1, none⟩) hg).trans a1
      have c2 := (hb.cell (p := ⟨g, off + q * 3 + 2, none⟩) hg).trans a2
      have hgw : g < wr.heap.size := Nat.lt_of_lt_of_le hg hb.size
      obtain ⟨⟨⟨tk, ti, tj⟩, hn1⟩⟩ : Nonempty { n // T[q] = n } := ⟨⟨_, rfl⟩⟩
      rw [hn1] at c0 c1 c2 hsl hcq
      simp only [] at c0 c1 c2 hsl hcq
      obtain ⟨Q, hQ⟩ : ∃ x, subs s (T.take q) = x := ⟨_, rfl⟩
      obtain ⟨K, hK⟩ : ∃ x, sub s ti tj = x := ⟨_, rfl⟩
      obtain ⟨QK, hQK⟩ : ∃ x, subs s (T.take (q + 1)) = x := ⟨_, rfl⟩
      rw [hQ, hK, hQK] at hcq
      rw [hK] at hsl
      rw [hQ]
      have HQK := Lib.hid hQK
      have hq0 : (0 : Int) ≤ (q : Int) := by omega
      have hww : (q : Int) + 1 ≤ 2932031007318 := by omega
      have hd : decide ((q : Int) < (len : Int)) = true := decide_eq_true (by omega)
      have hd' : decide (q < len) = true := decide_eq_true hlt
      have HZ : Hid (Below w3.heap.size w3 (wr.alloc (.cells #[.int .i64 tk, .int .i64 ti, .int .i64 tj] 68))) := Lib.hid (hb.alloc hb.size _)
      obtain ⟨⟨z0, z1, z2, z3, z4⟩, zz⟩ := hXb.cells
      clear a0 a1 a2 hn1 hb hXb hQ hK hQK hlL hcap hg
      go_wp2_with fail
      go_roundw
      case rel => exact ⟨q + 1, by omega, by go_num, by rw [HQK.out], HZ.out⟩
      case measure => simp [intOf]; omega
    · obtain rfl : q = len := by omega
      have hd : decide ((q : Int) < (q : Int)) = false := decide_eq_false (by omega)
      rw [List.take_of_length_le (by rw [HLN.out.1]; exact Nat.le_refl _), HSB.out]
      have HB4 := Lib.hid (And.intro (HB3.out.1.trans (hb.mono HB3.out.1.size)) hXb)
      clear hb hXb
      go_wp2_with (first
        | (go_at_call 15; (with_reducible refine (HNW.out _ HB4.out.1).mono ?_); rintro e w5 ⟨b, D, rfl, hb5, hp5, hd5⟩; obtain ⟨⟨y0, y1, y2, y3, y4⟩, yz⟩ := (HB4.out.2.below hb5).cells; have HB5 := Lib.hid (And.intro (HB4.out.1.trans (hb5.mono HB4.out.1.size)) (And.intro (HB4.out.2.below hb5) (And.intro hp5 (And.intro hd5 hb5.size)))); clear hb5 hp5 hd5)
        | (go_at_call 18; (with_reducible refine (HPT.out _ _ _ _ HB5.out.1 HB5.out.2.2.1 HB4.out.1.size HB5.out.2.2.2.2 HB5.out.2.2.2.1).mono ?_); rintro e w6 ⟨rfl, hb6, D6, hp6, hd6⟩; have HB6 := Lib.hid (And.intro (HB5.out.1.trans (hb6.mono HB4.out.1.size)) (And.intro (HB5.out.2.1.low hb6 (Array.getElem?_eq_some_iff.1 HB4.out.2).1) hp6)); clear hb6 hp6 hd6 y0 y1 y2 y3 y4 yz)
        | (go_at_call 28; (with_reducible refine (HTX.out _ _ _ HB6.out.2.2).mono ?_); rintro e w7 ⟨rfl, hb7⟩; obtain ⟨⟨z0, z1, z2, z3, z4⟩, zz⟩ := (HB6.out.2.1.below hb7).cells; have HB7 := Lib.hid (HB6.out.1.trans (hb7.mono HB6.out.1.size)); clear hb7))
      all_goals (try go_ret)
      all_goals exact ⟨rfl, HB7.out⟩
set_option maxRecDepth 100000 in
set_option maxHeartbeats 4000000 in
theorem text_bad (HSH : ShownC) (HCK : ∀ t, CheckC 12 t) (t : Tree) (s : ByteArray) (w : World) (n : Rn) (ht : Hid (TieB w t n)) (hfit : fitT s.size t = false) :
    Calls Try.prog 7 #[.agg #[.string s, .int .i64 n.k, .int .i64 n.i, .int .i64 n.j, .slice n.o n.n n.c]] w fun e w' => e = .returned (.bool true) ∧ Below w.heap.size w w' := by
  obtain ⟨k, i, j, o, nn, c⟩ := n
  have hcheck : ∀ u, Below w.heap.size w u → Calls Try.prog 12 #[.string s, .agg #[.int .i64 k, .int .i64 i, .int .i64 j, .slice o nn c]] u fun e w' => e = .returned (.int .i64 80) ∧ Below u.heap.size u w' := fun u hu => by
    have h := HCK t u ⟨k, i, j, o, nn, c⟩ s (TieB.below ht hu)
    rw [hfit] at h
    exact h
  have hcheck2 : ∀ u, Below w.heap.size w u → Calls Try.prog 13 #[.string s, .agg #[.int .i64 k, .int .i64 i, .int .i64 j, .slice o nn c]] u fun e w' => e = .returned (.int .i64 80) ∧ Below u.heap.size u w' := fun u hu => by
    have h := check_t t u ⟨k, i, j, o, nn, c⟩ s (TieB.below ht hu)
    rw [hfit] at h
    exact h
  show Calls Try.prog 7 #[.agg #[.string s, .int .i64 k, .int .i64 i, .int .i64 j, .slice o nn c]] w _
  have hbx : Below w.heap.size w (w.alloc (.cells #[.string s, .int .i64 k, .int .i64 i, .int .i64 j, .slice o nn c] 38)) := (Below.refl _ _).alloc (Nat.le_refl _) _
  have hxb : TBox (w.alloc (.cells #[.string s, .int .i64 k, .int .i64 i, .int .i64 j, .slice o nn c] 38)) w.heap.size s ⟨k, i, j, o, nn, c⟩ := heap_alloc_last w _
  obtain ⟨W1, hW1⟩ : ∃ W1, w.alloc (.cells #[.string s, .int .i64 k, .int .i64 i, .int .i64 j, .slice o nn c] 38) = W1 := ⟨_, rfl⟩
  rw [hW1] at hbx hxb
  obtain ⟨X, hX⟩ : ∃ X, w.heap.size = X := ⟨_, rfl⟩
  rw [hX] at hxb
  have HB := Lib.hid (And.intro hbx (And.intro hxb hW1))
  have HSN := Lib.hid HSH
  have HCH := Lib.hid hcheck
  have HC2 := Lib.hid hcheck2
  clear ht hfit hcheck hcheck2 hbx hxb hW1 HSH HCK
  go_enter Try.func7, Try.ntmps7
  go_wp2_with (first
    | (go_at_call 10; rw [HB.out.2.2]; refine (HSN.out _).mono ?_; rintro e w1 ⟨rfl, hb1⟩; obtain ⟨⟨x0, x1, x2, x3, x4⟩, xz⟩ := (HB.out.2.1.below hb1).cells; have HB1 := Lib.hid (And.intro (HB.out.1.trans (hb1.mono HB.out.1.size)) (HB.out.2.1.below hb1)); clear hb1)
    | (go_at_call 12; (with_reducible refine (HCH.out _ HB1.out.1).mono ?_); rintro e w2 ⟨rfl, hb2⟩; obtain ⟨⟨y0, y1, y2, y3, y4⟩, yz⟩ := (HB1.out.2.below hb2).cells; have HB2 := Lib.hid (HB1.out.1.trans (hb2.mono HB1.out.1.size)); clear hb2 x0 x1 x2 x3 x4 xz)
    | (go_at_call 13; (with_reducible refine (HC2.out _ HB2.out).mono ?_); rintro e w3 ⟨rfl, hb3⟩; have HB3 := Lib.hid (HB2.out.trans (hb3.mono HB2.out.size)); clear hb3))
  all_goals (try go_ret)
  all_goals exact ⟨rfl, HB3.out⟩
theorem text_law {Pl : World → Nat → (Nat → Prop) → List Gr → Prop} (HPL : PoolC Pl) (HSH : ShownC) (HCK : ∀ t, CheckC 12 t) (t : Tree) (s : ByteArray) (w : World) (n : Rn) (ht : Hid (TieB w t n)) (hin : InR t) (hs : s.size ≤ 140737488351232) (hb : bulkT t ≤ 1048576) :
    Calls Try.prog 7 #[.agg #[.string s, .int .i64 n.k, .int .i64 n.i, .int .i64 n.j, .slice n.o n.n n.c]] w fun e w' => e = .returned (.bool true) ∧ Below w.heap.size w w' := by
  cases hfit : fitT s.size t with
  | true => exact text_good HPL HSH HCK t s w n ht hin hs hb hfit
  | false => exact text_bad HSH HCK t s w n ht hfit
end Go.Proofs.Ytnnffcfdokejbaa.rd
