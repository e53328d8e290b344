/-
  Layer 8: the laws' shape.
-/
import Derived.Test.YtnnffcfdokejbaaNm
namespace Go.Proofs.Ytnnffcfdokejbaa.rd
open Go.RowKit

mutual
/-- A tree's kinds in brackets, of its leaves how many bytes they have, and these. -/
def shapeT (s : List UInt8) : Tree → List UInt8
  | .mk k i j l => [40] ++ digI k ++ (if leafK k then [58] ++ digI (j - i) ++ [58] ++ (s.drop i.toNat).take (j.toNat - i.toNat) else []) ++ shapeTs s l ++ [41]
def shapeTs (s : List UInt8) : List Tree → List UInt8
  | [] => []
  | t :: l => shapeT s t ++ shapeTs s l
end
theorem shapeTs_append (s : List UInt8) : ∀ (l m : List Tree), shapeTs s (l ++ m) = shapeTs s l ++ shapeTs s m
  | [], m => by rw [shapeTs]; rfl
  | t :: l, m => by
    show shapeTs s (t :: (l ++ m)) = _
    rw [shapeTs, shapeTs, shapeTs_append s l m, List.append_assoc]
theorem shapeTs_snoc {s : List UInt8} {l : List Tree} {q : Nat} (h : q < l.length) : shapeTs s (l.take (q + 1)) = shapeTs s (l.take q) ++ shapeT s l[q] := by
  rw [List.take_add_one, List.getElem?_eq_getElem h, shapeTs_append]
  show _ ++ shapeTs s [l[q]] = _
  rw [shapeTs, shapeTs, List.append_nil]
theorem shapeTs_few {s : List UInt8} {l : List Tree} {q : Nat} (h : q < l.length) : (shapeTs s (l.take q)).length + (shapeT s l[q]).length ≤ (shapeTs s l).length := by
  have e : shapeTs s l = shapeTs s (l.take (q + 1)) ++ shapeTs s (l.drop (q + 1)) := by rw [← shapeTs_append, List.take_append_drop]
  rw [e, shapeTs_snoc h, List.length_append, List.length_append]
  omega
theorem fitTs_mem {N : Int} : ∀ {l : List Tree} {a e : Int}, fitTs N a l = some e → ∀ t ∈ l, fitT N t = true
  | [], a, e, _, t, h => by cases h
  | u :: l, a, e, h, t, ht => by
    rw [fitTs] at h
    split at h
    · rename_i hc
      rw [Bool.and_eq_true] at hc
      rcases List.mem_cons.1 ht with ht | ht
      · rw [ht]; exact hc.2
      · exact fitTs_mem h t ht
    · cases h
theorem fitT_node {N k i j : Int} {l : List Tree} (h : fitT N (.mk k i j l) = true) : 0 < k ∧ 0 ≤ i ∧ i ≤ j ∧ j ≤ N ∧ ∀ t ∈ l, fitT N t = true := by
  rw [fitT] at h
  simp only [Bool.and_eq_true, decide_eq_true_eq] at h
  obtain ⟨⟨⟨⟨⟨h1, h2⟩, h3⟩, h4⟩, _⟩, h6⟩ := h
  refine ⟨h1, h2, h3, h4, ?_⟩
  cases hf : fitTs N i l with
  | none => rw [hf] at h6; cases h6
  | some e => exact fitTs_mem hf
/-- What shape is held to. -/
def ShapeC (f : Nat) (t : Tree) : Prop := ∀ (w : World) (n : Rn) (s : ByteArray), Hid (TieB w t n) → InR t → fitT s.size t = true → (shapeT s.data.toList t).length ≤ 4611686018427387904 → Calls Try.prog f #[.string s, n.v] w fun e w' => e = .returned (.string (B (shapeT s.data.toList t))) ∧ Below w.heap.size w w'
set_option maxRecDepth 100000 in
set_option maxHeartbeats 4000000 in
theorem shape_node (k i j : Int) (l : List Tree) (ih : ∀ t ∈ l, ShapeC 21 t) : ShapeC 21 (.mk k i j l) := by
  intro w n s hT hin hfit hfew
  obtain ⟨o, c, g, off, R, rfl, hc, hl, hlR, ho, HC, HT⟩ := TieB.out hT
  obtain ⟨hk0, hi0, hij, hjN, hfl⟩ := fitT_node hfit
  rw [InR] at hin
  obtain ⟨hk64, hi64, hj64, hls⟩ := hin
  obtain ⟨len, hlen⟩ : ∃ len, l.length = len := ⟨_, rfl⟩
  have HLN := Lib.hid (And.intro hlen hlR)
  have HO := Lib.hid ho
  have HKID : Hid (∀ (q : Nat) (hil : q < l.length) (hiR : q < R.length) (u : World), Below w.heap.size w u → Calls Try.prog 21 #[.string s, R[q].v] u fun e w' => e = .returned (.string (B (shapeT s.data.toList l[q]))) ∧ Below u.heap.size u w') := Lib.hid (fun q hil hiR u hu => by
    have hrs : InR l[q] := by
      have : ∀ (l : List Tree), InRs l → ∀ t ∈ l, InR t := by
        intro l
        induction l with
        | nil => intro _ t h; cases h
        | cons a l ih2 =>
          intro h t ht
          rw [InRs] at h
          rcases List.mem_cons.1 ht with ht | ht
          · rw [ht]; exact h.1
          · exact ih2 h.2 t ht
      exact this l hls _ (List.getElem_mem hil)
    refine ih l[q] (List.getElem_mem hil) u R[q] s (HT.out u hu q hil hiR) hrs (hfl _ (List.getElem_mem hil)) ?_
    have h1 := shapeTs_few (s := s.data.toList) hil
    rw [shapeT] at hfew
    simp only [List.length_append] at hfew
    omega)
  obtain ⟨lk, hlk⟩ : ∃ b, leafK k = b := ⟨_, rfl⟩
  have HLF : Hid (∀ w, Calls Try.prog 44 #[.int .i64 k] w fun e w' => e = .returned (.bool lk) ∧ w = w') := Lib.hid (fun w => by rw [← hlk]; exact leaf_any k w)
  have HDK := Lib.hid (fun w => digits_any k w hk64.2)
  have HDJ := Lib.hid (fun w => digits_any (j - i) w (by unfold In64 at hj64; omega))
  have hdk := digI_few hk64
  have hdj := digI_few (z := j - i) (by unfold In64 at *; omega)
  have hsz : s.size ≤ 4611686018427387904 ∨ True := .inr trivial
  obtain ⟨S, hS⟩ : ∃ S, s.data.toList = S := ⟨_, rfl⟩
  have hpl : ((S.drop i.toNat).take (j.toNat - i.toNat)).length ≤ 9223372036854775807 := by
    rw [List.length_take]
    unfold In64 at hj64
    omega
  have hslice : ∀ u, (Instr.slice 9 (.string s) (some (.int .i64 i)) (some (.int .i64 j)) none).run Try.prog u = .ok (.string (B ((S.drop i.toNat).take (j.toNat - i.toNat)))) u := by
    intro u
    rw [← hS]
    exact slice_mid s i.toNat j.toNat i j (by omega) (by omega) (by omega) (by omega) u
  rw [hS] at hfew HKID ⊢
  rw [shapeT, hlk] at hfew ⊢
  obtain ⟨W1, hW1⟩ : ∃ W1, w.alloc (.cells #[.int .i64 k, .int .i64 i, .int .i64 j, .slice o l.length c] 24) = W1 := ⟨_, rfl⟩
  have hb1 : Below w.heap.size w W1 := by rw [← hW1]; exact (Below.refl _ _).alloc (Nat.le_refl _) _
  have hx : W1.heap[w.heap.size]? = some (.cells #[.int .i64 k, .int .i64 i, .int .i64 j, .slice o l.length c] 24 (0, 0)) := by rw [← hW1]; exact heap_alloc_last _ _
  obtain ⟨X, hX⟩ : ∃ X, w.heap.size = X := ⟨_, rfl⟩
  rw [hX] at hx
  rw [hlen] at hx hW1 hl
  have HX := Lib.hid hX
  have HW1 := Lib.hid hW1
  have HB1 := Lib.hid hb1
  have HA : Hid (∀ W', Below W1.heap.size W1 W' → (W'.cell? ⟨X, 0, none⟩ = some (.int .i64 k) ∧ W'.cell? ⟨X, 1, none⟩ = some (.int .i64 i) ∧ W'.cell? ⟨X, 2, none⟩ = some (.int .i64 j) ∧ W'.cell? ⟨X, 3, none⟩ = some (.slice o len c)) ∧ X < W'.heap.size) := Lib.hid (fun W' h => by
    have e2 := (h.block _ (Array.getElem?_eq_some_iff.1 hx).1).trans hx
    exact ⟨(four_cells0 e2).1, (Array.getElem?_eq_some_iff.1 e2).1⟩)
  show Calls Try.prog 21 #[.string s, .agg #[.int .i64 k, .int .i64 i, .int .i64 j, .slice o l.length c]] w _
  rw [hlen]
  obtain ⟨DK, hDK⟩ : ∃ x, digI k = x := ⟨_, rfl⟩
  obtain ⟨DJ, hDJ⟩ : ∃ x, digI (j - i) = x := ⟨_, rfl⟩
  obtain ⟨PC, hPC⟩ : ∃ x, (S.drop i.toNat).take (j.toNat - i.toNat) = x := ⟨_, rfl⟩
  obtain ⟨L1, hL1⟩ : ∃ x, [40] ++ DK = x := ⟨_, rfl⟩
  obtain ⟨L2, hL2⟩ : ∃ x, [58] ++ DJ = x := ⟨_, rfl⟩
  obtain ⟨L3, hL3⟩ : ∃ x, L2 ++ [58] = x := ⟨_, rfl⟩
  obtain ⟨L4, hL4⟩ : ∃ x, L3 ++ PC = x := ⟨_, rfl⟩
  obtain ⟨P, hP⟩ : ∃ x, L1 ++ (if lk = true then L4 else []) = x := ⟨_, rfl⟩
  obtain ⟨T, hT'⟩ : ∃ x, P ++ shapeTs S l ++ [41] = x := ⟨_, rfl⟩
  rw [hDK] at HDK hdk hfew ⊢
  rw [hDJ] at HDJ hdj hfew ⊢
  rw [hPC] at hpl hslice hfew ⊢
  rw [hL1, hL2, hL3, hL4, hP, hT'] at hfew ⊢
  have hcat1 : Op.stringOp .add ⟨#[40]⟩ (B DK) = pure (.string (B L1)) := by rw [← hL1]; exact cat_eq (x := [40]) (y := DK) (by simp; omega)
  have hcat2 : Op.stringOp .add ⟨#[58]⟩ (B DJ) = pure (.string (B L2)) := by rw [← hL2]; exact cat_eq (x := [58]) (y := DJ) (by simp; omega)
  have hl1 : L1.length ≤ 20 := by rw [← hL1]; simp; omega
  have hl2 : L2.length ≤ 20 := by rw [← hL2]; simp; omega
  have hcat3 : Op.stringOp .add (B L2) ⟨#[58]⟩ = pure (.string (B L3)) := by rw [← hL3]; exact cat_eq (x := L2) (y := [58]) (by simp; omega)
  have hcat4 : lk = true → Op.stringOp .add (B L3) (B PC) = pure (.string (B L4)) := fun hlk => by
    rw [← hL4]
    refine cat_eq (x := L3) (y := PC) ?_
    rw [← hT', ← hP, if_pos hlk, ← hL4] at hfew
    simp only [List.length_append] at hfew
    omega
  have hcat5 : lk = true → Op.stringOp .add (B L1) (B L4) = pure (.string (B P)) := fun hlk => by
    rw [← hP, if_pos hlk]
    refine cat_eq (x := L1) (y := L4) ?_
    rw [← hT', ← hP, if_pos hlk] at hfew
    simp only [List.length_append] at hfew
    omega
  have hP0 : lk = false → L1 = P := fun hlk => by rw [← hP, hlk]; simp
  have HT' := Lib.hid hT'
  have HFEW := Lib.hid hfew
  have hwr : wrap64 (j - i) = j - i := IntWalk.wrap64_in _ (by unfold In64 at *; omega)
  have hwr' : IntKind.i64.wrap (j - i) = j - i := by rw [IntWalk.i64_left]; exact hwr
  clear hT hlen hlR ho hc ih hlk hX hb1 hx hW1 hfit hk0 hjN hfl hk64 hi64 hj64 hls hsz hS hfew hDK hDJ hPC hL1 hL2 hL3 hL4 hP hT' hl1 hl2 hpl hdk hdj
  have HLOOP : Hid (∀ (q : Nat) (hil : q < l.length), (shapeTs S (l.take q)).length + (shapeT S l[q]).length + P.length ≤ 4611686018427387904 ∧ shapeTs S (l.take (q + 1)) = shapeTs S (l.take q) ++ shapeT S l[q]) := Lib.hid (fun q hil => by
    refine ⟨?_, shapeTs_snoc hil⟩
    have h1 := shapeTs_few (s := S) hil
    have h2 := HFEW.out
    rw [← HT'.out] at h2
    simp only [List.length_append] at h2
    omega)
  by_cases hlk : lk = true
  case neg =>
    have hlk' : lk = false := by cases lk with | true => exact absurd rfl hlk | false => rfl
    subst hlk'
    obtain rfl := hP0 rfl
    clear hcat4 hcat5 hP0 hlk
    go_enter Try.func21, Try.ntmps21
    go_wp2_with (first
      | (go_at_call 47; rw [HW1.out]; refine (HDK.out _).mono ?_; rintro e w2 ⟨rfl, hb2⟩; rw [HX.out]; obtain ⟨⟨x0, x1, x2, x3⟩, xz⟩ := HA.out _ hb2; have HBS := Lib.hid hb2; clear hb2)
      | (go_at_call 44; refine (HLF.out _).mono ?_; rintro e w' ⟨rfl, rfl⟩))
    clear x0 x1 x2 x3 xz
    go_loopw [35, 5] (fun p a wr => ∃ q : Nat, q ≤ len ∧ p = .int .i64 (q : Int) ∧ a = .string (B (L1 ++ shapeTs S (l.take q))) ∧ Below W1.heap.size W1 wr) (fun p _ _ => len - (intOf p).toNat)
    case atStart => exact ⟨0, Nat.zero_le _, rfl, by rw [List.take_zero, shapeTs, List.append_nil], HBS.out⟩
    case round =>
      obtain ⟨q, hql, rfl, rfl, hb⟩ := hrel
      have hbw : Below w.heap.size w wr := HB1.out.trans (hb.mono HB1.out.size)
      obtain ⟨⟨z0, z1, z2, z3⟩, zz⟩ := HA.out _ hb
      by_cases hlt : q < len
      · have hil : q < l.length := by rw [HLN.out.1]; exact hlt
        have hiR : q < R.length := by rw [HLN.out.2]; exact hil
        obtain ⟨ho, hg⟩ := HO.out (by intro e; rw [e] at hil; simp at hil)
        subst ho
        obtain ⟨a0, a1, a2, a3⟩ := cells_nd HC.out q hiR
        obtain ⟨hfw, hsn⟩ := HLOOP.out q hil
        have HCALL : Hid (∀ u, Below wr.heap.size wr u → Calls Try.prog 21 #[.string s, R[q].v] u fun e w' => e = .returned (.string (B (shapeT S l[q]))) ∧ Below u.heap.size u w') := Lib.hid (fun u hu => HKID.out q hil hiR u (hbw.trans (hu.mono hbw.size)))
        obtain ⟨Q, hQ⟩ : ∃ x, L1 ++ shapeTs S (l.take q) = x := ⟨_, rfl⟩
        obtain ⟨K, hK⟩ : ∃ x, shapeT S l[q] = x := ⟨_, rfl⟩
        obtain ⟨QK, hQK⟩ : ∃ x, L1 ++ shapeTs S (l.take (q + 1)) = x := ⟨_, rfl⟩
        have hcq : Op.stringOp .add (B Q) (B K) = pure (.string (B QK)) := by
          rw [← hQK, hsn, ← List.append_assoc, hQ, hK]
          refine cat_eq ?_
          rw [← hQ, ← hK, List.length_append]
          omega
        rw [hK] at HCALL
        rw [hQ]
        have HQK := Lib.hid hQK
        obtain ⟨⟨nk, ni, nj, no, nn, nc⟩, hn1⟩ : ∃ n, R[q] = n := ⟨_, rfl⟩
        rw [hn1] at a0 a1 a2 a3 HCALL
        rw [show (Rn.mk nk ni nj no nn nc).v = .agg #[.int .i64 nk, .int .i64 ni, .int .i64 nj, .slice no nn nc] from rfl] at HCALL
        have c0 := (hbw.cell (p := ⟨g, off + q * 4, none⟩) hg).trans a0
        have c1 := (hbw.cell (p := ⟨g, off + q * 4 + 1, none⟩) hg).trans a1
        have c2 := (hbw.cell (p := ⟨g, off + q * 4 + 2, none⟩) hg).trans a2
        have c3 := (hbw.cell (p := ⟨g, off + q * 4 + 3, none⟩) hg).trans a3
        have hgw : g < wr.heap.size := Nat.lt_of_lt_of_le hg hbw.size
        have hq0 : (0 : Int) ≤ (q : Int) := by omega
        have hww : (q : Int) + 1 ≤ 2932031007318 := by omega
        have hd : decide ((q : Int) < (len : Int)) = true := decide_eq_true (by omega)
        have hd' : decide (q < len) = true := decide_eq_true hlt
        have HZ : Hid (Below wr.heap.size wr (wr.alloc (.cells #[.int .i64 nk, .int .i64 ni, .int .i64 nj, .slice no nn nc] 24))) := Lib.hid ((Below.refl _ _).alloc (Nat.le_refl _) _)
        have HB := Lib.hid hb
        simp only [] at c0 c1 c2 c3
        clear a0 a1 a2 a3 hn1 hb hbw hQ hK hQK hsn hfw z0 z1 z2 z3 zz
        go_wp2_with (go_at_call 21; refine (HCALL.out _ HZ.out).mono ?_; rintro e w9 ⟨rfl, hb9⟩; have HB9 := Lib.hid (HB.out.trans ((HZ.out.trans (hb9.mono HZ.out.size)).mono HB.out.size)); clear hb9)
        go_roundw
        case rel => exact ⟨q + 1, by omega, by go_num, by rw [HQK.out], HB9.out⟩
        case measure => simp [intOf]; omega
      · obtain rfl : q = len := by omega
        have hd : decide ((q : Int) < (q : Int)) = false := decide_eq_false (by omega)
        have hall : l.take q = l := List.take_of_length_le (by rw [HLN.out.1]; exact Nat.le_refl _)
        rw [hall]
        obtain ⟨Q, hQ⟩ : ∃ x, L1 ++ shapeTs S l = x := ⟨_, rfl⟩
        have hcq : Op.stringOp .add (B Q) ⟨#[41]⟩ = pure (.string (B T)) := by
          have h1 := HT'.out
          have h2 := HFEW.out
          rw [hQ] at h1
          rw [← h1] at h2 ⊢
          refine cat_eq (x := Q) (y := [41]) ?_
          rw [List.length_append] at h2
          omega
        rw [hQ]
        have HBW := Lib.hid hbw
        clear hQ hall hb hbw
        go_wp2_with fail
        go_ret
        exact ⟨rfl, HBW.out⟩
  case pos =>
  subst hlk
  have hc4 := hcat4 rfl
  have hc5 := hcat5 rfl
  clear hcat4 hcat5 hP0
  go_enter Try.func21, Try.ntmps21
  go_wp2_with (first
    | (go_at_call 47; rw [HW1.out]; refine (HDK.out _).mono ?_; rintro e w2 ⟨rfl, hb2⟩; rw [HX.out]; obtain ⟨⟨x0, x1, x2, x3⟩, xz⟩ := HA.out _ hb2; have HB2 := Lib.hid hb2; clear hb2)
    | (go_at_call 44; refine (HLF.out _).mono ?_; rintro e w' ⟨rfl, rfl⟩))
  have y := HA.out w2.drew HB2.out.drew
  go_cut [5] (fun v wx => v = .string (B P) ∧ Below W1.heap.size W1 wx)
  case first =>
    go_region_law (go_simp; go_at_call 47; refine (HDJ.out _).mono ?_; rintro e w3 ⟨rfl, hb3⟩; have hb3' : Below W1.heap.size W1 w3 := (by first | exact HB2.out.drew.trans (hb3.mono HB2.out.drew.size) | exact HB2.out.trans (hb3.mono HB2.out.size)); obtain ⟨⟨y0, y1, y2, y3⟩, yz⟩ := HA.out _ hb3'; have HB3 := Lib.hid hb3'; clear hb3 hb3'; dsimp only)
    all_goals (go_simp; (try go_wp2_with fail); go_meet)
    all_goals exact ⟨rfl, HB3.out⟩
  case rest =>
  obtain ⟨rfl, hbc⟩ := hcut
  have HBS := Lib.hid hbc
  obtain ⟨⟨v0, v1, v2, v3⟩, vz⟩ := HA.out _ hbc
  clear hbc
  go_wp2_with fail
  clear v0 v1 v2 v3 vz
  go_loopw [35, 5] (fun p a wr => ∃ q : Nat, q ≤ len ∧ p = .int .i64 (q : Int) ∧ a = .string (B (P ++ shapeTs S (l.take q))) ∧ Below W1.heap.size W1 wr) (fun p _ _ => len - (intOf p).toNat)
  case atStart => exact ⟨0, Nat.zero_le _, rfl, by rw [List.take_zero, shapeTs, List.append_nil], HBS.out⟩
  case round =>
    obtain ⟨q, hql, rfl, rfl, hb⟩ := hrel
    have hbw : Below w.heap.size w wr := HB1.out.trans (hb.mono HB1.out.size)
    obtain ⟨⟨z0, z1, z2, z3⟩, zz⟩ := HA.out _ hb
    by_cases hlt : q < len
    · have hil : q < l.length := by rw [HLN.out.1]; exact hlt
      have hiR : q < R.length := by rw [HLN.out.2]; exact hil
      obtain ⟨ho, hg⟩ := HO.out (by intro e; rw [e] at hil; simp at hil)
      subst ho
      obtain ⟨a0, a1, a2, a3⟩ := cells_nd HC.out q hiR
      obtain ⟨hfw, hsn⟩ := HLOOP.out q hil
      have HCALL : Hid (∀ u, Below wr.heap.size wr u → Calls Try.prog 21 #[.string s, R[q].v] u fun e w' => e = .returned (.string (B (shapeT S l[q]))) ∧ Below u.heap.size u w') := Lib.hid (fun u hu => HKID.out q hil hiR u (hbw.trans (hu.mono hbw.size)))
      obtain ⟨Q, hQ⟩ : ∃ x, P ++ shapeTs S (l.take q) = x := ⟨_, rfl⟩
      obtain ⟨K, hK⟩ : ∃ x, shapeT S l[q] = x := ⟨_, rfl⟩
      obtain ⟨QK, hQK⟩ : ∃ x, P ++ shapeTs S (l.take (q + 1)) = x := ⟨_, rfl⟩
      have hcq : Op.stringOp .add (B Q) (B K) = pure (.string (B QK)) := by
        rw [← hQK, hsn, ← List.append_assoc, hQ, hK]
        refine cat_eq ?_
        rw [← hQ, ← hK, List.length_append]
        omega
      rw [hK] at HCALL
      rw [hQ]
      have HQK := Lib.hid hQK
      obtain ⟨⟨nk, ni, nj, no, nn, nc⟩, hn1⟩ : ∃ n, R[q] = n := ⟨_, rfl⟩
      rw [hn1] at a0 a1 a2 a3 HCALL
      rw [show (Rn.mk nk ni nj no nn nc).v = .agg #[.int .i64 nk, .int .i64 ni, .int .i64 nj, .slice no nn nc] from rfl] at HCALL
      have c0 := (hbw.cell (p := ⟨g, off + q * 4, none⟩) hg).trans a0
      have c1 := (hbw.cell (p := ⟨g, off + q * 4 + 1, none⟩) hg).trans a1
      have c2 := (hbw.cell (p := ⟨g, off + q * 4 + 2, none⟩) hg).trans a2
      have c3 := (hbw.cell (p := ⟨g, off + q * 4 + 3, none⟩) hg).trans a3
      have hgw : g < wr.heap.size := Nat.lt_of_lt_of_le hg hbw.size
      have hq0 : (0 : Int) ≤ (q : Int) := by omega
      have hww : (q : Int) + 1 ≤ 2932031007318 := by omega
      have hd : decide ((q : Int) < (len : Int)) = true := decide_eq_true (by omega)
      have hd' : decide (q < len) = true := decide_eq_true hlt
      have HZ : Hid (Below wr.heap.size wr (wr.alloc (.cells #[.int .i64 nk, .int .i64 ni, .int .i64 nj, .slice no nn nc] 24))) := Lib.hid ((Below.refl _ _).alloc (Nat.le_refl _) _)
      have HB := Lib.hid hb
      simp only [] at c0 c1 c2 c3
      clear a0 a1 a2 a3 hn1 hb hbw hQ hK hQK hsn hfw z0 z1 z2 z3 zz
      go_wp2_with (go_at_call 21; refine (HCALL.out _ HZ.out).mono ?_; rintro e w9 ⟨rfl, hb9⟩; have HB9 := Lib.hid (HB.out.trans ((HZ.out.trans (hb9.mono HZ.out.size)).mono HB.out.size)); clear hb9)
      go_roundw
      case rel => exact ⟨q + 1, by omega, by go_num, by rw [HQK.out], HB9.out⟩
      case measure => simp [intOf]; omega
    · obtain rfl : q = len := by omega
      have hd : decide ((q : Int) < (q : Int)) = false := decide_eq_false (by omega)
      have hall : l.take q = l := List.take_of_length_le (by rw [HLN.out.1]; exact Nat.le_refl _)
      rw [hall]
      obtain ⟨Q, hQ⟩ : ∃ x, P ++ shapeTs S l = x := ⟨_, rfl⟩
      have hcq : Op.stringOp .add (B Q) ⟨#[41]⟩ = pure (.string (B T)) := by
        have h1 := HT'.out
        have h2 := HFEW.out
        rw [hQ] at h1
        rw [← h1] at h2 ⊢
        refine cat_eq (x := Q) (y := [41]) ?_
        rw [List.length_append] at h2
        omega
      rw [hQ]
      have HBW := Lib.hid hbw
      clear hQ hall hb hbw
      go_wp2_with fail
      go_ret
      exact ⟨rfl, HBW.out⟩
mutual
theorem shape_t : ∀ t : Tree, ShapeC 21 t
  | .mk k i j l => shape_node k i j l (shape_l l)
theorem shape_l : ∀ (l : List Tree), ∀ t ∈ l, ShapeC 21 t
  | [], t, h => by cases h
  | u :: l, t, h => by
    rcases List.mem_cons.1 h with h | h
    · rw [h]; exact shape_t u
    · exact shape_l l t h
end
end Go.Proofs.Ytnnffcfdokejbaa.rd
