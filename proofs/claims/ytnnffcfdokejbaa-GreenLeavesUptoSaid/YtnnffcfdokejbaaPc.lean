/-
  Layer 8: the reference's put.
-/
import Derived.Test.YtnnffcfdokejbaaPb
namespace Go.Proofs.Ytnnffcfdokejbaa.rd
open Go.RowKit

/-- A node that lies in blocks below a place. -/
def TieU (B : Nat) (w : World) (t : Tree) (n : Rn) : Prop := ∃ D, Tie w D t n ∧ ∀ k, D k → k < B
theorem TieU.out {B : Nat} {w : World} {k i j : Int} {l : List Tree} {n : Rn} (h : TieU B w (.mk k i j l) n) : ∃ (o : Option Addr) (c g off : Nat) (R : List Rn), n = ⟨k, i, j, o, l.length, c⟩ ∧ l.length ≤ 2932031007317 ∧ R.length = l.length ∧ (l ≠ [] → o = some ⟨g, off, none⟩ ∧ g < B) ∧ Hid (Cells nd w g off R) ∧ Hid (∀ (w' : World), (∀ q, q < B → w'.heap[q]? = w.heap[q]?) → ∀ (i : Nat) (hi : i < l.length) (hi2 : i < R.length), TieU B w' l[i] R[i]) := by
  obtain ⟨D, h1, h2⟩ := h
  obtain ⟨k', i', j', o, nn, c⟩ := n
  rw [Tie] at h1
  obtain ⟨rfl, rfl, rfl, hnn, g, off, R, ⟨_, hl⟩, ho, hcell, hties⟩ := h1
  simp only [] at hnn ho
  subst hnn
  exact ⟨o, c, g, off, R, rfl, hl, hties.length, fun e => ⟨(ho e).1, h2 g (ho e).2⟩, Lib.hid hcell, Lib.hid fun w' hs i hi hi2 => ⟨D, Tie.keep (fun q hq => hs q (h2 q hq)) (fun _ h => h) _ _ (ties_get' hties hi hi2), h2⟩⟩
/-- What put is held to. -/
def PutC (f : Nat) (t : Tree) : Prop := ∀ (w : World) (b B0 : Nat) (D : Nat → Prop) (L : List Gr) (vL : Value) (R : List Gn) (n : Rn) (s : ByteArray), PoolR w b D L vL R → TieU B0 w t n → B0 ≤ b → (∀ q, vL.ownBlock = some q → B0 ≤ q) → fitT s.size t = true → (putT s t L).1.length ≤ 1099511627776 →
  Calls Try.prog f #[.pointer (some ⟨b, 0, none⟩), .string s, n.v] w fun e w' => e = .returned (.int .i64 ((putT s t L).2 : Int)) ∧ ∃ D' vL' R', PoolR w' b D' (putT s t L).1 vL' R' ∧ Marked (fun q => q = b ∨ vL.ownBlock = some q) w w' ∧ (∀ q, D' q → D q ∨ w.heap.size ≤ q) ∧ ∀ q, vL'.ownBlock = some q → vL.ownBlock = some q ∨ w.heap.size ≤ q
set_option maxRecDepth 100000 in
set_option maxHeartbeats 4000000 in
theorem put_node (k i j : Int) (l : List Tree) (ih : ∀ t ∈ l, PutC 46 t) : PutC 46 (.mk k i j l) := by
  intro w b B0 D0 L0 vL0 R0 n s hpool hT hBb hBv hfit hfew
  obtain ⟨o, c, g, off, R, rfl, hl, hlR, ho, HC, HT⟩ := TieU.out hT
  obtain ⟨hk0, hi0, hij, hjN, hfl⟩ := fitT_node hfit
  obtain ⟨ps, hps⟩ : ∃ ps, B ((s.data.toList.drop i.toNat).take (j.toNat - i.toNat)) = ps := ⟨_, rfl⟩
  have hslice : ∀ u, (Instr.slice 9 (.string s) (some (.int .i64 i)) (some (.int .i64 j)) none).run Try.prog u = .ok (.string ps) u := by
    intro u
    rw [← hps]
    exact slice_mid s i.toNat j.toNat i j (by omega) (by omega) (by omega) (by omega) u
  obtain ⟨O, hOd⟩ : ∃ O : Nat → Prop, O = fun q => q = b ∨ vL0.ownBlock = some q := ⟨_, rfl⟩
  have hbz := (Array.getElem?_eq_some_iff.1 hpool.cell).1
  have hO : ∀ q, O q → q < w.heap.size ∧ B0 ≤ q := fun q hq => by
    rw [hOd] at hq
    rcases hq with hq | hq
    · rw [hq]; exact ⟨hbz, hBb⟩
    · exact ⟨hpool.row.lt q hq, hBv q hq⟩
  have hOb : O b := by rw [hOd]; exact .inl rfl
  obtain ⟨len, hlen⟩ : ∃ len, l.length = len := ⟨_, rfl⟩
  obtain ⟨X, hX⟩ : ∃ X, w.heap.size = X := ⟨_, rfl⟩
  have hxn := heap_alloc_last w (.cells #[.int .i64 k, .int .i64 i, .int .i64 j, .slice o l.length c] 24)
  have hbn : Below w.heap.size w (w.alloc (.cells #[.int .i64 k, .int .i64 i, .int .i64 j, .slice o l.length c] 24)) := (Below.refl _ _).alloc (Nat.le_refl _) _
  have hzn := World.size_alloc w (.cells #[.int .i64 k, .int .i64 i, .int .i64 j, .slice o l.length c] 24)
  rw [hlen] at hl hxn hbn hzn
  rw [hX] at hxn hzn
  -- the first state
  have hst : ∀ u, Below (w.alloc (.cells #[.int .i64 k, .int .i64 i, .int .i64 j, .slice o len c] 24)).heap.size (w.alloc (.cells #[.int .i64 k, .int .i64 i, .int .i64 j, .slice o len c] 24)) u → u.heap[X + 1]? = some (.cells #[.int .i64 k, .string ps, .slice none 0 0] 46 (0, 0)) → Pu w u b X k i j (.slice o len c) ps O (putTs s (l.take 0) L0).1 (putTs s (l.take 0) L0).2 D0 vL0 R0 (.slice none 0 0) := fun u hu h1 => by
    have hbu := hbn.trans (hu.mono hbn.size)
    refine ⟨Marked.of_below hbu, (hu.block X (by omega)).trans hxn, h1, by rw [List.take_zero, putTs]; exact hpool.below hbu, fun q hq => .inl (by rw [hOd]; exact .inr hq), by rw [List.take_zero, putTs]; exact Mine.nil _ _, fun q hq => ⟨?_, ?_, by simp [Value.ownBlock]⟩⟩
    · have := (hpool.dead q hq).1
      omega
    · have := (hpool.dead q hq).1
      omega
  have HST := Lib.hid hst
  -- one kid
  have HKID : Hid (∀ (q : Nat) (hil : q < l.length) (hiR : q < R.length) (wr : World) (D : Nat → Prop) (vL : Value) (Rp : List Gn) (vK : Value), (∀ z, D z → D0 z ∨ X ≤ z) → Pu w wr b X k i j (.slice o len c) ps O (putTs s (l.take q) L0).1 (putTs s (l.take q) L0).2 D vL Rp vK → ∃ id : Int, ∀ u, Below wr.heap.size wr u → Calls Try.prog 46 #[.pointer (some ⟨b, 0, none⟩), .string s, R[q].v] u fun e w9 => e = .returned (.int .i64 id) ∧ (w9.cell? ⟨X + 1, 2, none⟩ = some vK ∧ X + 1 < w9.heap.size) ∧ ∀ u2, Below w9.heap.size w9 u2 → ∀ ad, u2.heap[ad]? = some (.cells #[.int .i64 id] 3 (0, 0)) → ∃ v' w', (∀ ty, (Builtin.append_ #[32, 32] ty #[vK, .slice (some ⟨ad, 0, none⟩) 1 1]).run Try.prog u2 = .ok v' w') ∧ (∃ g cap', v' = .slice (some ⟨g, 0, none⟩) (q + 1) cap') ∧ w'.cell? ⟨X + 1, 2, none⟩ = some vK ∧ w'.frozen? ⟨X + 1, 2, none⟩ = false ∧ X + 1 < w'.heap.size ∧ ∃ D9 vL9 R9, (∀ z, D9 z → D0 z ∨ X ≤ z) ∧ Pu w (w'.setCell ⟨X + 1, 2, none⟩ v') b X k i j (.slice o len c) ps O (putTs s (l.take (q + 1)) L0).1 (putTs s (l.take (q + 1)) L0).2 D9 vL9 R9 v') := Lib.hid (fun q hil hiR wr D vL Rp vK hDD h => by
    refine ⟨((putT s l[q] (putTs s (l.take q) L0).1).2 : Int), fun u hu => ?_⟩
    have hsame : ∀ z, z < B0 → u.heap[z]? = w.heap[z]? := fun z hz => by
      have hzw : z < w.heap.size := by omega
      exact (hu.block z (Nat.lt_of_lt_of_le hzw h.m.size)).trans (h.m.keep z hzw (fun e => by have := (hO z e).2; omega))
    have hidl := putTs_len s (l.take q) L0
    rw [List.length_take, Nat.min_eq_left (by omega)] at hidl
    have hsn := putTs_snoc (s := s) hil L0
    have hlong : (putT s l[q] (putTs s (l.take q) L0).1).1.length ≤ 1099511627776 := by
      have h1 := putTs_take (s := s) (l := l) (q + 1) L0
      rw [hsn] at h1
      have h2 : (putTs s l L0).1.length ≤ (putT s (.mk k i j l) L0).1.length := by
        rw [putT]
        exact endPut_more _ _
      exact Nat.le_trans (Nat.le_trans h1 h2) hfew
    refine (ih l[q] (List.getElem_mem hil) u b B0 D _ vL Rp R[q] s (h.pool.below hu) (HT.out u hsame q hil hiR) hBb (fun z hz => ?_) (hfl _ (List.getElem_mem hil)) hlong).mono ?_
    · rcases h.old z hz with h1 | h1
      · exact (hO z h1).2
      · omega
    rintro e w9 ⟨rfl, D9, vL9, R9, hp9, hm9, hD9, hv9⟩
    have hXz := (Array.getElem?_eq_some_iff.1 h.x1).1
    have hx9 : w9.heap[X + 1]? = _ := (hm9.keep (X + 1) (Nat.lt_of_lt_of_le hXz hu.size) (fun e => by
      rcases e with e | e
      · have := (hO b hOb).1
        omega
      · rcases h.old _ e with h1 | h1
        · have := (hO _ h1).1
          omega
        · omega)).trans ((hu.block (X + 1) hXz).trans h.x1)
    refine ⟨rfl, ⟨(three_cells hx9).1.2.2, (Array.getElem?_eq_some_iff.1 hx9).1⟩, fun u2 hu2 ad had => ?_⟩
    obtain ⟨v', w', e1, e2, e3, e4, e5, e6⟩ := h.push hX (fun z hz => by have := (hO z hz).1; omega) hOb (by omega) hu hp9 hm9 hD9 hv9 _ u2 hu2 ad had
    rw [hidl] at e2
    refine ⟨v', w', e1, e2, e3, e4, e5, D9, vL9, R9, fun z hz => ?_, by rw [hsn]; exact e6⟩
    rcases hD9 z hz with h1 | h1
    · exact hDD z h1
    · exact .inr (by have := hu.size; omega))
  have HO : Hid (l ≠ [] → o = some ⟨g, off, none⟩ ∧ g < B0) := Lib.hid ho
  have HLN := Lib.hid (And.intro hlen hlR)
  have HOO := Lib.hid (And.intro hO hOb)
  have HBB := Lib.hid (And.intro hBb (And.intro hX hbz))
  have HXN := Lib.hid (And.intro hxn (And.intro hbn hzn))
  show Calls Try.prog 46 #[.pointer (some ⟨b, 0, none⟩), .string s, .agg #[.int .i64 k, .int .i64 i, .int .i64 j, .slice o l.length c]] w _
  rw [hlen]
  rw [putT, hps] at hfew ⊢
  obtain ⟨L1, hL1⟩ : ∃ x, (putTs s l L0).1 = x := ⟨_, rfl⟩
  obtain ⟨ids, hids⟩ : ∃ x, (putTs s l L0).2 = x := ⟨_, rfl⟩
  have hidl : ids.length = len := by rw [← hids, putTs_len]; exact hlen
  rw [hL1, hids] at hfew ⊢
  obtain ⟨res, hres⟩ : ∃ r, endPut L1 ⟨k, ps, ids⟩ = r := ⟨_, rfl⟩
  rw [hres] at hfew ⊢
  have HRES := Lib.hid (And.intro hres (And.intro hL1 (And.intro hids hidl)))
  have HFIT := Lib.hid (And.intro hfew (And.intro hfl (And.intro hi0 (And.intro hij hjN))))
  have HOD := Lib.hid hOd
  have HPOOL := Lib.hid hpool
  clear hT hpool hlen hlR ho hBb hBv ih hfit hk0 hfl hbz hO hOb hxn hbn hzn hst hps hfew hOd hi0 hij hjN hL1 hids hres hidl
  go_enter Try.func46, Try.ntmps46
  go_wp2_with fail
  obtain ⟨⟨n0, n1, n2, n3⟩, _⟩ := four_cells0 HXN.out.1
  have nz := (Array.getElem?_eq_some_iff.1 HXN.out.1).1
  have HZ1 : Hid ((w.alloc (.cells #[.int .i64 k, .int .i64 i, .int .i64 j, .slice o len c] 24)).heap.size = X + 1) := Lib.hid HXN.out.2.2
  go_cut [7] (fun v wx => v = .pointer (some ⟨X + 1, 0, none⟩) ∧ Pu w wx b X k i j (.slice o len c) ps O (putTs s (l.take 0) L0).1 (putTs s (l.take 0) L0).2 D0 vL0 R0 (.slice none 0 0))
  case first =>
    go_region
    all_goals (try go_wp2_with fail)
    all_goals go_meet
    all_goals exact ⟨rfl, HST.out _ (by first | exact ((Below.refl _ _).alloc (Nat.le_refl _) _).drew | exact (Below.refl _ _).alloc (Nat.le_refl _) _) (by have h := heap_alloc_last (w.alloc (.cells #[.int .i64 k, .int .i64 i, .int .i64 j, .slice o len c] 24)) (.cells #[.int .i64 k, .string ps, .slice none 0 0] 46); rw [HZ1.out] at h; exact h)⟩
  case rest =>
  obtain ⟨rfl, hpu⟩ := hcut
  obtain ⟨⟨_, _, _, v3⟩, _⟩ := four_cells0 hpu.x0
  have vz := (Array.getElem?_eq_some_iff.1 hpu.x0).1
  have HPU := Lib.hid hpu
  clear hpu n0 n1 n2 n3 nz
  go_wp2_with fail
  clear v3 vz
  go_loopw [24] (fun p wr => ∃ (q : Nat) (D : Nat → Prop) (vL : Value) (Rp : List Gn) (vK : Value), q ≤ len ∧ p = .int .i64 (q : Int) ∧ (∀ z, D z → D0 z ∨ X ≤ z) ∧ Pu w wr b X k i j (.slice o len c) ps O (putTs s (l.take q) L0).1 (putTs s (l.take q) L0).2 D vL Rp vK) (fun p _ => len - (intOf p).toNat)
  case atStart => exact ⟨0, _, _, _, _, Nat.zero_le _, rfl, fun z hz => .inl hz, HPU.out⟩
  case round =>
    obtain ⟨q, D, vL, Rp, vK, hql, rfl, hDD, hp⟩ := hrel
    by_cases hlt : q < len
    · have hil : q < l.length := by rw [HLN.out.1]; exact hlt
      have hiR : q < R.length := by rw [HLN.out.2]; exact hil
      obtain ⟨ho, hg⟩ := HO.out (by intro e; rw [e] at hil; simp at hil)
      subst ho
      have hcell : ∀ z, (w.cell? ⟨g, z, none⟩) = wr.cell? ⟨g, z, none⟩ := fun z => by
        have hb := HBB.out
        have hgw : g < w.heap.size := by omega
        exact (cell_same (hp.m.keep g hgw (fun e => by have := (HOO.out.1 g e).2; omega)) z).symm
      obtain ⟨a0, a1, a2, a3⟩ := cells_nd HC.out q hiR
      rw [hcell] at a0 a1 a2 a3
      obtain ⟨id, hcall⟩ := HKID.out q hil hiR wr D vL Rp vK hDD hp
      have HCALL := Lib.hid hcall
      have x1z := (Array.getElem?_eq_some_iff.1 hp.x1).1
      have HX1 : Hid (∀ u, Below wr.heap.size wr u → u.cell? ⟨X + 1, 2, none⟩ = some vK ∧ X + 1 < u.heap.size) := Lib.hid (fun u hu => by
        have e2 := (hu.block _ x1z).trans hp.x1
        exact ⟨(three_cells e2).1.2.2, (Array.getElem?_eq_some_iff.1 e2).1⟩)
      obtain ⟨⟨nk, ni, nj, no, nn, nc⟩, hn1⟩ : ∃ n, R[q] = n := ⟨_, rfl⟩
      rw [hn1] at a0 a1 a2 a3 HCALL
      rw [show (Rn.mk nk ni nj no nn nc).v = .agg #[.int .i64 nk, .int .i64 ni, .int .i64 nj, .slice no nn nc] from rfl] at HCALL
      have hgw : g < wr.heap.size := by
        have hb := HBB.out
        have := hp.m.size
        omega
      have hq0 : (0 : Int) ≤ (q : Int) := by omega
      have hww : (q : Int) + 1 ≤ 2932031007318 := by omega
      have hd : decide ((q : Int) < (len : Int)) = true := decide_eq_true (by omega)
      have hd' : decide (q < len) = true := decide_eq_true hlt
      have hZ : Below wr.heap.size wr (wr.alloc (.cells #[.int .i64 nk, .int .i64 ni, .int .i64 nj, .slice no nn nc] 24)) := (Below.refl _ _).alloc (Nat.le_refl _) _
      obtain ⟨y3, hz3⟩ := HX1.out _ hZ
      have y3' := (HX1.out _ hZ.drew).1
      simp only [] at a0 a1 a2 a3
      clear hn1 hcell hcall hp hDD x1z
      go_wp2_with fail
      go_region_law (first
        | (go_simp; go_at_call 46; refine (HCALL.out _ ?_).mono ?_; (first | exact hZ.drew | exact hZ); rintro e w9 ⟨rfl, ⟨y4, hz4⟩, hpush⟩; have HPUSH := Lib.hid hpush; clear hpush; dsimp only)
        | ((first | refine step_append_ex rfl _ _ _ _ rfl _ _ rfl rfl (HPUSH.out _ ((Below.refl _ _).alloc (Nat.le_refl _) _) _ (heap_alloc_last _ _)) ?_ | refine step_append_wp _ _ _ _ rfl _ _ rfl rfl (HPUSH.out _ ((Below.refl _ _).alloc (Nat.le_refl _) _) _ (heap_alloc_last _ _)) ?_); rintro v' w' ⟨⟨g', cap', rfl⟩, c4, f4, hbw4, D9, vL9, R9, hD9, hs'⟩; have HS' := Lib.hid (And.intro hD9 hs'); clear hs' hD9))
      all_goals (try go_wp2_with fail)
      all_goals (go_roundw; (case rel => exact ⟨q + 1, _, _, _, _, by omega, by go_num, HS'.out.1, HS'.out.2⟩); (case measure => simp [intOf]; omega))
    · obtain rfl : q = len := by omega
      have hd : decide ((q : Int) < (q : Int)) = false := decide_eq_false (by omega)
      have hall : l.take q = l := List.take_of_length_le (by rw [HLN.out.1]; exact Nat.le_refl _)
      rw [hall] at hp
      obtain ⟨wp, hwp⟩ : ∃ wp, wp = wr := ⟨_, rfl⟩
      subst hwp
      obtain ⟨hres, hL1, hids, hidl⟩ := HRES.out
      rw [hL1, hids] at hp
      obtain ⟨gL, oL, cL, rfl, hoL, _⟩ := Mine.shape hp.pool.row
      obtain ⟨gK, oK, cK, rfl, hoK, _⟩ := Mine.shape hp.kids
      have hRl := hp.pool.len
      rw [hidl] at hp
      rw [hRl] at hp
      obtain ⟨nL, hnL⟩ : ∃ n, L1.length = n := ⟨_, rfl⟩
      rw [hnL] at hp hRl
      have hgt : GTie wp (fun z => (Value.slice oK q cK).ownBlock = some z) ⟨k, ps, ids⟩ ⟨k, ps, oK, q, cK⟩ := ⟨rfl, rfl, gK, 0, hp.kids.row, hidl.symm, by rw [hidl]; exact hl, fun hne => ⟨hoK hne, by show (Value.slice oK q cK).ownBlock = some gK; rw [hoK hne]; rfl⟩⟩
      have hLs : nL ≤ 1099511627776 := by
        have h1 := HFIT.out.1
        rw [← hres] at h1
        rw [← hnL]
        exact Nat.le_trans (endPut_more _ _) h1
      have HP := Lib.hid hp
      have HGT := Lib.hid hgt
      have HLS := Lib.hid (And.intro hRl (And.intro hnL hoL))
      have HDD := Lib.hid hDD
      obtain ⟨x10, x11, x12⟩ := (three_cells hp.x1).1
      have x1z := (Array.getElem?_eq_some_iff.1 hp.x1).1
      have pb : wp.cell? ⟨b, 0, none⟩ = some (.slice oL nL cL) := by rw [cell_of_row wp b 0 _ _ _ hp.pool.cell]; rfl
      have pz := (Array.getElem?_eq_some_iff.1 hp.pool.cell).1
      -- what any result says
      have HEND : Hid (∀ w', Below wp.heap.size wp w' → ∃ D' vL' R', PoolR w' b D' L1 vL' R' ∧ Marked (fun q => q = b ∨ vL0.ownBlock = some q) w w' ∧ (∀ q, D' q → D0 q ∨ w.heap.size ≤ q) ∧ ∀ q, vL'.ownBlock = some q → vL0.ownBlock = some q ∨ w.heap.size ≤ q) := Lib.hid (fun w' hw' => by
        have h2 := HP.out.more hw'
        have hX := HBB.out.2.1
        have hod := HOD.out
        have hm := h2.m
        rw [hod] at hm
        refine ⟨_, _, _, h2.pool, hm, fun z hz => (HDD.out z hz).elim .inl (fun h => .inr (by omega)), fun z hz => ?_⟩
        have hnb := h2.pool.row.ne h2.pool.cell (by decide)
        rcases h2.old z hz with h3 | h3
        · rw [hod] at h3
          rcases h3 with h3 | h3
          · exact absurd (h3 ▸ hz) hnb
          · exact .inl h3
        · exact .inr (by omega))
      clear hp hgt hDD hres hL1 hids hidl hRl hnL hoL hoK hall
      go_wp2_with fail
      clear pb
      go_loopw [43] (fun p wr => ∃ z : Nat, z ≤ nL ∧ p = .int .i64 (z : Int) ∧ Below wp.heap.size wp wr ∧ ∀ (i : Nat) (hi : i < L1.length), i < z → likeG L1[i] ⟨k, ps, ids⟩ = false) (fun p _ => nL - (intOf p).toNat)
      case atStart => exact ⟨0, Nat.zero_le _, rfl, Below.refl _ _, fun i hi h => by omega⟩
      case round =>
        obtain ⟨z, hzl, rfl, hb, hno⟩ := hrel
        have HX1 : Hid (∀ u, Below wp.heap.size wp u → (u.cell? ⟨X + 1, 0, none⟩ = some (.int .i64 k) ∧ u.cell? ⟨X + 1, 1, none⟩ = some (.string ps) ∧ u.cell? ⟨X + 1, 2, none⟩ = some (.slice oK q cK)) ∧ X + 1 < u.heap.size ∧ u.cell? ⟨b, 0, none⟩ = some (.slice oL nL cL) ∧ b < u.heap.size) := Lib.hid (fun u hu => by
          have h2 := HP.out.more hu
          exact ⟨(three_cells h2.x1).1, (Array.getElem?_eq_some_iff.1 h2.x1).1, by rw [cell_of_row u b 0 _ _ _ h2.pool.cell]; rfl, (Array.getElem?_eq_some_iff.1 h2.pool.cell).1⟩)
        have HB := Lib.hid hb
        have HNO := Lib.hid hno
        by_cases hlt : z < nL
        · have hz1 : z < L1.length := by rw [HLS.out.2.1]; exact hlt
          have hz2 : z < Rp.length := by rw [HLS.out.1]; exact hlt
          obtain rfl := HLS.out.2.2 (by intro e; rw [e] at hz2; simp at hz2)
          obtain ⟨a0, a1, a2⟩ := cells_gr HP.out.pool.row.cells z hz2
          have hgL : gL < wp.heap.size := HP.out.pool.row.lt gL rfl
          have HLIKE : Hid (∀ u, Below wp.heap.size wp u → Calls Try.prog 64 #[Rp[z].v, .agg #[.int .i64 k, .string ps, .slice oK q cK]] u fun e w' => e = .returned (.bool (likeG L1[z] ⟨k, ps, ids⟩)) ∧ Below u.heap.size u w') := Lib.hid (fun u hu => by
            have h2 := HP.out.more hu
            exact like_any (x := Rp[z]) (y := ⟨k, ps, oK, q, cK⟩) (h2.pool.ties z hz1 hz2) (HGT.out.keep (fun y hy => hu.block y (HP.out.kids.lt y hy)) (fun _ h => h)))
          obtain ⟨lb, hlb⟩ : ∃ x, likeG L1[z] ⟨k, ps, ids⟩ = x := ⟨_, rfl⟩
          rw [hlb] at HLIKE
          have HLB := Lib.hid hlb
          obtain ⟨⟨xk, xs, xo, xn, xc⟩, hn1⟩ : ∃ n, Rp[z] = n := ⟨_, rfl⟩
          rw [hn1] at a0 a1 a2 HLIKE
          rw [show (Gn.mk xk xs xo xn xc).v = .agg #[.int .i64 xk, .string xs, .slice xo xn xc] from rfl] at HLIKE
          have c0 := (hb.cell (p := ⟨gL, 0 + z * 3, none⟩) hgL).trans a0
          have c1 := (hb.cell (p := ⟨gL, 0 + z * 3 + 1, none⟩) hgL).trans a1
          have c2 := (hb.cell (p := ⟨gL, 0 + z * 3 + 2, none⟩) hgL).trans a2
          have hgw : gL < wr.heap.size := Nat.lt_of_lt_of_le hgL hb.size
          have hq0 : (0 : Int) ≤ (z : Int) := by omega
          have hww : (z : Int) + 1 ≤ 1099511627777 := by omega
          have hd : decide ((z : Int) < (nL : Int)) = true := decide_eq_true (by omega)
          have hd' : decide (z < nL) = true := decide_eq_true hlt
          have hZ : Below wp.heap.size wp (wr.alloc (.cells #[.int .i64 xk, .string xs, .slice xo xn xc] 46)) := hb.alloc hb.size _
          obtain ⟨⟨y0, y1, y2⟩, yz, _, _⟩ := HX1.out wr hb
          have HZ := Lib.hid hZ
          simp only [Nat.zero_add] at c0 c1 c2
          clear a0 a1 a2 hn1 hlb hb hno hZ
          cases lb with
          | true =>
            have hf := endPut_some hz1 HLB.out HNO.out
            have HF := Lib.hid hf
            clear hf
            go_wp2_with (go_at_call 64; refine (HLIKE.out _ HZ.out).mono ?_; rintro e w9 ⟨rfl, hb9⟩; have HB9 := Lib.hid (HZ.out.trans (hb9.mono HZ.out.size)); clear hb9)
            go_ret
            have h1 := HRES.out.1
            rw [HF.out] at h1
            rw [← h1]
            exact ⟨rfl, HEND.out _ HB9.out⟩
          | false =>
            have hnx : ∀ (i : Nat) (hi : i < L1.length), i < z + 1 → likeG L1[i] ⟨k, ps, ids⟩ = false := fun i hi hiz => by
              by_cases e : i = z
              · subst e; exact HLB.out
              · exact HNO.out i hi (by omega)
            have HNX := Lib.hid hnx
            clear hnx
            go_wp2_with (go_at_call 64; refine (HLIKE.out _ HZ.out).mono ?_; rintro e w9 ⟨rfl, hb9⟩; have HB9 := Lib.hid (HZ.out.trans (hb9.mono HZ.out.size)); clear hb9)
            go_roundw
            case rel => exact ⟨z + 1, by omega, by go_num, HB9.out, HNX.out⟩
            case measure => simp [intOf]; omega
        · obtain rfl : z = nL := by omega
          have hd : decide ((z : Int) < (z : Int)) = false := decide_eq_false (by omega)
          have hf : endPut L1 ⟨k, ps, ids⟩ = (L1 ++ [⟨k, ps, ids⟩], L1.length) := endPut_none (fun i hi => HNO.out i hi (by rw [← HLS.out.2.1]; exact hi))
          have hlong : L1.length + 1 ≤ 1099511627776 := by
            have h1 := HFIT.out.1
            rw [← HRES.out.1, hf] at h1
            simpa using h1
          have HF := Lib.hid hf
          have HADD := Lib.hid (HP.out.add HBB.out.2.1 (fun y hy => by have := (HOO.out.1 y hy).1; have := HBB.out.2.1; omega) HOO.out.2 (fun _ _ => .inr (.inr trivial)) (by omega) HRES.out.2.2.2 hl)
          obtain ⟨⟨y0, y1, y2⟩, yz, pb, pbz⟩ := HX1.out wr hb
          obtain ⟨⟨u0, u1, u2⟩, uz, pu, puz⟩ := HX1.out wr.drew hb.drew
          clear hb hno hf
          go_wp2_with fail
          go_region_law ((first | refine step_append_ex rfl _ _ _ _ rfl _ _ rfl rfl (HADD.out _ (by first | exact HB.out.drew.alloc HB.out.drew.size _ | exact HB.out.alloc HB.out.size _) _ (heap_alloc_last _ _)) ?_ | refine step_append_wp _ _ _ _ rfl _ _ rfl rfl (HADD.out _ (by first | exact HB.out.drew.alloc HB.out.drew.size _ | exact HB.out.alloc HB.out.size _) _ (heap_alloc_last _ _)) ?_); rintro v' w' ⟨⟨g', cap', rfl⟩, c4, f4, hbw4, cb4, hM, hown, hpl⟩; have HE := Lib.hid (And.intro hM (And.intro hown hpl)); have hbw5 : b < (w'.setCell ⟨b, 0, none⟩ (.slice (some ⟨g', 0, none⟩) (L1.length + 1) cap')).heap.size := (by rw [size_set]; exact hbw4); clear hM hown hpl)
          all_goals (try go_wp2_with fail)
          all_goals (
            go_ret
            have h1 := HRES.out.1
            rw [HF.out] at h1
            rw [← h1]
            obtain ⟨hM, hown, hpl⟩ := HE.out
            have hnb := hpl.row.ne hpl.cell (by decide)
            have hX := HBB.out.2.1
            have hod := HOD.out
            rw [hod] at hM
            refine ⟨rfl, _, _, _, hpl, hM, fun y hy => ?_, fun y hy => ?_⟩
            · rcases hy with hy | hy
              · exact (HDD.out y hy).elim .inl (fun h => .inr (by omega))
              · have := (World.ownsRow.lt HP.out.kids y hy).1
                exact .inr (by omega)
            · rcases hown y hy with h3 | h3
              · rw [hod] at h3
                rcases h3 with h3 | h3
                · exact absurd (h3 ▸ hy) hnb
                · exact .inl h3
              · exact .inr (by omega))
mutual
theorem put_t : ∀ t : Tree, PutC 46 t
  | .mk k i j l => put_node k i j l (put_l l)
theorem put_l : ∀ (l : List Tree), ∀ t ∈ l, PutC 46 t
  | [], t, h => by cases h
  | u :: l, t, h => by
    rcases List.mem_cons.1 h with h | h
    · rw [h]; exact put_t u
    · exact put_l l t h
end
end Go.Proofs.Ytnnffcfdokejbaa.rd
