/-
  Layer 8: the program's putAll, over what put is held to.
-/
import Derived.Test.YtnnffcfdokejbaaTl
import Derived.Laws.IdiomStrings
namespace Go.Proofs.Ytnnffcfdokejbaa.rd
open Go.RowKit

/-- What put is held to. -/
def GPutC (f : Nat) (t : Tree) : Prop := ∀ (w : World) (b m : Nat) (vN : Value) (L : List Gr) (n : Rn) (s : ByteArray) (T : Nat → Prop), PoolG w b m vN L → Tie w T t n → (∀ k, T k → k < w.heap.size ∧ ¬ dd b m vN k) → fitT s.size t = true → InR t → s.size ≤ 281474976710656 → (putT s t L).1.length ≤ 4294967296 →
  Calls Try.prog f #[.pointer (some ⟨b, 0, none⟩), .string s, n.v] w fun e w' => e = .returned (.int .i64 ((putT s t L).2 : Int)) ∧ ∃ vN', PoolG w' b m vN' (putT s t L).1 ∧ Marked (dd b m vN) w w' ∧ ∀ q, vN'.ownBlock = some q → vN.ownBlock = some q ∨ w.heap.size ≤ q
/-- What putAll is held to. -/
def GPutsC (f : Nat) (l : List Tree) : Prop := ∀ (w : World) (b m : Nat) (vN : Value) (L : List Gr) (o : Option Addr) (c g off : Nat) (R : List Rn) (s : ByteArray) (T : Nat → Prop), PoolG w b m vN L → Cells nd w g off R → Ties w T l R → (l ≠ [] → o = some ⟨g, off, none⟩ ∧ T g) → l.length ≤ 2932031007317 → (∀ k, T k → k < w.heap.size ∧ ¬ dd b m vN k) → (∀ t ∈ l, fitT s.size t = true) → InRs l → s.size ≤ 281474976710656 → (putTs s l L).1.length ≤ 4294967296 →
  Calls Try.prog f #[.pointer (some ⟨b, 0, none⟩), .string s, .slice o l.length c] w fun e w' => e = .returned (.string (B (packL (putTs s l L).2))) ∧ ∃ vN', PoolG w' b m vN' (putTs s l L).1 ∧ Marked (dd b m vN) w w' ∧ ∀ q, vN'.ownBlock = some q → vN.ownBlock = some q ∨ w.heap.size ≤ q
theorem by_apart {w : World} {b m B0 : Nat} {vN v : Value} {L : List Gr} {T : List UInt8} (h : PoolG w b m vN L) (hv : Mine by8 w B0 v T) : ∀ k, v.ownBlock = some k → ¬ dd b m vN k := by
  intro k hk hd
  rcases hd with rfl | rfl | hd
  · exact hv.ne h.cell (by decide) hk
  · obtain ⟨Dm, ⟨es, clock, hm, _⟩, _⟩ := h.map
    rcases hv.2 with ⟨e, _⟩ | ⟨q, cap, cur, e, _, hh, _⟩
    · rw [e] at hk
      simp [Value.ownBlock] at hk
    · rw [e] at hk
      simp only [Value.ownBlock, Option.some.injEq] at hk
      rw [← hk, hh] at hm
      cases hm
  · exact hv.differs h.row (by decide) k hk hd
theorem conv_by {w : World} {B0 g n c : Nat} {T : List UInt8} (h : Mine by8 w B0 (.slice (some ⟨g, 0, none⟩) n c) T) : (convert 93 9 (.slice (some ⟨g, 0, none⟩) n c)).run Try.prog w = .ok (.string (B T)) w := by
  have hn : n = T.length := by
    obtain ⟨g', o', c', e, _⟩ := Mine.shape h
    simp only [Value.slice.injEq] at e
    exact e.2.1
  subst hn
  refine run_convert_bytes_back _ _ _ _ ⟨g, 0, none⟩ _ _ Try.underlying93 Try.underlying5 Try.underlying9 (fun j hj => ?_)
  have hc := Mine.cells h
  have := hc _ _ (flat_at by8 T j hj 0 (by decide))
  rw [Addr.add_lit]
  rw [show 0 + (j * by8.k + 0) = 0 + j by show 0 + (j * 1 + 0) = 0 + j; omega] at this
  exact this
/-- Within putAll: so many are in the pool. -/
structure Pa8 (w wr : World) (b m : Nat) (vN0 vN : Value) (L : List Gr) (ids : List Int) (v : Value) : Prop where
  mark : Marked (dd b m vN0) w wr
  pool : PoolG wr b m vN L
  old : ∀ q, vN.ownBlock = some q → vN0.ownBlock = some q ∨ w.heap.size ≤ q
  row : Mine by8 wr w.heap.size v (packL ids)
theorem Pa8.dd {w wr : World} {b m : Nat} {vN0 vN : Value} {L : List Gr} {ids : List Int} {v : Value} (h : Pa8 w wr b m vN0 vN L ids v) : ∀ q, dd b m vN q → dd b m vN0 q ∨ w.heap.size ≤ q := fun q hq => by
  rcases hq with hq | hq | hq
  · exact .inl (.inl hq)
  · exact .inl (.inr (.inl hq))
  · exact (h.old q hq).imp (fun e => .inr (.inr e)) id
/-- One more is put: what stands behind put, and behind appendID. -/
theorem Pa8.put {w wr u w9 : World} {b m : Nat} {vN0 vN vN9 : Value} {L L9 : List Gr} {ids : List Int} {v : Value} (h : Pa8 w wr b m vN0 vN L ids v) (hu : Below wr.heap.size wr u) (hp : PoolG w9 b m vN9 L9) (hm : Marked (rd.dd b m vN) u w9) (ho : ∀ q, vN9.ownBlock = some q → vN.ownBlock = some q ∨ u.heap.size ≤ q) : Pa8 w w9 b m vN0 vN9 L9 ids v := by
  have hz := h.mark.size
  have hzu := hu.size
  refine ⟨(h.mark.trans (Marked.of_below (D := fun _ => False) hu) (fun k hk => hk.elim)).trans hm (fun k hk => h.dd k hk), hp, fun q hq => ?_, h.row.keep (fun k hk hkz => ?_)⟩
  · rcases ho q hq with h1 | h1
    · exact h.old q h1
    · exact .inr (by omega)
  · exact (hm.keep k (by omega) (by_apart h.pool h.row k hk)).trans (hu.block k hkz)
theorem Pa8.push {w w9 w10 : World} {b m : Nat} {vN0 vN : Value} {L : List Gr} {ids : List Int} {v v' : Value} {id : Int} (h : Pa8 w w9 b m vN0 vN L ids v) (hr : Mine by8 w10 w.heap.size v' (packL ids ++ idB id)) (hm : Marked (fun q => v.ownBlock = some q) w9 w10) : Pa8 w w10 b m vN0 vN L (ids ++ [id]) v' := by
  have ha := by_apart h.pool h.row
  refine ⟨h.mark.trans hm (fun k hk => .inr (World.ownsRow.lt h.row k hk).1), h.pool.keep (fun k hk => hm.keep k (h.pool.lt k hk) (fun e => ha k e hk)), h.old, by rw [packL_snoc]; exact hr⟩
theorem ties_keep {w w' : World} {T : Nat → Prop} {l : List Tree} {R : List Rn} (h : Ties w T l R) (hs : ∀ g, T g → w'.heap[g]? = w.heap[g]?) {q : Nat} (hi : q < l.length) (hi2 : q < R.length) : Tie w' T l[q] R[q] := Tie.keep hs (fun _ h => h) _ _ (ties_get' h hi hi2)
theorem inrs_get : ∀ {l : List Tree}, InRs l → ∀ {q : Nat} (h : q < l.length), InR l[q]
  | [], _, q, h => by simp at h
  | t :: l, hin, 0, _ => by rw [InRs] at hin; exact hin.1
  | t :: l, hin, q + 1, h => by
    rw [InRs] at hin
    exact inrs_get hin.2 (q := q) (by simpa using h)
set_option maxRecDepth 100000 in
set_option maxHeartbeats 4000000 in
theorem putAll_l (l : List Tree) (ih : ∀ t ∈ l, GPutC 45 t) : GPutsC 62 l := by
  intro w b m vN0 L0 o c g off R s T hpool hcells hties ho hl hT hfit hin hs hfew
  have hlR := hties.length
  obtain ⟨len, hlen⟩ : ∃ len, l.length = len := ⟨_, rfl⟩
  -- one kid
  have HKID : Hid (∀ (q : Nat) (hil : q < l.length) (hiR : q < R.length) (wr : World) (vN v : Value), Pa8 w wr b m vN0 vN (putTs s (l.take q) L0).1 (putTs s (l.take q) L0).2 v → ∃ id : Int, 0 ≤ id ∧ ∀ u, Below wr.heap.size wr u → Calls Try.prog 45 #[.pointer (some ⟨b, 0, none⟩), .string s, R[q].v] u fun e w9 => e = .returned (.int .i64 id) ∧ Calls Try.prog 71 #[v, .int .i64 id] w9 fun e w' => ∃ g' n' c', e = .returned (.slice (some ⟨g', 0, none⟩) n' c') ∧ ∃ vN9, Pa8 w w' b m vN0 vN9 (putTs s (l.take (q + 1)) L0).1 (putTs s (l.take (q + 1)) L0).2 (.slice (some ⟨g', 0, none⟩) n' c')) := Lib.hid (fun q hil hiR wr vN v h => by
    have hsn := putTs_snoc (s := s) hil L0
    have hidl := putTs_len s (l.take q) L0
    rw [List.length_take, Nat.min_eq_left (by omega)] at hidl
    refine ⟨((putT s l[q] (putTs s (l.take q) L0).1).2 : Int), by omega, fun u hu => ?_⟩
    have hsame : ∀ z, T z → u.heap[z]? = w.heap[z]? := fun z hz =>
      (hu.block z (Nat.lt_of_lt_of_le (hT z hz).1 h.mark.size)).trans (h.mark.keep z (hT z hz).1 (hT z hz).2)
    have hlong : (putT s l[q] (putTs s (l.take q) L0).1).1.length ≤ 4294967296 := by
      have h1 := putTs_take (s := s) (l := l) (q + 1) L0
      rw [hsn] at h1
      exact Nat.le_trans h1 hfew
    refine (ih l[q] (List.getElem_mem hil) u b m vN _ R[q] s T (h.pool.below hu) (ties_keep hties hsame hil hiR) (fun k hk => ⟨Nat.lt_of_lt_of_le (hT k hk).1 (Nat.le_trans h.mark.size hu.size), fun e => (h.dd k e).elim (hT k hk).2 (fun e2 => by have := (hT k hk).1; omega)⟩) (hfit _ (List.getElem_mem hil)) (inrs_get hin hil) hs hlong).mono ?_
    rintro e w9 ⟨rfl, vN9, hp9, hm9, ho9⟩
    refine ⟨rfl, ?_⟩
    have h9 := h.put hu hp9 hm9 ho9
    refine (appendID_any w9 v _ w.heap.size _ h9.row h9.mark.size (by omega) (by rw [packL_len, hidl]; omega)).mono ?_
    rintro e w' ⟨v', rfl, hr, hm', _⟩
    obtain ⟨g', o', c', rfl, ho', _⟩ := Mine.shape hr
    obtain rfl := ho' (by simp [idB])
    refine ⟨g', _, c', rfl, vN9, ?_⟩
    rw [hsn]
    exact h9.push hr hm')
  have HFIN : Hid (∀ (wr : World) (vN : Value) (g' n' c' : Nat), Pa8 w wr b m vN0 vN (putTs s (l.take len) L0).1 (putTs s (l.take len) L0).2 (.slice (some ⟨g', 0, none⟩) n' c') → (convert 93 9 (.slice (some ⟨g', 0, none⟩) n' c')).run Try.prog wr = .ok (.string (B (packL (putTs s l L0).2))) wr ∧ ∃ vN', PoolG wr b m vN' (putTs s l L0).1 ∧ Marked (dd b m vN0) w wr ∧ ∀ q, vN'.ownBlock = some q → vN0.ownBlock = some q ∨ w.heap.size ≤ q) := Lib.hid (fun wr vN g' n' c' h => by
    rw [List.take_of_length_le (by rw [hlen]; exact Nat.le_refl _)] at h
    exact ⟨conv_by h.row, vN, h.pool, h.mark, h.old⟩)
  obtain ⟨W1, hmk, hown1, hgr1⟩ := run_make_own (P := Try.prog) w w.heap.size 93 5 _ by8.z by8.k by8.ht (info_parts by8.hi).choose_spec.1 (info_parts by8.hi).choose_spec.2.1 (info_parts by8.hi).choose_spec.2.2.1 .i64 .i64 (4 * len) (by rw [(info_parts by8.hi).choose_spec.2.2.2]; show 1 * (4 * len) ≤ _; omega) (by simp [maxLen]; omega) (Nat.le_refl _)
  have hst : Pa8 w W1 b m vN0 vN0 (putTs s (l.take 0) L0).1 (putTs s (l.take 0) L0).2 (.slice (some ⟨w.heap.size, 0, none⟩) 0 (4 * len)) := by
    have hb1 : Below w.heap.size w W1 := ⟨hgr1.os, hgr1.tape, hgr1.output, hgr1.size, fun k hk => hgr1.block k hk (by simp)⟩
    rw [List.take_zero, putTs]
    exact ⟨Marked.of_below hb1, hpool.below hb1, fun q hq => .inl hq, hown1⟩
  have hmk' : (Instr.makeSlice 93 (.int .i64 0) (.int .i64 (4 * (len : Int)))).run Try.prog w = .ok (.slice (some ⟨w.heap.size, 0, none⟩) 0 (4 * len)) W1 := by
    rw [show (4 * (len : Int)) = ((4 * len : Nat) : Int) by omega]
    exact hmk
  have HST := Lib.hid hst
  have HLN := Lib.hid (And.intro hlen hlR)
  have HO := Lib.hid ho
  have HC := Lib.hid hcells
  have HT := Lib.hid hT
  have hl2 : (len : Int) ≤ 2932031007317 := by omega
  rw [hlen]
  obtain ⟨res, hres⟩ : ∃ r, B (packL (putTs s l L0).2) = r := ⟨_, rfl⟩
  obtain ⟨L9, hL9⟩ : ∃ r, (putTs s l L0).1 = r := ⟨_, rfl⟩
  rw [hres, hL9] at HFIN ⊢
  clear hpool hcells hties ho hT hfit hin hs hfew hlR hlen hmk hown1 hgr1 hst hres hL9 ih
  go_enter Try.func62, Try.ntmps62
  go_wp2_with fail
  clear hmk'
  go_loopw [16, 7] (fun p a wr => ∃ (q : Nat) (g' n' c' : Nat) (vN : Value), q ≤ len ∧ p = .int .i64 (q : Int) ∧ a = .slice (some ⟨g', 0, none⟩) n' c' ∧ Pa8 w wr b m vN0 vN (putTs s (l.take q) L0).1 (putTs s (l.take q) L0).2 (.slice (some ⟨g', 0, none⟩) n' c')) (fun p _ _ => len - (intOf p).toNat)
  case atStart => exact ⟨0, _, _, _, _, Nat.zero_le _, rfl, rfl, HST.out⟩
  case round =>
    obtain ⟨q, g', n', c', vN, hql, rfl, rfl, hp⟩ := hrel
    by_cases hlt : q < len
    · have hil : q < l.length := by rw [HLN.out.1]; exact hlt
      have hiR : q < R.length := by rw [HLN.out.2]; exact hil
      obtain ⟨ho, hg⟩ := HO.out (by intro e; rw [e] at hil; simp at hil)
      subst ho
      obtain ⟨hgz, hgd⟩ := HT.out g hg
      have hcell : ∀ z, (w.cell? ⟨g, z, none⟩) = wr.cell? ⟨g, z, none⟩ := fun z => (cell_same (hp.mark.keep g hgz hgd) z).symm
      obtain ⟨a0, a1, a2, a3⟩ := cells_nd HC.out q hiR
      rw [hcell] at a0 a1 a2 a3
      obtain ⟨id, hid0, hcall⟩ := HKID.out q hil hiR wr vN _ hp
      have HCALL := Lib.hid hcall
      obtain ⟨⟨nk, ni, nj, no, nn, nc⟩, hn1⟩ : ∃ n, R[q] = n := ⟨_, rfl⟩
      rw [hn1] at a0 a1 a2 a3 HCALL
      rw [show (Rn.mk nk ni nj no nn nc).v = .agg #[.int .i64 nk, .int .i64 ni, .int .i64 nj, .slice no nn nc] from rfl] at HCALL
      have hgw : g < wr.heap.size := Nat.lt_of_lt_of_le hgz hp.mark.size
      have hq0 : (0 : Int) ≤ (q : Int) := by omega
      have hww : (q : Int) + 1 ≤ 2932031007318 := by omega
      have hd : decide ((q : Int) < (len : Int)) = true := decide_eq_true (by omega)
      have hd' : decide (q < len) = true := decide_eq_true hlt
      have HZ : Hid (Below wr.heap.size wr (wr.alloc (.cells #[.int .i64 nk, .int .i64 ni, .int .i64 nj, .slice no nn nc] 24))) := Lib.hid ((Below.refl _ _).alloc (Nat.le_refl _) _)
      simp only [] at a0 a1 a2 a3
      clear hn1 hcell hcall hp hid0
      go_wp2_with (first
        | (go_at_call 45; (with_reducible refine (HCALL.out _ HZ.out).mono ?_); rintro e w9 ⟨rfl, happ⟩; have HAPP := Lib.hid happ; clear happ)
        | (go_at_call 71; (with_reducible refine HAPP.out.mono ?_); rintro e w10 ⟨g9, n9, c9, rfl, vN9, hp9⟩; have HP9 := Lib.hid hp9; clear hp9))
      go_roundw
      case rel => exact ⟨q + 1, _, _, _, _, by omega, by go_num, rfl, HP9.out⟩
      case measure => simp [intOf]; omega
    · obtain rfl : q = len := by omega
      have hd : decide ((q : Int) < (q : Int)) = false := decide_eq_false (by omega)
      obtain ⟨hcv, hE⟩ := HFIN.out wr vN g' n' c' hp
      have HE := Lib.hid hE
      clear hp hE
      go_wp2_with fail
      go_ret
      exact ⟨rfl, HE.out⟩
end Go.Proofs.Ytnnffcfdokejbaa.rd
