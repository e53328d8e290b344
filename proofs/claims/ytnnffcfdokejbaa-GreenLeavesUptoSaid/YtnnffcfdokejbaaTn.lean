/-
  Layer 8: the program's put.
-/
import Derived.Test.YtnnffcfdokejbaaTm
import Derived.Test.YtnnffcfdokejbaaTa
import Derived.Test.YtnnffcfdokejbaaShelf
import Derived.Test.YtnnffcfdokejbaaPc
namespace Go.Proofs.Ytnnffcfdokejbaa.rd
open Go.RowKit

theorem clone_any (s : ByteArray) (w : World) (h : s.size ≤ 281474976710656) : Calls Try.prog 63 #[.string s] w fun e w' => e = .returned (.string s) ∧ Below w.heap.size w w' := by
  have HC := Lib.hid (Try.stringslite_Clone s w h)
  go_enter Try.func63, Try.ntmps63
  go_wp2_with (go_at_call 72; (with_reducible refine HC.out.mono ?_); rintro e w2 ⟨rfl, hb2⟩; have HB := Lib.hid hb2; clear hb2)
  go_ret
  exact ⟨rfl, HB.out⟩
/-- Within put. -/
structure Pn (w wx : World) (b m : Nat) (vN0 vN1 : Value) (X FB : Nat) (L1 : List Gr) (k i j : Int) (vn : Value) (fx pk : ByteArray) : Prop where
  base : w.heap.size = X ∧ X < FB
  mark : Marked (dd b m vN0) w wx
  pool : PoolG wx b m vN1 L1
  old : ∀ q, vN1.ownBlock = some q → vN0.ownBlock = some q ∨ w.heap.size ≤ q
  x0 : wx.heap[X]? = some (.cells #[.int .i64 k, .int .i64 i, .int .i64 j, vn] 24 (0, 0))
  f0 : wx.heap[FB]? = some (.cells #[.int .i64 k, .string fx, .string pk] 88 (0, 0))
theorem cells_ne {w : World} {b q : Nat} {x y : Array Value} {t t2 : TypeId} {z z2 : Nat × Nat} (h : w.heap[b]? = some (.cells x t z)) (h2 : w.heap[q]? = some (.cells y t2 z2)) (hne : t ≠ t2) : q ≠ b := by
  rintro rfl
  rw [h] at h2
  simp only [Option.some.injEq, Obj.cells.injEq] at h2
  exact hne h2.2.1
theorem pool_apart {w : World} {b m : Nat} {vN : Value} {L : List Gr} (h : PoolG w b m vN L) {q : Nat} {y : Array Value} {t2 : TypeId} (h2 : w.heap[q]? = some (.cells y t2 (0, 0))) (hne : 81 ≠ t2) (hne2 : t2 ≠ gk.e) : ¬ dd b m vN q := by
  intro hd
  rcases hd with hd | hd | hd
  · exact cells_ne h.cell h2 hne hd
  · obtain ⟨Dm, ⟨es, clock, hm, _⟩, _⟩ := h.map
    rw [hd, hm] at h2
    cases h2
  · exact h.row.ne h2 hne2 hd
section
variable {w wx w2 : World} {b m X FB : Nat} {vN0 vN1 vn : Value} {L1 : List Gr} {k i j : Int} {fx pk : ByteArray}
theorem Pn.more (h : Pn w wx b m vN0 vN1 X FB L1 k i j vn fx pk) (hb : Below wx.heap.size wx w2) : Pn w w2 b m vN0 vN1 X FB L1 k i j vn fx pk :=
  ⟨h.base, h.mark.trans (Marked.of_below (D := fun _ => False) hb) (fun _ hk => hk.elim), h.pool.below hb, h.old, (hb.block _ (Array.getElem?_eq_some_iff.1 h.x0).1).trans h.x0, (hb.block _ (Array.getElem?_eq_some_iff.1 h.f0).1).trans h.f0⟩
theorem Pn.fnot (h : Pn w wx b m vN0 vN1 X FB L1 k i j vn fx pk) : ¬ dd b m vN1 FB := pool_apart h.pool h.f0 (by decide) (by decide)
theorem Pn.set (h : Pn w wx b m vN0 vN1 X FB L1 k i j vn fx pk) (f2 : ByteArray) : Pn w (wx.setCell ⟨FB, 1, none⟩ (.string f2)) b m vN0 vN1 X FB L1 k i j vn f2 pk := by
  have hset : ∀ q, q ≠ FB → (wx.setCell ⟨FB, 1, none⟩ (.string f2)).heap[q]? = wx.heap[q]? := fun q hq => set_one _ _ _ _ _ hq
  have hb := h.base
  have hm := h.mark
  refine ⟨hb, ⟨hm.os, hm.tape, hm.output, by rw [size_set]; exact hm.size, fun q hq hn => (hset q (by omega)).trans (hm.keep q hq hn)⟩, h.pool.keep (fun q hq => hset q (fun e => h.fnot (e ▸ hq))), h.old, (hset X (by omega)).trans h.x0, heap_setCell_same _ _ 1 _ _ _ h.f0⟩
theorem Pn.drew (h : Pn w wx b m vN0 vN1 X FB L1 k i j vn fx pk) : Pn w wx.drew b m vN0 vN1 X FB L1 k i j vn fx pk := h.more (Below.refl _ _).drew
/-- .. the map knows the node. -/
structure Ph (w wx : World) (b m : Nat) (vN0 vN1 : Value) (X FB : Nat) (L1 : List Gr) (g : Gr) (k i j : Int) (vn : Value) (fx pk : ByteArray) : Prop where
  base : w.heap.size = X ∧ X < FB
  mark : Marked (dd b m vN0) w wx
  half : HalfG wx b m vN1 L1 g
  old : ∀ q, vN1.ownBlock = some q → vN0.ownBlock = some q ∨ w.heap.size ≤ q
  x0 : wx.heap[X]? = some (.cells #[.int .i64 k, .int .i64 i, .int .i64 j, vn] 24 (0, 0))
  f0 : wx.heap[FB]? = some (.cells #[.int .i64 k, .string fx, .string pk] 88 (0, 0))
theorem Pn.store (h : Pn w wx b m vN0 vN1 X FB L1 k i j vn fx pk) {g : Gr} (hg : GoodG L1.length L1 g) (hnew : endPut L1 g = (L1 ++ [g], L1.length)) (hn : L1.length + 1 ≤ 4294967296) :
    ∃ w', (Instr.mapUpdate 78 (.map (some m)) (fv g) (.int .i64 (L1.length : Int))).run Try.prog wx = .ok () w' ∧ Ph w w' b m vN0 vN1 X FB L1 g k i j vn fx pk := by
  obtain ⟨w', hrun, hgr, hh⟩ := h.pool.store g hg hnew hn
  have hne : ∀ q (y : Array Value) t, wx.heap[q]? = some (Obj.cells y t (0, 0)) → q ≠ m := fun q y t hq e => by
    obtain ⟨Dm, ⟨es, clock, hm, _⟩, _⟩ := h.pool.map
    rw [e, hm] at hq
    cases hq
  have hkeep : ∀ q (y : Array Value) t, wx.heap[q]? = some (Obj.cells y t (0, 0)) → w'.heap[q]? = some (Obj.cells y t (0, 0)) := fun q y t hq => (hgr.block q (Array.getElem?_eq_some_iff.1 hq).1 (fun e => hne q y t hq (Option.some.inj e))).trans hq
  have hm := h.mark
  exact ⟨w', hrun, h.base, ⟨hgr.os.trans hm.os, hgr.tape.trans hm.tape, hgr.output.trans hm.output, Nat.le_trans hm.size hgr.size, fun q hq hd => (hgr.block q (Nat.lt_of_lt_of_le hq hm.size) (fun e => hd (.inr (.inl (Option.some.inj e))))).trans (hm.keep q hq hd)⟩, hh, h.old, hkeep _ _ _ h.x0, hkeep _ _ _ h.f0⟩
theorem Ph.push {g : Gr} (h : Ph w wx b m vN0 vN1 X FB L1 g k i j vn fx pk) (hk : k = g.k) (hfx : fx = leafS g) (hpk : pk = B (packL g.l)) (z : Int) (hz : z = (g.s.size : Int)) (hn : L1.length + 1 ≤ 4294967296) :
    ∀ u, Below wx.heap.size wx u → ∀ ad, u.heap[ad]? = some (.cells #[.int .i64 k, .string fx, .string pk, .int .i64 z] 90 (0, 0)) →
      ∃ v' w', (∀ ty, (Builtin.append_ #[79, 79] ty #[vN1, .slice (some ⟨ad, 0, none⟩) 1 1]).run Try.prog u = .ok v' w') ∧ (∃ g' cap', v' = .slice (some ⟨g', 0, none⟩) (L1.length + 1) cap') ∧ (w'.cell? ⟨b, 1, none⟩ = some vN1 ∧ w'.frozen? ⟨b, 1, none⟩ = false ∧ b < w'.heap.size) ∧ ∃ vN', PoolG (w'.setCell ⟨b, 1, none⟩ v') b m vN' (L1 ++ [g]) ∧ Marked (dd b m vN0) w (w'.setCell ⟨b, 1, none⟩ v') ∧ ∀ q, vN'.ownBlock = some q → vN0.ownBlock = some q ∨ w.heap.size ≤ q := by
  subst hk hfx hpk hz
  intro u hu ad had
  obtain ⟨v', w', h1, h2, h3, h4, h5, h6, h7, h8⟩ := h.half.push hn hu had
  have hm := h.mark
  refine ⟨v', w', h1, h2, h3, v', h4, ⟨h6.1.trans hm.os, h6.2.1.trans hm.tape, h6.2.2.trans hm.output, by rw [size_set]; exact Nat.le_trans hm.size h7, fun q hq hd => (h5 q (Nat.lt_of_lt_of_le hq hm.size) (fun e => ?_)).trans (hm.keep q hq hd)⟩, fun q hq => ?_⟩
  · rcases e with e | e | e
    · exact hd (.inl e)
    · exact hd (.inr (.inl e))
    · rcases h.old q e with h9 | h9
      · exact hd (.inr (.inr h9))
      · omega
  · rcases h8 q hq with h9 | h9
    · exact h.old q h9
    · exact .inr (Nat.le_trans hm.size h9)
theorem Ph.drew {g : Gr} (h : Ph w wx b m vN0 vN1 X FB L1 g k i j vn fx pk) : Ph w wx.drew b m vN0 vN1 X FB L1 g k i j vn fx pk :=
  ⟨h.base, h.mark.trans (Marked.of_below (D := fun _ => False) (Below.refl _ _).drew) (fun _ hk => hk.elim), h.half.below (Below.refl _ _).drew, h.old, h.x0, h.f0⟩
/-- What any end tells. -/
theorem Pn.fin (h : Pn w wx b m vN0 vN1 X FB L1 k i j vn fx pk) : ∃ vN', PoolG wx b m vN' L1 ∧ Marked (dd b m vN0) w wx ∧ ∀ q, vN'.ownBlock = some q → vN0.ownBlock = some q ∨ w.heap.size ≤ q := ⟨vN1, h.pool, h.mark, h.old⟩
end
theorem pn_late {w w9 : World} {b m X : Nat} {vN0 vN1 vn : Value} {L1 : List Gr} {k i j : Int} {pk : ByteArray} (hX : w.heap.size = X) (h : PoolG w9 b m vN1 L1 ∧ Marked (dd b m vN0) w w9 ∧ (∀ q, vN1.ownBlock = some q → vN0.ownBlock = some q ∨ w.heap.size ≤ q) ∧ w9.heap[X]? = some (.cells #[.int .i64 k, .int .i64 i, .int .i64 j, vn] 24 (0, 0))) :
    Pn w (w9.alloc (.cells #[.int .i64 k, .string ⟨#[]⟩, .string pk] 88)) b m vN0 vN1 X w9.heap.size L1 k i j vn ⟨#[]⟩ pk := by
  obtain ⟨h1, h2, h3, h4⟩ := h
  have hb : Below w9.heap.size w9 (w9.alloc (.cells #[.int .i64 k, .string ⟨#[]⟩, .string pk] 88)) := (Below.refl _ _).alloc (Nat.le_refl _) _
  have hz := (Array.getElem?_eq_some_iff.1 h4).1
  exact ⟨⟨hX, hz⟩, h2.trans (Marked.of_below (D := fun _ => False) hb) (fun _ hk => hk.elim), h1.below hb, h3, (hb.block _ hz).trans h4, heap_alloc_last _ _⟩
theorem pn_early {w w9 : World} {b m X FB : Nat} {vN0 vN1 vn : Value} {L1 : List Gr} {k i j : Int} {pk : ByteArray} (hX : w.heap.size = X) (hXF : X < FB) (hF : w9.heap[FB]? = some (.cells #[.int .i64 0, .string ⟨#[]⟩, .string ⟨#[]⟩] 88 (0, 0))) (h : PoolG w9 b m vN1 L1 ∧ Marked (dd b m vN0) w w9 ∧ (∀ q, vN1.ownBlock = some q → vN0.ownBlock = some q ∨ w.heap.size ≤ q) ∧ w9.heap[X]? = some (.cells #[.int .i64 k, .int .i64 i, .int .i64 j, vn] 24 (0, 0))) :
    Pn w (((w9.setCell ⟨FB, 0, none⟩ (.int .i64 k)).setCell ⟨FB, 1, none⟩ (.string ⟨#[]⟩)).setCell ⟨FB, 2, none⟩ (.string pk)) b m vN0 vN1 X FB L1 k i j vn ⟨#[]⟩ pk := by
  obtain ⟨h1, h2, h3, h4⟩ := h
  have hset : ∀ q, q ≠ FB → (((w9.setCell ⟨FB, 0, none⟩ (.int .i64 k)).setCell ⟨FB, 1, none⟩ (.string ⟨#[]⟩)).setCell ⟨FB, 2, none⟩ (.string pk)).heap[q]? = w9.heap[q]? := fun q hq => by
    rw [set_one _ _ _ _ _ hq, set_one _ _ _ _ _ hq, set_one _ _ _ _ _ hq]
  have hn : ¬ dd b m vN1 FB := pool_apart h1 hF (by decide) (by decide)
  exact ⟨⟨hX, hXF⟩, ⟨h2.os, h2.tape, h2.output, by rw [size_set, size_set, size_set]; exact h2.size, fun q hq hd => (hset q (by omega)).trans (h2.keep q hq hd)⟩, h1.keep (fun q hq => hset q (fun e => hn (e ▸ hq))), h3, (hset X (by omega)).trans h4, heap_setCell_same _ _ 2 _ _ _ (heap_setCell_same _ _ 1 _ _ _ (heap_setCell_same _ _ 0 _ _ _ hF))⟩
set_option maxRecDepth 100000 in
set_option maxHeartbeats 4000000 in
theorem gput_node (k i j : Int) (l : List Tree) (ih : ∀ t ∈ l, GPutC 45 t) : GPutC 45 (.mk k i j l) := by
  intro w b m vN0 L0 n s T hpool hT hTd hfit hin hs hfew
  have hfewT := tie_few _ _ hT
  obtain ⟨k', i', j', o, nn, c⟩ := n
  rw [Tie] at hT
  obtain ⟨e1, e2, e3, hnn, g, off, R, ⟨_, hl⟩, ho, hcell, hties⟩ := hT
  dsimp only at e1 e2 e3 hnn ho
  subst e1 e2 e3 hnn
  obtain ⟨hk0, hi0, hij, hjN, hfl⟩ := fitT_node hfit
  obtain ⟨hlf, e, he, _⟩ := fitT_whole hfit
  have hin' := hin
  have hfewT' := hfewT
  rw [InR] at hin'
  rw [FewT] at hfewT'
  rw [putT] at hfew ⊢
  have hfew1 := Nat.le_trans (endPut_more _ _) hfew
  have hps := putTs_ok s (by omega) l L0 i' e hpool.ok he hi0 hin'.2.2.2 hfewT'.2 hfew1
  have hgood := cand_good (by omega) ⟨hps.good, List.prefix_refl _, hps.low, hps.cat, hps.le⟩ (putTs_len s l L0) hfit he hin hfewT (fun e => by rw [e, putTs])
  change GoodG _ _ ⟨k', B ((s.data.toList.drop i'.toNat).take (j'.toNat - i'.toNat)), _⟩ at hgood
  obtain ⟨ps, hps'⟩ : ∃ ps, B ((s.data.toList.drop i'.toNat).take (j'.toNat - i'.toNat)) = ps := ⟨_, rfl⟩
  have hpsz : (ps.size : Int) = j' - i' := by
    rw [← hps', bsize]
    exact sub_len s hi0 hij hjN
  have hslice : ∀ u, (Instr.slice 9 (.string s) (some (.int .i64 i')) (some (.int .i64 j')) none).run Try.prog u = .ok (.string ps) u := by
    intro u
    rw [← hps']
    exact slice_mid s i'.toNat j'.toNat i' j' (by omega) (by omega) (by omega) (by omega) u
  rw [hps'] at hgood hfew ⊢
  have HPA := Lib.hid (fun u (hu : Below w.heap.size w u) => putAll_l l ih u b m vN0 L0 o c g off R s T (hpool.below hu) (hcell.below hu) (Ties.keep (fun q hq => hu.block q (hTd q hq).1) (fun _ h => h) _ _ hties) ho hl (fun q hq => ⟨Nat.lt_of_lt_of_le (hTd q hq).1 hu.size, (hTd q hq).2⟩) hfl hin'.2.2.2 hs hfew1)
  obtain ⟨L1, hL1⟩ : ∃ x, (putTs s l L0).1 = x := ⟨_, rfl⟩
  obtain ⟨ids, hids⟩ : ∃ x, (putTs s l L0).2 = x := ⟨_, rfl⟩
  obtain ⟨pk, hpk⟩ : ∃ x, B (packL ids) = x := ⟨_, rfl⟩
  rw [hL1, hids] at hgood HPA hfew ⊢
  rw [hpk] at HPA
  obtain ⟨len, hlen⟩ : ∃ len, l.length = len := ⟨_, rfl⟩
  rw [hlen] at HPA
  obtain ⟨X, hX⟩ : ∃ X, w.heap.size = X := ⟨_, rfl⟩
  have hxn := heap_alloc_last w (.cells #[.int .i64 k', .int .i64 i', .int .i64 j', .slice o l.length c] 24)
  have hbn : Below w.heap.size w (w.alloc (.cells #[.int .i64 k', .int .i64 i', .int .i64 j', .slice o l.length c] 24)) := (Below.refl _ _).alloc (Nat.le_refl _) _
  rw [hlen] at hxn hbn
  rw [hX] at hxn
  obtain ⟨W1, hW1⟩ : ∃ W1, w.alloc (.cells #[.int .i64 k', .int .i64 i', .int .i64 j', .slice o len c] 24) = W1 := ⟨_, rfl⟩
  rw [hW1] at hxn hbn
  have hX1 : X < W1.heap.size := (Array.getElem?_eq_some_iff.1 hxn).1
  -- behind putAll: the node and the pool
  have HPX : Hid (∀ u, Below W1.heap.size W1 u → Calls Try.prog 62 #[.pointer (some ⟨b, 0, none⟩), .string s, .slice o len c] u fun e w9 => e = .returned (.string pk) ∧ ∃ vN1, (PoolG w9 b m vN1 L1 ∧ Marked (dd b m vN0) w w9 ∧ (∀ q, vN1.ownBlock = some q → vN0.ownBlock = some q ∨ w.heap.size ≤ q) ∧ w9.heap[X]? = some (.cells #[.int .i64 k', .int .i64 i', .int .i64 j', .slice o len c] 24 (0, 0))) ∧ (∀ FB o', W1.heap.size ≤ FB → u.heap[FB]? = some o' → w9.heap[FB]? = some o') ∧ u.heap.size ≤ w9.heap.size) := Lib.hid (fun u hu => by
    have hbu := hbn.trans (hu.mono hbn.size)
    refine (HPA.out u hbu).mono ?_
    rintro e w9 ⟨rfl, vN1, hp1, hm1, ho1⟩
    have hzu := hbu.size
    have hdz : ∀ q, dd b m vN0 q → q < X := fun q hq => by rw [← hX]; exact hpool.lt q hq
    have hus := hu.size
    refine ⟨rfl, vN1, ⟨hp1, (Marked.of_below (D := dd b m vN0) hbu).trans hm1 (fun q hq => .inl hq), fun q hq => (ho1 q hq).imp id (fun h => by omega), ?_⟩, fun FB o' hFB hFo => ?_, hm1.size⟩
    · exact (hm1.keep X (by omega) (fun e => by have := hdz X e; omega)).trans ((hu.block X hX1).trans hxn)
    · exact (hm1.keep FB (Array.getElem?_eq_some_iff.1 hFo).1 (fun e => by have := hdz FB e; omega)).trans hFo)
  have hzf : ∀ FB (w9 : World), w9.heap[FB]? = some (.cells #[.int .i64 0, .string ⟨#[]⟩, .string ⟨#[]⟩] 88 (0, 0)) → ((w9.cell? ⟨FB, 0, none⟩ = some (.int .i64 0) ∧ w9.cell? ⟨FB, 1, none⟩ = some (.string ⟨#[]⟩) ∧ w9.cell? ⟨FB, 2, none⟩ = some (.string ⟨#[]⟩)) ∧ (w9.frozen? ⟨FB, 0, none⟩ = false ∧ w9.frozen? ⟨FB, 1, none⟩ = false ∧ w9.frozen? ⟨FB, 2, none⟩ = false)) ∧ FB < w9.heap.size := fun FB w9 h => ⟨⟨(three_cells h).1, (three_cells h).2 0, (three_cells h).2 1, (three_cells h).2 2⟩, (Array.getElem?_eq_some_iff.1 h).1⟩
  have HZF := Lib.hid hzf
  have HBN := Lib.hid (And.intro hxn (And.intro hbn (And.intro hX hX1)))
  have HW1 := Lib.hid hW1
  have HPZ : Hid (ps.size ≤ 281474976710656) := Lib.hid (by omega)
  have HSL := Lib.hid hslice
  have HGOOD := Lib.hid (And.intro hgood (And.intro hpk (And.intro hpsz hfew)))
  obtain ⟨lk, hlk⟩ : ∃ x, leafK k' = x := ⟨_, rfl⟩
  have HLF : Hid (∀ (o : Option Addr) (n c : Nat) (w : World), Calls Try.prog 61 #[.agg #[.int .i64 k', .int .i64 i', .int .i64 j', .slice o n c]] w fun e w' => e = .returned (.bool lk) ∧ Below w.heap.size w w') := Lib.hid (fun o n c w => by rw [← hlk]; exact isLeaf_any k' i' j' o n c w)
  have HLK := Lib.hid hlk
  show Calls Try.prog 45 #[.pointer (some ⟨b, 0, none⟩), .string s, .agg #[.int .i64 k', .int .i64 i', .int .i64 j', .slice o l.length c]] w _
  rw [hlen]
  clear hpool hTd hfit hin hs hfewT hcell hties ho hl hk0 hi0 hij hjN hfl hlf he hin' hfewT' hfew1 hps hgood hps' hpsz hslice hfew HPA hL1 hids hpk hlen hX hxn hbn hX1 hzf hW1 hlk ih
  go_enter Try.func45, Try.ntmps45
  have hW1 := HW1.out
  have hX := HBN.out.2.2.1
  go_wp2_with fail
  clear hW1 hX
  obtain ⟨⟨x0, x1, x2, x3⟩, _⟩ := four_cells0 HBN.out.1
  have xz := HBN.out.2.2.2
  go_cut [7] (fun v wx => ∃ FB vN1, v = .pointer (some ⟨FB, 0, none⟩) ∧ Pn w wx b m vN0 vN1 X FB L1 k' i' j' (.slice o len c) ⟨#[]⟩ pk)
  case first =>
    go_region_law (go_simp; go_at_call 62; (with_reducible refine (HPX.out _ (by first | exact Below.refl _ _ | exact (Below.refl _ _).drew | exact (Below.refl _ _).alloc (Nat.le_refl _) _ | exact ((Below.refl _ _).alloc (Nat.le_refl _) _).drew | exact (Below.refl _ _).drew.alloc (Nat.le_refl _) _)).mono ?_); rintro e w9 ⟨rfl, vN1, h9, hk, hz9⟩; (first | (have hF := hk W1.heap.size (.cells #[.int .i64 0, .string ⟨#[]⟩, .string ⟨#[]⟩] 88 (0, 0)) (Nat.le_refl _) (by first | exact heap_alloc_last W1 _ | exact heap_alloc_last W1.drew _); obtain ⟨⟨⟨y0, y1, y2⟩, ⟨f0, f1, f2⟩⟩, fz⟩ := HZF.out _ w9 hF; have HF := Lib.hid hF; clear hF) | skip); obtain ⟨⟨q0, q1, q2, q3⟩, _⟩ := four_cells0 h9.2.2.2; have qz := (Array.getElem?_eq_some_iff.1 h9.2.2.2).1; have HE := Lib.hid h9; clear h9 hk hz9; dsimp only)
    all_goals (try go_wp2_with fail)
    all_goals go_meet
    all_goals first
      | exact ⟨_, _, rfl, pn_late HBN.out.2.2.1 HE.out⟩
      | exact ⟨_, _, rfl, pn_early HBN.out.2.2.1 HBN.out.2.2.2 HF.out HE.out⟩
  case rest =>
  obtain ⟨FB, vN1, rfl, hp⟩ := hcut
  clear x0 x1 x2 x3 xz
  obtain ⟨⟨x0, x1, x2, x3⟩, _⟩ := four_cells0 hp.x0
  have xz := (Array.getElem?_eq_some_iff.1 hp.x0).1
  have HP := Lib.hid hp
  clear hp
  have hwd : wrap64 (j' - i') = (ps.size : Int) := by
    have := HGOOD.out.2.2.1
    rw [← this]
    unfold wrap64
    have := HGOOD.out.1.few
    dsimp only at this
    omega
  have HWD := Lib.hid hwd
  clear hwd
  obtain ⟨fx, hfx⟩ : ∃ fx, leafS ⟨k', ps, ids⟩ = fx := ⟨_, rfl⟩
  have HLS := Lib.hid hfx
  have HFV : Hid (fv ⟨k', ps, ids⟩ = .agg #[.int .i64 k', .string fx, .string pk]) := Lib.hid (by unfold fv; rw [hfx, HGOOD.out.2.1])
  have HFXZ : Hid (fx.size ≤ 281474976710656) := Lib.hid (by rw [← hfx]; exact Nat.le_trans (leafS_size _) HPZ.out)
  clear hfx
  go_step
  go_step
  go_cut [] from 18 to 26 (fun wx => Pn w wx b m vN0 vN1 X FB L1 k' i' j' (.slice o len c) fx pk)
  case first =>
    cases lk with
    | true =>
      have hls : fx = ps := by rw [← HLS.out]; unfold leafS; rw [HLK.out]; rfl
      have HLS2 := Lib.hid hls
      have hsl := HSL.out
      clear hls
      go_wp2_with (go_at_call 61; (with_reducible refine (HLF.out _ _ _ _).mono ?_); rintro e w2 ⟨rfl, hb2⟩; have h2 := HP.out.more hb2; obtain ⟨⟨q0, q1, q2, q3⟩, _⟩ := four_cells0 h2.x0; have qz := (Array.getElem?_eq_some_iff.1 h2.x0).1; obtain ⟨⟨d0, d1, d2⟩, df⟩ := three_cells h2.f0; have df1 := df 1; have dz := (Array.getElem?_eq_some_iff.1 h2.f0).1; have HV := Lib.hid (h2.set ps); clear h2 hb2 df)
      go_meet
      rw [HLS2.out]
      exact HV.out
    | false =>
      have hls : fx = ⟨#[]⟩ := by rw [← HLS.out]; unfold leafS; rw [HLK.out]; rfl
      have HLS2 := Lib.hid hls
      clear hls
      go_wp2_with (go_at_call 61; (with_reducible refine (HLF.out _ _ _ _).mono ?_); rintro e w2 ⟨rfl, hb2⟩; have HV := Lib.hid (HP.out.more hb2); clear hb2)
      go_meet
      rw [HLS2.out]
      exact HV.out
  case rest =>
  have HV := Lib.hid hcut
  clear hcut x0 x1 x2 x3 xz
  have hv := HV.out
  obtain ⟨⟨c0, c1, c2⟩, cf⟩ := three_cells hv.f0
  have cz := (Array.getElem?_eq_some_iff.1 hv.f0).1
  obtain ⟨⟨b0, b1⟩, _⟩ := two_cells hv.pool.cell
  have bz := (Array.getElem?_eq_some_iff.1 hv.pool.cell).1
  obtain ⟨id, ok, hrun, hyes, hno⟩ := hv.pool.look _ HGOOD.out.1
  rw [HFV.out] at hrun
  have hrun1 := hrun wc rfl
  have hrun2 := hrun (wc).drew rfl
  have HYN := Lib.hid (And.intro hyes hno)
  clear hv cf hrun hyes hno
  go_wp2_with fail
  go_cut [8, 9] (fun v8 v9 wx => v8 = .int .i64 id ∧ v9 = .bool ok ∧ Pn w wx b m vN0 vN1 X FB L1 k' i' j' (.slice o len c) fx pk)
  case first =>
    go_region_law fail
    all_goals (try go_wp2_with fail)
    all_goals go_meet
    all_goals first
      | exact ⟨rfl, rfl, HV.out⟩
      | exact ⟨rfl, rfl, HV.out.drew⟩
  case rest =>
    obtain ⟨rfl, rfl, hv⟩ := hcut
    clear hrun1 hrun2 c0 c1 c2 cz b0 b1 bz
    cases ok with
    | true =>
      obtain ⟨hid0, hend⟩ := HYN.out.1 rfl
      have HE := Lib.hid (And.intro hid0 (And.intro hend hv.fin))
      clear hv hid0 hend
      go_wp2_with fail
      go_ret
      rw [HE.out.2.1]
      exact ⟨by show Ending.returned (.int .i64 id) = Ending.returned (.int .i64 (id.toNat : Int)); rw [Int.toNat_of_nonneg HE.out.1], HE.out.2.2⟩
    | false =>
      have hend := HYN.out.2 rfl
      have HEND := Lib.hid hend
      have hfew : L1.length + 1 ≤ 4294967296 := by
        have := HGOOD.out.2.2.2
        rw [hend] at this
        simpa using this
      have HFEW := Lib.hid hfew
      have HV2 := Lib.hid hv
      obtain ⟨⟨c0, c1, c2⟩, cf⟩ := three_cells hv.f0
      have cz := (Array.getElem?_eq_some_iff.1 hv.f0).1
      have HCL := Lib.hid (fun u => clone_any fx u HFXZ.out)
      clear hv hend hfew cf
      go_wp2_with (go_at_call 63; (with_reducible refine (HCL.out _).mono ?_); rintro e w5 ⟨rfl, hb5⟩; have h5 := HV2.out.more hb5; have h6 := h5.set fx; obtain ⟨⟨d0, d1, d2⟩, df⟩ := three_cells h5.f0; have df1 := df 1; have dz := (Array.getElem?_eq_some_iff.1 h5.f0).1; obtain ⟨gN, oN, cN, hvN, _, ⟨e0, e1⟩, ez, _⟩ := h6.pool.out; rw [hvN] at h5 h6; clear hvN; have H6 := Lib.hid h6; obtain ⟨⟨f0, f1, f2⟩, _⟩ := three_cells h6.f0; obtain ⟨⟨p0, p1, p2, p3⟩, _⟩ := four_cells0 h6.x0; have fz := (Array.getElem?_eq_some_iff.1 h6.f0).1; have pz := (Array.getElem?_eq_some_iff.1 h6.x0).1; clear h5 h6 hb5 df)
      obtain ⟨wA, hrunA, hphA⟩ := H6.out.store HGOOD.out.1 HEND.out HFEW.out
      obtain ⟨wB, hrunB, hphB⟩ := H6.out.drew.store HGOOD.out.1 HEND.out HFEW.out
      rw [HFV.out] at hrunA hrunB
      have HPA := Lib.hid hphA
      have HPB := Lib.hid hphB
      clear hphA hphB
      go_cut [] (fun wx => Ph w wx b m vN0 (.slice oN L1.length cN) X FB L1 ⟨k', ps, ids⟩ k' i' j' (.slice o len c) fx pk)
      case first =>
        go_region_law fail
        all_goals (try go_wp2_with fail)
        all_goals go_meet
        all_goals first
          | exact HPA.out
          | exact HPB.out
          | exact HPA.out.drew
          | exact HPB.out.drew
      case rest =>
        have hph := hcut
        clear hrunA hrunB e0 e1 ez f0 f1 f2 fz p0 p1 p2 p3 pz d0 d1 d2 df1 dz
        obtain ⟨⟨b0, b1⟩, _⟩ := two_cells hph.half.cell
        have bz := (Array.getElem?_eq_some_iff.1 hph.half.cell).1
        obtain ⟨⟨f0, f1, f2⟩, _⟩ := three_cells hph.f0
        have fz := (Array.getElem?_eq_some_iff.1 hph.f0).1
        obtain ⟨⟨p0, p1, p2, p3⟩, _⟩ := four_cells0 hph.x0
        have pz := (Array.getElem?_eq_some_iff.1 hph.x0).1
        obtain ⟨wd, hwdn⟩ : ∃ z, (ps.size : Int) = z := ⟨_, rfl⟩
        have HPUSH := Lib.hid (hph.push rfl HLS.out.symm HGOOD.out.2.1.symm wd hwdn.symm HFEW.out)
        have hwd1 : wrap64 (j' - i') = wd := by rw [← hwdn]; exact HWD.out
        have hwd2 : IntKind.i64.wrap (j' - i') = wd := by have h1 := HWD.out; unfold wrap64 at h1; rw [IntKind.wrap_i64]; omega
        clear hph hcut hwdn
        go_wp2_with fail
        go_region_law ((first | refine step_append_ex rfl _ _ _ _ rfl _ _ rfl rfl (HPUSH.out _ (by first | exact (Below.refl _ _).drew.alloc (Nat.le_refl _) _ | exact (Below.refl _ _).alloc (Nat.le_refl _) _ | exact ((Below.refl _ _).alloc (Nat.le_refl _) _).drew) _ (heap_alloc_last _ _)) ?_ | refine step_append_wp _ _ _ _ rfl _ _ rfl rfl (HPUSH.out _ (by first | exact (Below.refl _ _).drew.alloc (Nat.le_refl _) _ | exact (Below.refl _ _).alloc (Nat.le_refl _) _ | exact ((Below.refl _ _).alloc (Nat.le_refl _) _).drew) _ (heap_alloc_last _ _)) ?_); rintro v' w' ⟨⟨g', cap', rfl⟩, ⟨c4, f4, hbw4⟩, hE⟩; have HE := Lib.hid hE; clear hE)
        all_goals (try go_wp2_with fail)
        all_goals (
          go_ret
          rw [HEND.out]
          exact ⟨rfl, HE.out⟩)
end Go.Proofs.Ytnnffcfdokejbaa.rd
