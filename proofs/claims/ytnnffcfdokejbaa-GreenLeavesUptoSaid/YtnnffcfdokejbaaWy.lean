/-
  Layer 8: Wb, Wc, Wd, We, Wf, Wg put together.
-/
import Derived.Test.YtnnffcfdokejbaaWa
import Derived.Test.YtnnffcfdokejbaaNg
import Derived.Test.YtnnffcfdokejbaaQa
import Derived.Test.YtnnffcfdokejbaaTa
import Derived.Deep.RegionHeld3
import Derived.Test.YtnnffcfdokejbaaNk
import Derived.Test.YtnnffcfdokejbaaNi
import Derived.Test.YtnnffcfdokejbaaUb
import Derived.Test.YtnnffcfdokejbaaUc
namespace Go.Proofs.Ytnnffcfdokejbaa.rd
open Go.RowKit Go.Shelf

set_option maxRecDepth 100000 in
theorem gleaves_any (n : Rn) (w : World) : Calls Try.prog 56 #[n.v] w fun e w' => e = .returned (.func (.func 70) #[] #[.pointer (some ⟨w.heap.size, 0, none⟩)]) ∧ w' = w.alloc (.cells #[.int .i64 n.k, .int .i64 n.i, .int .i64 n.j, .slice n.o n.n n.c] 24) := by
  obtain ⟨k, i, j, o, m, c⟩ := n
  show Calls Try.prog _ #[.agg #[.int .i64 k, .int .i64 i, .int .i64 j, .slice o m c]] w _
  go_enter Try.func56, Try.ntmps56
  go_wp2_with fail
  go_ret
  exact ⟨rfl, rfl⟩
theorem below_grown {B : Nat} {w w' : World} (h : Below B w w') (hB : w.heap.size ≤ B) : w.grownBy w' none := ⟨h.os, h.tape, h.output, h.size, fun k hk _ => h.block k (Nat.lt_of_lt_of_le hk hB)⟩
theorem OwnFrom.below {β : Type} {B : Nat} {I : β → World → Prop} (h : OwnFrom B I) {s : β} {w w' : World} (hs : I s w) (hb : Below w.heap.size w w') : I s w' :=
  h s w w' none hs (below_grown hb (Nat.le_refl _)) (fun r e => by cases e)
/-- What an iterator leaves as it was abides what a loop does. -/
theorem own_kpt {β : Type} {n0 B S : Nat} {w0 : World} (h0 : w0.heap.size ≤ S) (hn : n0 ≤ S) (hn' : n0 ≤ w0.heap.size) : OwnFrom S (fun (_ : β) W => KpT n0 B w0 W) := fun _ A C row hs hg hr =>
  ⟨hs.low.grown hg (Nat.le_trans hn' hs.low.size) (fun k e => Nat.le_trans hn (hr k e).1), fun k o hB hk ht => by
    have hA := hs.keep k o hB hk ht
    refine (hg.block k (Array.getElem?_eq_some_iff.1 hA).1 (fun e => ?_)).trans hA
    have h1 := (hr k e.symm).1
    have h2 := (Array.getElem?_eq_some_iff.1 hk).1
    omega⟩
/-- The marks of loops that are over, the newest ahead. -/
def Marks (B : Nat) (w : World) : Nat → List Deferred → Prop
  | _, [] => True
  | hi, d :: ds => ∃ D, d = { target := .collected D, args := #[] } ∧ B ≤ D ∧ D < hi ∧ w.heap[D]? = some (.deferred (some [])) ∧ Marks B w D ds
theorem Marks.kept {B : Nat} {w w' : World} : ∀ {ds : List Deferred} {hi hi' : Nat}, hi ≤ hi' → (∀ D, B ≤ D → D < hi → w.heap[D]? = some (.deferred (some [])) → w'.heap[D]? = some (.deferred (some []))) → Marks B w hi ds → Marks B w' hi' ds
  | [], _, _, _, _, _ => trivial
  | _ :: _, _, _, hh, hs, ⟨D, h1, h2, h3, h4, h5⟩ => ⟨D, h1, h2, Nat.lt_of_lt_of_le h3 hh, hs D h2 h3 h4, Marks.kept (Nat.le_refl _) (fun D' k1 k2 k3 => hs D' k1 (Nat.lt_trans k2 h3) k3) h5⟩
theorem leave_marks {n : Nat} {fn : Func} {tmps : Array Value} {R : Ending → World → Prop} {B : Nat} {Jp : World → Prop} (hJ : OwnFrom B (fun (_ : Unit) W => Jp W)) (hend : ∀ w', Jp w' → LeavesInM Wide n Try.prog fn tmps R [] .returning w') : ∀ (ds : List Deferred) (hi : Nat) (w : World), Marks B w hi ds → Jp w → LeavesInM Wide n Try.prog fn tmps R ds .returning w
  | [], _, w, _, hj => hend w hj
  | _ :: ds, hi, w, ⟨D, h1, h2, h3, h4, h5⟩, hj => by
    subst h1
    exact ⟨by simp, .inl ⟨D, _, rfl, run_takeDeferred h4, leave_marks hJ hend ds D _ (h5.kept (Nat.le_refl _) fun D' _ k2 k3 => (World.putObj_heap_other (by omega)).trans k3) (hJ.putObj (s := ()) _ hj h2 h4 rfl)⟩⟩
end Go.Proofs.Ytnnffcfdokejbaa.rd
namespace Go.Proofs.Ytnnffcfdokejbaa.rd
open Go.RowKit Go.Shelf

attribute [local go_sem] Oper.semAt_some
theorem RoundIn.wideIn {m m' : Nat} {P : Program} {l : Nat} {f : FuncId} {tmps : Array Value} {assign body : Code} {w : World} {R : Ending → World → Prop} (l2 : Nat) (h : RoundIn Wide m P l f tmps assign body w R) : RoundIn (Wide.inRound l2) m' P l f tmps assign body w R :=
  ⟨h.1, fun c cs _ => h.2 c cs (fun d hd => by cases hd)⟩
/-- What the iterator over a tree's leaves is held to. -/
def LeavesS (t : Tree) : Prop := ∀ (w0 w : World) (n : Rn) (Bx : Nat), Hid (TieB w0 t n) → Below w0.heap.size w0 w → Box w Bx n → SeqT 70 #[.pointer (some ⟨Bx, 0, none⟩)] w0.heap.size (leavesT t) w
theorem OwnFrom.comp {β γ : Type} {B B' : Nat} {J : β → World → Prop} (h : OwnFrom B J) (hB : B ≤ B') (f : γ → β) : OwnFrom B' (fun s W => J (f s) W) := fun s X Y row h1 h2 h3 => h (f s) X Y row h1 h2 fun r e => ⟨Nat.le_trans hB (h3 r e).1, (h3 r e).2⟩
theorem own_cells {β : Type} (B k : Nat) (cs : Array Value) (t : TypeId) (fr : Nat × Nat) : OwnFrom B (fun (_ : β) W => W.heap[k]? = some (.cells cs t fr)) := fun _ A _ row hs hg hr =>
  (hg.block k (Array.getElem?_eq_some_iff.1 hs).1 (fun e => by
    obtain ⟨_, o, ho, hc⟩ := hr k e.symm
    rw [hs] at ho
    cases ho
    cases hc)).trans hs
theorem not_tokRow {cs : Array Value} {t : TypeId} {fr : Nat × Nat} (h : t ≠ 68) : ¬ TokRow (.cells cs t fr) := fun ⟨_, _, e⟩ => by
  cases e
  exact h rfl
set_option maxRecDepth 100000 in
set_option maxHeartbeats 4000000 in
theorem leavesS_node (k i j : Int) (l : List Tree) (ih : ∀ t ∈ l, LeavesS t) : LeavesS (.mk k i j l) := by
  intro w0 w n Bx hT hb0 hbx L J Jx W hW hJ hJx hY h0
  obtain ⟨o, c, g, off, R, rfl, hc, hl, hlR, ho, HC, HT⟩ := TieB.out hT
  obtain ⟨len, hlen⟩ : ∃ len, l.length = len := ⟨_, rfl⟩
  have HLN := Lib.hid (And.intro hlen hlR)
  have HIH := Lib.hid ih
  have HO := Lib.hid ho
  have hbx' := hbx.below hW
  have hb0' : Below w0.heap.size w0 W := hb0.trans (hW.mono hb0.size)
  obtain ⟨Wy, hWy⟩ : ∃ Wy, W.alloc (.cells #[.func (.yield L) #[] #[]] 114) = Wy := ⟨_, rfl⟩
  have hby : Below W.heap.size W Wy := by rw [← hWy]; exact (Below.refl _ _).alloc (Nat.le_refl _) _
  have hyy : Wy.heap[W.heap.size]? = some (.cells #[.func (.yield L) #[] #[]] 114 (0, 0)) := by rw [← hWy]; exact heap_alloc_last _ _
  rw [hlen] at hbx' hl
  obtain ⟨⟨x0, x1, x2, x3⟩, xz⟩ := hbx'.cells
  refine (callsIn_wide (n := 5)).1 ?_
  refine callsIn_of_wp_marks Try.func70 rfl trivial ?_ rfl
  simp only [Try.ntmps70, List.size_toArray, List.length_cons, List.length_nil, Nat.reduceAdd, Nat.reduceSub, Array.replicate_succ, Array.replicate_zero, List.push_toArray, List.append_toArray, List.nil_append, List.cons_append]
  obtain ⟨lk, hlk⟩ : ∃ b, leafK k = b := ⟨_, rfl⟩
  have HLF : Hid (∀ u, Calls Try.prog 61 #[.agg #[.int .i64 k, .int .i64 i, .int .i64 j, .slice o len c]] u fun e w' => e = .returned (.bool lk) ∧ Below u.heap.size u w') := Lib.hid (fun u => by rw [← hlk]; exact isLeaf_any k i j o len c u)
  have HWy := Lib.hid hWy
  have HBY := Lib.hid (And.intro hby hyy)
  have HBX := Lib.hid hbx'
  have HJ := Lib.hid (And.intro hJ hJx)
  rw [leavesT, hlk] at hY ⊢
  have HY := Lib.hid hY
  have HL0 := Lib.hid (And.intro hb0' h0)
  clear hlen hlR ho hc ih hWy hby hyy hbx' hJ hJx hY hlk hb0 hbx hW hb0' h0
  cases lk with
  | true =>
    have HY : Hid (YieldT w0.heap.size W.heap.size L [⟨k, i, j⟩] J Jx) := Lib.hid (by simpa using HY.out)
    gi_wp2_with (refine ⟨trivial, ?_⟩; first | (gi_at_call 61; refine (callsIn_wide.2 (HLF.out _)).mono ?_; rintro e w2 ⟨rfl, hb2⟩; rw [HWy.out] at hb2; have hbW := HBY.out.1.trans (hb2.mono HBY.out.1.size); obtain ⟨⟨y0, y1, y2, y3⟩, yz⟩ := (HBX.out.below hbW).cells; have cy : w2.cell? ⟨W.heap.size, 0, none⟩ = some (.func (.yield L) #[] #[]) := cell_of_row _ _ _ _ _ _ ((hb2.block _ (Array.getElem?_eq_some_iff.1 HBY.out.2).1).trans HBY.out.2); obtain ⟨fn, tmps, assign, body, hy, hR⟩ := HY.out [] ⟨k, i, j⟩ w2 (OwnFrom.below HJ.out.1 HL0.out.2 hbW) (List.prefix_refl _); dsimp only [tokV] at hy; have HB2 := Lib.hid hbW; clear hb2 hbW))
    refine (RoundIn.wide hR).mono ?_
    rintro e W3 ⟨go, rfl, hk, hj, hjx⟩
    cases go with
    | true =>
      gi_wp2
      exact ⟨_, results_none rfl _ _ _, ⟨_, rfl⟩, .inl (by simpa using hj)⟩
    | false =>
      gi_wp2
      exact ⟨_, results_none rfl _ _ _, ⟨_, rfl⟩, .inr ⟨_, List.prefix_refl _, by simpa using hjx⟩⟩
  | false =>
    have HY : Hid (YieldT w0.heap.size W.heap.size L (leavesTs l) J Jx) := Lib.hid (by simpa using HY.out)
    simp only [Bool.false_eq_true, if_false]
    gi_wp2_with (refine ⟨trivial, ?_⟩; first | (gi_at_call 61; refine (callsIn_wide.2 (HLF.out _)).mono ?_; rintro e w2 ⟨rfl, hb2⟩; rw [HWy.out] at hb2; have hbW := HBY.out.1.trans (hb2.mono HBY.out.1.size); obtain ⟨⟨y0, y1, y2, y3⟩, yz⟩ := (HBX.out.below hbW).cells; have HYB : Hid (w2.heap[W.heap.size]? = some (.cells #[.func (.yield L) #[] #[]] 114 (0, 0))) := Lib.hid ((hb2.block _ (Array.getElem?_eq_some_iff.1 HBY.out.2).1).trans HBY.out.2); have HB2 := Lib.hid hbW; clear hb2 hbW))
    refine wpIn_loop (fun a' w' => ∃ (q : Nat) (s4 s21 s22 s23 s24 s25 s31 : Value) (ds : List Deferred), a' = { tmps := #[.func (.yield L) #[] #[], .pointer (some ⟨Bx, 0, none⟩), .pointer (some ⟨W.heap.size, 0, none⟩), undef, s4, undef, .agg #[.int .i64 k, .int .i64 i, .int .i64 j, .slice o len c], .bool false, undef, undef, undef, undef, undef, undef, undef, undef, undef, .pointer (some ⟨Bx, 3, none⟩), .slice o len c, .int .i64 (len : Int), .int .i64 (q : Int), s21, s22, s23, s24, s25, undef, undef, undef, undef, undef, s31], defers := ds } ∧ q ≤ len ∧ Below w0.heap.size w0 w' ∧ w'.heap[W.heap.size]? = some (.cells #[.func (.yield L) #[] #[]] 114 (0, 0)) ∧ Marks W.heap.size w' w'.heap.size ds ∧ J (leavesTs (l.take q)) w') (fun a' _ => len - (intOf (a'.tmps.getD 20 undef)).toNat) ⟨0, _, _, _, _, _, _, _, [], rfl, Nat.zero_le _, HL0.out.1.trans (HB2.out.mono HL0.out.1.size), HYB.out, trivial, by rw [List.take_zero]; exact OwnFrom.below HJ.out.1 HL0.out.2 HB2.out⟩ ?_
    rintro _ wr ⟨q, s4, s21, s22, s23, s24, s25, s31, ds, rfl, hql, hbr, hyb, hmk, hjq⟩
    have HMK := Lib.hid hmk
    by_cases hlt : q < len
    · have hil : q < l.length := by rw [HLN.out.1]; exact hlt
      have hiR : q < R.length := by rw [HLN.out.2]; exact hil
      obtain ⟨ho, hg⟩ := HO.out (by intro e; rw [e] at hil; simp at hil)
      subst ho
      obtain ⟨a0, a1, a2, a3⟩ := cells_nd HC.out q hiR
      have HSN := Lib.hid (leavesTs_snoc hil)
      have htie := HT.out w0 (Below.refl _ _) q hil hiR
      have HS := Lib.hid (HIH.out l[q] (List.getElem_mem hil))
      obtain ⟨⟨nk, ni, nj, no, nn, nc⟩, hn1⟩ : ∃ n, R[q] = n := ⟨_, rfl⟩
      rw [hn1] at a0 a1 a2 a3 htie
      have c0 := (hbr.cell (p := ⟨g, off + q * 4, none⟩) hg).trans a0
      have c1 := (hbr.cell (p := ⟨g, off + q * 4 + 1, none⟩) hg).trans a1
      have c2 := (hbr.cell (p := ⟨g, off + q * 4 + 2, none⟩) hg).trans a2
      have c3 := (hbr.cell (p := ⟨g, off + q * 4 + 3, none⟩) hg).trans a3
      have hgw : g < wr.heap.size := Nat.lt_of_lt_of_le hg hbr.size
      have hq0 : (0 : Int) ≤ (q : Int) := by omega
      have hww : (q : Int) + 1 ≤ 2932031007318 := by omega
      have hd : decide ((q : Int) < (len : Int)) = true := decide_eq_true (by omega)
      have hd' : decide (q < len) = true := decide_eq_true hlt
      have HLV : Hid (∀ u, Calls Try.prog 56 #[.agg #[.int .i64 nk, .int .i64 ni, .int .i64 nj, .slice no nn nc]] u fun e w' => e = .returned (.func (.func 70) #[] #[.pointer (some ⟨u.heap.size, 0, none⟩)]) ∧ w' = u.alloc (.cells #[.int .i64 nk, .int .i64 ni, .int .i64 nj, .slice no nn nc] 24)) := Lib.hid (fun u => gleaves_any ⟨nk, ni, nj, no, nn, nc⟩ u)
      simp only [] at c0 c1 c2 c3
      have HBR := Lib.hid (And.intro hbr (And.intro hyb hjq))
      clear a0 a1 a2 a3 hn1 hbr hyb hjq hmk y0 y1 y2 y3 yz
      gi_wp2_with (refine ⟨trivial, ?_⟩; first | (gi_at_call 56; refine (callsIn_wide.2 (HLV.out _)).mono ?_; rintro e w7 ⟨rfl, rfl⟩))
      have hW0 : W.heap.size < wr.heap.size := (Array.getElem?_eq_some_iff.1 HBR.out.2.1).1
      obtain ⟨w7, hw7⟩ : ∃ w7, (wr.alloc (.cells #[.int .i64 nk, .int .i64 ni, .int .i64 nj, .slice no nn nc] 24)).alloc (.cells #[.int .i64 nk, .int .i64 ni, .int .i64 nj, .slice no nn nc] 24) = w7 := ⟨_, rfl⟩
      rw [hw7]
      have hb7 : Below wr.heap.size wr w7 := by rw [← hw7]; exact ((Below.refl _ _).alloc (Nat.le_refl _) _).alloc (by rw [World.size_alloc]; omega) _
      have hz7 : w7.heap.size = wr.heap.size + 2 := by rw [← hw7, World.size_alloc, World.size_alloc]
      have hkb : Box w7 (wr.heap.size + 1) ⟨nk, ni, nj, no, nn, nc⟩ := by
        rw [← hw7]
        have := heap_alloc_last (wr.alloc (.cells #[.int .i64 nk, .int .i64 ni, .int .i64 nj, .slice no nn nc] 24)) (.cells #[.int .i64 nk, .int .i64 ni, .int .i64 nj, .slice no nn nc] 24)
        rwa [World.size_alloc] at this
      have hbw7 : Below w0.heap.size w0 w7 := HBR.out.1.trans (hb7.mono HBR.out.1.size)
      have hyb7 : w7.heap[W.heap.size]? = some (.cells #[.func (.yield L) #[] #[]] 114 (0, 0)) := (hb7.block _ hW0).trans HBR.out.2.1
      have hj7 : J (leavesTs (l.take q)) w7 := OwnFrom.below HJ.out.1 HBR.out.2.2 hb7
      have hm7 : ∀ W', KpT w0.heap.size W.heap.size w7 W' → Marks W.heap.size W' wr.heap.size ds := fun W' hk => HMK.out.kept (Nat.le_refl _) fun D h1 h2 h3 => hk.keep D _ h1 ((hb7.block D h2).trans h3) (TokRow.defers _)
      have H7 := Lib.hid (And.intro hbw7 (And.intro hyb7 hm7))
      have hn7 := hbw7.size
      have hW7 : W.heap.size ≤ w7.heap.size := by omega
      have hpre : ∀ pre, pre <+: leavesT l[q] → leavesTs (l.take q) ++ pre <+: leavesTs l := fun pre hp => by
        have e : leavesTs l = leavesTs (l.take (q + 1)) ++ leavesTs (l.drop (q + 1)) := by rw [← leavesTs_append, List.take_append_drop]
        rw [e, HSN.out, List.append_assoc]
        exact (List.prefix_append_right_inj _).2 (hp.trans (List.prefix_append _ _))
      have HPRE := Lib.hid hpre
      clear hw7 hb7 hyb7 hm7 c0 c1 c2 c3 hpre
      refine rangeT (n0 := w0.heap.size) (w0 := w7) (xs := leavesT l[q]) rfl (enters_of Try.func70 (by kernel_rfl) rfl) (HS.out w0 w7 ⟨nk, ni, nj, no, nn, nc⟩ (wr.heap.size + 1) htie hbw7 hkb) (Below.refl _ _) hn7
        (fun pre W' => J (leavesTs (l.take q) ++ pre) W' ∧ KpT w0.heap.size W.heap.size w7 W') (fun c pre W' => c = .ret ∧ Jx (leavesTs (l.take q) ++ pre) W' ∧ KpT w0.heap.size W.heap.size w7 W')
        (OwnFrom.and (OwnFrom.comp HJ.out.1 hW7 _) (own_kpt (Nat.le_refl _) hn7 hn7)) (fun c => OwnFrom.and (ownFrom_pure _ _) (OwnFrom.and (OwnFrom.comp HJ.out.2 hW7 _) (own_kpt (Nat.le_refl _) hn7 hn7))) ⟨by rw [List.append_nil]; exact hj7, KpT.refl _ _ _⟩
        (fun x a' W' => ∃ Bt, a' = { tmps := #[.func (.yield L) #[] #[], .pointer (some ⟨Bx, 0, none⟩), .pointer (some ⟨W.heap.size, 0, none⟩), undef, .pointer (some ⟨wr.heap.size, 0, none⟩), .pointer (some ⟨Bt, 0, none⟩), .agg #[.int .i64 k, .int .i64 i, .int .i64 j, .slice (some ⟨g, off, none⟩) len c], .bool false, undef, undef, undef, undef, undef, undef, undef, undef, undef, .pointer (some ⟨Bx, 3, none⟩), .slice (some ⟨g, off, none⟩) len c, .int .i64 (len : Int), .int .i64 (q : Int), .bool true, .pointer (some ⟨g, off + q * 4, none⟩), .agg #[.int .i64 nk, .int .i64 ni, .int .i64 nj, .slice no nn nc], .agg #[.int .i64 nk, .int .i64 ni, .int .i64 nj, .slice no nn nc], .func (.func 70) #[] #[.pointer (some ⟨wr.heap.size + 1, 0, none⟩)], tokV x, undef, undef, undef, undef, s31], defers := [] } ∧ W'.heap[Bt]? = some (.cells #[.int .i64 x.k, .int .i64 x.i, .int .i64 x.j] 68 (0, 0)))
        (fun x a' s X Y row ⟨Bt, e1, e2⟩ hg hr => ⟨Bt, e1, own_cells w7.heap.size Bt _ _ _ s X Y row e2 hg hr⟩) ?assign ?body ?done ?stop
      case assign =>
        rintro l2 pre x W' K ⟨hi, hk⟩ hn hK
        simp only [List.setIfInBounds_toArray, List.set_cons_zero, List.set_cons_succ, tokV]
        have HIK := Lib.hid (And.intro hi hk)
        clear hi hk
        gi_wp2
        exact hK _ _ (KpT.alloc _ W' hn _) ⟨OwnFrom.alloc HJ.out.1 _ HIK.out.1, HIK.out.2.trans (KpT.alloc _ W' hn _)⟩ ⟨_, rfl, heap_alloc_last _ _⟩
      case body =>
        rintro l2 pre x _ W' ⟨hi, hk⟩ hpl hn ⟨Bt, rfl, hbt⟩
        have cy : W'.cell? ⟨W.heap.size, 0, none⟩ = some (.func (.yield L) #[] #[]) := cell_of_row _ _ _ _ _ _ (hk.keep _ _ (Nat.le_refl _) H7.out.2.1 (not_tokRow (by decide)))
        have t0 : W'.cell? ⟨Bt, 0, none⟩ = some (.int .i64 x.k) := cell_of_row _ _ _ _ _ _ hbt
        have t1 : W'.cell? ⟨Bt, 1, none⟩ = some (.int .i64 x.i) := cell_of_row _ _ _ _ _ _ hbt
        have t2 : W'.cell? ⟨Bt, 2, none⟩ = some (.int .i64 x.j) := cell_of_row _ _ _ _ _ _ hbt
        obtain ⟨fn, tmps, assign, body, hy, hR⟩ := HY.out _ x W' hi (by rw [List.append_assoc]; exact HPRE.out _ hpl)
        dsimp only [tokV] at hy ⊢
        have HIK := Lib.hid (And.intro hi hk)
        clear hi hk hbt hpl
        gi_wp2
        refine ⟨rfl, RoundIn.mono (RoundIn.wideIn l2 hR) ?_⟩
        rintro e W3 ⟨go, rfl, hk3, hj3, hjx3⟩
        have HK3 := Lib.hid (And.intro hk3 (And.intro hj3 hjx3))
        clear hk3 hj3 hjx3 hy hR
        cases go with
        | true =>
          gi_wp2
          exact ⟨HK3.out.1.mono hW7, by rw [← List.append_assoc]; exact HK3.out.2.1 trivial, HIK.out.2.trans HK3.out.1⟩
        | false =>
          gi_wp2
          exact ⟨HK3.out.1.mono hW7, rfl, by rw [← List.append_assoc]; exact HK3.out.2.2 trivial, HIK.out.2.trans HK3.out.1⟩
      case done =>
        rintro W' ⟨hi, hk⟩ hd9
        have HD := Lib.hid (And.intro hi (And.intro hk hd9))
        clear hi hk hd9
        gi_wp2
        refine ⟨⟨q + 1, _, _, _, _, _, _, _, _, rfl, by omega, H7.out.1.trans HD.out.2.1.low, HD.out.2.1.keep _ _ (Nat.le_refl _) H7.out.2.1 (not_tokRow (by decide)), ⟨w7.heap.size, rfl, hW7, (Array.getElem?_eq_some_iff.1 HD.out.2.2).1, HD.out.2.2, (H7.out.2.2 W' HD.out.2.1).kept (by omega) fun _ _ _ h => h⟩, by rw [HSN.out]; exact HD.out.1⟩, ?_⟩
        simp [intOf]
        omega
      case stop =>
        rintro c pre W' hp ⟨rfl, hi, hk⟩ hd9
        have HD := Lib.hid (And.intro hi (And.intro hk hd9))
        have HP := Lib.hid (HPRE.out pre hp)
        clear hi hk hd9 hp
        gi_wp2
        refine leave_marks (B := W.heap.size) (Jp := fun W' => Jx (leavesTs (l.take q) ++ pre) W') (OwnFrom.comp HJ.out.2 (Nat.le_refl _) fun _ => _) (fun w' hj => ⟨_, results_none rfl _ _ _, ⟨_, rfl⟩, .inr ⟨_, HP.out, hj⟩⟩) _ W'.heap.size W' ⟨w7.heap.size, rfl, hW7, (Array.getElem?_eq_some_iff.1 HD.out.2.2).1, HD.out.2.2, (H7.out.2.2 W' HD.out.2.1).kept (by omega) fun _ _ _ h => h⟩ HD.out.1
    · obtain rfl : q = len := by omega
      have hd : decide ((q : Int) < (q : Int)) = false := decide_eq_false (by omega)
      rw [List.take_of_length_le (by rw [HLN.out.1]; exact Nat.le_refl _)] at hjq
      have HJQ := Lib.hid hjq
      clear hjq hmk hbr hyb
      gi_wp2
      exact leave_marks (B := W.heap.size) (Jp := fun W' => J (leavesTs l) W') (OwnFrom.comp HJ.out.1 (Nat.le_refl _) fun _ => _) (fun w' hj => ⟨_, results_none rfl _ _ _, ⟨_, rfl⟩, .inl hj⟩) ds _ wr HMK.out HJQ.out
mutual
theorem leaves_seq : ∀ t : Tree, LeavesS t
  | .mk k i j l => leavesS_node k i j l (leavesS_l l)
theorem leavesS_l : ∀ (l : List Tree), ∀ t ∈ l, LeavesS t
  | [], t, h => by cases h
  | u :: l, t, h => by
    rcases List.mem_cons.1 h with h | h
    · rw [h]; exact leaves_seq u
    · exact leavesS_l l t h
end
end Go.Proofs.Ytnnffcfdokejbaa.rd
namespace Go.Proofs.Ytnnffcfdokejbaa.rd
open Go.RowKit Go.Shelf

attribute [local go_sem] Oper.semAt_some
theorem KpT.of_grown {n0 B : Nat} {W W' : World} {row : Option Nat} (hg : W.grownBy W' row) (hn : n0 ≤ W.heap.size) (hr : ∀ k, row = some k → n0 ≤ k ∧ (k < B ∨ ∀ o, W.heap[k]? = some o → TokRow o)) : KpT n0 B W W' :=
  ⟨⟨hg.os, hg.tape, hg.output, hg.size, fun k hk => hg.block k (by omega) (fun e => by have := (hr k e.symm).1; omega)⟩, fun k o hB hk ht => (hg.block k (Array.getElem?_eq_some_iff.1 hk).1 (fun e => by
    rcases (hr k e.symm).2 with h | h
    · omega
    · exact ht (h o hk))).trans hk⟩
theorem KpT.setCell {n0 B S : Nat} (W : World) (v : Value) (hn : n0 ≤ W.heap.size) (hS : n0 ≤ S) (hB : S < B) : KpT n0 B W (W.setCell ⟨S, 0, none⟩ v) :=
  KpT.of_grown (grownBy_setCell' W S v) hn fun k e => by cases e; exact ⟨hS, .inl hB⟩
theorem Mine.tok {w : World} {B : Nat} {v : Value} {T : List Tk} (h : Mine tk w B v T) (k : Nat) (hk : v.ownBlock = some k) : B ≤ k ∧ ∃ cs, w.heap[k]? = some (.cells cs 68 (0, 0)) := by
  rcases h.2 with ⟨rfl, _⟩ | ⟨g, cap, cur, rfl, h1, h2, _⟩
  · cases hk
  · cases hk
    exact ⟨h1, cur, h2⟩
theorem own_mine {β : Type} (B B0 : Nat) (v : Value) (T : List Tk) : OwnFrom B (fun (_ : β) W => Mine tk W B0 v T) := fun _ _ _ _ hs hg hr =>
  hs.keep fun k hk hlt => hg.block k hlt (fun e => by
    obtain ⟨_, cs, h2⟩ := hs.tok k hk
    obtain ⟨_, o, ho, hc⟩ := hr k e.symm
    rw [h2] at ho
    cases ho
    cases hc)
theorem own_below {β : Type} {n0 B : Nat} {w0 : World} (hn : n0 ≤ B) (hn' : n0 ≤ w0.heap.size) : OwnFrom B (fun (_ : β) W => Below n0 w0 W) := fun _ _ _ _ hs hg hr =>
  hs.grown hg (Nat.le_trans hn' hs.size) (fun k e => Nat.le_trans hn (hr k e).1)
theorem wpListIn_append_run {F : Fence} {n : Nat} {P : Program} {w : World} {ops : Array Oper} {rest : List Oper} {o : Oper} {a : Act} {Q : Exit → Act → World → Prop} (hg : o.guard = none) (s x : Operand) (t tn : TypeId)
    (ho : o.op = .call { callee := .builtin .append, args := #[s, x], argTypes := #[t, tn] }) (vs vx : Value) (hs : a.eval s = vs) (hx : a.eval x = vx) {v' : Value} {w' : World} (hr : ∀ ty, (Builtin.append_ #[t, tn] ty #[vs, vx]).run P w = .ok v' w') (h : wpListIn F n P ops Q rest (a.put o.dst v') w') :
    wpListIn F n P ops Q (o :: rest) a w := by
  refine wpListIn_plain hg fun K hK => ?_
  have hrun := hr o.type
  unfold Oper.wpIn
  refine ⟨by simp [Oper.about, ho, resolve, Target.leads, Sem.run_pure], ?_⟩
  rw [Oper.semAt_plain F _ _ (by rw [ho]; intro c hc; cases hc)]
  simp [execOp, ho, resolve, invoke, builtin, hs, hx, hrun, Result.andThen]
  exact hK _ _ h
set_option maxRecDepth 100000 in
set_option maxHeartbeats 4000000 in
theorem appendSeq_any (Bx : Nat) (xs : List Tk) (w : World) (hs : SeqT 70 #[.pointer (some ⟨Bx, 0, none⟩)] w.heap.size xs w) (hfew : xs.length ≤ 1099511627776) :
    Calls Try.prog 69 #[.slice none 0 0, .func (.func 70) #[] #[.pointer (some ⟨Bx, 0, none⟩)]] w fun e w' => ∃ v, e = .returned v ∧ Below w.heap.size w w' ∧ Mine tk w' w.heap.size v xs := by
  have HS := Lib.hid hs
  have HFW := Lib.hid hfew
  clear hs hfew
  refine (callsIn_wide (n := 5)).1 ?_
  refine callsIn_of_wp_marks Try.func69 rfl trivial ?_ rfl
  simp only [Try.ntmps69, List.size_toArray, List.length_cons, List.length_nil, Nat.reduceAdd, Nat.reduceSub, Array.replicate_succ, Array.replicate_zero, List.push_toArray, List.append_toArray, List.nil_append, List.cons_append]
  gi_wp2
  obtain ⟨S, hS⟩ : ∃ S, w.heap.size = S := ⟨_, rfl⟩
  obtain ⟨w1, hw1⟩ : ∃ w1, w.alloc (.cells #[.slice none 0 0] 63) = w1 := ⟨_, rfl⟩
  have hb1 : Below w.heap.size w w1 := by rw [← hw1]; exact (Below.refl _ _).alloc (Nat.le_refl _) _
  have hz1 : w1.heap.size = S + 1 := by rw [← hw1, World.size_alloc, hS]
  have hx1 : w1.heap[S]? = some (.cells #[.slice none 0 0] 63 (0, 0)) := by rw [← hw1, ← hS]; exact heap_alloc_last _ _
  have HSZ := Lib.hid hS
  have HZ1 := Lib.hid hz1
  have HB1 := Lib.hid (And.intro hb1 hx1)
  rw [hw1, hS]
  clear hw1 hb1 hx1
  refine rangeT (n0 := w.heap.size) (w0 := w) (xs := xs) rfl (enters_of Try.func70 (by kernel_rfl) rfl) HS.out HB1.out.1 (by omega)
    (fun pre W => ∃ v, W.heap[S]? = some (.cells #[v] 63 (0, 0)) ∧ Mine tk W (S + 1) v pre ∧ Below w.heap.size w W) (fun _ _ _ => False)
    (fun s A C row ⟨v, h1, h2, h3⟩ hg hr => ⟨v, own_cells w1.heap.size S _ _ _ s A C row h1 hg hr, own_mine w1.heap.size (S + 1) v s s A C row h2 hg hr, own_below (n0 := w.heap.size) (by omega) (Nat.le_refl _) s A C row h3 hg hr⟩)
    (fun _ _ _ _ _ hs _ _ => hs) ⟨_, HB1.out.2, Mine.nil _ _, HB1.out.1⟩
    (fun x a' W => ∃ Bt, a' = { tmps := #[.slice none 0 0, .func (.func 70) #[] #[.pointer (some ⟨Bx, 0, none⟩)], .pointer (some ⟨S, 0, none⟩), undef, .slice none 0 0, .pointer (some ⟨Bt, 0, none⟩), .func (.func 70) #[] #[.pointer (some ⟨Bx, 0, none⟩)], tokV x, undef, undef, undef, undef, undef], defers := [] } ∧ W.heap[Bt]? = some (.cells #[.int .i64 x.k, .int .i64 x.i, .int .i64 x.j] 68 (0, 0)))
    (fun x a' s X Y row ⟨Bt, e1, e2⟩ hg hr => ⟨Bt, e1, own_cells w1.heap.size Bt _ _ _ s X Y row e2 hg hr⟩) ?assign ?body ?done ?stop
  case assign =>
    rintro l2 pre x W K ⟨v, h1, h2, h3⟩ hn hK
    simp only [List.setIfInBounds_toArray, List.set_cons_zero, List.set_cons_succ, tokV]
    have HI := Lib.hid (And.intro h1 (And.intro h2 h3))
    clear h1 h2 h3
    gi_wp2
    exact hK _ _ (KpT.alloc _ W hn _) ⟨v, (heap_alloc_old W _ (Array.getElem?_eq_some_iff.1 HI.out.1).1).trans HI.out.1, HI.out.2.1.below ((Below.refl _ _).alloc (Nat.le_refl _) _), HI.out.2.2.alloc hn _⟩ ⟨_, rfl, heap_alloc_last _ _⟩
  case body =>
    rintro l2 pre x _ W ⟨v, h1, h2, h3⟩ hpl hn ⟨Bt, rfl, hbt⟩
    have cS : W.cell? ⟨S, 0, none⟩ = some v := cell_of_row _ _ _ _ _ _ h1
    have t0 : W.cell? ⟨Bt, 0, none⟩ = some (.int .i64 x.k) := cell_of_row _ _ _ _ _ _ hbt
    have t1 : W.cell? ⟨Bt, 1, none⟩ = some (.int .i64 x.i) := cell_of_row _ _ _ _ _ _ hbt
    have t2 : W.cell? ⟨Bt, 2, none⟩ = some (.int .i64 x.j) := cell_of_row _ _ _ _ _ _ hbt
    have HI := Lib.hid (And.intro h1 (And.intro h2 h3))
    clear h1 h2 h3 hbt
    dsimp only [tokV]
    have hfw := HFW.out
    have hz1' := HZ1.out
    have hpl := hpl.length_le
    rw [List.length_append, List.length_singleton] at hpl
    have hS9 : S < W.heap.size := (Array.getElem?_eq_some_iff.1 HI.out.1).1
    have hlit := Mine.lit (F := tk) W [x] (Nat.zero_le _) (by show 1 ≤ maxLen; decide)
    obtain ⟨v', w', hrun, hm', hg'⟩ := run_append_row (F := tk) (HI.out.2.1.below ((Below.refl _ _).alloc (Nat.le_refl _) (.cells (flat tk [x]).toArray tk.e))) hlit.row (by rw [World.size_alloc]; omega) (by simp [maxLen]; omega) (by show (_ + 1) * 24 ≤ _; omega)
    have hRUN : Hid (∀ ty, (Builtin.append_ #[63, 63] ty #[v, .slice (some ⟨W.heap.size, 0, none⟩) 1 1]).run Try.prog (W.alloc (.cells #[.int .i64 x.k, .int .i64 x.i, .int .i64 x.j] 68)) = .ok v' w') := Lib.hid hrun
    have hk' : KpT w.heap.size w1.heap.size W w' := (KpT.alloc _ W hn (.cells (flat tk [x]).toArray tk.e)).trans (KpT.of_grown hg' (by rw [World.size_alloc]; omega) fun k e => by
      obtain ⟨h1, cs, h2⟩ := (HI.out.2.1.below ((Below.refl _ _).alloc (Nat.le_refl _) (.cells (flat tk [x]).toArray tk.e))).tok k e
      exact ⟨by have := HSZ.out; omega, .inr fun o ho => ⟨cs, (0, 0), by rw [h2] at ho; exact (Option.some.inj ho).symm⟩⟩)
    have hb' : w'.heap[S]? = some (.cells #[v] 63 (0, 0)) := (hg'.block S (by rw [World.size_alloc]; omega) (fun e => by
      have := ((HI.out.2.1.below ((Below.refl _ _).alloc (Nat.le_refl _) (.cells (flat tk [x]).toArray tk.e))).tok S e.symm).1
      omega)).trans ((heap_alloc_old W _ hS9).trans HI.out.1)
    obtain ⟨g', o', cap', rfl, ho', _, _⟩ := hm'.shape
    obtain rfl := ho' (by simp)
    have hBX : Boxed w' S 63 v := hb'
    have cS' := hBX.cell
    have fS' := hBX.frozen
    have HK' := Lib.hid (And.intro hk' (And.intro hb' hm'))
    clear hlit hrun hg' hk' hb' hm' hBX ho' hpl hfw
    gi_wp2_with (gi_at_builtin; refine wpListIn_append_run rfl _ _ _ _ rfl _ _ rfl rfl (hRUN.out) ?_)
    have hS8 := HSZ.out
    have hset : KpT w.heap.size w1.heap.size w' (w'.setCell ⟨S, 0, none⟩ (.slice (some ⟨g', 0, none⟩) (pre.length + 1) cap')) := KpT.setCell w' _ (Nat.le_trans hn HK'.out.1.low.size) (by omega) (by omega)
    have hall := HK'.out.1.trans hset
    have hmm : Mine tk w' (S + 1) (.slice (some ⟨g', 0, none⟩) (pre.length + 1) cap') (pre ++ [x]) := by have h := HK'.out.2.2; simpa using h
    exact ⟨hall, _, Boxed.set _ HK'.out.2.1, hmm.keep fun k hk hlt => (grownBy_setCell' w' S _).block k hlt (fun e => by
      have h1 := (hmm.tok k hk).1
      cases e
      omega), HI.out.2.2.trans hall.low⟩
  case done =>
    rintro W ⟨v, h1, h2, h3⟩ hd9
    have cS : W.cell? ⟨S, 0, none⟩ = some v := cell_of_row _ _ _ _ _ _ h1
    have HI := Lib.hid (And.intro h1 (And.intro h2 (And.intro h3 hd9)))
    clear h1 h2 h3 hd9
    gi_wp2
    have hS8 := HSZ.out
    exact leave_marks (B := w1.heap.size) (Jp := fun W => Mine tk W (S + 1) v xs ∧ Below w.heap.size w W) (OwnFrom.and (own_mine _ _ _ _) (own_below (by omega) (Nat.le_refl _))) (fun w' ⟨hm, hb⟩ => ⟨_, results_tmp rfl _ _ _, v, rfl, hb, hm.mono (by omega)⟩) _ W.heap.size W ⟨w1.heap.size, rfl, Nat.le_refl _, (Array.getElem?_eq_some_iff.1 HI.out.2.2.2).1, HI.out.2.2.2, trivial⟩ ⟨HI.out.2.1, HI.out.2.2.1⟩
  case stop =>
    rintro c pre W _ h _
    exact h.elim
set_option maxRecDepth 100000 in
theorem collect_any (Bx : Nat) (xs : List Tk) (w : World) (hs : SeqT 70 #[.pointer (some ⟨Bx, 0, none⟩)] w.heap.size xs w) (hfew : xs.length ≤ 1099511627776) :
    Calls Try.prog 55 #[.func (.func 70) #[] #[.pointer (some ⟨Bx, 0, none⟩)]] w fun e w' => ∃ v, e = .returned v ∧ Below w.heap.size w w' ∧ Mine tk w' w.heap.size v xs := by
  have H := Lib.hid (appendSeq_any Bx xs w hs hfew)
  clear hs hfew
  go_enter Try.func55, Try.ntmps55
  go_wp2_with (go_at_call 69; (with_reducible refine H.out.mono ?_); rintro e w2 ⟨v, rfl, hb, hm⟩)
  go_ret
  exact ⟨_, rfl, hb, hm⟩
set_option maxRecDepth 100000 in
theorem values_any (v : Value) (w : World) (h1 : ∃ o n c, v = .slice o n c) :
    Calls Try.prog 54 #[v] w fun e w' => e = .returned (.func (.func 68) #[] #[.pointer (some ⟨w.heap.size, 0, none⟩)]) ∧ w' = w.alloc (.cells #[v] 63) := by
  obtain ⟨o, n, c, rfl⟩ := h1
  go_enter Try.func54, Try.ntmps54
  go_wp2_with fail
  go_ret
  exact ⟨rfl, rfl⟩
set_option maxRecDepth 100000 in
set_option maxHeartbeats 4000000 in
/-- The program's Leaves. -/
theorem gLeaves_t (t : Tree) (n : Rn) (w : World) (hT : Hid (TieB w t n)) (hfew : (leavesT t).length ≤ 1099511627776) :
    Calls Try.prog 32 #[n.v] w fun e w' => ∃ (Bv : Nat) (v : Value), e = .returned (.func (.func 68) #[] #[.pointer (some ⟨Bv, 0, none⟩)]) ∧ Below w.heap.size w w' ∧ w.heap.size ≤ Bv ∧ w'.heap[Bv]? = some (.cells #[v] 63 (0, 0)) ∧ Mine tk w' w.heap.size v (leavesT t) := by
  obtain ⟨k, i, j, o, m, c⟩ := n
  have HLV : Hid (∀ u, Calls Try.prog 56 #[.agg #[.int .i64 k, .int .i64 i, .int .i64 j, .slice o m c]] u fun e w' => e = .returned (.func (.func 70) #[] #[.pointer (some ⟨u.heap.size, 0, none⟩)]) ∧ w' = u.alloc (.cells #[.int .i64 k, .int .i64 i, .int .i64 j, .slice o m c] 24)) := Lib.hid (fun u => gleaves_any ⟨k, i, j, o, m, c⟩ u)
  have HCO : Hid (∀ (u : World) (X : Nat), Below w.heap.size w u → u.heap.size = X → Calls Try.prog 55 #[.func (.func 70) #[] #[.pointer (some ⟨X, 0, none⟩)]] (u.alloc (.cells #[.int .i64 k, .int .i64 i, .int .i64 j, .slice o m c] 24)) fun e w' => ∃ (oo : Option Addr) (nn cc : Nat), e = .returned (.slice oo nn cc) ∧ Below w.heap.size w w' ∧ Mine tk w' w.heap.size (.slice oo nn cc) (leavesT t)) := Lib.hid (fun u X hu hX => by
    subst hX
    have hua := hu.alloc hu.size (.cells #[.int .i64 k, .int .i64 i, .int .i64 j, .slice o m c] 24)
    have hx : Box (u.alloc (.cells #[.int .i64 k, .int .i64 i, .int .i64 j, .slice o m c] 24)) u.heap.size ⟨k, i, j, o, m, c⟩ := heap_alloc_last u _
    refine (collect_any u.heap.size (leavesT t) _ (leaves_seq t _ _ _ _ (TieB.below hT hua) (Below.refl _ _) hx) hfew).mono fun e w' ⟨v, e1, e2, e3⟩ => ?_
    obtain ⟨g, oo, cap, rfl, _⟩ := e3.shape
    exact ⟨oo, _, cap, e1, hua.trans (e2.mono hua.size), e3.mono hua.size⟩)
  have HVA : Hid (∀ (u : World) (oo : Option Addr) (nn cc : Nat), Calls Try.prog 54 #[.slice oo nn cc] u fun e w' => e = .returned (.func (.func 68) #[] #[.pointer (some ⟨u.heap.size, 0, none⟩)]) ∧ w' = u.alloc (.cells #[.slice oo nn cc] 63)) := Lib.hid (fun u oo nn cc => values_any _ u ⟨oo, nn, cc, rfl⟩)
  have HB0 : Hid (Below w.heap.size w (w.alloc (.cells #[.int .i64 k, .int .i64 i, .int .i64 j, .slice o m c] 24)) ∧ (w.alloc (.cells #[.int .i64 k, .int .i64 i, .int .i64 j, .slice o m c] 24)).heap.size = w.heap.size + 1) := Lib.hid ⟨(Below.refl _ _).alloc (Nat.le_refl _) _, World.size_alloc _ _⟩
  clear hT hfew
  show Calls Try.prog 32 #[.agg #[.int .i64 k, .int .i64 i, .int .i64 j, .slice o m c]] w _
  go_enter Try.func32, Try.ntmps32
  go_wp2_with (first
    | (go_at_call 56; (with_reducible refine (HLV.out _).mono ?_); rintro e w2 ⟨rfl, rfl⟩)
    | (go_at_call 55; (with_reducible refine (HCO.out _ _ HB0.out.1 HB0.out.2).mono ?_); rintro e w3 ⟨oo, nn, cc, rfl, hb3, hm3⟩; have H3 := Lib.hid (And.intro hb3 hm3); clear hb3 hm3)
    | (go_at_call 54; (with_reducible refine (HVA.out _ _ _ _).mono ?_); rintro e w4 ⟨rfl, rfl⟩))
  go_ret
  exact ⟨_, _, rfl, H3.out.1.alloc H3.out.1.size _, H3.out.1.size, heap_alloc_last _ _, H3.out.2.below ((Below.refl _ _).alloc (Nat.le_refl _) _)⟩
end Go.Proofs.Ytnnffcfdokejbaa.rd
namespace Go.Proofs.Ytnnffcfdokejbaa.rd
open Go.RowKit Go.Shelf

attribute [local go_sem] Oper.semAt_some
set_option maxRecDepth 100000 in
set_option maxHeartbeats 4000000 in
theorem values_seq (Bv : Nat) (v : Value) (T : List Tk) (w : World) (hbox : w.heap[Bv]? = some (.cells #[v] 63 (0, 0))) (hrow : Row tk w v T) (hlen : T.length ≤ 1099511627776) :
    SeqT 68 #[.pointer (some ⟨Bv, 0, none⟩)] w.heap.size T w := by
  intro L J Jx W hW hJ hJx hY h0
  obtain ⟨g, off, o, cap, hcap, rfl, ho, HC⟩ := (hrow.below hW).lt
  have hbx : Boxed W Bv 63 (.slice o T.length cap) := (hW.block _ (Array.getElem?_eq_some_iff.1 hbox).1).trans hbox
  have cb := hbx.cell
  obtain ⟨len, hle⟩ : ∃ len, T.length = len := ⟨_, rfl⟩
  have hgs : T ≠ [] → g < w.heap.size := fun hne => by
    obtain ⟨g2, off2, o2, cap2, _, e, ho2, _⟩ := hrow.lt
    simp only [Value.slice.injEq] at e
    have h1 := (ho hne).1
    have h2 := (ho2 hne).1
    rw [← e.1, h1] at h2
    cases h2
    exact (ho2 hne).2
  rw [hle] at hlen cb hcap
  have HN := Lib.hid hle
  have HO := Lib.hid (And.intro (fun h => (ho h).1) hgs)
  have HCC := Lib.hid HC
  have HJ := Lib.hid (And.intro hJ hJx)
  have HY := Lib.hid hY
  have HW := Lib.hid (And.intro hW h0)
  clear hbx hle hgs ho HC hJ hJx hY hW h0 hrow hbox
  refine (callsIn_wide (n := 5)).1 ?_
  refine callsIn_of_wp Try.func68 rfl trivial ?_ rfl
  simp only [Try.ntmps68, List.size_toArray, List.length_cons, List.length_nil, Nat.reduceAdd, Nat.reduceSub, Array.replicate_succ, Array.replicate_zero, List.push_toArray, List.append_toArray, List.nil_append, List.cons_append]
  gi_wp2
  gi_loopw [7] (fun p wr => ∃ k : Nat, k ≤ len ∧ p = .int .i64 (k : Int) ∧ J (T.take k) wr ∧ Below w.heap.size W wr) (fun p _ => len - (intOf p).toNat)
  case atStart => exact ⟨0, Nat.zero_le _, rfl, by rw [List.take_zero]; exact HW.out.2, Below.refl _ _⟩
  case round =>
    obtain ⟨k, hk, rfl, hj, hb⟩ := hrel
    by_cases hlt : k < len
    · have hkT : k < T.length := by rw [HN.out]; exact hlt
      obtain ⟨ho1, hg⟩ := HO.out
      have hne : T ≠ [] := by intro e; rw [e] at hkT; simp at hkT
      obtain rfl := ho1 hne
      have hg := hg hne
      obtain ⟨a0, a1, a2⟩ := cells_tk HCC.out k hkT
      have c0 := (hb.cell (p := ⟨g, off + k * 3, none⟩) hg).trans a0
      have c1 := (hb.cell (p := ⟨g, off + k * 3 + 1, none⟩) hg).trans a1
      have c2 := (hb.cell (p := ⟨g, off + k * 3 + 2, none⟩) hg).trans a2
      obtain ⟨x, hx⟩ : ∃ x, T[k] = x := ⟨_, rfl⟩
      rw [hx] at c0 c1 c2
      have hsn : T.take (k + 1) = T.take k ++ [x] := by rw [List.take_add_one, List.getElem?_eq_getElem hkT, hx]; rfl
      have HSN := Lib.hid hsn
      have hgw : g < wr.heap.size := Nat.lt_of_lt_of_le hg (Nat.le_trans HW.out.1.size hb.size)
      have hq0 : (0 : Int) ≤ (k : Int) := by omega
      have hww : (k : Int) + 1 ≤ 2932031007318 := by omega
      have hd : decide ((k : Int) < (len : Int)) = true := decide_eq_true (by omega)
      have hd' : decide (k < len) = true := decide_eq_true hlt
      obtain ⟨fn, tmps, assign, body, hy, hR⟩ := HY.out (T.take k) x (wr.alloc (.cells #[.int .i64 x.k, .int .i64 x.i, .int .i64 x.j] 68)) (OwnFrom.alloc HJ.out.1 _ hj) (by rw [← hsn]; exact List.take_prefix _ _)
      dsimp only [tokV] at hy
      have hba : Below w.heap.size W (wr.alloc (.cells #[.int .i64 x.k, .int .i64 x.i, .int .i64 x.j] 68)) := hb.alloc (Nat.le_trans HW.out.1.size hb.size) _
      have HB := Lib.hid hba
      clear a0 a1 a2 hx hsn hj hb ho1 hg hne hkT hba
      gi_wp2
      refine (RoundIn.wide hR).mono ?_
      rintro e W3 ⟨go, rfl, hk3, hj3, hjx3⟩
      have HK3 := Lib.hid (And.intro hk3.low (And.intro hj3 hjx3))
      clear hk3 hj3 hjx3 hy hR
      cases go with
      | true =>
        gi_wp2
        go_roundw
        case rel => exact ⟨k + 1, by omega, by go_num, by rw [HSN.out]; exact HK3.out.2.1 trivial, HB.out.trans HK3.out.1⟩
        case measure => simp [intOf]; omega
      | false =>
        gi_wp2
        refine bodyPost_ret (results_none rfl _ _ _) rfl ?_
        exact ⟨⟨_, rfl⟩, .inr ⟨T.take (k + 1), List.take_prefix _ _, by rw [HSN.out]; exact HK3.out.2.2 trivial⟩⟩
    · obtain rfl : k = len := by omega
      have hd : decide ((k : Int) < (k : Int)) = false := decide_eq_false (by omega)
      rw [List.take_of_length_le (by rw [HN.out]; exact Nat.le_refl _)] at hj
      have HJJ := Lib.hid hj
      clear hj hb
      gi_wp2
      go_end0
      exact ⟨⟨_, rfl⟩, .inl HJJ.out⟩
end Go.Proofs.Ytnnffcfdokejbaa.rd
namespace Go.Proofs.Ytnnffcfdokejbaa.rd
open Go.RowKit Go.Shelf

attribute [local go_sem] Oper.semAt_some
theorem KpT.of_below {n0 B : Nat} {W W' : World} (hb : Below W.heap.size W W') (hn : n0 ≤ W.heap.size) : KpT n0 B W W' :=
  KpT.of_grown (below_grown hb (Nat.le_refl _)) hn fun k e => by cases e
/-- The law's own boxes. -/
structure Fx (X Bv : Nat) (wo : Option Addr) (wl wc : Nat) (m : Int) (b : Bool) (i : Int) (W : World) : Prop where
  b0 : Boxed W X 61 (.func (.func 68) #[] #[.pointer (some ⟨Bv, 0, none⟩)])
  b1 : Boxed W (X + 1) 63 (.slice wo wl wc)
  b2 : Boxed W (X + 1 + 1) 3 (.int .i64 m)
  b3 : Boxed W (X + 1 + 1 + 1) 4 (.bool b)
  b4 : Boxed W (X + 1 + 1 + 1 + 1) 4 (.bool false)
  b5 : Boxed W (X + 1 + 1 + 1 + 1 + 1) 3 (.int .i64 i)
theorem Fx.own {β : Type} {B X Bv : Nat} {wo : Option Addr} {wl wc : Nat} {m : Int} {b : Bool} (f : β → Int) : OwnFrom B (fun s W => Fx X Bv wo wl wc m b (f s) W) := fun s A C row h hg hr =>
  ⟨own_cells B _ _ _ _ s A C row h.b0 hg hr, own_cells B _ _ _ _ s A C row h.b1 hg hr, own_cells B _ _ _ _ s A C row h.b2 hg hr, own_cells B _ _ _ _ s A C row h.b3 hg hr, own_cells B _ _ _ _ s A C row h.b4 hg hr, own_cells B _ _ _ _ s A C row h.b5 hg hr⟩
theorem fx_boxes (w : World) (Bv : Nat) (wo : Option Addr) (wl wc : Nat) (m : Int) (b : Bool) : ∃ w6, (((((w.alloc (.cells #[.func (.func 68) #[] #[.pointer (some ⟨Bv, 0, none⟩)]] 61)).alloc (.cells #[.slice wo wl wc] 63)).alloc (.cells #[.int .i64 m] 3)).alloc (.cells #[.bool b] 4)).alloc (.cells #[.bool false] 4)).alloc (.cells #[.int .i64 0] 3) = w6 ∧ Fx w.heap.size Bv wo wl wc m b 0 w6 ∧ w6.heap.size = w.heap.size + 1 + 1 + 1 + 1 + 1 + 1 ∧ Below w.heap.size w w6 := by
  obtain ⟨w1, e1⟩ : ∃ u, w.alloc (.cells #[.func (.func 68) #[] #[.pointer (some ⟨Bv, 0, none⟩)]] 61) = u := ⟨_, rfl⟩
  have s1 : w1.heap.size = w.heap.size + 1 := by rw [← e1, World.size_alloc]
  have n1 : Boxed w1 (w.heap.size) 61 (.func (.func 68) #[] #[.pointer (some ⟨Bv, 0, none⟩)]) := by have h := Boxed.new w 61 (.func (.func 68) #[] #[.pointer (some ⟨Bv, 0, none⟩)]); rw [e1] at h; exact h
  have k1 : Below w.heap.size w w1 := by rw [← e1]; exact (Below.refl _ _).alloc (Nat.le_refl _) _
  have m1 : ∀ {B : Nat} {t : TypeId} {u : Value}, Boxed w B t u → Boxed w1 B t u := fun h => by rw [← e1]; exact h.alloc _
  obtain ⟨w2, e2⟩ : ∃ u, w1.alloc (.cells #[.slice wo wl wc] 63) = u := ⟨_, rfl⟩
  have s2 : w2.heap.size = w.heap.size + 1 + 1 := by rw [← e2, World.size_alloc, s1]
  have n2 : Boxed w2 (w.heap.size + 1) 63 (.slice wo wl wc) := by have h := Boxed.new w1 63 (.slice wo wl wc); rw [e2, s1] at h; exact h
  have k2 : Below w.heap.size w w2 := by rw [← e2]; exact k1.alloc k1.size _
  have m2 : ∀ {B : Nat} {t : TypeId} {u : Value}, Boxed w1 B t u → Boxed w2 B t u := fun h => by rw [← e2]; exact h.alloc _
  obtain ⟨w3, e3⟩ : ∃ u, w2.alloc (.cells #[.int .i64 m] 3) = u := ⟨_, rfl⟩
  have s3 : w3.heap.size = w.heap.size + 1 + 1 + 1 := by rw [← e3, World.size_alloc, s2]
  have n3 : Boxed w3 (w.heap.size + 1 + 1) 3 (.int .i64 m) := by have h := Boxed.new w2 3 (.int .i64 m); rw [e3, s2] at h; exact h
  have k3 : Below w.heap.size w w3 := by rw [← e3]; exact k2.alloc k2.size _
  have m3 : ∀ {B : Nat} {t : TypeId} {u : Value}, Boxed w2 B t u → Boxed w3 B t u := fun h => by rw [← e3]; exact h.alloc _
  obtain ⟨w4, e4⟩ : ∃ u, w3.alloc (.cells #[.bool b] 4) = u := ⟨_, rfl⟩
  have s4 : w4.heap.size = w.heap.size + 1 + 1 + 1 + 1 := by rw [← e4, World.size_alloc, s3]
  have n4 : Boxed w4 (w.heap.size + 1 + 1 + 1) 4 (.bool b) := by have h := Boxed.new w3 4 (.bool b); rw [e4, s3] at h; exact h
  have k4 : Below w.heap.size w w4 := by rw [← e4]; exact k3.alloc k3.size _
  have m4 : ∀ {B : Nat} {t : TypeId} {u : Value}, Boxed w3 B t u → Boxed w4 B t u := fun h => by rw [← e4]; exact h.alloc _
  obtain ⟨w5, e5⟩ : ∃ u, w4.alloc (.cells #[.bool false] 4) = u := ⟨_, rfl⟩
  have s5 : w5.heap.size = w.heap.size + 1 + 1 + 1 + 1 + 1 := by rw [← e5, World.size_alloc, s4]
  have n5 : Boxed w5 (w.heap.size + 1 + 1 + 1 + 1) 4 (.bool false) := by have h := Boxed.new w4 4 (.bool false); rw [e5, s4] at h; exact h
  have k5 : Below w.heap.size w w5 := by rw [← e5]; exact k4.alloc k4.size _
  have m5 : ∀ {B : Nat} {t : TypeId} {u : Value}, Boxed w4 B t u → Boxed w5 B t u := fun h => by rw [← e5]; exact h.alloc _
  obtain ⟨w6, e6⟩ : ∃ u, w5.alloc (.cells #[.int .i64 0] 3) = u := ⟨_, rfl⟩
  have s6 : w6.heap.size = w.heap.size + 1 + 1 + 1 + 1 + 1 + 1 := by rw [← e6, World.size_alloc, s5]
  have n6 : Boxed w6 (w.heap.size + 1 + 1 + 1 + 1 + 1) 3 (.int .i64 0) := by have h := Boxed.new w5 3 (.int .i64 0); rw [e6, s5] at h; exact h
  have k6 : Below w.heap.size w w6 := by rw [← e6]; exact k5.alloc k5.size _
  have m6 : ∀ {B : Nat} {t : TypeId} {u : Value}, Boxed w5 B t u → Boxed w6 B t u := fun h => by rw [← e6]; exact h.alloc _
  refine ⟨w6, by rw [e1, e2, e3, e4, e5, e6], ⟨m6 (m5 (m4 (m3 (m2 n1)))), m6 (m5 (m4 (m3 n2))), m6 (m5 (m4 n3)), m6 (m5 n4), m6 n5, n6⟩, s6, k6⟩
def GoesC (b : Bool) : Prop := ∀ (w : World) (Bv : Nat) (v : Value) (wo : Option Addr) (wl wc : Nat) (T : List Tk) (m : Int), w.heap[Bv]? = some (.cells #[v] 63 (0, 0)) → Row tk w v T → Row tk w (.slice wo wl wc) T → T.length ≤ 1099511627776 →
  Calls Try.prog 34 #[.func (.func 68) #[] #[.pointer (some ⟨Bv, 0, none⟩)], .slice wo wl wc, .int .i64 m, .bool b] w fun e w' => e = .returned (.bool true) ∧ Below w.heap.size w w'

theorem in_round {l n : Nat} {P : Program} {o : Oper} {a : Act} {w : World} {K K' : Act → World → Prop} {Q : Exit → Act → World → Prop} (hnd : ∀ c, o.op ≠ .defer c) (h : Oper.wp P o a w K Q) (hK : ∀ a w, K a w → K' a w) : Oper.wpIn (Wide.inRound l) n P o a w K' Q := by
  unfold Oper.wpIn
  refine ⟨fun _ _ => trivial, ?_⟩
  rw [Oper.semAt_eq _ _ _ hnd]
  unfold Oper.wp at h
  revert h
  generalize (execOp a.eval o).run P w = r
  intro h
  cases r with
  | ok x w' =>
    cases x with
    | value v => exact hK _ _ h
    | skip => exact hK _ _ h
    | defer d => exact hK _ _ h
    | enter f args => exact ⟨fun h9 => (by cases h9), CallsIn.inRound l (callsIn_wide.2 (Calls.mono h fun e w'' he => by
        cases e with
        | returned v => exact hK _ _ he
        | panicked c => exact he
        | outgrown => exact he))⟩
    | row row args => exact ⟨fun h9 => (by cases h9), fun c cs _ => let ⟨v, w'', r, s⟩ := h c cs; ⟨v, w'', hK _ _ r, stepsIn_wide.2 s⟩⟩
    | _ => exact (h : False).elim
  | halt x w' =>
    cases x with
    | panic v => exact h
    | _ => exact (h : False).elim
theorem any_in_round {l n : Nat} {P : Program} {md : Region.Mode} {ops : Array Oper} {Q : Exit → Act → World → Prop} {S : World → Prop} (hnd : ∀ (i : Nat) (o : Oper), ops[i]? = some o → ∀ c, o.op ≠ .defer c) (hlet : ∀ a w, ¬ Q .outgrown a w) : ∀ (fuel : Nat) (listed : Array Bool) (a : Act) (w : World), wpAnyH P md ops Q S fuel listed a w → wpAnyIn (Wide.inRound l) n P md ops Q fuel listed a w
  | 0, _, _, _, h => h
  | fuel + 1, listed, a, w, h => ⟨h.1, fun i hi => by
    have h2 := h.2 i hi
    unfold wpOp at h2
    unfold wpOpIn
    cases ho : ops[i]? with
    | none =>
      rw [ho] at h2
      exact any_in_round hnd hlet fuel _ _ _ h2.2
    | some o =>
      rw [ho] at h2
      simp only [] at h2 ⊢
      split
      · rename_i hw
        rw [if_pos hw] at h2
        rcases h2 with h2 | ⟨_, a9, w9, h9⟩
        · exact in_round (hnd i o ho) h2 fun a w k => any_in_round hnd hlet fuel _ _ _ k.2
        · exact absurd h9 (hlet _ _)
      · rename_i hw
        rw [if_neg hw] at h2
        exact ⟨fun _ _ => trivial, any_in_round hnd hlet fuel _ _ _ h2.2⟩⟩
theorem no_defer {ops : Array Oper} (h : (ops.toList.all fun o => match o.op with | .defer _ => false | _ => true) = true) : ∀ (i : Nat) (o : Oper), ops[i]? = some o → ∀ c, o.op ≠ .defer c := fun i o ho c hc => by
  have h1 := List.all_eq_true.1 h o (by rw [← Array.getElem?_toList] at ho; exact List.mem_of_getElem? ho)
  rw [hc] at h1
  cases h1
/-- A region that draws its order, within a round. -/
theorem round_region {l n id : Nat} {P : Program} {ops : Array Oper} {Q : Exit → Act → World → Prop} {S : World → Prop} {a : Act} {w : World} (hm : P.follows .mixedOrders = true) (hnd : ∀ (i : Nat) (o : Oper), ops[i]? = some o → ∀ c, o.op ≠ .defer c) (hlet : ∀ a w, ¬ Q .outgrown a w) (h : wpAnyH P .any ops Q S ops.size (Array.replicate ops.size false) a w.drew) : (Code.region id ops true).wpIn (Wide.inRound l) n P Q a w :=
  wpIn_region_any hm (any_in_round hnd hlet _ _ _ _ h)

theorem KpT.drew (n0 B : Nat) (W : World) : KpT n0 B W W.drew := ⟨(Below.refl _ _).drew, fun _ _ _ h _ => h⟩
theorem Fx.next {X Bv : Nat} {wo : Option Addr} {wl wc : Nat} {m : Int} {b : Bool} {i : Int} {W : World} (h : Fx X Bv wo wl wc m b i W) (i' : Int) : Fx X Bv wo wl wc m b i' (W.setCell ⟨X + 1 + 1 + 1 + 1 + 1, 0, none⟩ (.int .i64 i')) :=
  ⟨h.b0.other (by omega) _, h.b1.other (by omega) _, h.b2.other (by omega) _, h.b3.other (by omega) _, h.b4.other (by omega) _, h.b5.set _⟩
theorem Fx.of_drew {X Bv : Nat} {wo : Option Addr} {wl wc : Nat} {m : Int} {b : Bool} {i : Int} {W : World} (h : Fx X Bv wo wl wc m b i W) : Fx X Bv wo wl wc m b i W.drew := ⟨h.b0, h.b1, h.b2, h.b3, h.b4, h.b5⟩
theorem Fx.below {X Bv : Nat} {wo : Option Addr} {wl wc : Nat} {m : Int} {b : Bool} {i : Int} {W W' : World} (h : Fx X Bv wo wl wc m b i W) (hb : Below W.heap.size W W') : Fx X Bv wo wl wc m b i W' :=
  OwnFrom.below (B := 0) (Fx.own (β := Unit) fun _ => i) (s := ()) h hb
/-- Behind a round: the number is one more. -/
theorem goes_end {w w6 W W1 : World} {X Bv : Nat} {wo : Option Addr} {wl wc : Nat} {m : Int} {b : Bool} {i : Int} (hX : w.heap.size = X) (hz : w6.heap.size = X + 1 + 1 + 1 + 1 + 1 + 1) (hf : Fx X Bv wo wl wc m b i W1) (hk : KpT w.heap.size w6.heap.size W W1) (hb : Below w.heap.size w W) (hn : w.heap.size ≤ W.heap.size) (i' : Int) :
    KpT w.heap.size w6.heap.size W (W1.setCell ⟨X + 1 + 1 + 1 + 1 + 1, 0, none⟩ (.int .i64 i')) ∧ Fx X Bv wo wl wc m b i' (W1.setCell ⟨X + 1 + 1 + 1 + 1 + 1, 0, none⟩ (.int .i64 i')) ∧ Below w.heap.size w (W1.setCell ⟨X + 1 + 1 + 1 + 1 + 1, 0, none⟩ (.int .i64 i')) := by
  have h1 : KpT w.heap.size w6.heap.size W (W1.setCell ⟨X + 1 + 1 + 1 + 1 + 1, 0, none⟩ (.int .i64 i')) := hk.trans (KpT.setCell W1 _ (Nat.le_trans hn hk.low.size) (by omega) (by omega))
  exact ⟨h1, hf.next i', hb.trans h1.low⟩
theorem results_bool {fn : Func} {p : Tmp} (h : fn.results = #[.cell p 4]) (tmps : Array Value) (w : World) (g : Nat) (b : Bool) (hp : tmps.getD p undef = .pointer (some ⟨g, 0, none⟩)) (hg : Boxed w g 4 (.bool b)) : (results fn tmps).run Try.prog w = .ok (.bool b) w := by
  have hp' : tmps[p]?.getD undef = .pointer (some ⟨g, 0, none⟩) := by simpa using hp
  have hc := hg.cell
  have hl : (loadVar 4 ⟨g, 0, none⟩).run Try.prog w = .ok (.bool b) w := by
    go_simp
  simp [results, h, hp', asAddr, hl]
theorem goes_leave {n : Nat} {w w6 W : World} {X : Nat} (tmps : Array Value) (hX : w.heap.size = X) (hz : w6.heap.size = X + 1 + 1 + 1 + 1 + 1 + 1) (ht : tmps.getD 8 undef = .pointer (some ⟨X + 1 + 1 + 1 + 1, 0, none⟩)) (hf : Boxed W (X + 1 + 1 + 1 + 1) 4 (.bool false)) (hb : Below w.heap.size w W) (hd : W.heap[w6.heap.size]? = some (.deferred (some []))) :
    LeavesInM Wide n Try.prog Try.f34 tmps (fun e w' => e = .returned (.bool true) ∧ Below w.heap.size w w') [{ target := .collected w6.heap.size, args := #[] }] .returning (W.setCell ⟨X + 1 + 1 + 1 + 1, 0, none⟩ (.bool true)) := by
  have hd2 : (W.setCell ⟨X + 1 + 1 + 1 + 1, 0, none⟩ (.bool true)).heap[w6.heap.size]? = some (.deferred (some [])) := ((grownBy_setCell' W (X + 1 + 1 + 1 + 1) (.bool true)).block _ (Array.getElem?_eq_some_iff.1 hd).1 (fun e => by have := Option.some.inj e; omega)).trans hd
  exact leave_marks (B := w6.heap.size) (Jp := fun W' => Boxed W' (X + 1 + 1 + 1 + 1) 4 (.bool true) ∧ Below w.heap.size w W') (OwnFrom.and (own_cells _ _ _ _ _) (own_below (by omega) (Nat.le_refl _))) (fun w' ⟨h1, h2⟩ => ⟨_, results_bool rfl _ _ (X + 1 + 1 + 1 + 1) true ht h1, rfl, h2⟩) _ (W.setCell ⟨X + 1 + 1 + 1 + 1, 0, none⟩ (.bool true)).heap.size _ ⟨w6.heap.size, rfl, Nat.le_refl _, (Array.getElem?_eq_some_iff.1 hd2).1, hd2, trivial⟩ ⟨hf.set _, hb.setCell (p := ⟨X + 1 + 1 + 1 + 1, 0, none⟩) (by show w.heap.size ≤ X + 1 + 1 + 1 + 1; omega) _⟩
set_option maxRecDepth 100000 in
set_option maxHeartbeats 4000000 in
theorem goes_step (b : Bool) (ih : b = true → GoesC false) : GoesC b := by
  intro w Bv v wo wl wc T m hbox hrow hwant hfew
  have HS := Lib.hid (values_seq Bv v T w hbox hrow hfew)
  have HIH : Hid (b = true → ∀ u, Below w.heap.size w u → Calls Try.prog 34 #[.func (.func 68) #[] #[.pointer (some ⟨Bv, 0, none⟩)], .slice wo wl wc, .int .i64 (wl : Int), .bool false] u fun e w' => e = .returned (.bool true) ∧ Below u.heap.size u w') := Lib.hid (fun hb u hu => ih hb u Bv v wo wl wc T _ ((hu.block _ (Array.getElem?_eq_some_iff.1 hbox).1).trans hbox) (hrow.below hu) (hwant.below hu) hfew)
  obtain ⟨g, off, o, cap, hcap, e, ho, HC⟩ := hwant.lt
  simp only [Value.slice.injEq] at e
  obtain ⟨rfl, hwl, rfl⟩ := e
  have HW := Lib.hid (And.intro hwl (And.intro ho HC))
  rw [← hwl] at hfew hcap
  obtain ⟨w6, hw6, hfx, hz6, hb6⟩ := fx_boxes w Bv wo wl wc m b
  obtain ⟨X, hX⟩ : ∃ X, w.heap.size = X := ⟨_, rfl⟩
  rw [hX] at hfx hz6
  have HX := Lib.hid (And.intro hX hz6)
  have HB6 := Lib.hid (And.intro hb6 hfx)
  have HW6 := Lib.hid hw6
  clear hbox hrow hwant ih ho HC hwl hw6 hfx hz6 hb6
  have hcmp : ∀ u, (binOp BinOp.eql 61 (.func (.func 68) #[] #[.pointer (some ⟨Bv, 0, none⟩)]) .nilFunc).run Try.prog u = .ok (.bool false) u := fun u => by kernel_rfl
  refine (callsIn_wide (n := 5)).1 ?_
  refine callsIn_of_wp_marks Try.func34 rfl trivial ?_ rfl
  simp only [Try.ntmps34, List.size_toArray, List.length_cons, List.length_nil, Nat.reduceAdd, Nat.reduceSub, Array.replicate_succ, Array.replicate_zero, List.push_toArray, List.append_toArray, List.nil_append, List.cons_append]
  gi_wp2
  rw [HW6.out]
  clear hX
  have hn6 : w.heap.size ≤ w6.heap.size := HB6.out.1.size
  refine rangeT (n0 := w.heap.size) (w0 := w) (xs := T) rfl (enters_of Try.func68 (by kernel_rfl) rfl) HS.out HB6.out.1 hn6
    (fun pre W => Fx X Bv wo wl wc m b (pre.length : Int) W ∧ Below w.heap.size w W) (fun c pre W => c = .exit 0 ∧ b = false ∧ (pre.length : Int) = m ∧ pre.length ≤ wl ∧ Fx X Bv wo wl wc m b (pre.length : Int) W ∧ Below w.heap.size w W)
    (OwnFrom.and (Fx.own _) (own_below hn6 (Nat.le_refl _))) (fun c => OwnFrom.and (ownFrom_pure _ _) (OwnFrom.and (ownFrom_pure _ _) (OwnFrom.and (ownFrom_pure _ _) (OwnFrom.and (ownFrom_pure _ _) (OwnFrom.and (Fx.own _) (own_below hn6 (Nat.le_refl _))))))) ⟨HB6.out.2, HB6.out.1⟩
    (fun x a' W => ∃ Bt, a' = { tmps := #[.func (.func 68) #[] #[.pointer (some ⟨Bv, 0, none⟩)], .slice wo wl wc, .int .i64 m, .bool b, .pointer (some ⟨X, 0, none⟩), .pointer (some ⟨X + 1, 0, none⟩), .pointer (some ⟨X + 1 + 1, 0, none⟩), .pointer (some ⟨X + 1 + 1 + 1, 0, none⟩), .pointer (some ⟨X + 1 + 1 + 1 + 1, 0, none⟩), .pointer (some ⟨X + 1 + 1 + 1 + 1 + 1, 0, none⟩), .pointer (some ⟨Bt, 0, none⟩), .func (.func 68) #[] #[.pointer (some ⟨Bv, 0, none⟩)], .bool false, .func (.func 68) #[] #[.pointer (some ⟨Bv, 0, none⟩)], tokV x, undef, undef, undef, undef, undef, undef, undef, undef, undef, undef, undef, undef, undef, undef, undef, undef, undef, undef, undef, undef, undef, undef, undef, undef, undef, undef, undef, undef, undef, undef, undef, undef, undef, undef, undef, undef, undef, undef, undef, undef, undef, undef, undef, undef, undef, undef, undef, undef], defers := [] } ∧ W.heap[Bt]? = some (.cells #[.int .i64 x.k, .int .i64 x.i, .int .i64 x.j] 68 (0, 0)))
    (fun x a' s X Y row ⟨Bt, e1, e2⟩ hg hr => ⟨Bt, e1, own_cells w6.heap.size Bt _ _ _ s X Y row e2 hg hr⟩) ?assign ?body ?done ?stop
  case assign =>
    rintro l2 pre x W K ⟨hf, hb⟩ hn hK
    simp only [List.setIfInBounds_toArray, List.set_cons_zero, List.set_cons_succ, tokV]
    have HI := Lib.hid (And.intro hf hb)
    clear hf hb
    gi_wp2
    exact hK _ _ (KpT.alloc _ W hn _) ⟨OwnFrom.alloc (Fx.own (B := 0) (β := Unit) fun _ => (pre.length : Int)) (s := ()) _ HI.out.1, HI.out.2.alloc hn _⟩ ⟨_, rfl, heap_alloc_last _ _⟩
  case body =>
    rintro l2 pre x _ W ⟨hf, hb⟩ hpl hn ⟨Bt, rfl, hbt⟩
    obtain ⟨q, hq⟩ : ∃ q, pre.length = q := ⟨_, rfl⟩
    have hqT : q < T.length := by have := hpl.length_le; rw [List.length_append, List.length_singleton] at this; omega
    have hx : T[q] = x := by
      obtain ⟨r, hr⟩ := hpl
      subst hr hq
      simp
    have hql : q < wl := by rw [HW.out.1]; exact hqT
    obtain ⟨rfl, hg⟩ := HW.out.2.1 (by intro e; rw [e] at hqT; simp at hqT)
    obtain ⟨a0, a1, a2⟩ := cells_tk HW.out.2.2 q hqT
    rw [hx] at a0 a1 a2
    have k0 := (hb.cell (p := ⟨g, off + q * 3, none⟩) hg).trans a0
    have k1 := (hb.cell (p := ⟨g, off + q * 3 + 1, none⟩) hg).trans a1
    have k2 := (hb.cell (p := ⟨g, off + q * 3 + 2, none⟩) hg).trans a2
    rw [hq] at hf
    have HI := Lib.hid (And.intro hf (And.intro hb hn))
    have c0 := hf.b0.cell
    have c1 := hf.b1.cell
    have c2 := hf.b2.cell
    have c3 := hf.b3.cell
    have c5 := hf.b5.cell
    have f5 := hf.b5.frozen
    have t0 : W.cell? ⟨Bt, 0, none⟩ = some (.int .i64 x.k) := cell_of_row _ _ _ _ _ _ hbt
    have t1 : W.cell? ⟨Bt, 1, none⟩ = some (.int .i64 x.i) := cell_of_row _ _ _ _ _ _ hbt
    have t2 : W.cell? ⟨Bt, 2, none⟩ = some (.int .i64 x.j) := cell_of_row _ _ _ _ _ _ hbt
    have hq0 : (0 : Int) ≤ (q : Int) := by omega
    have hql' : (q : Int) < (wl : Int) := by omega
    have hww : (q : Int) + 1 ≤ 2932031007318 := by omega
    have d0 : decide ((wl : Int) ≤ (q : Int)) = false := decide_eq_false (by omega)
    have d0' : decide (wl ≤ q) = false := decide_eq_false (by omega)
    have HQ := Lib.hid hq
    clear a0 a1 a2 hx hf hb hbt hpl hq hqT hg
    dsimp only [tokV]
    have HLEN : Hid (((pre ++ [x]).length : Int) = (q : Int) + 1) := Lib.hid (by rw [List.length_append, List.length_singleton, HQ.out]; rfl)
    have HLE : Hid ((pre ++ [x]).length ≤ wl) := Lib.hid (by rw [List.length_append, List.length_singleton, HQ.out]; omega)
    cases b with
    | false =>
      by_cases hm : (q : Int) + 1 = m
      · have dm : decide ((q : Int) + 1 = m) = true := decide_eq_true hm
        have dm' : ((q : Int) + 1 == m) = true := beq_iff_eq.2 hm
        have HM := Lib.hid hm
        clear hm
        gi_wp2
        refine round_region (S := fun u => u = W.drew) (by kernel_rfl) (no_defer (by kernel_rfl)) (fun _ _ h => h) ?_
        refine wpAnyH_take (i := 0) (oi := { dst := some 15, op := Op.load 3 (.tmp 9), type := 3, pos := "law.go:204", after := #[], guard := none }) (v := ?_) rfl (by kernel_rfl) (by kernel_rfl) (by kernel_rfl) (fun _ _ _ h => h) (Or.inl ⟨by rfl, ?_⟩) rfl ?_; (case refine_2 => (intro w9 hSw; obtain rfl : w9 = _ := hSw; go_simp; all_goals (with_reducible rfl))); (try simp only [Act.put, List.setIfInBounds_toArray, List.set_cons_zero, List.set_cons_succ])
        refine wpAnyH_take (i := 1) (oi := { dst := some 16, op := Op.load 63 (.tmp 5), type := 63, pos := "law.go:204", after := #[], guard := none }) (v := ?_) rfl (by kernel_rfl) (by kernel_rfl) (by kernel_rfl) (fun _ _ _ h => h) (Or.inl ⟨by rfl, ?_⟩) rfl ?_; (case refine_2 => (intro w9 hSw; obtain rfl : w9 = _ := hSw; go_simp; all_goals (with_reducible rfl))); (try simp only [Act.put, List.setIfInBounds_toArray, List.set_cons_zero, List.set_cons_succ])
        refine wpAnyH_take (i := 2) (oi := { dst := some 17, op := Op.call { callee := Callee.builtin Builtin.len, args := #[.tmp 16], argTypes := #[63] }, type := 3, pos := "law.go:204", after := #[{ on := 1, ground := Ground.data }], guard := none }) (v := ?_) rfl (by kernel_rfl) (by kernel_rfl) (by kernel_rfl) (fun _ _ _ h => h) (Or.inl ⟨by rfl, ?_⟩) rfl ?_; (case refine_2 => (intro w9 hSw; obtain rfl : w9 = _ := hSw; go_simp; all_goals (with_reducible rfl))); (try simp only [Act.put, List.setIfInBounds_toArray, List.set_cons_zero, List.set_cons_succ])
        refine wpAnyH_take (i := 3) (oi := { dst := some 18, op := Op.binOp BinOp.geq 3 (.tmp 15) (.tmp 17) 3, type := 4, pos := "law.go:204", after := #[{ on := 0, ground := Ground.data }, { on := 2, ground := Ground.data }], guard := none }) (v := ?_) rfl (by kernel_rfl) (by kernel_rfl) (by kernel_rfl) (fun _ _ _ h => h) (Or.inl ⟨by rfl, ?_⟩) rfl ?_; (case refine_2 => (intro w9 hSw; obtain rfl : w9 = _ := hSw; go_simp; all_goals (with_reducible rfl))); (try simp only [Act.put, List.setIfInBounds_toArray, List.set_cons_zero, List.set_cons_succ])
        refine wpAnyH_take (i := 4) (oi := { dst := some 19, op := Op.move (.tmp 18), type := 4, pos := "law.go:204", after := #[{ on := 3, ground := Ground.data }], guard := none }) (v := ?_) rfl (by kernel_rfl) (by kernel_rfl) (by kernel_rfl) (fun _ _ _ h => h) (Or.inl ⟨by rfl, ?_⟩) rfl ?_; (case refine_2 => (intro w9 hSw; obtain rfl : w9 = _ := hSw; go_simp; all_goals (with_reducible rfl))); (try simp only [Act.put, List.setIfInBounds_toArray, List.set_cons_zero, List.set_cons_succ])
        refine wpAnyH_take (i := 5) (oi := { dst := some 20, op := Op.load 68 (.tmp 10), type := 68, pos := "law.go:204", after := #[{ on := 4, ground := Ground.guard }], guard := some (4, false) }) (v := ?_) rfl (by kernel_rfl) (by kernel_rfl) (by kernel_rfl) (fun _ _ _ h => h) (Or.inl ⟨by rfl, ?_⟩) rfl ?_; (case refine_2 => (intro w9 hSw; obtain rfl : w9 = _ := hSw; go_simp; all_goals (with_reducible rfl))); (try simp only [Act.put, List.setIfInBounds_toArray, List.set_cons_zero, List.set_cons_succ])
        refine wpAnyH_take (i := 6) (oi := { dst := some 21, op := Op.load 63 (.tmp 5), type := 63, pos := "law.go:204", after := #[{ on := 4, ground := Ground.guard }], guard := some (4, false) }) (v := ?_) rfl (by kernel_rfl) (by kernel_rfl) (by kernel_rfl) (fun _ _ _ h => h) (Or.inl ⟨by rfl, ?_⟩) rfl ?_; (case refine_2 => (intro w9 hSw; obtain rfl : w9 = _ := hSw; go_simp; all_goals (with_reducible rfl))); (try simp only [Act.put, List.setIfInBounds_toArray, List.set_cons_zero, List.set_cons_succ])
        refine wpAnyH_take (i := 7) (oi := { dst := some 22, op := Op.load 3 (.tmp 9), type := 3, pos := "law.go:204", after := #[{ on := 4, ground := Ground.guard }], guard := some (4, false) }) (v := ?_) rfl (by kernel_rfl) (by kernel_rfl) (by kernel_rfl) (fun _ _ _ h => h) (Or.inl ⟨by rfl, ?_⟩) rfl ?_; (case refine_2 => (intro w9 hSw; obtain rfl : w9 = _ := hSw; go_simp; all_goals (with_reducible rfl))); (try simp only [Act.put, List.setIfInBounds_toArray, List.set_cons_zero, List.set_cons_succ])
        refine wpAnyH_take (i := 8) (oi := { dst := some 23, op := Op.indexAddr 63 (.tmp 21) (.tmp 22), type := 0, pos := "law.go:204", after := #[{ on := 6, ground := Ground.data }, { on := 7, ground := Ground.data }, { on := 4, ground := Ground.guard }], guard := some (4, false) }) (v := ?_) rfl (by kernel_rfl) (by kernel_rfl) (by kernel_rfl) (fun _ _ _ h => h) (Or.inl ⟨by rfl, ?_⟩) rfl ?_; (case refine_2 => (intro w9 hSw; obtain rfl : w9 = _ := hSw; go_simp; all_goals (with_reducible rfl))); (try simp only [Act.put, List.setIfInBounds_toArray, List.set_cons_zero, List.set_cons_succ])
        refine wpAnyH_take (i := 9) (oi := { dst := some 24, op := Op.load 68 (.tmp 23), type := 68, pos := "law.go:204", after := #[{ on := 8, ground := Ground.data }, { on := 4, ground := Ground.guard }], guard := some (4, false) }) (v := ?_) rfl (by kernel_rfl) (by kernel_rfl) (by kernel_rfl) (fun _ _ _ h => h) (Or.inl ⟨by rfl, ?_⟩) rfl ?_; (case refine_2 => (intro w9 hSw; obtain rfl : w9 = _ := hSw; go_simp; all_goals (with_reducible rfl))); (try simp only [Act.put, List.setIfInBounds_toArray, List.set_cons_zero, List.set_cons_succ])
        refine wpAnyH_take (i := 10) (oi := { dst := some 25, op := Op.binOp BinOp.neq 68 (.tmp 20) (.tmp 24) 68, type := 4, pos := "law.go:204", after := #[{ on := 5, ground := Ground.data }, { on := 9, ground := Ground.data }, { on := 4, ground := Ground.guard }], guard := some (4, false) }) (v := ?_) rfl (by kernel_rfl) (by kernel_rfl) (by kernel_rfl) (fun _ _ _ h => h) (Or.inl ⟨by rfl, ?_⟩) rfl ?_; (case refine_2 => (intro w9 hSw; obtain rfl : w9 = _ := hSw; go_simp; all_goals (with_reducible rfl))); (try simp only [Act.put, List.setIfInBounds_toArray, List.set_cons_zero, List.set_cons_succ])
        refine wpAnyH_take (i := 11) (oi := { dst := some 26, op := Op.pick (.tmp 19) (.const (Value.bool true)) (.tmp 25), type := 4, pos := "law.go:204", after := #[{ on := 4, ground := Ground.data }, { on := 10, ground := Ground.data }], guard := none }) (v := ?_) rfl (by kernel_rfl) (by kernel_rfl) (by kernel_rfl) (fun _ _ _ h => h) (Or.inl ⟨by rfl, ?_⟩) rfl ?_; (case refine_2 => (intro w9 hSw; obtain rfl : w9 = _ := hSw; go_simp; all_goals (with_reducible rfl))); (try simp only [Act.put, List.setIfInBounds_toArray, List.set_cons_zero, List.set_cons_succ])
        refine wpAnyH_done (by kernel_rfl) ?_ _
        clear hww hq0 hql'
        gi_wp2
        refine ⟨trivial, ?_⟩
        gi_wp2
        have hE := goes_end HX.out.1 HX.out.2 HI.out.1 (KpT.refl _ _ W) HI.out.2.1 HI.out.2.2 ((q : Int) + 1)
        exact ⟨hE.1.trans (KpT.drew _ _ _), rfl, HLEN.out.trans HM.out, HLE.out, by rw [HLEN.out]; exact hE.2.1.of_drew, hE.2.2.drew⟩
      · have dm : decide ((q : Int) + 1 = m) = false := decide_eq_false hm
        have dm' : ((q : Int) + 1 == m) = false := beq_eq_false_iff_ne.2 hm
        clear hm
        gi_wp2
        refine round_region (S := fun u => u = W.drew) (by kernel_rfl) (no_defer (by kernel_rfl)) (fun _ _ h => h) ?_
        refine wpAnyH_take (i := 0) (oi := { dst := some 15, op := Op.load 3 (.tmp 9), type := 3, pos := "law.go:204", after := #[], guard := none }) (v := ?_) rfl (by kernel_rfl) (by kernel_rfl) (by kernel_rfl) (fun _ _ _ h => h) (Or.inl ⟨by rfl, ?_⟩) rfl ?_; (case refine_2 => (intro w9 hSw; obtain rfl : w9 = _ := hSw; go_simp; all_goals (with_reducible rfl))); (try simp only [Act.put, List.setIfInBounds_toArray, List.set_cons_zero, List.set_cons_succ])
        refine wpAnyH_take (i := 1) (oi := { dst := some 16, op := Op.load 63 (.tmp 5), type := 63, pos := "law.go:204", after := #[], guard := none }) (v := ?_) rfl (by kernel_rfl) (by kernel_rfl) (by kernel_rfl) (fun _ _ _ h => h) (Or.inl ⟨by rfl, ?_⟩) rfl ?_; (case refine_2 => (intro w9 hSw; obtain rfl : w9 = _ := hSw; go_simp; all_goals (with_reducible rfl))); (try simp only [Act.put, List.setIfInBounds_toArray, List.set_cons_zero, List.set_cons_succ])
        refine wpAnyH_take (i := 2) (oi := { dst := some 17, op := Op.call { callee := Callee.builtin Builtin.len, args := #[.tmp 16], argTypes := #[63] }, type := 3, pos := "law.go:204", after := #[{ on := 1, ground := Ground.data }], guard := none }) (v := ?_) rfl (by kernel_rfl) (by kernel_rfl) (by kernel_rfl) (fun _ _ _ h => h) (Or.inl ⟨by rfl, ?_⟩) rfl ?_; (case refine_2 => (intro w9 hSw; obtain rfl : w9 = _ := hSw; go_simp; all_goals (with_reducible rfl))); (try simp only [Act.put, List.setIfInBounds_toArray, List.set_cons_zero, List.set_cons_succ])
        refine wpAnyH_take (i := 3) (oi := { dst := some 18, op := Op.binOp BinOp.geq 3 (.tmp 15) (.tmp 17) 3, type := 4, pos := "law.go:204", after := #[{ on := 0, ground := Ground.data }, { on := 2, ground := Ground.data }], guard := none }) (v := ?_) rfl (by kernel_rfl) (by kernel_rfl) (by kernel_rfl) (fun _ _ _ h => h) (Or.inl ⟨by rfl, ?_⟩) rfl ?_; (case refine_2 => (intro w9 hSw; obtain rfl : w9 = _ := hSw; go_simp; all_goals (with_reducible rfl))); (try simp only [Act.put, List.setIfInBounds_toArray, List.set_cons_zero, List.set_cons_succ])
        refine wpAnyH_take (i := 4) (oi := { dst := some 19, op := Op.move (.tmp 18), type := 4, pos := "law.go:204", after := #[{ on := 3, ground := Ground.data }], guard := none }) (v := ?_) rfl (by kernel_rfl) (by kernel_rfl) (by kernel_rfl) (fun _ _ _ h => h) (Or.inl ⟨by rfl, ?_⟩) rfl ?_; (case refine_2 => (intro w9 hSw; obtain rfl : w9 = _ := hSw; go_simp; all_goals (with_reducible rfl))); (try simp only [Act.put, List.setIfInBounds_toArray, List.set_cons_zero, List.set_cons_succ])
        refine wpAnyH_take (i := 5) (oi := { dst := some 20, op := Op.load 68 (.tmp 10), type := 68, pos := "law.go:204", after := #[{ on := 4, ground := Ground.guard }], guard := some (4, false) }) (v := ?_) rfl (by kernel_rfl) (by kernel_rfl) (by kernel_rfl) (fun _ _ _ h => h) (Or.inl ⟨by rfl, ?_⟩) rfl ?_; (case refine_2 => (intro w9 hSw; obtain rfl : w9 = _ := hSw; go_simp; all_goals (with_reducible rfl))); (try simp only [Act.put, List.setIfInBounds_toArray, List.set_cons_zero, List.set_cons_succ])
        refine wpAnyH_take (i := 6) (oi := { dst := some 21, op := Op.load 63 (.tmp 5), type := 63, pos := "law.go:204", after := #[{ on := 4, ground := Ground.guard }], guard := some (4, false) }) (v := ?_) rfl (by kernel_rfl) (by kernel_rfl) (by kernel_rfl) (fun _ _ _ h => h) (Or.inl ⟨by rfl, ?_⟩) rfl ?_; (case refine_2 => (intro w9 hSw; obtain rfl : w9 = _ := hSw; go_simp; all_goals (with_reducible rfl))); (try simp only [Act.put, List.setIfInBounds_toArray, List.set_cons_zero, List.set_cons_succ])
        refine wpAnyH_take (i := 7) (oi := { dst := some 22, op := Op.load 3 (.tmp 9), type := 3, pos := "law.go:204", after := #[{ on := 4, ground := Ground.guard }], guard := some (4, false) }) (v := ?_) rfl (by kernel_rfl) (by kernel_rfl) (by kernel_rfl) (fun _ _ _ h => h) (Or.inl ⟨by rfl, ?_⟩) rfl ?_; (case refine_2 => (intro w9 hSw; obtain rfl : w9 = _ := hSw; go_simp; all_goals (with_reducible rfl))); (try simp only [Act.put, List.setIfInBounds_toArray, List.set_cons_zero, List.set_cons_succ])
        refine wpAnyH_take (i := 8) (oi := { dst := some 23, op := Op.indexAddr 63 (.tmp 21) (.tmp 22), type := 0, pos := "law.go:204", after := #[{ on := 6, ground := Ground.data }, { on := 7, ground := Ground.data }, { on := 4, ground := Ground.guard }], guard := some (4, false) }) (v := ?_) rfl (by kernel_rfl) (by kernel_rfl) (by kernel_rfl) (fun _ _ _ h => h) (Or.inl ⟨by rfl, ?_⟩) rfl ?_; (case refine_2 => (intro w9 hSw; obtain rfl : w9 = _ := hSw; go_simp; all_goals (with_reducible rfl))); (try simp only [Act.put, List.setIfInBounds_toArray, List.set_cons_zero, List.set_cons_succ])
        refine wpAnyH_take (i := 9) (oi := { dst := some 24, op := Op.load 68 (.tmp 23), type := 68, pos := "law.go:204", after := #[{ on := 8, ground := Ground.data }, { on := 4, ground := Ground.guard }], guard := some (4, false) }) (v := ?_) rfl (by kernel_rfl) (by kernel_rfl) (by kernel_rfl) (fun _ _ _ h => h) (Or.inl ⟨by rfl, ?_⟩) rfl ?_; (case refine_2 => (intro w9 hSw; obtain rfl : w9 = _ := hSw; go_simp; all_goals (with_reducible rfl))); (try simp only [Act.put, List.setIfInBounds_toArray, List.set_cons_zero, List.set_cons_succ])
        refine wpAnyH_take (i := 10) (oi := { dst := some 25, op := Op.binOp BinOp.neq 68 (.tmp 20) (.tmp 24) 68, type := 4, pos := "law.go:204", after := #[{ on := 5, ground := Ground.data }, { on := 9, ground := Ground.data }, { on := 4, ground := Ground.guard }], guard := some (4, false) }) (v := ?_) rfl (by kernel_rfl) (by kernel_rfl) (by kernel_rfl) (fun _ _ _ h => h) (Or.inl ⟨by rfl, ?_⟩) rfl ?_; (case refine_2 => (intro w9 hSw; obtain rfl : w9 = _ := hSw; go_simp; all_goals (with_reducible rfl))); (try simp only [Act.put, List.setIfInBounds_toArray, List.set_cons_zero, List.set_cons_succ])
        refine wpAnyH_take (i := 11) (oi := { dst := some 26, op := Op.pick (.tmp 19) (.const (Value.bool true)) (.tmp 25), type := 4, pos := "law.go:204", after := #[{ on := 4, ground := Ground.data }, { on := 10, ground := Ground.data }], guard := none }) (v := ?_) rfl (by kernel_rfl) (by kernel_rfl) (by kernel_rfl) (fun _ _ _ h => h) (Or.inl ⟨by rfl, ?_⟩) rfl ?_; (case refine_2 => (intro w9 hSw; obtain rfl : w9 = _ := hSw; go_simp; all_goals (with_reducible rfl))); (try simp only [Act.put, List.setIfInBounds_toArray, List.set_cons_zero, List.set_cons_succ])
        refine wpAnyH_done (by kernel_rfl) ?_ _
        clear hww hq0 hql'
        gi_wp2
        refine ⟨trivial, ?_⟩
        gi_wp2
        have hE := goes_end HX.out.1 HX.out.2 HI.out.1 (KpT.refl _ _ W) HI.out.2.1 HI.out.2.2 ((q : Int) + 1)
        exact ⟨hE.1.trans (KpT.drew _ _ _), by rw [HLEN.out]; exact hE.2.1.of_drew, hE.2.2.drew⟩
    | true =>
      by_cases hm : (q : Int) = m
      · have dm : decide ((q : Int) = m) = true := decide_eq_true hm
        have dm' : ((q : Int) == m) = true := beq_iff_eq.2 hm
        have HREC := Lib.hid (HIH.out rfl)
        clear hm
        gi_wp2
        refine round_region (S := fun u => u = W.drew) (by kernel_rfl) (no_defer (by kernel_rfl)) (fun _ _ h => h) ?_
        refine wpAnyH_take (i := 0) (oi := { dst := some 15, op := Op.load 3 (.tmp 9), type := 3, pos := "law.go:204", after := #[], guard := none }) (v := ?_) rfl (by kernel_rfl) (by kernel_rfl) (by kernel_rfl) (fun _ _ _ h => h) (Or.inl ⟨by rfl, ?_⟩) rfl ?_; (case refine_2 => (intro w9 hSw; obtain rfl : w9 = _ := hSw; go_simp; all_goals (with_reducible rfl))); (try simp only [Act.put, List.setIfInBounds_toArray, List.set_cons_zero, List.set_cons_succ])
        refine wpAnyH_take (i := 1) (oi := { dst := some 16, op := Op.load 63 (.tmp 5), type := 63, pos := "law.go:204", after := #[], guard := none }) (v := ?_) rfl (by kernel_rfl) (by kernel_rfl) (by kernel_rfl) (fun _ _ _ h => h) (Or.inl ⟨by rfl, ?_⟩) rfl ?_; (case refine_2 => (intro w9 hSw; obtain rfl : w9 = _ := hSw; go_simp; all_goals (with_reducible rfl))); (try simp only [Act.put, List.setIfInBounds_toArray, List.set_cons_zero, List.set_cons_succ])
        refine wpAnyH_take (i := 2) (oi := { dst := some 17, op := Op.call { callee := Callee.builtin Builtin.len, args := #[.tmp 16], argTypes := #[63] }, type := 3, pos := "law.go:204", after := #[{ on := 1, ground := Ground.data }], guard := none }) (v := ?_) rfl (by kernel_rfl) (by kernel_rfl) (by kernel_rfl) (fun _ _ _ h => h) (Or.inl ⟨by rfl, ?_⟩) rfl ?_; (case refine_2 => (intro w9 hSw; obtain rfl : w9 = _ := hSw; go_simp; all_goals (with_reducible rfl))); (try simp only [Act.put, List.setIfInBounds_toArray, List.set_cons_zero, List.set_cons_succ])
        refine wpAnyH_take (i := 3) (oi := { dst := some 18, op := Op.binOp BinOp.geq 3 (.tmp 15) (.tmp 17) 3, type := 4, pos := "law.go:204", after := #[{ on := 0, ground := Ground.data }, { on := 2, ground := Ground.data }], guard := none }) (v := ?_) rfl (by kernel_rfl) (by kernel_rfl) (by kernel_rfl) (fun _ _ _ h => h) (Or.inl ⟨by rfl, ?_⟩) rfl ?_; (case refine_2 => (intro w9 hSw; obtain rfl : w9 = _ := hSw; go_simp; all_goals (with_reducible rfl))); (try simp only [Act.put, List.setIfInBounds_toArray, List.set_cons_zero, List.set_cons_succ])
        refine wpAnyH_take (i := 4) (oi := { dst := some 19, op := Op.move (.tmp 18), type := 4, pos := "law.go:204", after := #[{ on := 3, ground := Ground.data }], guard := none }) (v := ?_) rfl (by kernel_rfl) (by kernel_rfl) (by kernel_rfl) (fun _ _ _ h => h) (Or.inl ⟨by rfl, ?_⟩) rfl ?_; (case refine_2 => (intro w9 hSw; obtain rfl : w9 = _ := hSw; go_simp; all_goals (with_reducible rfl))); (try simp only [Act.put, List.setIfInBounds_toArray, List.set_cons_zero, List.set_cons_succ])
        refine wpAnyH_take (i := 5) (oi := { dst := some 20, op := Op.load 68 (.tmp 10), type := 68, pos := "law.go:204", after := #[{ on := 4, ground := Ground.guard }], guard := some (4, false) }) (v := ?_) rfl (by kernel_rfl) (by kernel_rfl) (by kernel_rfl) (fun _ _ _ h => h) (Or.inl ⟨by rfl, ?_⟩) rfl ?_; (case refine_2 => (intro w9 hSw; obtain rfl : w9 = _ := hSw; go_simp; all_goals (with_reducible rfl))); (try simp only [Act.put, List.setIfInBounds_toArray, List.set_cons_zero, List.set_cons_succ])
        refine wpAnyH_take (i := 6) (oi := { dst := some 21, op := Op.load 63 (.tmp 5), type := 63, pos := "law.go:204", after := #[{ on := 4, ground := Ground.guard }], guard := some (4, false) }) (v := ?_) rfl (by kernel_rfl) (by kernel_rfl) (by kernel_rfl) (fun _ _ _ h => h) (Or.inl ⟨by rfl, ?_⟩) rfl ?_; (case refine_2 => (intro w9 hSw; obtain rfl : w9 = _ := hSw; go_simp; all_goals (with_reducible rfl))); (try simp only [Act.put, List.setIfInBounds_toArray, List.set_cons_zero, List.set_cons_succ])
        refine wpAnyH_take (i := 7) (oi := { dst := some 22, op := Op.load 3 (.tmp 9), type := 3, pos := "law.go:204", after := #[{ on := 4, ground := Ground.guard }], guard := some (4, false) }) (v := ?_) rfl (by kernel_rfl) (by kernel_rfl) (by kernel_rfl) (fun _ _ _ h => h) (Or.inl ⟨by rfl, ?_⟩) rfl ?_; (case refine_2 => (intro w9 hSw; obtain rfl : w9 = _ := hSw; go_simp; all_goals (with_reducible rfl))); (try simp only [Act.put, List.setIfInBounds_toArray, List.set_cons_zero, List.set_cons_succ])
        refine wpAnyH_take (i := 8) (oi := { dst := some 23, op := Op.indexAddr 63 (.tmp 21) (.tmp 22), type := 0, pos := "law.go:204", after := #[{ on := 6, ground := Ground.data }, { on := 7, ground := Ground.data }, { on := 4, ground := Ground.guard }], guard := some (4, false) }) (v := ?_) rfl (by kernel_rfl) (by kernel_rfl) (by kernel_rfl) (fun _ _ _ h => h) (Or.inl ⟨by rfl, ?_⟩) rfl ?_; (case refine_2 => (intro w9 hSw; obtain rfl : w9 = _ := hSw; go_simp; all_goals (with_reducible rfl))); (try simp only [Act.put, List.setIfInBounds_toArray, List.set_cons_zero, List.set_cons_succ])
        refine wpAnyH_take (i := 9) (oi := { dst := some 24, op := Op.load 68 (.tmp 23), type := 68, pos := "law.go:204", after := #[{ on := 8, ground := Ground.data }, { on := 4, ground := Ground.guard }], guard := some (4, false) }) (v := ?_) rfl (by kernel_rfl) (by kernel_rfl) (by kernel_rfl) (fun _ _ _ h => h) (Or.inl ⟨by rfl, ?_⟩) rfl ?_; (case refine_2 => (intro w9 hSw; obtain rfl : w9 = _ := hSw; go_simp; all_goals (with_reducible rfl))); (try simp only [Act.put, List.setIfInBounds_toArray, List.set_cons_zero, List.set_cons_succ])
        refine wpAnyH_take (i := 10) (oi := { dst := some 25, op := Op.binOp BinOp.neq 68 (.tmp 20) (.tmp 24) 68, type := 4, pos := "law.go:204", after := #[{ on := 5, ground := Ground.data }, { on := 9, ground := Ground.data }, { on := 4, ground := Ground.guard }], guard := some (4, false) }) (v := ?_) rfl (by kernel_rfl) (by kernel_rfl) (by kernel_rfl) (fun _ _ _ h => h) (Or.inl ⟨by rfl, ?_⟩) rfl ?_; (case refine_2 => (intro w9 hSw; obtain rfl : w9 = _ := hSw; go_simp; all_goals (with_reducible rfl))); (try simp only [Act.put, List.setIfInBounds_toArray, List.set_cons_zero, List.set_cons_succ])
        refine wpAnyH_take (i := 11) (oi := { dst := some 26, op := Op.pick (.tmp 19) (.const (Value.bool true)) (.tmp 25), type := 4, pos := "law.go:204", after := #[{ on := 4, ground := Ground.data }, { on := 10, ground := Ground.data }], guard := none }) (v := ?_) rfl (by kernel_rfl) (by kernel_rfl) (by kernel_rfl) (fun _ _ _ h => h) (Or.inl ⟨by rfl, ?_⟩) rfl ?_; (case refine_2 => (intro w9 hSw; obtain rfl : w9 = _ := hSw; go_simp; all_goals (with_reducible rfl))); (try simp only [Act.put, List.setIfInBounds_toArray, List.set_cons_zero, List.set_cons_succ])
        refine wpAnyH_done (by kernel_rfl) ?_ _
        clear hww hq0 hql'
        gi_wp2
        refine ⟨trivial, rfl, ?_⟩
        refine (CallsIn.inRound l2 (callsIn_wide.2 (HREC.out W.drew HI.out.2.1.drew))).mono ?_
        rintro e w9 ⟨rfl, hb9⟩
        have HF9 := Lib.hid (And.intro (HI.out.1.of_drew.below hb9) ((KpT.drew w.heap.size w6.heap.size W).trans (KpT.of_below hb9 HI.out.2.2)))
        have g3 := HF9.out.1.b3.cell
        have g5 := HF9.out.1.b5.cell
        have h5 := HF9.out.1.b5.frozen
        clear hb9
        gi_wp2
        have hE := goes_end HX.out.1 HX.out.2 HF9.out.1 HF9.out.2 HI.out.2.1 HI.out.2.2 ((q : Int) + 1)
        exact ⟨hE.1, by rw [HLEN.out]; exact hE.2.1, hE.2.2⟩
      · have dm : decide ((q : Int) = m) = false := decide_eq_false hm
        have dm' : ((q : Int) == m) = false := beq_eq_false_iff_ne.2 hm
        clear hm
        gi_wp2
        refine round_region (S := fun u => u = W.drew) (by kernel_rfl) (no_defer (by kernel_rfl)) (fun _ _ h => h) ?_
        refine wpAnyH_take (i := 0) (oi := { dst := some 15, op := Op.load 3 (.tmp 9), type := 3, pos := "law.go:204", after := #[], guard := none }) (v := ?_) rfl (by kernel_rfl) (by kernel_rfl) (by kernel_rfl) (fun _ _ _ h => h) (Or.inl ⟨by rfl, ?_⟩) rfl ?_; (case refine_2 => (intro w9 hSw; obtain rfl : w9 = _ := hSw; go_simp; all_goals (with_reducible rfl))); (try simp only [Act.put, List.setIfInBounds_toArray, List.set_cons_zero, List.set_cons_succ])
        refine wpAnyH_take (i := 1) (oi := { dst := some 16, op := Op.load 63 (.tmp 5), type := 63, pos := "law.go:204", after := #[], guard := none }) (v := ?_) rfl (by kernel_rfl) (by kernel_rfl) (by kernel_rfl) (fun _ _ _ h => h) (Or.inl ⟨by rfl, ?_⟩) rfl ?_; (case refine_2 => (intro w9 hSw; obtain rfl : w9 = _ := hSw; go_simp; all_goals (with_reducible rfl))); (try simp only [Act.put, List.setIfInBounds_toArray, List.set_cons_zero, List.set_cons_succ])
        refine wpAnyH_take (i := 2) (oi := { dst := some 17, op := Op.call { callee := Callee.builtin Builtin.len, args := #[.tmp 16], argTypes := #[63] }, type := 3, pos := "law.go:204", after := #[{ on := 1, ground := Ground.data }], guard := none }) (v := ?_) rfl (by kernel_rfl) (by kernel_rfl) (by kernel_rfl) (fun _ _ _ h => h) (Or.inl ⟨by rfl, ?_⟩) rfl ?_; (case refine_2 => (intro w9 hSw; obtain rfl : w9 = _ := hSw; go_simp; all_goals (with_reducible rfl))); (try simp only [Act.put, List.setIfInBounds_toArray, List.set_cons_zero, List.set_cons_succ])
        refine wpAnyH_take (i := 3) (oi := { dst := some 18, op := Op.binOp BinOp.geq 3 (.tmp 15) (.tmp 17) 3, type := 4, pos := "law.go:204", after := #[{ on := 0, ground := Ground.data }, { on := 2, ground := Ground.data }], guard := none }) (v := ?_) rfl (by kernel_rfl) (by kernel_rfl) (by kernel_rfl) (fun _ _ _ h => h) (Or.inl ⟨by rfl, ?_⟩) rfl ?_; (case refine_2 => (intro w9 hSw; obtain rfl : w9 = _ := hSw; go_simp; all_goals (with_reducible rfl))); (try simp only [Act.put, List.setIfInBounds_toArray, List.set_cons_zero, List.set_cons_succ])
        refine wpAnyH_take (i := 4) (oi := { dst := some 19, op := Op.move (.tmp 18), type := 4, pos := "law.go:204", after := #[{ on := 3, ground := Ground.data }], guard := none }) (v := ?_) rfl (by kernel_rfl) (by kernel_rfl) (by kernel_rfl) (fun _ _ _ h => h) (Or.inl ⟨by rfl, ?_⟩) rfl ?_; (case refine_2 => (intro w9 hSw; obtain rfl : w9 = _ := hSw; go_simp; all_goals (with_reducible rfl))); (try simp only [Act.put, List.setIfInBounds_toArray, List.set_cons_zero, List.set_cons_succ])
        refine wpAnyH_take (i := 5) (oi := { dst := some 20, op := Op.load 68 (.tmp 10), type := 68, pos := "law.go:204", after := #[{ on := 4, ground := Ground.guard }], guard := some (4, false) }) (v := ?_) rfl (by kernel_rfl) (by kernel_rfl) (by kernel_rfl) (fun _ _ _ h => h) (Or.inl ⟨by rfl, ?_⟩) rfl ?_; (case refine_2 => (intro w9 hSw; obtain rfl : w9 = _ := hSw; go_simp; all_goals (with_reducible rfl))); (try simp only [Act.put, List.setIfInBounds_toArray, List.set_cons_zero, List.set_cons_succ])
        refine wpAnyH_take (i := 6) (oi := { dst := some 21, op := Op.load 63 (.tmp 5), type := 63, pos := "law.go:204", after := #[{ on := 4, ground := Ground.guard }], guard := some (4, false) }) (v := ?_) rfl (by kernel_rfl) (by kernel_rfl) (by kernel_rfl) (fun _ _ _ h => h) (Or.inl ⟨by rfl, ?_⟩) rfl ?_; (case refine_2 => (intro w9 hSw; obtain rfl : w9 = _ := hSw; go_simp; all_goals (with_reducible rfl))); (try simp only [Act.put, List.setIfInBounds_toArray, List.set_cons_zero, List.set_cons_succ])
        refine wpAnyH_take (i := 7) (oi := { dst := some 22, op := Op.load 3 (.tmp 9), type := 3, pos := "law.go:204", after := #[{ on := 4, ground := Ground.guard }], guard := some (4, false) }) (v := ?_) rfl (by kernel_rfl) (by kernel_rfl) (by kernel_rfl) (fun _ _ _ h => h) (Or.inl ⟨by rfl, ?_⟩) rfl ?_; (case refine_2 => (intro w9 hSw; obtain rfl : w9 = _ := hSw; go_simp; all_goals (with_reducible rfl))); (try simp only [Act.put, List.setIfInBounds_toArray, List.set_cons_zero, List.set_cons_succ])
        refine wpAnyH_take (i := 8) (oi := { dst := some 23, op := Op.indexAddr 63 (.tmp 21) (.tmp 22), type := 0, pos := "law.go:204", after := #[{ on := 6, ground := Ground.data }, { on := 7, ground := Ground.data }, { on := 4, ground := Ground.guard }], guard := some (4, false) }) (v := ?_) rfl (by kernel_rfl) (by kernel_rfl) (by kernel_rfl) (fun _ _ _ h => h) (Or.inl ⟨by rfl, ?_⟩) rfl ?_; (case refine_2 => (intro w9 hSw; obtain rfl : w9 = _ := hSw; go_simp; all_goals (with_reducible rfl))); (try simp only [Act.put, List.setIfInBounds_toArray, List.set_cons_zero, List.set_cons_succ])
        refine wpAnyH_take (i := 9) (oi := { dst := some 24, op := Op.load 68 (.tmp 23), type := 68, pos := "law.go:204", after := #[{ on := 8, ground := Ground.data }, { on := 4, ground := Ground.guard }], guard := some (4, false) }) (v := ?_) rfl (by kernel_rfl) (by kernel_rfl) (by kernel_rfl) (fun _ _ _ h => h) (Or.inl ⟨by rfl, ?_⟩) rfl ?_; (case refine_2 => (intro w9 hSw; obtain rfl : w9 = _ := hSw; go_simp; all_goals (with_reducible rfl))); (try simp only [Act.put, List.setIfInBounds_toArray, List.set_cons_zero, List.set_cons_succ])
        refine wpAnyH_take (i := 10) (oi := { dst := some 25, op := Op.binOp BinOp.neq 68 (.tmp 20) (.tmp 24) 68, type := 4, pos := "law.go:204", after := #[{ on := 5, ground := Ground.data }, { on := 9, ground := Ground.data }, { on := 4, ground := Ground.guard }], guard := some (4, false) }) (v := ?_) rfl (by kernel_rfl) (by kernel_rfl) (by kernel_rfl) (fun _ _ _ h => h) (Or.inl ⟨by rfl, ?_⟩) rfl ?_; (case refine_2 => (intro w9 hSw; obtain rfl : w9 = _ := hSw; go_simp; all_goals (with_reducible rfl))); (try simp only [Act.put, List.setIfInBounds_toArray, List.set_cons_zero, List.set_cons_succ])
        refine wpAnyH_take (i := 11) (oi := { dst := some 26, op := Op.pick (.tmp 19) (.const (Value.bool true)) (.tmp 25), type := 4, pos := "law.go:204", after := #[{ on := 4, ground := Ground.data }, { on := 10, ground := Ground.data }], guard := none }) (v := ?_) rfl (by kernel_rfl) (by kernel_rfl) (by kernel_rfl) (fun _ _ _ h => h) (Or.inl ⟨by rfl, ?_⟩) rfl ?_; (case refine_2 => (intro w9 hSw; obtain rfl : w9 = _ := hSw; go_simp; all_goals (with_reducible rfl))); (try simp only [Act.put, List.setIfInBounds_toArray, List.set_cons_zero, List.set_cons_succ])
        refine wpAnyH_done (by kernel_rfl) ?_ _
        clear hww hq0 hql'
        gi_wp2
        refine ⟨trivial, ?_⟩
        gi_wp2
        have hE := goes_end HX.out.1 HX.out.2 HI.out.1 (KpT.refl _ _ W) HI.out.2.1 HI.out.2.2 ((q : Int) + 1)
        exact ⟨hE.1.trans (KpT.drew _ _ _), by rw [HLEN.out]; exact hE.2.1.of_drew, hE.2.2.drew⟩
  case done =>
    rintro W ⟨hf, hb⟩ hd9
    have hTl : ((T.length : Nat) : Int) = (wl : Int) := by rw [HW.out.1]
    rw [hTl] at hf
    have c1 := hf.b1.cell
    have c5 := hf.b5.cell
    have c4 := hf.b4.cell
    have f4 := hf.b4.frozen
    have HI := Lib.hid (And.intro hf (And.intro hb hd9))
    clear hf hb hd9 hTl
    gi_wp2
    exact goes_leave _ HX.out.1 HX.out.2 rfl HI.out.1.b4 HI.out.2.1 HI.out.2.2
  case stop =>
    rintro c pre W hp ⟨rfl, rfl, hm, hle, hf, hb⟩ hd9
    rw [hm] at hf
    have c1 := hf.b1.cell
    have c2 := hf.b2.cell
    have c3 := hf.b3.cell
    have c5 := hf.b5.cell
    have c4 := hf.b4.cell
    have f4 := hf.b4.frozen
    have HI := Lib.hid (And.intro hf (And.intro hb hd9))
    clear hf hb hd9 hp hle
    by_cases hl : m = (wl : Int)
    · have dl : decide (m = (wl : Int)) = true := decide_eq_true hl
      have dl' : (m == (wl : Int)) = true := beq_iff_eq.2 hl
      clear hl hm
      gi_wp2
      exact goes_leave _ HX.out.1 HX.out.2 rfl HI.out.1.b4 HI.out.2.1 HI.out.2.2
    · have dl : decide (m = (wl : Int)) = false := decide_eq_false hl
      have dl' : (m == (wl : Int)) = false := beq_eq_false_iff_ne.2 hl
      clear hl hm
      gi_wp2
      exact goes_leave _ HX.out.1 HX.out.2 rfl HI.out.1.b4 HI.out.2.1 HI.out.2.2
theorem goes_one : GoesC false := goes_step false (fun h => by cases h)
theorem goes_two : GoesC true := goes_step true (fun _ => goes_one)
end Go.Proofs.Ytnnffcfdokejbaa.rd
namespace Go.Proofs.Ytnnffcfdokejbaa.rd
open Go.RowKit Go.Shelf

theorem Box.free {w : World} {X : Nat} {n : Rn} (h : Box w X n) : w.frozen? ⟨X, 0, none⟩ = false := by simp [World.frozen?, show w.heap[X]? = _ from h]
/-- A node in a box, its copy in another one. -/
structure Lv (w : World) (X O : Nat) (n p : Rn) (t : Tree) (u : World) : Prop where
  below : Below w.heap.size w u
  bx : Box u X n
  bo : Box u O p
  low : w.heap.size ≤ X ∧ X < O
  own : ∃ D, OTie u D t p ∧ ∀ k, D k → w.heap.size ≤ k ∧ k < O ∧ k ≠ X
/-- The leaves, in rows. -/
structure Ly (w : World) (O Bv : Nat) (v : Value) (wo : Option Addr) (wl wc : Nat) (T : List Tk) (u : World) : Prop where
  below : Below w.heap.size w u
  lt : w.heap.size ≤ O ∧ O < Bv
  box : u.heap[Bv]? = some (.cells #[v] 63 (0, 0))
  row : Mine tk u (O + 1) v T
  want : Mine tk u (O + 1) (.slice wo wl wc) T
section
variable {w u u' : World} {X O Bv : Nat} {n p : Rn} {t : Tree} {v : Value} {wo : Option Addr} {wl wc : Nat} {T : List Tk}
theorem Lv.more (h : Lv w X O n p t u) (hb : Below u.heap.size u u') : Lv w X O n p t u' := by
  obtain ⟨D, h1, h2⟩ := h.own
  have hO := (Array.getElem?_eq_some_iff.1 h.bo).1
  exact ⟨h.below.trans (hb.mono h.below.size), h.bx.below hb, h.bo.below hb, h.low, D, OTie.keep (fun g hg => hb.block g (by have := h2 g hg; omega)) (fun _ h => h) _ _ h1, h2⟩
theorem Lv.tie (h : Lv w X O n p t u) : Hid (TieB u t p) := by
  obtain ⟨D, h1, h2⟩ := h.own
  have hO := (Array.getElem?_eq_some_iff.1 h.bo).1
  exact Lib.hid ⟨D, OTie.tie _ _ h1, fun k hk => by have := h2 k hk; omega⟩
theorem Lv.start {w2 w3 : World} (hb2 : Below w.heap.size w w2) (hx : Box w2 w.heap.size n) (hb3 : Below w2.heap.size w2 w3) (hf : Fresh w2.heap.size w3 t p) : Lv w w.heap.size w3.heap.size n p t (w3.alloc (.cells #[.int .i64 p.k, .int .i64 p.i, .int .i64 p.j, .slice p.o p.n p.c] 24)) := by
  have h1 : Below w3.heap.size w3 (w3.alloc (.cells #[.int .i64 p.k, .int .i64 p.i, .int .i64 p.j, .slice p.o p.n p.c] 24)) := (Below.refl _ _).alloc (Nat.le_refl _) _
  have h2 : Box (w3.alloc (.cells #[.int .i64 p.k, .int .i64 p.i, .int .i64 p.j, .slice p.o p.n p.c] 24)) w3.heap.size p := heap_alloc_last w3 _
  generalize w3.alloc (.cells #[.int .i64 p.k, .int .i64 p.i, .int .i64 p.j, .slice p.o p.n p.c] 24) = w4 at *
  have hX := (Array.getElem?_eq_some_iff.1 hx).1
  have hs := hb3.size
  obtain ⟨D, d1, d2⟩ := hf
  refine ⟨(hb2.trans (hb3.mono hb2.size)).trans (h1.mono (by omega)), (hx.below hb3).below h1, h2, ⟨Nat.le_refl _, by omega⟩, D, OTie.keep (fun g hg => h1.block g (d2 g hg).2) (fun _ h => h) _ _ d1, fun k hk => ?_⟩
  have := d2 k hk
  omega
theorem Ly.more (h : Ly w O Bv v wo wl wc T u) (hb : Below u.heap.size u u') : Ly w O Bv v wo wl wc T u' :=
  ⟨h.below.trans (hb.mono h.below.size), h.lt, (hb.block _ (Array.getElem?_eq_some_iff.1 h.box).1).trans h.box, h.row.below hb, h.want.below hb⟩
theorem Ly.high (h : Ly w O Bv v wo wl wc T u) (hb : Below w.heap.size w u') (hs : ∀ k, O < k → k < u.heap.size → u'.heap[k]? = u.heap[k]?) : Ly w O Bv v wo wl wc T u' :=
  ⟨hb, h.lt, (hs _ h.lt.2 (Array.getElem?_eq_some_iff.1 h.box).1).trans h.box, h.row.keep fun k hk hlt => hs k (by have := (h.row.tok k hk).1; omega) hlt, h.want.keep fun k hk hlt => hs k (by have := (h.want.tok k hk).1; omega) hlt⟩
theorem Lv.mark (h : Lv w X O n p t u) (hy : Ly w O Bv v wo wl wc T u) : Calls Try.prog 23 #[p.v] u fun e w' => (∃ z, e = .returned z) ∧ Box w' O p ∧ Ly w O Bv v wo wl wc T w' := by
  obtain ⟨D, h1, h2⟩ := h.own
  have hO := (Array.getElem?_eq_some_iff.1 h.bo).1
  refine (mark_t t u D p h1 (fun k hk => by have := h2 k hk; omega)).mono fun e w' ⟨e1, e2⟩ => ⟨e1, (e2.keep O hO (fun e => by have := h2 O e; omega)).trans h.bo, hy.high (h.below.trans (e2.low (fun k hk => (h2 k hk).1) h.below.size)) fun k hk hlt => e2.keep k hlt (fun e => by have := h2 k e; omega)⟩
theorem Ly.store (h : Ly w O Bv v wo wl wc T u) (z : Value) : Ly w O Bv v wo wl wc T (u.setCell ⟨O, 0, none⟩ z) :=
  h.high (h.below.setCell (p := ⟨O, 0, none⟩) h.lt.1 _) fun k hk hlt => (grownBy_setCell' u O z).block k hlt (fun e => by have := Option.some.inj e; omega)
theorem Ly.goes (h : Ly w O Bv v wo wl wc T u) (hf : T.length ≤ 1099511627776) (m : Int) (b : Bool) : Calls Try.prog 34 #[.func (.func 68) #[] #[.pointer (some ⟨Bv, 0, none⟩)], .slice wo wl wc, .int .i64 m, .bool b] u fun e w' => e = .returned (.bool true) ∧ Ly w O Bv v wo wl wc T w' := by
  have hg : GoesC b := by cases b; exact goes_one; exact goes_two
  exact (hg u Bv v wo wl wc T m h.box h.row.row h.want.row hf).mono fun e w' ⟨e1, e2⟩ => ⟨e1, h.more e2⟩
end
set_option maxRecDepth 100000 in
set_option maxHeartbeats 8000000 in
theorem leaves_law (HSH : ShownC) (t : Tree) (w : World) (n : Rn) (m : Int) (ht : Hid (TieB w t n)) (hin : InR t) (hbu : bulkT t ≤ 1048576) :
    Calls Try.prog 6 #[.agg #[.int .i64 n.k, .int .i64 n.i, .int .i64 n.j, .slice n.o n.n n.c], .int .i64 m] w fun e w' => e = .returned (.bool true) ∧ Below w.heap.size w w' := by
  obtain ⟨k, i, j, o, nn, c⟩ := n
  have hfew : (leavesT t).length ≤ 1099511627776 := Nat.le_trans (leavesT_bulk t) (by omega)
  have HCP : Hid (∀ u, Below w.heap.size w u → Calls Try.prog 11 #[.agg #[.int .i64 k, .int .i64 i, .int .i64 j, .slice o nn c]] u fun e w' => ∃ (pk pi pj : Int) (po : Option Addr) (pn pc : Nat), e = .returned (.agg #[.int .i64 pk, .int .i64 pi, .int .i64 pj, .slice po pn pc]) ∧ Below u.heap.size u w' ∧ Fresh u.heap.size w' t ⟨pk, pi, pj, po, pn, pc⟩) := Lib.hid (fun u hu => by
    have h := copy_any t u ⟨k, i, j, o, nn, c⟩ (TieB.below ht hu)
    rw [shiftT_zero _ hin] at h
    exact h.mono fun e w' ⟨⟨pk, pi, pj, po, pn, pc⟩, a1, a2, a3⟩ => ⟨pk, pi, pj, po, pn, pc, a1, a2, a3⟩)
  have HGL : Hid (∀ (u : World) (O : Nat) (pk pi pj : Int) (po : Option Addr) (pn pc : Nat), Lv w w.heap.size O ⟨k, i, j, o, nn, c⟩ ⟨pk, pi, pj, po, pn, pc⟩ t u → O + 1 ≤ u.heap.size → Calls Try.prog 32 #[.agg #[.int .i64 pk, .int .i64 pi, .int .i64 pj, .slice po pn pc]] u fun e w' => ∃ (Bv : Nat) (v : Value), e = .returned (.func (.func 68) #[] #[.pointer (some ⟨Bv, 0, none⟩)]) ∧ Lv w w.heap.size O ⟨k, i, j, o, nn, c⟩ ⟨pk, pi, pj, po, pn, pc⟩ t w' ∧ O < Bv ∧ w'.heap[Bv]? = some (.cells #[v] 63 (0, 0)) ∧ Mine tk w' (O + 1) v (leavesT t)) := Lib.hid (fun u O pk pi pj po pn pc hu hO =>
    (gLeaves_t t ⟨pk, pi, pj, po, pn, pc⟩ u hu.tie hfew).mono fun e w' ⟨Bv, v, e1, e2, e3, e4, e5⟩ => ⟨Bv, v, e1, hu.more e2, by omega, e4, e5.mono hO⟩)
  have HRL : Hid (∀ (u : World) (O Bv : Nat) (v : Value) (pk pi pj : Int) (po : Option Addr) (pn pc : Nat), Lv w w.heap.size O ⟨k, i, j, o, nn, c⟩ ⟨pk, pi, pj, po, pn, pc⟩ t u ∧ O < Bv ∧ u.heap[Bv]? = some (.cells #[v] 63 (0, 0)) ∧ Mine tk u (O + 1) v (leavesT t) → Calls Try.prog 33 #[.agg #[.int .i64 k, .int .i64 i, .int .i64 j, .slice o nn c]] u fun e w' => ∃ (wo : Option Addr) (wl wc : Nat), e = .returned (.slice wo wl wc) ∧ Lv w w.heap.size O ⟨k, i, j, o, nn, c⟩ ⟨pk, pi, pj, po, pn, pc⟩ t w' ∧ Ly w O Bv v wo wl wc (leavesT t) w') := Lib.hid (fun u O Bv v pk pi pj po pn pc ⟨h1, h2, h3, h4⟩ =>
    (leaves_t t u ⟨k, i, j, o, nn, c⟩ (TieB.below ht h1.below) hfew).mono fun e w' ⟨v2, e1, e2, e3⟩ => by
      obtain ⟨g, oo, cap, rfl, _⟩ := e3.shape
      have hO := (Array.getElem?_eq_some_iff.1 h1.bo).1
      have hl := h1.more e2
      exact ⟨oo, _, cap, e1, hl, hl.below, ⟨by have := hl.low; omega, h2⟩, (e2.block _ (Array.getElem?_eq_some_iff.1 h3).1).trans h3, h4.below e2, e3.mono (by omega)⟩)
  have HMK : Hid (∀ (u : World) (O Bv : Nat) (v : Value) (wo : Option Addr) (wl wc : Nat) (pk pi pj : Int) (po : Option Addr) (pn pc : Nat), Lv w w.heap.size O ⟨k, i, j, o, nn, c⟩ ⟨pk, pi, pj, po, pn, pc⟩ t u → Ly w O Bv v wo wl wc (leavesT t) u → Calls Try.prog 23 #[.agg #[.int .i64 pk, .int .i64 pi, .int .i64 pj, .slice po pn pc]] u fun e w' => (∃ z, e = .returned z) ∧ Box w' O ⟨pk, pi, pj, po, pn, pc⟩ ∧ Ly w O Bv v wo wl wc (leavesT t) w') := Lib.hid (fun u O Bv v wo wl wc pk pi pj po pn pc h1 h2 => h1.mark h2)
  have HSN := Lib.hid HSH
  have HFW := Lib.hid hfew
  have HB1 : Hid (Below w.heap.size w (w.alloc (.cells #[.int .i64 k, .int .i64 i, .int .i64 j, .slice o nn c] 24)) ∧ Box (w.alloc (.cells #[.int .i64 k, .int .i64 i, .int .i64 j, .slice o nn c] 24)) w.heap.size ⟨k, i, j, o, nn, c⟩) := Lib.hid ⟨(Below.refl _ _).alloc (Nat.le_refl _) _, heap_alloc_last w _⟩
  clear ht hin hbu hfew HSH
  go_enter Try.func6, Try.ntmps6
  go_wp2_with (first
    | (go_at_call 10; refine (HSN.out _).mono ?_; rintro e w2 ⟨rfl, hb2⟩; have HB2 := Lib.hid (And.intro (HB1.out.1.trans (hb2.mono HB1.out.1.size)) (HB1.out.2.below hb2)); obtain ⟨⟨x0, x1, x2, x3⟩, xz⟩ := HB2.out.2.cells; clear hb2)
    | (go_at_call 11; (with_reducible refine (HCP.out _ HB2.out.1).mono ?_); rintro e w3 ⟨pk, pi, pj, po, pn, pc, rfl, hb3, hf3⟩; clear x0 x1 x2 x3 xz; have H4 : Hid (Lv w w.heap.size w3.heap.size ⟨k, i, j, o, nn, c⟩ ⟨pk, pi, pj, po, pn, pc⟩ t (w3.alloc (.cells #[.int .i64 pk, .int .i64 pi, .int .i64 pj, .slice po pn pc] 24)) ∧ w3.heap.size + 1 ≤ (w3.alloc (.cells #[.int .i64 pk, .int .i64 pi, .int .i64 pj, .slice po pn pc] 24)).heap.size) := Lib.hid ⟨Lv.start (n := ⟨k, i, j, o, nn, c⟩) (p := ⟨pk, pi, pj, po, pn, pc⟩) HB2.out.1 HB2.out.2 hb3 hf3, by rw [World.size_alloc]; exact Nat.le_refl _⟩; obtain ⟨⟨y0, y1, y2, y3⟩, yz⟩ := H4.out.1.bo.cells; clear hb3 hf3)
    | (go_at_call 32; (with_reducible refine (HGL.out _ _ _ _ _ _ _ _ H4.out.1 H4.out.2).mono ?_); rintro e w5 ⟨Bv, v, rfl, h1, h2, h3, h4⟩; have H5 := Lib.hid (And.intro h1 (And.intro h2 (And.intro h3 h4))); clear y0 y1 y2 y3 yz; obtain ⟨⟨x0, x1, x2, x3⟩, xz⟩ := H5.out.1.bx.cells; clear h1 h2 h3 h4)
    | (go_at_call 33; (with_reducible refine (HRL.out _ _ _ _ _ _ _ _ _ _ H5.out).mono ?_); rintro e w6 ⟨wo, wl, wc, rfl, h1, h2⟩; have H6 := Lib.hid (And.intro h1 h2); clear x0 x1 x2 x3 xz; obtain ⟨⟨y0, y1, y2, y3⟩, yz⟩ := H6.out.1.bo.cells; clear h1 h2)
    | (go_at_call 23; (with_reducible refine (HMK.out _ _ _ _ _ _ _ _ _ _ _ _ _ H6.out.1 H6.out.2).mono ?_); rintro e w7 ⟨⟨z7, rfl⟩, hbo, hl⟩; clear y0 y1 y2 y3 yz; have H7 := Lib.hid (hl.store (.int .i64 (-9))); have y0 := hbo.cells.1.1; have f0 := hbo.free; clear hbo hl)
    | (go_at_call 34; refine (H7.out.goes HFW.out _ _).mono ?_; rintro e w8 ⟨rfl, hl⟩; have H8 := Lib.hid hl; clear hl H7)
    | (go_at_call 34; refine (H8.out.goes HFW.out _ _).mono ?_; rintro e w9 ⟨rfl, hl⟩; have H9 := Lib.hid hl; clear hl H8)
    | (go_at_call 34; refine (H9.out.goes HFW.out _ _).mono ?_; rintro e w10 ⟨rfl, hl⟩; have H10 := Lib.hid hl; clear hl H9))
  all_goals (
    go_ret
    exact ⟨by simp, H10.out.below⟩)
end Go.Proofs.Ytnnffcfdokejbaa.rd
