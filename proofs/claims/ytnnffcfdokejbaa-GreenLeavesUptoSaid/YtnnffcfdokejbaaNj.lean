/-
  Layer 8: the reference's Parts.
-/
import Derived.Test.YtnnffcfdokejbaaNi
namespace Go.Proofs.Ytnnffcfdokejbaa.rd
open Go.RowKit

/-- One more tree of one's own behind a row. -/
theorem own_push {w wr w9 : World} {B : Nat} {vo : Value} {R' : List Rn} {T : List Tree} {E : Nat → Prop} {t : Tree} {n : Rn} (hw : Below w.heap.size w wr) (hwB : w.heap.size ≤ B) (hm : Mine nd wr B vo R') (ho : OTies wr E T R') (hd : ∀ h, E h → B ≤ h ∧ h < wr.heap.size ∧ vo.ownBlock ≠ some h) (hB : B ≤ wr.heap.size) (hl : R'.length + 1 ≤ 2932031007317) (hb : Below wr.heap.size wr w9) (hf : Fresh wr.heap.size w9 t n) :
    ∀ u, Below w9.heap.size w9 u → ∀ ad, u.heap[ad]? = some (.cells #[.int .i64 n.k, .int .i64 n.i, .int .i64 n.j, .slice n.o n.n n.c] 24 (0, 0)) →
      ∃ v' w', (∀ ty, (Builtin.append_ #[22, 22] ty #[vo, .slice (some ⟨ad, 0, none⟩) 1 1]).run Try.prog u = .ok v' w') ∧ Below w.heap.size w w' ∧ wr.heap.size ≤ w'.heap.size ∧ Mine nd w' B v' (R' ++ [n]) ∧ ∃ E', OTies w' E' (T ++ [t]) (R' ++ [n]) ∧ ∀ h, E' h → B ≤ h ∧ h < w'.heap.size ∧ v'.ownBlock ≠ some h := by
  intro u hu ad had
  have hbu := hb.trans (hu.mono hb.size)
  obtain ⟨D2, ho2, hd2⟩ := hf
  have hzz := hbu.size
  have hz9 := hu.size
  obtain ⟨g, cap', w', h3, h4, h5, h6⟩ := app_lies (F := nd) (x := n) (hm.below hbu) had (by omega) (by simp [maxLen]; omega) (by show (R'.length + 1) * 48 ≤ _; omega)
  have hown : ∀ g, vo.ownBlock = some g → B ≤ g ∧ g < wr.heap.size := fun g hg => World.ownsRow.lt hm g hg
  have hg : (vo.ownBlock = some g ∧ B ≤ g ∧ g < wr.heap.size) ∨ g = u.heap.size := by
    rcases h6 with h6 | h6
    · exact .inl ⟨h6, hown g h6⟩
    · exact .inr h6
  have hold : ∀ k, k < u.heap.size → vo.ownBlock ≠ some k → w'.heap[k]? = u.heap[k]? := fun k hk hn => h5.block k hk (fun e => hn e.symm)
  have hw' := h5.size
  have hE : ∀ k, (E k ∨ D2 k) → B ≤ k ∧ k < u.heap.size ∧ vo.ownBlock ≠ some k ∧ k ≠ g := by
    intro k hk
    rcases hk with hk | hk
    · obtain ⟨a1, a2, a3⟩ := hd k hk
      refine ⟨a1, by omega, a3, ?_⟩
      rintro rfl
      rcases hg with hg | hg
      · exact a3 hg.1
      · omega
    · obtain ⟨a1, a2⟩ := hd2 k hk
      refine ⟨by omega, by omega, fun e => by have := hown k e; omega, ?_⟩
      rintro rfl
      rcases hg with hg | hg <;> omega
  have hwu := hw.trans (hbu.mono hw.size)
  refine ⟨_, w', h3, ⟨h5.os.trans hwu.os, h5.tape.trans hwu.tape, h5.output.trans hwu.output, by have := hwu.size; omega, fun k hk => (hold k (by have := hwu.size; omega) (fun e => by have := hown k e; omega)).trans (hwu.block k hk)⟩, by omega, h4, fun k => E k ∨ D2 k, ?_, fun k hk => ?_⟩
  · refine OTies.keep (w := u) (fun k hk => ?_) (fun _ h => h) _ _ (OTies.snoc (OTie.keep (fun g hg => hu.block g (hd2 g hg).2) (fun _ h => h) _ _ ho2) (OTies.keep (fun g hg => hbu.block g (hd g hg).2.1) (fun _ h => h) _ _ ho) (fun g h1 h2' => ?_))
    · obtain ⟨_, a2, a3, _⟩ := hE k hk
      exact hold k a2 a3
    · have := (hd g h1).2.1
      have := (hd2 g h2').1
      omega
  · obtain ⟨a1, a2, a3, a4⟩ := hE k hk
    refine ⟨a1, by omega, fun e => ?_⟩
    simp only [Value.ownBlock, Option.some.injEq] at e
    exact a4 e.symm
def isPart (t : Tree) : Bool := decide (200 ≤ t.k)
def partsL (l : List Tree) : List Tree := (l.filter isPart).map (shiftT 0)
theorem partsL_snoc {l : List Tree} {q : Nat} (h : q < l.length) : partsL (l.take (q + 1)) = partsL (l.take q) ++ (if isPart l[q] then [shiftT 0 l[q]] else []) := by
  unfold partsL
  rw [List.take_add_one, List.getElem?_eq_getElem h, List.filter_append, List.map_append]
  cases hp : isPart l[q] <;> simp [hp]
theorem partsL_few (l : List Tree) (q : Nat) : (partsL (l.take q)).length ≤ q := by
  unfold partsL
  rw [List.length_map]
  exact Nat.le_trans (List.length_filter_le _ _) (by rw [List.length_take]; omega)
set_option maxRecDepth 100000 in
set_option maxHeartbeats 4000000 in
/-- Parts, of any tree. -/
theorem parts_any (t : Tree) (w : World) (n : Rn) (h : Hid (TieB w t n)) : Calls Try.prog 39 #[n.v] w fun e w' => ∃ v R E, e = .returned v ∧ Below w.heap.size w w' ∧ Mine nd w' w.heap.size v R ∧ OTies w' E (partsL t.l) R ∧ ∀ h, E h → w.heap.size ≤ h ∧ h < w'.heap.size ∧ v.ownBlock ≠ some h := by
  obtain ⟨k, i, j, l⟩ := t
  obtain ⟨o, c, g, off, R, rfl, hc, hl, hlR, ho, HC, HT⟩ := TieB.out h
  obtain ⟨len, hlen⟩ : ∃ len, l.length = len := ⟨_, rfl⟩
  have HLN := Lib.hid (And.intro hlen hlR)
  have HO := Lib.hid ho
  show Calls Try.prog 39 #[.agg #[.int .i64 k, .int .i64 i, .int .i64 j, .slice o l.length c]] w _
  rw [hlen] at hl ⊢
  have HB1 : Hid (Below w.heap.size w (w.alloc (.cells #[.int .i64 k, .int .i64 i, .int .i64 j, .slice o len c] 24))) := Lib.hid ((Below.refl _ _).alloc (Nat.le_refl _) _)
  clear h hlen hlR ho hc
  go_enter Try.func39, Try.ntmps39
  go_wp2_with fail
  go_loopw [9, 3] (fun p a wr => ∃ (q : Nat) (v : Value) (R' : List Rn) (E : Nat → Prop), q ≤ len ∧ p = .int .i64 (q : Int) ∧ v = a ∧ Below w.heap.size w wr ∧ Mine nd wr w.heap.size v R' ∧ OTies wr E (partsL (l.take q)) R' ∧ ∀ h, E h → w.heap.size ≤ h ∧ h < wr.heap.size ∧ v.ownBlock ≠ some h) (fun p _ _ => len - (intOf p).toNat)
  case atStart => exact ⟨0, _, [], fun _ => False, Nat.zero_le _, rfl, rfl, HB1.out, Mine.nil _ _, OTies.nil, fun h hh => hh.elim⟩
  case round =>
    obtain ⟨q, vo, R', E, hql, rfl, rfl, hb, hm, hot, hd⟩ := hrel
    by_cases hlt : q < len
    · have hil : q < l.length := by rw [HLN.out.1]; exact hlt
      have hiR : q < R.length := by rw [HLN.out.2]; exact hil
      obtain ⟨ho, hg⟩ := HO.out (by intro e; rw [e] at hil; simp at hil)
      subst ho
      obtain ⟨a0, a1, a2, a3⟩ := cells_nd HC.out q hiR
      have hkk : R[q].k = l[q].k := by
        obtain ⟨D, h, _⟩ := (HT.out wr hb q hil hiR).out
        exact h.k
      have hsn := partsL_snoc hil
      have HFW := Lib.hid (partsL_few l q)
      have hlR' := hot.length
      have HCALL : Hid (∀ u, Below wr.heap.size wr u → Calls Try.prog 11 #[R[q].v] u fun e w' => ∃ n', e = .returned n'.v ∧ Below u.heap.size u w' ∧ Fresh wr.heap.size w' (shiftT 0 l[q]) n') := Lib.hid (fun u hu => (copy_any l[q] u R[q] (HT.out u (hb.trans (hu.mono hb.size)) q hil hiR)).mono fun e w' ⟨n', h1, h2, h3⟩ => ⟨n', h1, h2, h3.mono hu.size⟩)
      have HPUSH := Lib.hid (fun (w9 : World) (n : Rn) (h1 : Below wr.heap.size wr w9) (h2 : Fresh wr.heap.size w9 (shiftT 0 l[q]) n) => own_push (t := shiftT 0 l[q]) (w9 := w9) (n := n) hb (Nat.le_refl _) hm hot hd hb.size (by have := HFW.out; omega) h1 h2)
      obtain ⟨⟨nk, ni, nj, no, nn, nc⟩, hn1⟩ : ∃ n, R[q] = n := ⟨_, rfl⟩
      rw [hn1] at a0 a1 a2 a3 HCALL hkk
      simp only [] at hkk
      rw [show (Rn.mk nk ni nj no nn nc).v = .agg #[.int .i64 nk, .int .i64 ni, .int .i64 nj, .slice no nn nc] from rfl] at HCALL
      have c0 := (hb.cell (p := ⟨g, off + q * 4, none⟩) hg).trans a0
      have c1 := (hb.cell (p := ⟨g, off + q * 4 + 1, none⟩) hg).trans a1
      have c2 := (hb.cell (p := ⟨g, off + q * 4 + 2, none⟩) hg).trans a2
      have c3 := (hb.cell (p := ⟨g, off + q * 4 + 3, none⟩) hg).trans a3
      have hgw : g < wr.heap.size := Nat.lt_of_lt_of_le hg hb.size
      have hq0 : (0 : Int) ≤ (q : Int) := by omega
      have hww : (q : Int) + 1 ≤ 2932031007318 := by omega
      have hdd : decide ((q : Int) < (len : Int)) = true := decide_eq_true (by omega)
      have hdd' : decide (q < len) = true := decide_eq_true hlt
      have HZ : Hid (Below wr.heap.size wr (wr.alloc (.cells #[.int .i64 nk, .int .i64 ni, .int .i64 nj, .slice no nn nc] 24))) := Lib.hid ((Below.refl _ _).alloc (Nat.le_refl _) _)
      simp only [] at c0 c1 c2 c3
      by_cases hp : 200 ≤ nk
      · have dp : decide (200 ≤ nk) = true := decide_eq_true hp
        have hip : isPart l[q] = true := by unfold isPart; rw [← hkk]; exact dp
        rw [hip, if_pos rfl] at hsn
        have HSN := Lib.hid hsn
        clear a0 a1 a2 a3 hn1 hb hm hot hd hsn hip hkk hlR'
        go_wp2_with (first
          | (go_at_call 11; refine (HCALL.out _ HZ.out).mono ?_; rintro e w9 ⟨⟨mk, mi, mj, mo, mn, mc⟩, rfl, hb9, hf9⟩; obtain ⟨v', w', hrun, hB', _, hM', E', hO', hd'⟩ := HPUSH.out w9 ⟨mk, mi, mj, mo, mn, mc⟩ (HZ.out.trans (hb9.mono HZ.out.size)) hf9 _ ((Below.refl _ _).alloc (Nat.le_refl _) _) _ (heap_alloc_last w9 _); have HRUN := Lib.hid hrun; have HE := Lib.hid (And.intro hB' (And.intro hM' (And.intro hO' hd'))); clear hb9 hf9 hrun hB' hM' hO' hd'; dsimp only [Rn.v])
          | (at_builtin; refine Lib.wpList_append_run _ rfl _ _ _ _ rfl _ _ rfl rfl _ _ (HRUN.out _) ?_))
        go_roundw
        case rel => exact ⟨q + 1, _, _, _, by omega, by go_num, rfl, HE.out.1, HE.out.2.1, by rw [HSN.out]; exact HE.out.2.2.1, HE.out.2.2.2⟩
        case measure => simp [intOf]; omega
      · have dp : decide (200 ≤ nk) = false := decide_eq_false hp
        have hip : isPart l[q] = false := by unfold isPart; rw [← hkk]; exact dp
        rw [hip] at hsn
        simp only [Bool.false_eq_true, if_false, List.append_nil] at hsn
        have HE := Lib.hid (And.intro (hb.trans (HZ.out.mono hb.size)) (And.intro (hm.below HZ.out) (And.intro (OTies.keep (fun g hg => HZ.out.block g (hd g hg).2.1) (fun _ h => h) _ _ hot) (fun h hh => And.intro (hd h hh).1 (And.intro (Nat.lt_of_lt_of_le (hd h hh).2.1 HZ.out.size) (hd h hh).2.2)))))
        rw [← hsn] at HE
        clear a0 a1 a2 a3 hn1 hb hm hot hd hsn hip hkk hlR'
        go_wp2_with fail
        go_roundw
        case rel => exact ⟨q + 1, _, _, _, by omega, by go_num, rfl, HE.out.1, HE.out.2.1, HE.out.2.2.1, HE.out.2.2.2⟩
        case measure => simp [intOf]; omega
    · obtain rfl : q = len := by omega
      have hdd : decide ((q : Int) < (q : Int)) = false := decide_eq_false (by omega)
      rw [List.take_of_length_le (by rw [HLN.out.1]; exact Nat.le_refl _)] at hot
      have HE := Lib.hid (And.intro hb (And.intro hm (And.intro hot hd)))
      clear hb hm hot hd
      go_wp2_with fail
      go_ret
      exact ⟨_, _, _, rfl, HE.out.1, HE.out.2.1, HE.out.2.2.1, HE.out.2.2.2⟩
end Go.Proofs.Ytnnffcfdokejbaa.rd
