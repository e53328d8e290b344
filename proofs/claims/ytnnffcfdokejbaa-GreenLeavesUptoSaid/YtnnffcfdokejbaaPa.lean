/-
  Layer 8: the reference's pool: nodes without places, likeness.
-/
import Derived.Test.YtnnffcfdokejbaaNn
namespace Go.Proofs.Ytnnffcfdokejbaa.rd
open Go.RowKit

/-- A node of a pool, in memory. -/
structure Gn where
  (k : Int) (s : ByteArray) (o : Option Addr) (n c : Nat)
def Gn.v (x : Gn) : Value := .agg #[.int .i64 x.k, .string x.s, .slice x.o x.n x.c]
def gr : Kd Gn where
  c t := [.int .i64 t.k, .string t.s, .slice t.o t.n t.c]
  k := 3
  e := 46
  t := 82
  z := .agg #[.int .i64 0, .string .empty, .slice none 0 0]
  bytes := 48
  len _ := rfl
  one x u hu := by simp only [List.mem_cons, List.not_mem_nil, or_false] at hu; rcases hu with rfl | rfl | rfl <;> rfl
  ht := Try.underlying82
  hi := by kernel_rfl
  hz := rfl
  hk := by decide
  ht' := by kernel_rfl
  hs _ := by kernel_rfl
theorem cells_gr {w : World} {g off : Nat} {T : List Gn} (h : Cells gr w g off T) (n : Nat) (hn : n < T.length) : w.cell? ⟨g, off + n * 3, none⟩ = some (.int .i64 T[n].k) ∧ w.cell? ⟨g, off + n * 3 + 1, none⟩ = some (.string T[n].s) ∧ w.cell? ⟨g, off + n * 3 + 2, none⟩ = some (.slice T[n].o T[n].n T[n].c) :=
  ⟨h _ _ (flat_at gr T n hn 0 (by decide)), h _ _ (flat_at gr T n hn 1 (by decide)), h _ _ (flat_at gr T n hn 2 (by decide))⟩
/-- A node of a pool: its kind, its bytes, its kids' numbers. -/
structure Gr where
  (k : Int) (s : ByteArray) (l : List Int)
def likeG (a b : Gr) : Bool := a.k == b.k && decide (a.s = b.s) && a.l == b.l
theorem likeG_iff (a b : Gr) : likeG a b = true ↔ a = b := by
  cases a; cases b
  unfold likeG
  simp [and_assoc]
theorem str_ne {a b : ByteArray} (h : a ≠ b) : (a.toList == b.toList) = false := by
  refine beq_eq_false_iff_ne.2 (fun e => h ?_)
  rw [Lib.toList_data, Lib.toList_data] at e
  exact ByteArray.ext (Array.toList_inj.1 e)
def GTie (w : World) (D : Nat → Prop) (g : Gr) (x : Gn) : Prop := x.k = g.k ∧ x.s = g.s ∧ ∃ gb off, Row it w (.slice x.o x.n x.c) g.l ∧ x.n = g.l.length ∧ g.l.length ≤ 2932031007317 ∧ (g.l ≠ [] → x.o = some ⟨gb, off, none⟩ ∧ D gb)
theorem GTie.keep {w w' : World} {D D' : Nat → Prop} {g : Gr} {x : Gn} (h : GTie w D g x) (hs : ∀ k, D k → w'.heap[k]? = w.heap[k]?) (hD : ∀ k, D k → D' k) : GTie w' D' g x := by
  obtain ⟨h1, h2, gb, off, hr, hn, hl, ho⟩ := h
  refine ⟨h1, h2, gb, off, ?_, hn, hl, fun e => ⟨(ho e).1, hD _ (ho e).2⟩⟩
  by_cases he : g.l = []
  · rw [he] at hn ⊢
    rw [hn]
    exact Row.nil _ _ _
  · obtain ⟨ho1, ho2⟩ := ho he
    obtain ⟨g1, o1, o', c', hc, hv, ho', hcell⟩ := hr
    have ho'' := ho' he
    simp only [Value.slice.injEq] at hv
    obtain ⟨e1, e2, e3⟩ := hv
    rw [e1] at ho1
    rw [ho1] at ho''
    simp only [Option.some.injEq, Addr.mk.injEq] at ho''
    obtain ⟨rfl, rfl, _⟩ := ho''
    exact ⟨gb, off, o', c', hc, by rw [e1, e2, e3], ho', fun j u hu => (cell_same (hs gb ho2) _).trans (hcell j u hu)⟩
theorem two_green_boxes (w : World) (x y : Gn) : ∃ W2, (w.alloc (.cells #[.int .i64 x.k, .string x.s, .slice x.o x.n x.c] 46)).alloc (.cells #[.int .i64 y.k, .string y.s, .slice y.o y.n y.c] 46) = W2 ∧ W2.heap[w.heap.size]? = some (.cells #[.int .i64 x.k, .string x.s, .slice x.o x.n x.c] 46 (0, 0)) ∧ W2.heap[w.heap.size + 1]? = some (.cells #[.int .i64 y.k, .string y.s, .slice y.o y.n y.c] 46 (0, 0)) ∧ Below w.heap.size w W2 := by
  have z1 : (w.alloc (.cells #[.int .i64 x.k, .string x.s, .slice x.o x.n x.c] 46)).heap.size = w.heap.size + 1 := World.size_alloc _ _
  have b1 : Below w.heap.size w (w.alloc (.cells #[.int .i64 x.k, .string x.s, .slice x.o x.n x.c] 46)) := (Below.refl _ _).alloc (Nat.le_refl _) _
  have a1 := heap_alloc_last w (.cells #[.int .i64 x.k, .string x.s, .slice x.o x.n x.c] 46)
  generalize w.alloc (.cells #[.int .i64 x.k, .string x.s, .slice x.o x.n x.c] 46) = W1 at *
  have a2 := heap_alloc_last W1 (.cells #[.int .i64 y.k, .string y.s, .slice y.o y.n y.c] 46)
  rw [z1] at a2
  exact ⟨_, rfl, (heap_alloc_old W1 _ (by omega)).trans a1, a2, b1.alloc b1.size _⟩
set_option maxRecDepth 100000 in
set_option maxHeartbeats 4000000 in
theorem like_any {w : World} {D D2 : Nat → Prop} {a b : Gr} {x y : Gn} (ha : GTie w D a x) (hb : GTie w D2 b y) : Calls Try.prog 64 #[x.v, y.v] w fun e w' => e = .returned (.bool (likeG a b)) ∧ Below w.heap.size w w' := by
  obtain ⟨W2, hW2, hx, hy, hb2⟩ := two_green_boxes w x y
  obtain ⟨h1, h2, _, _, hr, hn, hl, hj1⟩ := ha
  obtain ⟨h1', h2', _, _, hr', hn', hl', hj2⟩ := hb
  clear hj1 hj2
  obtain ⟨xk, xs, xo, xn, xc⟩ := x
  obtain ⟨yk, ys, yo, yn, yc⟩ := y
  obtain ⟨k, s, l⟩ := a
  obtain ⟨k', s', l'⟩ := b
  simp only [] at h1 h2 h1' h2' hn hn' hl hl' hr hr' hx hy hW2
  subst h1 h2 h1' h2'
  obtain ⟨len, hlen⟩ : ∃ n, l.length = n := ⟨_, rfl⟩
  obtain ⟨len', hlen'⟩ : ∃ n, l'.length = n := ⟨_, rfl⟩
  rw [hlen] at hn hl
  rw [hlen'] at hn' hl'
  subst hn hn'
  obtain ⟨ga, oa, pa, ca, hca, hva, hoa, hcella⟩ := hr.lt
  obtain ⟨gb, ob, pb, cb, hcb, hvb, hob, hcellb⟩ := hr'.lt
  simp only [Value.slice.injEq] at hva hvb
  obtain ⟨rfl, hj1, rfl⟩ := hva
  obtain ⟨rfl, hj2, rfl⟩ := hvb
  clear hj1 hj2
  obtain ⟨X, hX⟩ : ∃ X, w.heap.size = X := ⟨_, rfl⟩
  rw [hX] at hx hy
  have HX := Lib.hid hX
  have HB := Lib.hid hb2
  have HW2 := Lib.hid hW2
  have HA := Lib.hid (And.intro hx hy)
  have HL := Lib.hid (And.intro hlen hlen')
  have HO := Lib.hid (And.intro hoa hob)
  have HC := Lib.hid (And.intro hcella hcellb)
  show Calls Try.prog 64 #[.agg #[.int .i64 xk, .string xs, .slice xo xn xc], .agg #[.int .i64 yk, .string ys, .slice yo yn yc]] w _
  clear hr hr' hoa hob hcella hcellb hca hcb hlen hlen' hX hx hy hb2 hW2
  by_cases e1 : xk = yk
  case neg =>
    have hs : likeG ⟨xk, xs, l⟩ ⟨yk, ys, l'⟩ = false := by unfold likeG; rw [beq_eq_false_iff_ne.2 e1]; simp
    rw [hs]
    clear hs
    go_enter Try.func64, Try.ntmps64
    go_wp2_with fail
    go_ret
    exact ⟨rfl, by rw [HW2.out]; exact HB.out⟩
  case pos =>
  subst e1
  by_cases e2 : xs = ys
  case neg =>
    have hs : likeG ⟨xk, xs, l⟩ ⟨xk, ys, l'⟩ = false := by unfold likeG; rw [decide_eq_false e2]; simp
    have hne := str_ne e2
    rw [hs]
    clear hs
    go_enter Try.func64, Try.ntmps64
    go_wp2_with fail
    go_ret
    exact ⟨rfl, by rw [HW2.out]; exact HB.out⟩
  case pos =>
  subst e2
  have hs : likeG ⟨xk, xs, l⟩ ⟨xk, xs, l'⟩ = (l == l') := by unfold likeG; simp
  rw [hs]
  clear hs
  by_cases e3 : xn = yn
  case neg =>
    have hs : (l == l') = false := beq_eq_false_iff_ne.2 (fun e => e3 (by rw [← HL.out.1, ← HL.out.2, e]))
    have e3' : (xn : Int) ≠ (yn : Int) := by omega
    rw [hs]
    clear hs
    go_enter Try.func64, Try.ntmps64
    go_wp2_with fail
    go_ret
    exact ⟨rfl, by rw [HW2.out]; exact HB.out⟩
  case pos =>
  subst e3
  go_enter Try.func64, Try.ntmps64
  go_wp2_with fail
  rw [HW2.out, HX.out]
  go_loopw [30] (fun p wr => ∃ q : Nat, q ≤ xn ∧ p = .int .i64 (q : Int) ∧ Below W2.heap.size W2 wr ∧ (l.drop q == l'.drop q) = (l == l')) (fun p _ => xn - (intOf p).toNat)
  case atStart => exact ⟨0, Nat.zero_le _, rfl, Below.refl _ _, rfl⟩
  case round =>
    obtain ⟨q, hql, rfl, hbw2, hd⟩ := hrel
    have hbw : Below w.heap.size w wr := HB.out.trans (hbw2.mono HB.out.size)
    have y1 := (hbw2.block X (Array.getElem?_eq_some_iff.1 HA.out.1).1).trans HA.out.1
    have y2 := (hbw2.block (X + 1) (Array.getElem?_eq_some_iff.1 HA.out.2).1).trans HA.out.2
    have q1 : X < wr.heap.size := (Array.getElem?_eq_some_iff.1 y1).1
    have q2 : X + 1 < wr.heap.size := (Array.getElem?_eq_some_iff.1 y2).1
    obtain ⟨⟨_, _, x2⟩, _⟩ := three_cells y1
    obtain ⟨⟨_, _, z2⟩, _⟩ := three_cells y2
    by_cases hlt : q < xn
    · have i1 : q < l.length := by rw [HL.out.1]; exact hlt
      have i2 : q < l'.length := by rw [HL.out.2]; exact hlt
      obtain ⟨rfl, hga⟩ := HO.out.1 (by intro e; rw [e] at i1; simp at i1)
      obtain ⟨rfl, hgb⟩ := HO.out.2 (by intro e; rw [e] at i2; simp at i2)
      have a0 := (hbw.cell (p := ⟨ga, oa + q, none⟩) hga).trans (cells_it HC.out.1 q i1)
      have b0 := (hbw.cell (p := ⟨gb, ob + q, none⟩) hgb).trans (cells_it HC.out.2 q i2)
      rw [beq_drop i1 i2] at hd
      obtain ⟨u, hu⟩ : ∃ x, l[q] = x := ⟨_, rfl⟩
      obtain ⟨v, hv⟩ : ∃ x, l'[q] = x := ⟨_, rfl⟩
      rw [hu] at a0 hd
      rw [hv] at b0 hd
      have hq0 : (0 : Int) ≤ (q : Int) := by omega
      have hww : (q : Int) + 1 ≤ 2932031007318 := by omega
      have hdd : decide ((q : Int) < (xn : Int)) = true := decide_eq_true (by omega)
      have hdd' : decide (q < xn) = true := decide_eq_true hlt
      have HBW := Lib.hid hbw2
      have HBB := Lib.hid hbw
      clear hu hv hbw2 hbw y1 y2
      by_cases huv : u = v
      · subst huv
        have hd' : (l.drop (q + 1) == l'.drop (q + 1)) = (l == l') := by rw [← hd]; simp
        have HD := Lib.hid hd'
        clear hd hd'
        go_wp2_with fail
        go_region
        all_goals (try go_wp2_with fail)
        all_goals (go_roundw; (case rel => exact ⟨q + 1, by omega, by go_num, by first | exact HBW.out | exact HBW.out.drew, HD.out⟩); (case measure => simp [intOf]; omega))
      · have hd' : (l == l') = false := by rw [← hd, beq_eq_false_iff_ne.2 huv, Bool.false_and]
        have HD := Lib.hid hd'
        have hnq : (u != v) = true := bne_iff_ne.2 huv
        clear hd hd'
        go_wp2_with fail
        go_region
        all_goals (try go_wp2_with fail)
        all_goals (first | go_ret | go_end0)
        all_goals exact ⟨by rw [HD.out]; rfl, by first | exact HBB.out | exact HBB.out.drew⟩
    · obtain rfl : q = xn := by omega
      have hdd : decide ((q : Int) < (q : Int)) = false := decide_eq_false (by omega)
      have hd' : (l == l') = true := by
        rw [← hd, List.drop_of_length_le (by rw [HL.out.1]; exact Nat.le_refl _), List.drop_of_length_le (by rw [HL.out.2]; exact Nat.le_refl _)]
        rfl
      have HD := Lib.hid hd'
      have HBB := Lib.hid hbw
      clear hd hd' hbw2 hbw y1 y2
      go_wp2_with fail
      go_ret
      exact ⟨by rw [HD.out]; rfl, HBB.out⟩
end Go.Proofs.Ytnnffcfdokejbaa.rd
