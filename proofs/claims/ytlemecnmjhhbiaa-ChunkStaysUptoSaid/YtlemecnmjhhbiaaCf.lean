/-
  Layer 4: chunk.Cut.
-/
import Derived.Test.YtlemecnmjhhbiaaCe
namespace Go.Proofs.Ytlemecnmjhhbiaa.ck
open Go.RowKit Go.Shelf

theorem cells_own {β : Type} (B B' : Nat) (cs : Array Value) (t : TypeId) : OwnFrom B (fun (_ : β) W => W.heap[B']? = some (.cells cs t (0, 0))) := fun _ X Y row hs hg hr => by
  refine (hg.block B' (Array.getElem?_eq_some_iff.1 hs).1 (fun e => ?_)).trans hs
  obtain ⟨_, o, ho, hc⟩ := hr B' e.symm
  rw [hs] at ho
  cases ho
  cases hc
theorem two_new (w : World) (x y : Value) (t : TypeId) : ∀ j u, [x, y][j]? = some u → (w.alloc (.cells #[x, y] t)).cell? ((⟨w.heap.size, 0, none⟩ : Addr).add j) = some u := by
  intro j u h
  rw [Addr.add_lit, cell_of_row (w.alloc (.cells #[x, y] t)) w.heap.size (0 + j) _ t (0, 0) (heap_alloc_last w _), Nat.zero_add]
  simpa using h
theorem kp_b {n₀ Bs m : Nat} (h1 : n₀ ≤ m) (h2 : Bs < m) (W : World) (l : Nat) (o o' : Obj) (hl : m ≤ l) (ho : W.heap[l]? = some o) (_ : o.isCells = false) (_ : o.isWalk = false) : Kp n₀ Bs W (W.putObj l o') := by
  have hg := grownBy_putObj' W l o'
  refine ⟨(Below.refl n₀ W).grown hg ?_ (fun r e => by cases e; omega), hg.block Bs ?_ (fun e => by cases e; omega)⟩
  · have := (Array.getElem?_eq_some_iff.1 ho).1
    omega
  · have := (Array.getElem?_eq_some_iff.1 ho).1
    omega
/-- An append to the row whose slice a box holds, seen from another box. -/
theorem box_other {W w1 : World} {n₀ B Bs : Nat} {t' e : TypeId} {size : Nat} {v v' v0 : Value} {k : Nat} {xs : List Value} {tmp : Obj}
    (hs : Boxed W Bs t' v0) (hte : t' ≠ e) (hne : Bs ≠ B) (hrow : W.ownsRow n₀ e size v k xs) (hgrow : (W.alloc tmp).grownBy w1 v.ownBlock) : Boxed (w1.setCell ⟨B, 0, none⟩ v') Bs t' v0 :=
  ((hs.alloc tmp).kept hgrow (hs.not_row hte hrow)).other hne _
def Made (T : List Sn) (w : World) (e : Ending) (w' : World) : Prop := ∃ v', e = .returned v' ∧ Mine sn w' w.heap.size v' T ∧ Below w.heap.size w w'

attribute [local go_sem] Oper.semAt_some
set_option maxRecDepth 100000 in
set_option maxHeartbeats 4000000 in
theorem cut_in (v : Value) (T : List Tk) (w : World) (hr : Row tk w v T) (hn : T.length * 24 ≤ 140737488355328) :
    CallsIn Fence.wide 3 Try.prog 10 #[v] w (Made (regs T) w) := by
  obtain ⟨i0, hi, hz0, hz1, hz2⟩ := info_parts sn.hi
  have HR := Lib.hid hr
  have hrl := regs_le T
  obtain ⟨o, cap, rfl⟩ := hr.len
  obtain ⟨len, hle⟩ : ∃ len, T.length = len := ⟨_, rfl⟩
  have hx := regions_any (.slice o T.length cap) (w.alloc (.cells #[.slice none 0 0] 26)) ⟨o, _, cap, rfl⟩
  have HX := Lib.hid hx
  rw [hle] at HX
  have HN := Lib.hid hle
  rw [hle] at hn hrl HR
  rw [HN.out]
  clear hr hx hle
  have hn1 : len ≤ 140737488355328 := by omega
  refine callsIn_of_wp_marks Try.func10 rfl trivial ?_ rfl
  simp only [Try.ntmps10, List.size_toArray, List.length_cons, List.length_nil, Nat.reduceAdd, Nat.reduceSub, Array.replicate_succ, Array.replicate_zero, List.push_toArray, List.append_toArray, List.nil_append, List.cons_append]
  gi_wp2_with (refine ⟨trivial, ?_⟩; gi_at_call 20; refine (callsIn_wide.2 HX.out).mono ?_; rintro e w' ⟨rfl, rfl⟩)
  have bO := Boxed.new w 26 (.slice none 0 0)
  have bN := Boxed.new (w.alloc (.cells #[.slice none 0 0] 26)) 22 (.slice o len cap)
  rw [World.size_alloc] at bN
  have hB0 : Below w.heap.size w ((w.alloc (.cells #[.slice none 0 0] 26)).alloc (.cells #[.slice o len cap] 22)) := ((Below.refl _ w).alloc (Nat.le_refl _) _).alloc (by simp) _
  refine wpIn_rangeFunc_ownH (F := Fence.wide) rfl (by decide) (gf := 25) (lb := #[.pointer (some ⟨w.heap.size + 1, 0, none⟩)]) rfl trivial (enters_of Try.func25 (by kernel_rfl) rfl)
    (regions_stops 2 (by decide) (w.heap.size + 1) w.heap.size (.slice o len cap) T (by rw [HN.out]; exact hn1) _ (by simp) (by simp; omega) bN.cell (fun W' hb => HR.out.below (hB0.trans hb))) kp_t (kp_b (by simp; omega) (by simp)) (Below.refl _ _) (fun _ => rfl)
    (fun pre W => ((∃ v, Boxed W w.heap.size 26 v ∧ W.ownsRow w.heap.size 30 2 v pre.length (flat sn pre) ∧ True) ∧ Boxed W (w.heap.size + 1) 22 (.slice o len cap)) ∧ Below w.heap.size w W)
    (fun _ _ _ => False)
    (OwnFrom.and (OwnFrom.and (Own.from (holdsRow_own w.heap.size w.heap.size 26 30 2 (fun pre : List Sn => pre.length) (fun pre => flat sn pre) (fun _ _ => True)) _) (Own.from (boxed_own _ _ _) _)) (ownFrom_below (Nat.le_refl _) (by simp; omega)))
    (fun _ _ _ _ _ hs _ _ => hs)
    ⟨⟨⟨_, bO.alloc _, World.ownsRow_nil _ _ _ _, trivial⟩, bN⟩, hB0⟩
    (fun x a' W => ∃ Bx, W.heap[Bx]? = some (.cells #[.int .i64 x.a, .int .i64 x.b] 30 (0, 0)) ∧ a' = { tmps := #[.slice o len cap, undef, .slice none 0 0, .pointer (some ⟨w.heap.size, 0, none⟩), .pointer (some ⟨Bx, 0, none⟩), .slice o len cap, .func (.func 25) #[] #[.pointer (some ⟨w.heap.size + 1, 0, none⟩)], .agg #[.int .i64 x.a, .int .i64 x.b], undef, undef, undef, undef, undef], defers := [] })
    (fun x a' s X Y row ⟨Bx, h1, h2⟩ hg hr => ⟨Bx, cells_own (β := Unit) _ Bx _ _ () X Y row h1 hg hr, h2⟩) ?assign ?body ?done ?stop
  case assign =>
    rintro l pre x W K hi' hK
    dsimp only [enc2]
    gi_wp2
    exact hK _ _ ((KeepsOthers.alloc _ _).from _) ⟨(Below.refl _ W).alloc hi'.2.size _, (World.grownBy_alloc W _ none).block _ hi'.1.2.lt (fun e => by cases e)⟩ ⟨⟨⟨hi'.1.1.choose, hi'.1.1.choose_spec.1.alloc _, World.ownsRow.alloc hi'.1.1.choose_spec.2.1 _, trivial⟩, hi'.1.2.alloc _⟩, hi'.2.alloc hi'.2.size _⟩ ⟨W.heap.size, heap_alloc_last W _, rfl⟩
  case body =>
    rintro l pre x a' W hl ⟨r, hr⟩ ⟨⟨⟨v, hv, hrow, _⟩, hbs⟩, hB⟩ ⟨Bx, hX, rfl⟩ hlt
    have hc := hv.cell
    have hx0 : W.cell? ⟨Bx, 0, none⟩ = some (.int .i64 x.a) := by rw [cell_of_row W Bx 0 _ _ _ hX]; rfl
    have hx1 : W.cell? ⟨Bx, 1, none⟩ = some (.int .i64 x.b) := by rw [cell_of_row W Bx 1 _ _ _ hX]; rfl
    have hpl : pre.length < len := by omega
    gi_wp2_with (gi_at_builtin; refine wpListIn_append_own _ rfl _ _ 26 rfl w.heap.size 30 i0 (.agg #[.int .i64 0, .int .i64 0]) 2 16 Try.underlying26 hi hz0 hz1 hz2 rfl (by decide) _ _ _ rfl (hrow.alloc _) ⟨W.heap.size, 0, none⟩ 1 1 [.int .i64 x.a, .int .i64 x.b] rfl rfl (two_new _ _ _ _) (sn.one x) (by unfold maxLen; omega) (by omega) (by have := hB.size; simp; omega) ?_; intro v' w1 hown' hgrow _; obtain ⟨g', cap', rfl⟩ := ownsRow_succ hown'; obtain ⟨hv1, hv2, hr2, hk2, hb2⟩ := hv.appended (by decide) hrow hB.size (Nat.le_refl _) hown' hgrow; have hc1 := hv1.cell; have hf1 := hv1.frozen)
    have hbs' := box_other (B := w.heap.size) (v' := .slice (some ⟨g', 0, none⟩) (pre.length + 1) cap') hbs (by decide) (Nat.succ_ne_self _) hrow hgrow
    exact ⟨hk2.from _, ⟨hb2, by rw [show _ = _ from hbs', show _ = _ from hbs]⟩, ⟨⟨_, hv2, by rw [List.length_append, flat_append]; exact hr2, trivial⟩, hbs'⟩, hB.trans hb2⟩
  case done =>
    rintro D ys W hD rfl ⟨⟨⟨v, hv, hrow, _⟩, _⟩, hB⟩ hK
    have hc := hv.cell
    gi_wp2
    refine ⟨by simp, .inl ⟨_, _, rfl, run_takeDeferred hK, ?_⟩⟩
    exact ⟨_, results_tmp rfl _ _ _, v, rfl, ownsRow_putObj hrow _ hK rfl, hB.trans (belowK_b (w := w) (Nat.le_refl _) W D _ _ (by simp at hD; omega) hK rfl rfl)⟩
  case stop =>
    rintro D c pre W _ _ h _
    exact h.elim
theorem cut_any (v : Value) (T : List Tk) (w : World) (hr : Row tk w v T) (hn : T.length * 24 ≤ 140737488355328) :
    Calls Try.prog 10 #[v] w (Made (regs T) w) := callsIn_wide.1 (cut_in v T w hr hn)
end Go.Proofs.Ytlemecnmjhhbiaa.ck
