/-
  The contract of lent.
-/
import Derived.Test.YteocdcknfhlfgaaSinglyCard
namespace Go.Proofs.Yteocdcknfhlfgaa.buf
open Go.RowKit

def edCells (l : List Ed) : List Value := l.flatMap fun e => [.int .i64 e.a, .int .i64 e.b, .string e.s]
theorem edCells_append (a b : List Ed) : edCells (a ++ b) = edCells a ++ edCells b := by simp [edCells]
theorem edCells_length (l : List Ed) : (edCells l).length = l.length * 3 := by
  induction l with
  | nil => rfl
  | cons e r ih => simp only [edCells, List.flatMap_cons, List.length_append, List.length_cons, List.length_nil] at ih ⊢; omega
theorem edCells_get (l : List Ed) (j : Nat) (h : j < l.length) : (edCells l)[j * 3]? = some (.int .i64 l[j].a) ∧ (edCells l)[j * 3 + 1]? = some (.int .i64 l[j].b) ∧ (edCells l)[j * 3 + 2]? = some (.string l[j].s) := by
  induction l generalizing j with
  | nil => simp at h
  | cons e r ih =>
    have hc : edCells (e :: r) = [.int .i64 e.a, .int .i64 e.b, .string e.s] ++ edCells r := by simp [edCells]
    cases j with
    | zero => rw [hc]; exact ⟨rfl, rfl, rfl⟩
    | succ j =>
      obtain ⟨x, y, z⟩ := ih j (by simpa using h)
      rw [hc]
      refine ⟨?_, ?_, ?_⟩
      · rw [List.getElem?_append_right (by simp; omega)]; exact (congrArg (fun i => (edCells r)[i]?) (by simp; omega)).trans x
      · rw [List.getElem?_append_right (by simp; omega)]; exact (congrArg (fun i => (edCells r)[i]?) (by simp; omega)).trans y
      · rw [List.getElem?_append_right (by simp; omega)]; exact (congrArg (fun i => (edCells r)[i]?) (by simp; omega)).trans z
theorem edCells_one (l : List Ed) : ∀ u ∈ edCells l, u.oneCell' = true := by
  intro u hu
  simp only [edCells, List.mem_flatMap, List.mem_cons, List.not_mem_nil, or_false] at hu
  obtain ⟨e, _, rfl | rfl | rfl⟩ := hu <;> rfl
theorem edCells_news {w : World} {b o : Nat} {l : List Ed} (hc : ∀ j (hj : j < l.length), w.cell? ⟨b, o + j * 3, none⟩ = some (.int .i64 l[j].a) ∧ w.cell? ⟨b, o + j * 3 + 1, none⟩ = some (.int .i64 l[j].b) ∧ w.cell? ⟨b, o + j * 3 + 2, none⟩ = some (.string l[j].s)) :
    ∀ j u, (edCells l)[j]? = some u → w.cell? ((⟨b, o, none⟩ : Addr).add j) = some u := by
  intro j u h
  have hj : j < (edCells l).length := (List.getElem?_eq_some_iff.1 h).1
  rw [edCells_length] at hj
  obtain ⟨i, r, hi, hr⟩ : ∃ i r, j = i * 3 + r ∧ r < 3 := ⟨j / 3, j % 3, by omega, by omega⟩
  have hil : i < l.length := by omega
  obtain ⟨x, y, z⟩ := edCells_get l i hil
  obtain ⟨p, q, t⟩ := hc i hil
  rw [Addr.add_lit]
  rcases (show r = 0 ∨ r = 1 ∨ r = 2 by omega) with rfl | rfl | rfl
  · rw [hi, Nat.add_zero] at h ⊢; rw [x] at h; rw [p]; exact h
  · rw [hi] at h ⊢; rw [y] at h; rw [show o + (i * 3 + 1) = o + i * 3 + 1 by omega, q]; exact h
  · rw [hi] at h ⊢; rw [z] at h; rw [show o + (i * 3 + 2) = o + i * 3 + 2 by omega, t]; exact h
theorem infoE : (Try.prog.info? 60).map (fun i => (i.zero, i.size, i.bytes)) = some (some (.agg #[.int .i64 0, .int .i64 0, .string .empty]), 3, 32) := by kernel_rfl

/-- A row of edits of one's own. -/
def Eds (w : World) (B : Nat) (v : Value) (l : List Ed) : Prop := w.ownsRow B 60 3 v l.length (edCells l)
theorem eds_grown {w w2 : World} {B e s n : Nat} {v : Value} {xs : List Value} (ho : w.ownsRow B e s v n xs) (hB : B ≤ w.heap.size) (hg : w.grownBy w2 v.ownBlock) : Below B w w2 :=
  (Below.refl B w).grown hg hB (fun k hk => (World.ownsRow.lt ho k hk).1)
def markE : Ed := ⟨0, 0, ⟨#[109, 97, 114, 107]⟩⟩
def behindE : Ed := ⟨0, 0, ⟨#[98, 101, 104, 105, 110, 100]⟩⟩
def Lent (w : World) (l : List Ed) (e : Ending) (w' : World) : Prop := ∃ v', e = .returned v' ∧ Eds w' w.heap.size v' (l ++ [markE, behindE]) ∧ Below w.heap.size w w'
theorem marks_news (W : World) : ∀ j u, (edCells [markE, behindE])[j]? = some u → (W.alloc (.cells #[.int .i64 0, .int .i64 0, .string ⟨#[109, 97, 114, 107]⟩, .int .i64 0, .int .i64 0, .string ⟨#[98, 101, 104, 105, 110, 100]⟩] 60)).cell? ((⟨W.heap.size, 0, none⟩ : Addr).add j) = some u := by
  intro j u h
  have hj : j < 6 := (List.getElem?_eq_some_iff.1 h).1
  have hn := heap_alloc_new W (.cells #[.int .i64 0, .int .i64 0, .string ⟨#[109, 97, 114, 107]⟩, .int .i64 0, .int .i64 0, .string ⟨#[98, 101, 104, 105, 110, 100]⟩] 60)
  rw [Addr.add_lit, Nat.zero_add]
  generalize W.alloc (.cells #[.int .i64 0, .int .i64 0, .string ⟨#[109, 97, 114, 107]⟩, .int .i64 0, .int .i64 0, .string ⟨#[98, 101, 104, 105, 110, 100]⟩] 60) = X at hn ⊢
  rcases (show j = 0 ∨ j = 1 ∨ j = 2 ∨ j = 3 ∨ j = 4 ∨ j = 5 by omega) with rfl | rfl | rfl | rfl | rfl | rfl <;> (rw [← h]; simp [World.cell?, hn, edCells, markE, behindE])

set_option maxRecDepth 100000 in
set_option maxHeartbeats 1000000 in
theorem lent_row (ad : Addr) (cap : Nat) (l : List Ed) (w : World) (hl : l.length ≤ 4294967296) (hn : ∀ j u, (edCells l)[j]? = some u → w.cell? (ad.add j) = some u) (had : l.length = 0 ∨ ad.block < w.heap.size) :
    Calls Try.prog 13 #[.slice (some ad) l.length cap] w (Lent w l) := by
  obtain ⟨i0, hi, hz0, hz1, hz2⟩ := info_parts infoE
  have hw0 : Below w.heap.size w (w.alloc (.cells #[] 60)) := (Below.refl _ _).alloc (Nat.le_refl _) _
  have own0 : (w.alloc (.cells #[] 60)).ownsRow w.heap.size 60 3 (.slice (some ⟨w.heap.size, 0, none⟩) 0 0) 0 [] := ⟨rfl, .inr ⟨w.heap.size, 0, #[], rfl, Nat.le_refl _, heap_alloc_new w _, Nat.le_refl _, Nat.zero_le _, rfl, rfl⟩⟩
  have hn0 : ∀ j u, (edCells l)[j]? = some u → (w.alloc (.cells #[] 60)).cell? (ad.add j) = some u := fun j u h => by
    have hj := (List.getElem?_eq_some_iff.1 h).1
    rw [edCells_length] at hj
    have hb : (ad.add j).block < w.heap.size := by
      have : (ad.add j).block = ad.block := by unfold Addr.add; split <;> rfl
      omega
    exact (hw0.cell hb).trans (hn j u h)
  have hsz0 : w.heap.size ≤ (w.alloc (.cells #[] 60)).heap.size := hw0.size
  have HN := Lib.hid hn0
  have HO := Lib.hid own0
  have HW := Lib.hid hw0
  have HS := Lib.hid hsz0
  clear hn hn0 own0 hw0 hsz0 had
  go_enter Try.func13, Try.ntmps13
  go_wp2_with (at_builtin; refine wpList_append_own _ rfl _ _ 41 rfl w.heap.size 60 i0 (.agg #[.int .i64 0, .int .i64 0, .string .empty]) 3 32 Try.underlying41 hi hz0 hz1 hz2 rfl (by decide) _ _ _ rfl HO.out ad l.length cap (edCells l) rfl (edCells_length l) HN.out (edCells_one l) ?c3 ?c4 HS.out ?_)
  case c3 => unfold maxLen; omega
  case c4 => omega
  intro v1 w1 own1 hg1 _
  have hB1 : Below w.heap.size w w1 := HW.out.trans (eds_grown HO.out HS.out hg1)
  have HO1 := Lib.hid own1
  have HB1 := Lib.hid hB1
  clear own1 hg1 hB1
  go_wp2_with (at_builtin; refine wpList_append_own _ rfl _ _ 41 rfl w.heap.size 60 i0 (.agg #[.int .i64 0, .int .i64 0, .string .empty]) 3 32 Try.underlying41 hi hz0 hz1 hz2 rfl (by decide) _ _ _ rfl (World.ownsRow.alloc HO1.out _) ⟨w1.heap.size, 0, none⟩ 2 2 (edCells [markE, behindE]) rfl rfl (marks_news w1) (edCells_one _) ?d3 ?d4 ?d5 ?_)
  case d3 => unfold maxLen; omega
  case d4 => omega
  case d5 => have := HB1.out.size; simp; omega
  intro v2 w2 own2 hg2 _
  have hs1 := HB1.out.size
  have hB2 : Below w.heap.size w w2 := (HB1.out.alloc HB1.out.size _).trans (eds_grown (World.ownsRow.alloc HO1.out _) (by simp; omega) hg2)
  have R : Lent w l (.returned v2) w2 := ⟨v2, rfl, by unfold Eds; rw [List.length_append, edCells_append]; exact own2, hB2⟩
  have HR := Lib.hid R
  clear R hB2 own2 hg2
  go_wp2_with fail
  go_ret
  exact HR.out

set_option maxRecDepth 100000 in
set_option maxHeartbeats 1000000 in
theorem lent_none (cap : Nat) (w : World) : Calls Try.prog 13 #[.slice none 0 cap] w (Lent w []) := by
  obtain ⟨i0, hi, hz0, hz1, hz2⟩ := info_parts infoE
  have hw0 : Below w.heap.size w (w.alloc (.cells #[] 60)) := (Below.refl _ _).alloc (Nat.le_refl _) _
  have own0 : (w.alloc (.cells #[] 60)).ownsRow w.heap.size 60 3 (.slice (some ⟨w.heap.size, 0, none⟩) 0 0) 0 [] := ⟨rfl, .inr ⟨w.heap.size, 0, #[], rfl, Nat.le_refl _, heap_alloc_new w _, Nat.le_refl _, Nat.zero_le _, rfl, rfl⟩⟩
  have HO1 := Lib.hid own0
  have HB1 := Lib.hid hw0
  clear own0 hw0
  go_enter Try.func13, Try.ntmps13
  go_wp2_with (at_builtin; refine wpList_append_own _ rfl _ _ 41 rfl w.heap.size 60 i0 (.agg #[.int .i64 0, .int .i64 0, .string .empty]) 3 32 Try.underlying41 hi hz0 hz1 hz2 rfl (by decide) _ _ _ rfl (World.ownsRow.alloc HO1.out _) ⟨w.heap.size + 1, 0, none⟩ 2 2 (edCells [markE, behindE]) rfl rfl ?d2 (edCells_one _) ?d3 ?d4 ?d5 ?_)
  case d2 => have := marks_news (w.alloc (.cells #[] 60)); simpa using this
  case d3 => unfold maxLen; omega
  case d4 => omega
  case d5 => simp; omega
  intro v2 w2 own2 hg2 _
  have hs1 := HB1.out.size
  have hB2 : Below w.heap.size w w2 := (HB1.out.alloc HB1.out.size _).trans (eds_grown (World.ownsRow.alloc HO1.out _) (by simp; omega) hg2)
  have R : Lent w [] (.returned v2) w2 := ⟨v2, rfl, own2, hB2⟩
  have HR := Lib.hid R
  clear R hB2 own2 hg2
  go_wp2_with fail
  go_ret
  exact HR.out

theorem lent_any (v : Value) (l : List Ed) (w : World) (he : EdsAt w v l) (hl : l.length ≤ 4294967296) : Calls Try.prog 13 #[v] w (Lent w l) := by
  rcases he with ⟨rfl, oa, cap, rfl⟩ | ⟨b, o, cap, rfl, hb, hc⟩
  · cases oa with
    | none => exact lent_none cap w
    | some ad => exact lent_row ad cap [] w (by simp) (by intro j u h; simp [edCells] at h) (.inl rfl)
  · exact lent_row _ cap l w hl (edCells_news hc) (.inr hb)
end Go.Proofs.Yteocdcknfhlfgaa.buf
