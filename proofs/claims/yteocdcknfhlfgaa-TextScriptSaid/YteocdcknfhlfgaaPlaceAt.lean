/-
  The contract of Place.
-/
import Derived.Test.YteocdcknfhlfgaaPlace
namespace Go.Proofs.Yteocdcknfhlfgaa.buf
open Go.RowKit

def zs (T : List UInt8) : List Int := (begins T).map fun (n : Nat) => (n : Int)
theorem zs_length (T : List UInt8) : (zs T).length = (begins T).length := by simp [zs]
theorem zs_getD (T : List UInt8) (j : Nat) (hj : j < (begins T).length) : (zs T).getD j 0 = ((begins T)[j] : Nat) := by simp [zs, List.getD, hj]
theorem zs_sorted (T : List UInt8) : ((zs T).take (begins T).length).Pairwise (· ≤ ·) := by
  rw [List.take_of_length_le (by simp [zs])]
  unfold zs
  rw [List.pairwise_map]
  exact (begins_sorted T).imp (fun h => by omega)
/-- Which line the search tells. -/
def Hit (T : List UInt8) (p c : Nat) (f : Bool) : Prop :=
  (f = true ∧ ∃ h : c < (begins T).length, (begins T)[c] = p) ∨
  (f = false ∧ 1 ≤ c ∧ ∃ h : c - 1 < (begins T).length, (begins T)[c - 1] < p ∧ ∀ h : c < (begins T).length, p < (begins T)[c])
theorem hit_any (T : List UInt8) (p : Nat) : Hit T p (((zs T).take (begins T).length).countP (· < (p : Int))) (((zs T).take (begins T).length).contains (p : Int)) := by
  have e : (zs T).take (begins T).length = zs T := List.take_of_length_le (by simp [zs])
  rw [e]
  have hc : (zs T).countP (· < (p : Int)) = (begins T).countP (· < p) := by
    unfold zs
    rw [List.countP_map]
    congr 1
    funext x
    simp
  rw [hc]
  have hs := begins_sorted T
  cases hf : (zs T).contains (p : Int) with
  | true =>
    refine .inl ⟨rfl, ?_⟩
    have hm : p ∈ begins T := by
      have := List.contains_iff_mem.1 hf
      unfold zs at this
      obtain ⟨x, hx, hxe⟩ := List.mem_map.1 this
      have : x = p := by omega
      rw [← this]; exact hx
    obtain ⟨j, hj, hjp⟩ := List.getElem_of_mem hm
    have h1 := count_below p hs j hj
    have hle : (begins T).countP (· < p) ≤ j := by omega
    have hlt : (begins T).countP (· < p) < (begins T).length := by omega
    refine ⟨hlt, ?_⟩
    have h2 := count_below p hs _ hlt
    rcases Nat.lt_or_ge ((begins T).countP (· < p)) j with g | g
    · have := sorted_lt hs hlt hj g
      omega
    · have e2 : (begins T).countP (· < p) = j := by omega
      simp only [e2, hjp]
  | false =>
    have hm : p ∉ begins T := fun h => by
      have : (zs T).contains (p : Int) = true := List.contains_iff_mem.2 (List.mem_map.2 ⟨p, h, rfl⟩)
      rw [hf] at this; cases this
    have hp : 0 < p := by
      rcases Nat.eq_zero_or_pos p with rfl | g
      · exact absurd ((begins_mem T 0).2 (.inl rfl)) hm
      · exact g
    have h0 := count_below p hs 0 (begins_pos T)
    rw [begins_zero] at h0
    have hle : (begins T).countP (· < p) ≤ (begins T).length := List.countP_le_length
    refine .inr ⟨rfl, by omega, by omega, (count_below p hs _ (by omega)).2 (by omega), fun h => ?_⟩
    have h2 := count_below p hs _ h
    have h3 : (begins T)[(begins T).countP (· < p)] ≠ p := fun e => hm (e ▸ List.getElem_mem h)
    omega

/-- The line that a place stands in. -/
def InLine (T : List UInt8) (p l : Nat) : Prop := ∃ h : l < (begins T).length, (begins T)[l] ≤ p ∧ ∀ h : l + 1 < (begins T).length, p < (begins T)[l + 1]
theorem Hit.line {T : List UInt8} {p c : Nat} {f : Bool} (h : Hit T p c f) : InLine T p (if f then c else c - 1) := by
  rcases h with ⟨rfl, hc, he⟩ | ⟨rfl, h1, hc, h2, h3⟩
  · refine ⟨hc, by simp only [if_true]; omega, fun hn => ?_⟩
    have := sorted_lt (begins_sorted T) hc hn (by simp)
    simp only [if_true] at this ⊢
    omega
  · refine ⟨hc, by simp only [Bool.false_eq_true, if_false]; omega, fun hn => ?_⟩
    simp only [Bool.false_eq_true, if_false] at hn ⊢
    have e : c - 1 + 1 = c := by omega
    have := h3 (by omega)
    simp only [e]
    exact this

set_option maxRecDepth 100000 in
set_option maxHeartbeats 1000000 in
theorem place_out (g : Nat) (T : List UInt8) (p : Int) (w : World) (h : BufAt w g T) (hp : p < 0 ∨ (T.length : Int) < p) :
    Calls Try.prog 20 #[.pointer (some ⟨g, 0, none⟩), .int .i64 p] w fun e w' => e = .returned (.tuple #[.int .i64 0, .int .i64 0, .int .i64 10]) ∧ w = w' := by
  obtain ⟨v6, l6, d6, p6, h6, _⟩ := h
  have c1 := h6.cells.2.1
  clear h6
  by_cases h0 : p < 0
  · have t1 : decide (p < 0) = true := decide_eq_true h0
    go_enter Try.func20, Try.ntmps20
    go_wp2_with fail
    go_ret3
    exact ⟨rfl, rfl⟩
  · have t1 : decide (p < 0) = false := decide_eq_false h0
    have t2 : decide ((T.length : Int) < p) = true := decide_eq_true (by omega)
    go_enter Try.func20, Try.ntmps20
    go_wp2_with fail
    go_ret3
    exact ⟨rfl, rfl⟩

set_option maxRecDepth 100000 in
set_option maxHeartbeats 2000000 in
theorem place_ok (g : Nat) (T : List UInt8) (p : Nat) (w : World) (h : BufAt w g T) (hp : p ≤ T.length) :
    Calls Try.prog 20 #[.pointer (some ⟨g, 0, none⟩), .int .i64 p] w fun e w' => (∃ (l : Nat) (F : Nat), InLine T p l ∧ (begins T)[l]? = some F ∧ e = .returned (.tuple #[.int .i64 l, .int .i64 ((p : Int) - (F : Int)), .int .i64 0])) ∧ Still g T w w' := by
  have hT := h.short
  have hfew := begins_few T
  have H := Lib.hid h
  obtain ⟨v6, l6, d6, p6, h6, _⟩ := h
  have c1 := h6.cells.2.1
  have t1 : decide ((p : Int) < 0) = false := decide_eq_false (by omega)
  have t2 : decide ((T.length : Int) < (p : Int)) = false := decide_eq_false (by omega)
  clear h6
  go_enter Try.func20, Try.ntmps20
  go_wp2_with fail
  refine (begins_any g T _ H.out).mono ?_
  rintro e w1 ⟨v, rfl, hi, hb, hs⟩
  obtain ⟨q, cap, rfl, _, hc⟩ := hi.shape (begins_pos T)
  have HW := Lib.hid (show Still g T w w1 from ⟨hb, hs⟩)
  have HC := Lib.hid hc
  have hit := hit_any T p
  have HBS := Lib.hid (Try.slices_BinarySearch_int q 0 (begins T).length cap (zs T) p w1 (by rw [zs_length]; exact Nat.le_refl _) (by omega) (fun j hj => by
    rw [zs_length] at hj
    rw [Nat.zero_add, zs_getD T j hj]
    exact hc j hj) (zs_sorted T))
  obtain ⟨c, hcc⟩ : ∃ c, ((zs T).take (begins T).length).countP (· < (p : Int)) = c := ⟨_, rfl⟩
  obtain ⟨f, hff⟩ : ∃ f, ((zs T).take (begins T).length).contains (p : Int) = f := ⟨_, rfl⟩
  rw [hcc, hff] at hit HBS
  have HIT := Lib.hid hit
  clear hi hb hs hc hcc hff hit
  go_wp2_with fail
  refine (HBS.out).mono ?_
  rintro e w2 ⟨rfl, r, rfl⟩
  have hline := HIT.out.line
  obtain ⟨hl, ha, hb⟩ := hline
  cases f with
  | true =>
    simp only [if_true] at hl ha hb
    obtain ⟨F, hF⟩ : ∃ F, (begins T)[c] = F := ⟨_, rfl⟩
    have cc := HC.out c hl
    rw [hF] at cc ha
    have HL := Lib.hid (show InLine T p c ∧ (begins T)[c]? = some F from ⟨⟨hl, by rw [hF]; exact ha, hb⟩, by rw [List.getElem?_eq_getElem hl, hF]⟩)
    have e1 : IntKind.i64.wrap ((p : Int) - (F : Int)) = (p : Int) - (F : Int) := IntWalk.i64_in _ (by omega)
    have hli : (c : Int) < ((begins T).length : Int) := by omega
    have hl0 : (0 : Int) ≤ (c : Int) := by omega
    clear hF hb HIT HBS
    go_wp2_with fail
    go_quiet (fail)
    go_wp2_with fail
    go_ret3
    exact ⟨⟨c, F, HL.out.1, HL.out.2, rfl⟩, (HW.out.below (b := w1) ⟨rfl, rfl, rfl, Nat.le_refl _, fun _ _ => rfl⟩)⟩
  | false =>
    simp only [Bool.false_eq_true, if_false] at hl ha hb
    have hc1 : 1 ≤ c := by
      rcases HIT.out with ⟨x, _⟩ | ⟨_, x, _⟩
      · cases x
      · exact x
    obtain ⟨j, rfl⟩ : ∃ j, c = j + 1 := ⟨c - 1, by omega⟩
    simp only [Nat.add_sub_cancel] at hl ha hb
    obtain ⟨F, hF⟩ : ∃ F, (begins T)[j] = F := ⟨_, rfl⟩
    have cc := HC.out j hl
    rw [hF] at cc ha
    have HL := Lib.hid (show InLine T p j ∧ (begins T)[j]? = some F from ⟨⟨hl, by rw [hF]; exact ha, hb⟩, by rw [List.getElem?_eq_getElem hl, hF]⟩)
    have e1 : IntKind.i64.wrap ((p : Int) - (F : Int)) = (p : Int) - (F : Int) := IntWalk.i64_in _ (by omega)
    have e3 : ((j + 1 : Nat) : Int) - 1 = (j : Int) := by omega
    have hli : (j : Int) < ((begins T).length : Int) := by omega
    clear hF hb HIT HBS
    go_wp2_with fail
    go_quiet (fail)
    go_wp2_with fail
    go_ret3
    exact ⟨⟨j, F, HL.out.1, HL.out.2, rfl⟩, (HW.out.below (b := w1) ⟨rfl, rfl, rfl, Nat.le_refl _, fun _ _ => rfl⟩)⟩
end Go.Proofs.Yteocdcknfhlfgaa.buf
