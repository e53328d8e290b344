/-
  The contracts of the reference's Piece, Lines, Place.
-/
import Derived.Test.YteocdcknfhlfgaaPlaces
import Derived.Test.YteocdcknfhlfgaaRefApply
namespace Go.Proofs.Yteocdcknfhlfgaa.buf
open Go.RowKit

theorem InLine.zero (T : List UInt8) : InLine T 0 0 := ⟨begins_pos T, by rw [begins_zero]; exact Nat.le_refl _, fun h => by
  have := sorted_lt (begins_sorted T) (begins_pos T) h (by omega)
  rw [begins_zero] at this
  omega⟩
/-- A line goes on over a byte that is no line feed. -/
theorem InLine.on {T : List UInt8} {p l : Nat} (h : InLine T p l) (hb : T[p]? ≠ some 10) : InLine T (p + 1) l := by
  obtain ⟨hl, ha, hc⟩ := h
  refine ⟨hl, by omega, fun h => ?_⟩
  have h1 := hc h
  rcases Nat.lt_or_ge (p + 1) (begins T)[l + 1] with g | g
  · exact g
  · exfalso
    have e : (begins T)[l + 1] = p + 1 := by omega
    rcases (begins_mem T _).1 (List.getElem_mem h) with z | ⟨_, z⟩
    · omega
    · rw [e] at z
      exact hb (by simpa using z)
/-- It ends ahead of a line feed. -/
theorem InLine.stop {T : List UInt8} {p l : Nat} (h : InLine T p l) (hb : T[p]? = some 10) : ∃ h : l + 1 < (begins T).length, (begins T)[l + 1] = p + 1 := by
  obtain ⟨hl, ha, hc⟩ := h
  have hm : p + 1 ∈ begins T := (begins_mem T _).2 (.inr ⟨by omega, by simpa using hb⟩)
  by_cases h : l + 1 < (begins T).length
  · have h1 := sorted_next (begins_sorted T) h hm (by omega)
    have h2 := hc h
    exact ⟨h, by omega⟩
  · have := sorted_last (begins_sorted T) hl h hm
    omega
theorem InLine.next {T : List UInt8} {p l : Nat} (h : InLine T p l) (hb : T[p]? = some 10) : InLine T (p + 1) (l + 1) := by
  obtain ⟨h, e⟩ := h.stop hb
  refine ⟨h, by omega, fun h2 => ?_⟩
  have := sorted_lt (begins_sorted T) h h2 (by omega)
  omega
theorem InLine.lineTo {T : List UInt8} {p l : Nat} (h : InLine T p l) (hb : T[p]? = some 10) : lineTo T l = p := by
  obtain ⟨h, e⟩ := h.stop hb
  unfold buf.lineTo
  rw [dif_pos h]
  omega
theorem InLine.last {T : List UInt8} {l : Nat} (h : InLine T T.length l) : buf.lineTo T l = T.length ∧ (begins T).length = l + 1 := by
  obtain ⟨hl, ha, hc⟩ := h
  have hn : ¬ l + 1 < (begins T).length := fun h => by
    have h1 := hc h
    have h2 := begins_le T _ (List.getElem_mem h)
    omega
  exact ⟨line_end T l hn, by omega⟩
theorem begins_step (T : List UInt8) (j : Nat) (hj : j < T.length) : begins (T.take (j + 1)) = begins (T.take j) ++ (if T[j] = 10 then [j + 1] else []) := by
  have := begins_piece [] T j hj
  simpa [begins] using this

/-! ### Piece -/
set_option maxRecDepth 100000 in
set_option maxHeartbeats 1000000 in
theorem refPiece_out (h : Nat) (s : ByteArray) (a b : Int) (w : World) (hR : RefAt w h s) (hi : inB s.size a b = false) :
    Calls Try.prog 32 #[.pointer (some ⟨h, 0, none⟩), .int .i64 a, .int .i64 b] w fun e w' => e = .returned (.tuple #[.string ⟨#[]⟩, .int .i64 10]) ∧ w = w' := by
  have c0 := hR.cell
  have hn : ¬ (0 ≤ a ∧ a ≤ b ∧ b ≤ (s.size : Int)) := fun k => by
    unfold inB at hi
    rw [decide_eq_true k] at hi
    cases hi
  clear hR hi
  by_cases h0 : a < 0
  · have t1 : decide (a < 0) = true := decide_eq_true h0
    clear hn
    go_enter Try.func32, Try.ntmps32
    go_wp2_with fail
    go_ret2
    exact ⟨rfl, rfl⟩
  · have t1 : decide (a < 0) = false := decide_eq_false h0
    by_cases h1 : b < a
    · have t2 : decide (b < a) = true := decide_eq_true h1
      clear hn
      go_enter Try.func32, Try.ntmps32
      go_wp2_with fail
      go_ret2
      exact ⟨rfl, rfl⟩
    · have t2 : decide (b < a) = false := decide_eq_false h1
      have t3 : decide ((s.size : Int) < b) = true := decide_eq_true (by omega)
      clear hn
      go_enter Try.func32, Try.ntmps32
      go_wp2_with fail
      go_ret2
      exact ⟨rfl, rfl⟩

set_option maxRecDepth 100000 in
set_option maxHeartbeats 1000000 in
theorem refPiece_ok (h : Nat) (s : ByteArray) (a b : Nat) (w : World) (hR : RefAt w h s) (hab : a ≤ b) (hb : b ≤ s.size) :
    Calls Try.prog 32 #[.pointer (some ⟨h, 0, none⟩), .int .i64 a, .int .i64 b] w fun e w' => e = .returned (.tuple #[.string (s.extract a b), .int .i64 0]) ∧ w = w' := by
  have c0 := hR.cell
  clear hR
  have t1 : decide ((a : Int) < 0) = false := decide_eq_false (by omega)
  have t2 : decide ((b : Int) < a) = false := decide_eq_false (by omega)
  have t3 : decide ((s.size : Int) < b) = false := decide_eq_false (by omega)
  have u1 : (0 : Int) ≤ (a : Int) := by omega
  have u2 : (a : Int) ≤ (b : Int) := by omega
  have u3 : (b : Int) ≤ (s.size : Int) := by omega
  go_enter Try.func32, Try.ntmps32
  go_wp2_with fail
  go_ret2
  exact ⟨by simp, rfl⟩

/-! ### Lines -/
set_option maxRecDepth 100000 in
set_option maxHeartbeats 2000000 in
theorem refLines_any (h : Nat) (s : ByteArray) (w : World) (hR : RefAt w h s) (hs : s.size ≤ 16384) :
    Calls Try.prog 37 #[.pointer (some ⟨h, 0, none⟩)] w fun e w' => e = .returned (.int .i64 ((begins s.data.toList).length : Nat)) ∧ w = w' := by
  have c0 := hR.cell
  have hsd := size_data s
  clear hR
  go_enter Try.func37, Try.ntmps37
  go_wp2_with fail
  go_loopw [3, 4] (fun c i wr => ∃ (k m : Nat), i = .int .i64 k ∧ k ≤ s.size ∧ c = .int .i64 m ∧ m = (begins (s.data.toList.take k)).length ∧ wr = w)
    (fun _ i _ => s.size - (intOf i).toNat)
  case atStart => exact ⟨0, 1, rfl, Nat.zero_le _, rfl, by simp [begins, feeds], rfl⟩
  case round =>
    obtain ⟨k, m, rfl, hk, rfl, hm, rfl⟩ := hrel
    have hmk : m ≤ k + 1 := by
      have := begins_few (s.data.toList.take k)
      rw [List.length_take] at this
      omega
    by_cases hlt : k < s.size
    · have hd : k < s.data.toList.length := by omega
      have HX := Lib.hid (begins_step s.data.toList k hd)
      have HM := Lib.hid hm
      obtain ⟨c, hcc⟩ : ∃ c, s[k]'hlt = c := ⟨_, rfl⟩
      have hdc : s.data.toList[k] = c := by rw [← hcc]; rfl
      rw [hdc] at HX
      clear hm hdc hd hsd
      by_cases h10 : c = 10
      · have hcz : ((c.toNat : Int) == 10) = true := by rw [h10]; rfl
        have HY := Lib.hid (show m + 1 = (begins (s.data.toList.take (k + 1))).length by rw [HX.out, if_pos h10, List.length_append, ← HM.out]; rfl)
        clear h10 HX HM
        go_wp2_with fail
        go_roundw
        case rel => exact ⟨k + 1, m + 1, by go_num, by omega, by go_num, HY.out, trivial⟩
        case measure => simp [intOf]; omega
      · have hcz : ((c.toNat : Int) == 10) = false := beq_eq_false_iff_ne.2 (fun e => h10 (UInt8.toNat_inj.1 (by rw [show c.toNat = 10 from (by omega)]; rfl)))
        have HY := Lib.hid (show m = (begins (s.data.toList.take (k + 1))).length by rw [HX.out, if_neg h10, List.append_nil, ← HM.out])
        clear h10 HX HM
        go_wp2_with fail
        go_roundw
        case rel => exact ⟨k + 1, m, by go_num, by omega, rfl, HY.out, trivial⟩
        case measure => simp [intOf]; omega
    · have HM := Lib.hid (show m = (begins s.data.toList).length by rw [hm, List.take_of_length_le (by omega)])
      clear hm
      go_wp2_with fail
      go_ret
      exact ⟨congrArg (fun n : Nat => Ending.returned (.int .i64 (n : Int))) HM.out, rfl⟩
end Go.Proofs.Yteocdcknfhlfgaa.buf
