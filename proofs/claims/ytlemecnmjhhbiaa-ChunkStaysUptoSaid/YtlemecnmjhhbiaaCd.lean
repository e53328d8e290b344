/-
  Layer 4: chunk.first, the statements' own weighs.
-/
import Derived.Test.YtlemecnmjhhbiaaCb
namespace Go.Proofs.Ytlemecnmjhhbiaa.ck
open Go.RowKit

/-- The kind of the first significant token, and whether there is one. -/
def fst : List Tk → Int × Bool
  | [] => (0, false)
  | t :: r => if triv t.k then fst r else (t.k, true)
/-- Whether there is a significant token. -/
def weigh (T : List Tk) : Bool := (fst T).2

set_option maxRecDepth 100000 in
set_option maxHeartbeats 4000000 in
theorem first_any (v : Value) (T : List Tk) (w : World) (hr : Row tk w v T) (hn : T.length ≤ 140737488355328) :
    Calls Try.prog 23 #[v] w fun e w' => e = .returned (.tuple #[.int .i64 (fst T).1, .bool (fst T).2]) ∧ w.grownBy w' none := by
  obtain ⟨g, off, o, cap, hc, rfl, ho, hcell⟩ := hr
  have HC := Lib.hid hcell
  have HO := Lib.hid ho
  clear hcell ho
  obtain ⟨len, hlen⟩ : ∃ len, T.length = len := ⟨_, rfl⟩
  rw [hlen] at hc hn
  have HN := Lib.hid hlen
  rw [HN.out]
  clear hlen
  go_enter Try.func23, Try.ntmps23
  go_wp2
  go_loopw [8] (fun p wr => ∃ n : Nat, n ≤ len ∧ p = .int .i64 n ∧ fst (T.drop n) = fst T ∧ w.grownBy wr none) (fun p _ => len - (intOf p).toNat)
  case atStart => exact ⟨0, Nat.zero_le _, rfl, rfl, World.grownBy.refl _ _⟩
  case round =>
    obtain ⟨n, hnl, rfl, hle, hb⟩ := hrel
    have HB := Lib.hid hb
    have HL := Lib.hid hle
    clear hb hle
    by_cases hlt : n < len
    · have hltT : n < T.length := by rw [HN.out]; exact hlt
      have hd : decide ((n : Int) < (len : Int)) = true := decide_eq_true (by omega)
      have hne : T ≠ [] := by rintro rfl; simp at hltT
      have ho := HO.out hne
      subst ho
      have hB0 : Below w.heap.size w wr := (Below.refl _ _).grown HB.out (Nat.le_refl _) (fun k hk => by cases hk)
      obtain ⟨c0, c1, c2⟩ := cells_tk (HC.out.below hB0) n hltT
      rw [List.drop_eq_getElem_cons hltT, fst] at HL
      generalize T[n] = t at *
      obtain ⟨z, x1, x2⟩ := t
      simp only [] at c0 c1 c2 HL
      have HT := Lib.hid (fun u => trivia_any z u)
      clear hne hltT hB0
      cases h1 : triv z with
      | false =>
        rw [h1, if_neg (by simp)] at HL
        rw [h1] at HT
        clear h1
        go_wp2_with (go_at_call 24; refine (HT.out _).mono ?_; rintro e w' ⟨rfl, rfl⟩)
        go_ret2
        exact ⟨by rw [← HL.out]; rfl, HB.out.trans (World.grownBy_alloc _ _ _)⟩
      | true =>
        rw [h1, if_pos rfl] at HL
        rw [h1] at HT
        clear h1
        go_wp2_with (go_at_call 24; refine (HT.out _).mono ?_; rintro e w' ⟨rfl, rfl⟩)
        go_roundw
        case rel => exact ⟨n + 1, by omega, by go_num, HL.out, HB.out.trans (World.grownBy_alloc _ _ _)⟩
        case measure => simp [intOf]; omega
    · have hd : decide ((n : Int) < (len : Int)) = false := decide_eq_false (by omega)
      have hD : T.drop n = [] := List.drop_of_length_le (by rw [HN.out]; omega)
      rw [hD, fst] at HL
      clear hD
      go_wp2_with fail
      go_ret2
      exact ⟨by rw [← HL.out]; rfl, HB.out⟩
set_option maxRecDepth 100000 in
set_option maxHeartbeats 4000000 in
theorem weighs_any (v : Value) (T : List Tk) (w : World) (hr : Row tk w v T) (hn : T.length ≤ 140737488355328) :
    Calls Try.prog 17 #[v] w fun e w' => e = .returned (.bool (weigh T)) ∧ w.grownBy w' none := by
  obtain ⟨g, off, o, cap, hc, rfl, ho, hcell⟩ := hr
  have HC := Lib.hid hcell
  have HO := Lib.hid ho
  clear hcell ho
  obtain ⟨len, hlen⟩ : ∃ len, T.length = len := ⟨_, rfl⟩
  rw [hlen] at hc hn
  have HN := Lib.hid hlen
  rw [HN.out]
  clear hlen
  go_enter Try.func17, Try.ntmps17
  go_wp2
  go_loopw [7] (fun p wr => ∃ n : Nat, n ≤ len ∧ p = .int .i64 n ∧ fst (T.drop n) = fst T ∧ w.grownBy wr none) (fun p _ => len - (intOf p).toNat)
  case atStart => exact ⟨0, Nat.zero_le _, rfl, rfl, World.grownBy.refl _ _⟩
  case round =>
    obtain ⟨n, hnl, rfl, hle, hb⟩ := hrel
    have HB := Lib.hid hb
    have HL := Lib.hid hle
    clear hb hle
    by_cases hlt : n < len
    · have hltT : n < T.length := by rw [HN.out]; exact hlt
      have hd : decide ((n : Int) < (len : Int)) = true := decide_eq_true (by omega)
      have hne : T ≠ [] := by rintro rfl; simp at hltT
      have ho := HO.out hne
      subst ho
      have hB0 : Below w.heap.size w wr := (Below.refl _ _).grown HB.out (Nat.le_refl _) (fun k hk => by cases hk)
      obtain ⟨c0, c1, c2⟩ := cells_tk (HC.out.below hB0) n hltT
      rw [List.drop_eq_getElem_cons hltT, fst] at HL
      generalize T[n] = t at *
      obtain ⟨z, x1, x2⟩ := t
      simp only [] at c0 c1 c2 HL
      have HT := Lib.hid (fun u => trivia_any z u)
      clear hne hltT hB0
      cases h1 : triv z with
      | false =>
        rw [h1, if_neg (by simp)] at HL
        rw [h1] at HT
        clear h1
        go_wp2_with (go_at_call 24; refine (HT.out _).mono ?_; rintro e w' ⟨rfl, rfl⟩)
        go_ret
        exact ⟨by unfold weigh; rw [← HL.out]; rfl, HB.out.trans (World.grownBy_alloc _ _ _)⟩
      | true =>
        rw [h1, if_pos rfl] at HL
        rw [h1] at HT
        clear h1
        go_wp2_with (go_at_call 24; refine (HT.out _).mono ?_; rintro e w' ⟨rfl, rfl⟩)
        go_roundw
        case rel => exact ⟨n + 1, by omega, by go_num, HL.out, HB.out.trans (World.grownBy_alloc _ _ _)⟩
        case measure => simp [intOf]; omega
    · have hd : decide ((n : Int) < (len : Int)) = false := decide_eq_false (by omega)
      have hD : T.drop n = [] := List.drop_of_length_le (by rw [HN.out]; omega)
      rw [hD, fst] at HL
      clear hD
      go_wp2_with fail
      go_ret
      exact ⟨by unfold weigh; rw [← HL.out]; rfl, HB.out⟩
end Go.Proofs.Ytlemecnmjhhbiaa.ck
