/-
  Layer 8: the laws' ints.
-/
import Derived.Test.YtnnffcfdokejbaaNk
namespace Go.Proofs.Ytnnffcfdokejbaa.rd
open Go.RowKit

theorem beq_drop {A B : List Int} {q : Nat} (h1 : q < A.length) (h2 : q < B.length) : (A.drop q == B.drop q) = (A[q] == B[q] && (A.drop (q + 1) == B.drop (q + 1))) := by
  rw [List.drop_eq_getElem_cons h1, List.drop_eq_getElem_cons h2]
  rfl
set_option maxRecDepth 100000 in
set_option maxHeartbeats 4000000 in
theorem ints_any {w : World} {va vb : Value} {A B : List Int} (ha : Row it w va A) (hb : Row it w vb B) (hl : A.length ≤ 1099511627776) :
    Calls Try.prog 37 #[va, vb] w fun e w' => e = .returned (.bool (A == B)) ∧ Below w.heap.size w w' := by
  obtain ⟨ga, oa, pa, ca, hca, rfl, hoa, hcella⟩ := ha.lt
  obtain ⟨gb, ob, pb, cb, hcb, rfl, hob, hcellb⟩ := hb.lt
  obtain ⟨la, hla⟩ : ∃ n, A.length = n := ⟨_, rfl⟩
  obtain ⟨lb, hlb⟩ : ∃ n, B.length = n := ⟨_, rfl⟩
  have HL := Lib.hid (And.intro hla hlb)
  have HO := Lib.hid (And.intro hoa hob)
  have HC := Lib.hid (And.intro hcella hcellb)
  rw [hla] at hl
  rw [hla, hlb]
  clear ha hb hoa hob hcella hcellb hca hcb hla hlb
  by_cases hne : la = lb
  case neg =>
    have hs : (A == B) = false := by
      refine beq_eq_false_iff_ne.2 (fun e => hne ?_)
      rw [← HL.out.1, ← HL.out.2, e]
    rw [hs]
    have hne' : (la : Int) ≠ (lb : Int) := by omega
    clear hs
    go_enter Try.func37, Try.ntmps37
    go_wp2_with fail
    go_ret
    exact ⟨rfl, Below.refl _ _⟩
  case pos =>
  subst hne
  go_enter Try.func37, Try.ntmps37
  go_wp2_with fail
  go_loopw [13] (fun p wr => ∃ q : Nat, q ≤ la ∧ p = .int .i64 (q : Int) ∧ Below w.heap.size w wr ∧ (A.drop q == B.drop q) = (A == B)) (fun p _ => la - (intOf p).toNat)
  case atStart => exact ⟨0, Nat.zero_le _, rfl, Below.refl _ _, rfl⟩
  case round =>
    obtain ⟨q, hql, rfl, hbw, hd⟩ := hrel
    by_cases hlt : q < la
    · have h1 : q < A.length := by rw [HL.out.1]; exact hlt
      have h2 : q < B.length := by rw [HL.out.2]; exact hlt
      obtain ⟨rfl, hga⟩ := HO.out.1 (by intro e; rw [e] at h1; simp at h1)
      obtain ⟨rfl, hgb⟩ := HO.out.2 (by intro e; rw [e] at h2; simp at h2)
      have a0 := (hbw.cell (p := ⟨ga, oa + q, none⟩) hga).trans (cells_it HC.out.1 q h1)
      have b0 := (hbw.cell (p := ⟨gb, ob + q, none⟩) hgb).trans (cells_it HC.out.2 q h2)
      rw [beq_drop h1 h2] at hd
      obtain ⟨x, hx⟩ : ∃ x, A[q] = x := ⟨_, rfl⟩
      obtain ⟨y, hy⟩ : ∃ x, B[q] = x := ⟨_, rfl⟩
      rw [hx] at a0 hd
      rw [hy] at b0 hd
      have hq0 : (0 : Int) ≤ (q : Int) := by omega
      have hww : (q : Int) + 1 ≤ 1099511627777 := by omega
      have hdd : decide ((q : Int) < (la : Int)) = true := decide_eq_true (by omega)
      have hdd' : decide (q < la) = true := decide_eq_true hlt
      have HB := Lib.hid hbw
      clear hx hy hbw
      by_cases hxy : x = y
      · subst hxy
        have hd' : (A.drop (q + 1) == B.drop (q + 1)) = (A == B) := by rw [← hd]; simp
        have HD := Lib.hid hd'
        clear hd hd'
        go_wp2_with fail
        go_region
        all_goals (try go_wp2_with fail)
        all_goals (go_roundw; (case rel => exact ⟨q + 1, by omega, by go_num, by first | exact HB.out | exact HB.out.drew, HD.out⟩); (case measure => simp [intOf]; omega))
      · have hd' : (A == B) = false := by rw [← hd, beq_eq_false_iff_ne.2 hxy, Bool.false_and]
        have HD := Lib.hid hd'
        have hnq : (x != y) = true := bne_iff_ne.2 hxy
        clear hd hd'
        go_wp2_with fail
        go_region
        all_goals (try go_wp2_with fail)
        all_goals (first | go_ret | go_end0)
        all_goals exact ⟨by rw [HD.out]; rfl, by first | exact HB.out | exact HB.out.drew⟩
    · obtain rfl : q = la := by omega
      have hdd : decide ((q : Int) < (q : Int)) = false := decide_eq_false (by omega)
      have hd' : (A == B) = true := by
        rw [← hd, List.drop_of_length_le (by rw [HL.out.1]; exact Nat.le_refl _), List.drop_of_length_le (by rw [HL.out.2]; exact Nat.le_refl _)]
        rfl
      have HD := Lib.hid hd'
      have HB := Lib.hid hbw
      clear hd hd' hbw
      go_wp2_with fail
      go_ret
      exact ⟨by rw [HD.out]; rfl, HB.out⟩
end Go.Proofs.Ytnnffcfdokejbaa.rd
