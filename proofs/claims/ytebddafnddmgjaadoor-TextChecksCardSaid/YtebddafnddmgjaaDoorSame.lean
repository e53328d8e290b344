/-
  The contract of sameDiags at two lists that are alike.
-/
import Derived.Test.YtebddafnddmgjaaDoorOwn
import Derived.BigQuiet
import Derived.Deep.QuietTactic
namespace Go.Proofs.YtebddafnddmgjaaDoor.dec
open Go.RowKit

set_option maxRecDepth 100000 in
set_option maxHeartbeats 2000000 in
theorem same_empty (oa ob : Option Addr) (ca cb : Nat) (w : World) :
    Calls Tryd.prog 4 #[.slice oa 0 ca, .slice ob 0 cb] w fun e w' => e = .returned (.bool true) ∧ w = w' := by
  go_enter Tryd.func4, Tryd.ntmps4
  go_wp2
  go_rounds 1
  go_ret
  exact ⟨rfl, rfl⟩

set_option maxRecDepth 100000 in
set_option maxHeartbeats 2000000 in
theorem same_full (g h n ca cb : Nat) (x y z : Nat → Int) (w : World) (hn : n ≤ 1073741824)
    (h1 : ∀ j, j < n → w.cell? ⟨g, j * 3, none⟩ = some (.int .i64 (x j)) ∧ w.cell? ⟨g, j * 3 + 1, none⟩ = some (.int .i64 (y j)) ∧ w.cell? ⟨g, j * 3 + 2, none⟩ = some (.int .i64 (z j)))
    (h2 : ∀ j, j < n → w.cell? ⟨h, j * 3, none⟩ = some (.int .i64 (x j)) ∧ w.cell? ⟨h, j * 3 + 1, none⟩ = some (.int .i64 (y j)) ∧ w.cell? ⟨h, j * 3 + 2, none⟩ = some (.int .i64 (z j))) :
    Calls Tryd.prog 4 #[.slice (some ⟨g, 0, none⟩) n ca, .slice (some ⟨h, 0, none⟩) n cb] w fun e w' => e = .returned (.bool true) ∧ ∃ q, w' = w.drewN q := by
  have H1 := Lib.hid h1
  have H2 := Lib.hid h2
  clear h1 h2
  go_enter Tryd.func4, Tryd.ntmps4
  go_wp2
  go_loopw [5] (fun p wr => ∃ (i : Nat) (q : Nat), i ≤ n ∧ p = .int .i64 i ∧ wr = w.drewN q) (fun p _ => n - (intOf p).toNat)
  case atStart => exact ⟨0, 0, by omega, rfl, rfl⟩
  case round =>
    obtain ⟨i, q, hle, rfl, rfl⟩ := hrel
    by_cases hlt : i < n
    · obtain ⟨a0, a1, a2⟩ := H1.out i hlt
      obtain ⟨b0, b1, b2⟩ := H2.out i hlt
      go_wp2_with fail
      go_quiet (fail)
      go_wp2
      go_roundw
      case rel => exact ⟨i + 1, _, by omega, by go_num, rfl⟩
      case measure => simp [intOf]; omega
    · go_wp2
      go_ret
      exact ⟨rfl, q, rfl⟩

theorem cellsOf_at (D : List Dg) : ∀ (j : Nat) (hj : j < D.length), (cellsOf D)[j * 3]? = some (.int .i64 D[j].code) ∧ (cellsOf D)[j * 3 + 1]? = some (.int .i64 D[j].start) ∧ (cellsOf D)[j * 3 + 2]? = some (.int .i64 D[j].stop) := by
  induction D with
  | nil => intro j hj; simp at hj
  | cons d D ih =>
    intro j hj
    have e : cellsOf (d :: D) = .int .i64 d.code :: .int .i64 d.start :: .int .i64 d.stop :: cellsOf D := rfl
    rw [e]
    cases j with
    | zero => exact ⟨rfl, rfl, rfl⟩
    | succ j =>
      obtain ⟨a, b, c⟩ := ih j (by simpa using hj)
      rw [show (j + 1) * 3 = j * 3 + 1 + 1 + 1 by omega, show j * 3 + 1 + 1 + 1 + 1 = j * 3 + 1 + 1 + 1 + 1 by rfl, show j * 3 + 1 + 1 + 1 + 2 = j * 3 + 2 + 1 + 1 + 1 by omega]
      simp only [List.getElem?_cons_succ, List.getElem_cons_succ]
      exact ⟨a, b, c⟩

theorem own_shape {w : World} {B : Nat} {v : Value} {D : List Dg} (h : w.ownsRow B 27 3 v D.length (cellsOf D)) :
    (D.length = 0 ∧ v = .slice none 0 0) ∨ ∃ g cap, v = .slice (some ⟨g, 0, none⟩) D.length cap ∧
      ∀ j (hj : j < D.length), w.cell? ⟨g, j * 3, none⟩ = some (.int .i64 D[j].code) ∧ w.cell? ⟨g, j * 3 + 1, none⟩ = some (.int .i64 D[j].start) ∧ w.cell? ⟨g, j * 3 + 2, none⟩ = some (.int .i64 D[j].stop) := by
  rcases h.2 with ⟨a, b⟩ | ⟨g, cap, cur, rfl, _, _, _⟩
  · exact .inl ⟨b, a⟩
  · refine .inr ⟨g, cap, rfl, fun j hj => ?_⟩
    have hc := h.cells (g := g) rfl
    obtain ⟨a, b, c⟩ := cellsOf_at D j hj
    have e : ∀ k, ((⟨g, 0, none⟩ : Addr).add k) = ⟨g, k, none⟩ := fun k => by rw [Addr.add_lit, Nat.zero_add]
    exact ⟨by rw [← e]; exact hc _ _ a, by rw [← e]; exact hc _ _ b, by rw [← e]; exact hc _ _ c⟩

theorem same_any {w : World} {B1 B2 : Nat} {v1 v2 : Value} {D : List Dg} (h1 : w.ownsRow B1 27 3 v1 D.length (cellsOf D)) (h2 : w.ownsRow B2 27 3 v2 D.length (cellsOf D)) (hn : D.length ≤ 1073741824) :
    Calls Tryd.prog 4 #[v1, v2] w fun e w' => e = .returned (.bool true) ∧ ∃ q, w' = w.drewN q := by
  have zero : ∀ (oa ob : Option Addr) (n ca cb : Nat), n = 0 → Calls Tryd.prog 4 #[.slice oa n ca, .slice ob n cb] w fun e w' => e = .returned (.bool true) ∧ ∃ q, w' = w.drewN q := by
    rintro oa ob _ ca cb rfl
    exact (same_empty oa ob ca cb w).mono fun e w' ⟨a, b⟩ => ⟨a, 0, b.symm⟩
  rcases own_shape h1 with ⟨z1, rfl⟩ | ⟨g, c1, rfl, k1⟩
  · rcases own_shape h2 with ⟨_, rfl⟩ | ⟨h, c2, rfl, _⟩
    · exact zero none none 0 0 0 rfl
    · rw [z1]
      exact zero none _ 0 0 c2 rfl
  · rcases own_shape h2 with ⟨z2, rfl⟩ | ⟨h, c2, rfl, k2⟩
    · rw [z2]
      exact zero _ none 0 c1 0 rfl
    · have conv : ∀ b, (∀ j (hj : j < D.length), w.cell? ⟨b, j * 3, none⟩ = some (.int .i64 D[j].code) ∧ w.cell? ⟨b, j * 3 + 1, none⟩ = some (.int .i64 D[j].start) ∧ w.cell? ⟨b, j * 3 + 2, none⟩ = some (.int .i64 D[j].stop)) →
          ∀ j, j < D.length → w.cell? ⟨b, j * 3, none⟩ = some (.int .i64 ((D.getD j ⟨0, 0, 0⟩).code)) ∧ w.cell? ⟨b, j * 3 + 1, none⟩ = some (.int .i64 ((D.getD j ⟨0, 0, 0⟩).start : Nat)) ∧ w.cell? ⟨b, j * 3 + 2, none⟩ = some (.int .i64 ((D.getD j ⟨0, 0, 0⟩).stop : Nat)) := fun b hb j hj => by
        have e : D.getD j ⟨0, 0, 0⟩ = D[j] := by simp [List.getD, hj]
        rw [e]
        exact hb j hj
      exact same_full g h D.length c1 c2 (fun j => (D.getD j ⟨0, 0, 0⟩).code) (fun j => ((D.getD j ⟨0, 0, 0⟩).start : Nat)) (fun j => ((D.getD j ⟨0, 0, 0⟩).stop : Nat)) w hn (conv g k1) (conv h k2)
end Go.Proofs.YtebddafnddmgjaaDoor.dec
