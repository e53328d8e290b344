/-
  The contract of still: what was lent is as it was; then it is written over.
-/
import Derived.Test.YteocdcknfhlfgaaLent
namespace Go.Proofs.Yteocdcknfhlfgaa.buf
open Go.RowKit

/-- A row of edits: where it lies, and what its cells say. -/
theorem Eds.shape {w : World} {B : Nat} {v : Value} {l : List Ed} (h : Eds w B v l) (hl : 0 < l.length) :
    ∃ X cap cur, v = .slice (some ⟨X, 0, none⟩) l.length cap ∧ B ≤ X ∧ w.heap[X]? = some (.cells cur 60 (0, 0)) ∧ l.length * 3 ≤ cur.size ∧
      ∀ j (hj : j < l.length), w.cell? ⟨X, j * 3, none⟩ = some (.int .i64 l[j].a) ∧ w.cell? ⟨X, j * 3 + 1, none⟩ = some (.int .i64 l[j].b) ∧ w.cell? ⟨X, j * 3 + 2, none⟩ = some (.string l[j].s) := by
  rcases h.2 with ⟨_, b⟩ | ⟨X, cap, cur, rfl, hB, hg, hn, _, hsz, _⟩
  · omega
  · refine ⟨X, cap, cur, rfl, hB, hg, by omega, fun j hj => ?_⟩
    have hc := World.ownsRow.cells h (g := X) rfl
    obtain ⟨x, y, z⟩ := edCells_get l j hj
    have hx := hc _ _ x
    have hy := hc _ _ y
    have hz := hc _ _ z
    rw [Addr.add_lit, Nat.zero_add] at hx hy hz
    exact ⟨hx, hy, hz⟩

/-- Where the writing over stands. -/
structure Spoil (B X m : Nat) (w wr : World) : Prop where
  row : ∃ cur, wr.heap[X]? = some (.cells cur 60 (0, 0)) ∧ cur.size = m
  below : Below B w wr
  save : Save w.heap.size X w wr
theorem Spoil.put {B X m : Nat} {w wr : World} (h : Spoil B X m w wr) (hB : B ≤ X) (j : Nat) (u : Value) : Spoil B X m w (wr.setCell ⟨X, j, none⟩ u) := by
  obtain ⟨cur, h1, h2⟩ := h.row
  exact ⟨⟨_, heap_setCell_same wr X j cur _ u h1, by simpa using h2⟩, h.below.setCell (p := ⟨X, j, none⟩) hB u, h.save.setCell j u⟩
theorem Spoil.drewN {B X m : Nat} {w wr : World} (h : Spoil B X m w wr) (q : Nat) : Spoil B X m w (wr.drewN q) := ⟨h.row, ⟨h.below.os, h.below.tape, h.below.output, h.below.size, h.below.block⟩, h.save.drewN q⟩
theorem Spoil.at {B X m : Nat} {w wr : World} (h : Spoil B X m w wr) (j : Nat) (hj : j < m) : (∃ u, wr.cell? ⟨X, j, none⟩ = some u) ∧ wr.frozen? ⟨X, j, none⟩ = false := by
  obtain ⟨cur, h1, h2⟩ := h.row
  refine ⟨⟨cur[j]'(by omega), ?_⟩, frozen_of_row wr X j cur _ h1⟩
  simp [World.cell?, h1, h2, hj]

set_option maxRecDepth 100000 in
set_option maxHeartbeats 2000000 in
theorem still_any (X cap : Nat) (v : Value) (B : Nat) (l : List Ed) (w : World) (hx : Eds w B (.slice (some ⟨X, 0, none⟩) (l.length + 2) cap) (l ++ [markE, behindE])) (he : EdsAt w v l) (hl : l.length ≤ 4294967296) :
    Calls Try.prog 16 #[.slice (some ⟨X, 0, none⟩) (l.length + 2) cap, v] w fun e w' => e = .returned (.bool true) ∧ Save w.heap.size X w w' := by
  have hlen : (l ++ [markE, behindE]).length = l.length + 2 := by simp
  obtain ⟨X', cap', cur, hxx, hBX, hX, hsz, hc⟩ := hx.shape (by omega)
  obtain ⟨rfl, rfl⟩ : X = X' ∧ cap = cap' := by
    simp only [Value.slice.injEq, Option.some.injEq, Addr.mk.injEq] at hxx
    exact ⟨hxx.1.1, hxx.2.2⟩
  clear hxx
  rw [hlen] at hsz
  have m1 : w.cell? ⟨X, l.length * 3 + 2, none⟩ = some (.string ⟨#[109, 97, 114, 107]⟩) := by
    have := (hc l.length (by omega)).2.2
    simpa [markE] using this
  have m2 : w.cell? ⟨X, (l.length + 1) * 3 + 2, none⟩ = some (.string ⟨#[98, 101, 104, 105, 110, 100]⟩) := by
    have := (hc (l.length + 1) (by omega)).2.2
    simpa [behindE] using this
  have hcl : ∀ j (hj : j < l.length), w.cell? ⟨X, j * 3, none⟩ = some (.int .i64 l[j].a) ∧ w.cell? ⟨X, j * 3 + 1, none⟩ = some (.int .i64 l[j].b) ∧ w.cell? ⟨X, j * 3 + 2, none⟩ = some (.string l[j].s) := fun j hj => by
    have := hc j (by omega)
    simpa [List.getElem_append_left hj] using this
  obtain ⟨oa, vcap, hv⟩ := he.slice
  subst hv
  have hve : ∀ j (hj : j < l.length), ∃ b o, oa = some ⟨b, o, none⟩ ∧ w.cell? ⟨b, o + j * 3, none⟩ = some (.int .i64 l[j].a) ∧ w.cell? ⟨b, o + j * 3 + 1, none⟩ = some (.int .i64 l[j].b) ∧ w.cell? ⟨b, o + j * 3 + 2, none⟩ = some (.string l[j].s) := fun j hj => by
    rcases he with ⟨rfl, _⟩ | ⟨b, o, cap, hv, _, h⟩
    · simp at hj
    · simp only [Value.slice.injEq] at hv
      exact ⟨b, o, hv.1, h j hj⟩
  have HC := Lib.hid hcl
  have HV := Lib.hid hve
  have HX := Lib.hid (show Spoil B X cur.size w w from ⟨⟨cur, hX, rfl⟩, Below.refl _ _, Save.refl _ _ _⟩)
  clear hx he hc hcl hve hX hlen
  have e0 : ((l.length + 2 : Nat) : Int) = (l.length : Int) + 2 := by omega
  have hi1 : (0 : Int) ≤ (l.length : Int) := by omega
  go_enter Try.func16, Try.ntmps16
  go_wp2_with fail
  go_loopw [6, 7] (fun c i wr => ∃ (k q : Nat), i = .int .i64 k ∧ k ≤ l.length ∧ c = .bool true ∧ wr = w.drewN q)
    (fun _ i _ => l.length - (intOf i).toNat)
  case atStart => exact ⟨0, 0, rfl, Nat.zero_le _, rfl, rfl⟩
  case round =>
    obtain ⟨k, q, rfl, hk, rfl, rfl⟩ := hrel
    by_cases hlt : k < l.length
    · obtain ⟨c0, c1, c2⟩ := HC.out k hlt
      obtain ⟨b, o, rfl, d0, d1, d2⟩ := HV.out k hlt
      obtain ⟨e, hee⟩ : ∃ e, l[k] = e := ⟨_, rfl⟩
      rw [hee] at c0 c1 c2 d0 d1 d2
      clear hee m1 m2
      obtain ⟨a, b', t⟩ := e
      simp only at c0 c1 c2 d0 d1 d2
      have k0 : (0 : Int) ≤ (k : Int) := by omega
      have k1 : (k : Int) < (l.length : Int) + 2 := by omega
      have k2 : (k : Int) < (l.length : Int) := by omega
      go_wp2_with fail
      go_quiet (fail)
      go_wp2_with fail
      go_roundw
      case rel => exact ⟨k + 1, _, by go_num, hlt, rfl, rfl⟩
      case measure => simp [intOf]; omega
    · clear m1 m2
      go_wp2_with fail
      go_loopw [8] (fun i wr => ∃ (k : Nat), i = .int .i64 k ∧ k ≤ l.length + 2 ∧ Spoil B X cur.size w wr)
        (fun i _ => l.length + 2 - (intOf i).toNat)
      case atStart => exact ⟨0, rfl, Nat.zero_le _, HX.out.drewN _⟩
      case round =>
        obtain ⟨j, rfl, hj, hsp⟩ := hrel
        have HS := Lib.hid hsp
        clear hsp
        by_cases hjlt : j < l.length + 2
        · have j0 : (0 : Int) ≤ (j : Int) := by omega
          have j1 : (j : Int) < (l.length : Int) + 2 := by omega
          obtain ⟨⟨u0, f0⟩, g0⟩ := HS.out.at (j * 3) (by omega)
          obtain ⟨⟨u1, f1⟩, g1⟩ := HS.out.at (j * 3 + 1) (by omega)
          obtain ⟨⟨u2, f2⟩, g2⟩ := HS.out.at (j * 3 + 2) (by omega)
          have HP := Lib.hid (((HS.out.put hBX (j * 3) (.int .i64 0)).put hBX (j * 3 + 1) (.int .i64 0)).put hBX (j * 3 + 2) (.string ⟨#[115, 112, 111, 105, 108, 116]⟩))
          go_wp2_with fail
          go_roundw
          case rel => exact ⟨j + 1, by go_num, hjlt, HP.out⟩
          case measure => simp [intOf]; omega
        · go_wp2_with fail
          go_ret
          exact ⟨rfl, HS.out.save⟩
end Go.Proofs.Yteocdcknfhlfgaa.buf
