/-
  The contract of edits, with an upper bound; a script's steps in memory; the contract of beyond.
-/
import Derived.Test.YteocdcknfhlfgaaEdits
import Derived.Test.YteocdcknfhlfgaaApplies
namespace Go.Proofs.Yteocdcknfhlfgaa.buf
open Go.RowKit

set_option maxRecDepth 100000 in
set_option maxHeartbeats 2000000 in
theorem sum2_row (b o cap : Nat) (l : List Ed) (w : World) (hl : l.length ≤ 140737488355328)
    (hc : ∀ j (hj : j < l.length), w.cell? ⟨b, o + j * 3, none⟩ = some (.int .i64 l[j].a) ∧ w.cell? ⟨b, o + j * 3 + 1, none⟩ = some (.int .i64 l[j].b) ∧ w.cell? ⟨b, o + j * 3 + 2, none⟩ = some (.string l[j].s)) :
    Calls Try.prog 22 #[.slice (some ⟨b, o, none⟩) l.length cap] w fun e w' => (∃ z : Int, e = .returned (.int .i64 z) ∧ 0 ≤ z ∧ z ≤ (l.length : Int) + 2147483648 ∧ (l.length : Int) ≤ z) ∧ w = w' := by
  have HC := Lib.hid hc
  clear hc
  go_enter Try.func22, Try.ntmps22
  go_wp2
  go_loop [3, 4] (fun n i => ∃ (k : Nat) (z : Int), i = .int .i64 k ∧ k ≤ l.length ∧ n = .int .i64 z ∧ 0 ≤ z ∧ z ≤ (l.length : Int) + 2147483648 ∧ (l.length : Int) ≤ z)
    (fun _ i => l.length - (intOf i).toNat)
  case atStart => exact ⟨0, _, rfl, Nat.zero_le _, rfl, by omega, by omega, by omega⟩
  case round =>
    obtain ⟨k, z, rfl, hk, rfl, hz, hzu, hzl⟩ := hrel
    by_cases hlt : k < l.length
    · by_cases hz2 : z ≤ 1073741824
      · obtain ⟨c0, c1, c2⟩ := HC.out k hlt
        obtain ⟨e, he⟩ : ∃ e, l[k] = e := ⟨_, rfl⟩
        rw [he] at c0 c1 c2
        clear he
        obtain ⟨a, b', x⟩ := e
        simp only at c0 c1 c2
        obtain ⟨m, hm⟩ : ∃ m, min (x.size : Int) 1073741824 = m := ⟨_, rfl⟩
        have hm0 : 0 ≤ m := by omega
        have hm1 : m ≤ 1073741824 := by omega
        have hd : decide (z ≤ 1073741824) = true := decide_eq_true hz2
        go_wp2_with fail
        go_round
        case rel => exact ⟨k + 1, z + m, by go_num, hlt, rfl, by omega, by omega, by omega⟩
        case measure => simp [intOf]; omega
      · have hd : decide (z ≤ 1073741824) = false := decide_eq_false hz2
        go_wp2_with fail
        go_ret
        exact ⟨⟨z, rfl, hz, hzu, hzl⟩, rfl⟩
    · have hd : decide ((k : Int) < (l.length : Int)) = false := decide_eq_false (by omega)
      go_wp2_with fail
      go_ret
      exact ⟨⟨z, rfl, hz, hzu, hzl⟩, rfl⟩

set_option maxRecDepth 100000 in
set_option maxHeartbeats 1000000 in
theorem sum2_none (cap : Nat) (oa : Option Addr) (w : World) :
    Calls Try.prog 22 #[.slice oa 0 cap] w fun e w' => (∃ z : Int, e = .returned (.int .i64 z) ∧ 0 ≤ z ∧ z ≤ (([] : List Ed).length : Int) + 2147483648 ∧ (([] : List Ed).length : Int) ≤ z) ∧ w = w' := by
  go_enter Try.func22, Try.ntmps22
  go_wp2
  go_rounds 1
  go_ret
  exact ⟨⟨0, rfl, Int.le_refl _, by simp, by simp⟩, rfl⟩

theorem sum2_any (v : Value) (l : List Ed) (w : World) (he : EdsAt w v l) (hl : l.length ≤ 140737488355328) :
    Calls Try.prog 22 #[v] w fun e w' => (∃ z : Int, e = .returned (.int .i64 z) ∧ 0 ≤ z ∧ z ≤ (l.length : Int) + 2147483648 ∧ (l.length : Int) ≤ z) ∧ w = w' := by
  rcases he with ⟨rfl, oa, cap, rfl⟩ | ⟨b, o, cap, rfl, hb, hc⟩
  · exact sum2_none cap oa w
  · exact sum2_row b o cap l w hl hc

/-- A step of a script. -/
structure St where
  k : Int
  n : Int
  m : Int
  ev : Value
  es : List Ed
def StepsAt (N : Nat) (w : World) (v : Value) (L : List St) : Prop :=
  (L = [] ∧ ∃ oa cap, v = .slice oa 0 cap) ∨ ∃ b o cap, v = .slice (some ⟨b, o, none⟩) L.length cap ∧ b < w.heap.size ∧
    ∀ j (hj : j < L.length), (w.cell? ⟨b, o + j * 4, none⟩ = some (.int .i64 L[j].k) ∧ w.cell? ⟨b, o + j * 4 + 1, none⟩ = some (.int .i64 L[j].n) ∧ w.cell? ⟨b, o + j * 4 + 2, none⟩ = some (.int .i64 L[j].m) ∧ w.cell? ⟨b, o + j * 4 + 3, none⟩ = some L[j].ev) ∧ EdsAt w L[j].ev L[j].es ∧ L[j].es.length ≤ N
theorem StepsAt.below {N : Nat} {w w' : World} {v : Value} {L : List St} (h : StepsAt N w v L) (hb : Below w.heap.size w w') : StepsAt N w' v L := by
  rcases h with h | ⟨b, o, cap, hv, hlt, hc⟩
  · exact .inl h
  · refine .inr ⟨b, o, cap, hv, Nat.lt_of_lt_of_le hlt hb.size, fun j hj => ?_⟩
    obtain ⟨⟨x, y, z, t⟩, he, hn⟩ := hc j hj
    exact ⟨⟨(hb.cell (p := ⟨b, o + j * 4, none⟩) hlt).trans x, (hb.cell (p := ⟨b, o + j * 4 + 1, none⟩) hlt).trans y, (hb.cell (p := ⟨b, o + j * 4 + 2, none⟩) hlt).trans z, (hb.cell (p := ⟨b, o + j * 4 + 3, none⟩) hlt).trans t⟩, he.below hb, hn⟩

def Few (L : List St) (k : Nat) (z : Int) : Prop := (L.length : Int) ≤ z ∧ ∀ j (hj : j < L.length), j < k → (L[j].es.length : Int) ≤ z
theorem Few.step {L : List St} {k : Nat} {z y : Int} (h : Few L k z) (hk : k < L.length) (hz : 0 ≤ z) (h0 : 0 ≤ y) (hy : (L[k].es.length : Int) ≤ y) : Few L (k + 1) (z + y) := by
  refine ⟨by have := h.1; omega, fun j hj hjk => ?_⟩
  by_cases e : j = k
  · subst e; omega
  · have := h.2 j hj (by omega)
    omega
def Short (L : List St) : Prop := L.length ≤ 16777216 ∧ ∀ j (hj : j < L.length), L[j].es.length ≤ 16777216
theorem Few.short {L : List St} {k : Nat} {z : Int} (h : Few L k z) (hk : L.length ≤ k) (hz : z ≤ 16777216) : Short L :=
  ⟨by have := h.1; omega, fun j hj => by have := h.2 j hj (by omega); omega⟩
def Beyond (L : List St) (w : World) (e : Ending) (w' : World) : Prop := ((e = .returned (.bool false) ∧ Short L) ∨ e = .returned (.bool true)) ∧ w = w'
set_option maxRecDepth 100000 in
set_option maxHeartbeats 2000000 in
theorem beyond_row (s : ByteArray) (b o cap : Nat) (L : List St) (w : World) (hL : L.length ≤ 140737488355328)
    (hc : ∀ j (hj : j < L.length), (w.cell? ⟨b, o + j * 4, none⟩ = some (.int .i64 L[j].k) ∧ w.cell? ⟨b, o + j * 4 + 1, none⟩ = some (.int .i64 L[j].n) ∧ w.cell? ⟨b, o + j * 4 + 2, none⟩ = some (.int .i64 L[j].m) ∧ w.cell? ⟨b, o + j * 4 + 3, none⟩ = some L[j].ev) ∧ EdsAt w L[j].ev L[j].es ∧ L[j].es.length ≤ 140737488355328) :
    Calls Try.prog 11 #[.string s, .slice (some ⟨b, o, none⟩) L.length cap] w (Beyond L w) := by
  have HC := Lib.hid hc
  clear hc
  obtain ⟨m0, hm0⟩ : ∃ m, min (s.size : Int) 1073741824 = m := ⟨_, rfl⟩
  have ha : 0 ≤ m0 := by omega
  have hb2 : m0 ≤ 1073741824 := by omega
  go_enter Try.func11, Try.ntmps11
  go_wp2_with fail
  go_loop [5, 6] (fun n i => ∃ (k : Nat) (z : Int), i = .int .i64 k ∧ k ≤ L.length ∧ n = .int .i64 z ∧ 0 ≤ z ∧ z ≤ 281474976710656 ∧ Few L k z)
    (fun _ i => L.length - (intOf i).toNat)
  case atStart => exact ⟨0, _, rfl, Nat.zero_le _, rfl, by omega, by omega, ⟨by omega, fun j hj h => by omega⟩⟩
  case round =>
    obtain ⟨k, z, rfl, hk, rfl, hz, hzu, hfw⟩ := hrel
    have HFW := Lib.hid hfw
    clear hfw
    by_cases hlt : k < L.length
    · by_cases hz2 : z ≤ 16777216
      · obtain ⟨⟨_, _, _, c3⟩, he, hn⟩ := HC.out k hlt
        have HST := Lib.hid (fun (y : Int) (h0 : 0 ≤ y) (hy : (L[k].es.length : Int) ≤ y) => HFW.out.step hlt hz h0 hy)
        obtain ⟨e, hee⟩ : ∃ e, L[k] = e := ⟨_, rfl⟩
        rw [hee] at c3 he hn HST
        clear hee
        obtain ⟨_, _, _, ev, es⟩ := e
        simp only at c3 he hn HST
        obtain ⟨oa, ec, rfl⟩ := he.slice
        have HE := Lib.hid he
        have hd : decide (z ≤ 16777216) = true := decide_eq_true hz2
        clear he
        go_wp2_with fail
        refine (sum2_any _ es _ HE.out hn).mono ?_
        rintro e w1 ⟨⟨y, rfl, y0, y1, y2⟩, rfl⟩
        have HY := Lib.hid (HST.out y y0 y2)
        go_wp2_with fail
        go_round
        case rel => exact ⟨k + 1, z + y, by go_num, hlt, rfl, by omega, by omega, HY.out⟩
        case measure => simp [intOf]; omega
      · have hd : decide (z ≤ 16777216) = false := decide_eq_false hz2
        have ht : decide (16777216 < z) = true := decide_eq_true (by omega)
        go_wp2_with fail
        go_ret
        exact ⟨.inr rfl, rfl⟩
    · have hd : decide ((k : Int) < (L.length : Int)) = false := decide_eq_false (by omega)
      cases ht : decide (16777216 < z) with
      | true =>
        go_wp2_with fail
        go_ret
        exact ⟨.inr rfl, rfl⟩
      | false =>
        go_wp2_with fail
        go_ret
        exact ⟨.inl ⟨rfl, HFW.out.short (by omega) (by have := of_decide_eq_false ht; omega)⟩, rfl⟩

set_option maxRecDepth 100000 in
set_option maxHeartbeats 1000000 in
theorem beyond_none (s : ByteArray) (cap : Nat) (oa : Option Addr) (w : World) :
    Calls Try.prog 11 #[.string s, .slice oa 0 cap] w (Beyond [] w) := by
  obtain ⟨m0, hm0⟩ : ∃ m, min (s.size : Int) 1073741824 = m := ⟨_, rfl⟩
  have ha : 0 ≤ m0 := by omega
  have hb2 : m0 ≤ 1073741824 := by omega
  go_enter Try.func11, Try.ntmps11
  go_wp2_with fail
  go_loop [5, 6] (fun n i => ∃ z : Int, i = .int .i64 0 ∧ n = .int .i64 z ∧ 0 ≤ z ∧ z ≤ 8589934592)
    (fun _ _ => 0)
  case atStart => exact ⟨_, rfl, rfl, by omega, by omega⟩
  case round =>
    obtain ⟨z, rfl, rfl, hz, hzu⟩ := hrel
    cases ht : decide (16777216 < z) with
    | true =>
      go_wp2_with fail
      go_ret
      exact ⟨.inr rfl, rfl⟩
    | false =>
      go_wp2_with fail
      go_ret
      exact ⟨.inl ⟨rfl, by simp, fun j hj => by simp at hj⟩, rfl⟩

theorem beyond_any (s : ByteArray) (v : Value) (L : List St) (w : World) (h : StepsAt 140737488355328 w v L) (hL : L.length ≤ 140737488355328) :
    Calls Try.prog 11 #[.string s, v] w (Beyond L w) := by
  rcases h with ⟨rfl, oa, cap, rfl⟩ | ⟨b, o, cap, rfl, hb, hc⟩
  · exact beyond_none s cap oa w
  · exact beyond_row s b o cap L w hL hc
end Go.Proofs.Yteocdcknfhlfgaa.buf
