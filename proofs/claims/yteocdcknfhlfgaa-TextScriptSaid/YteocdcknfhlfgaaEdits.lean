/-
  Plain: edits of a text: in order, short enough, done.
-/
import Derived.Test.YteocdcknfhlfgaaSet
namespace Go.Proofs.Yteocdcknfhlfgaa.buf
open Go.RowKit

structure Ed where
  a : Int
  b : Int
  s : ByteArray

/-- All in the text, none below the end of the one ahead. -/
def orderB (n : Nat) : Int → List Ed → Bool
  | _, [] => true
  | c, e :: r => inB n e.a e.b && (decide (c ≤ e.a) && orderB n e.b r)
def gone : List Ed → Int
  | [] => 0
  | e :: r => (e.b - e.a) + gone r
def put : List Ed → Nat
  | [] => 0
  | e :: r => e.s.size + put r
def fitsB (n : Nat) (l : List Ed) : Bool := decide ((n : Int) - gone l + (put l : Int) ≤ 16384)
/-- What the edits make of what stands from c on. -/
def upd (T : List UInt8) : Nat → List Ed → List UInt8
  | c, [] => T.drop c
  | c, e :: r => (T.drop c).take (e.a.toNat - c) ++ (e.s.data.toList ++ upd T e.b.toNat r)

theorem inB_yes {n : Nat} {a b : Int} (h : inB n a b = true) : 0 ≤ a ∧ a ≤ b ∧ b ≤ n := of_decide_eq_true h
theorem order_cons {n : Nat} {c : Int} {e : Ed} {r : List Ed} (h : orderB n c (e :: r) = true) : 0 ≤ e.a ∧ e.a ≤ e.b ∧ e.b ≤ n ∧ c ≤ e.a ∧ orderB n e.b r = true := by
  simp only [orderB, Bool.and_eq_true, decide_eq_true_eq] at h
  obtain ⟨h1, h2, h3⟩ := h
  obtain ⟨a, b, d⟩ := inB_yes h1
  exact ⟨a, b, d, h2, h3⟩
theorem order_step {n : Nat} {c : Int} {e : Ed} {r : List Ed} (h1 : inB n e.a e.b = true) (h2 : c ≤ e.a) : orderB n c (e :: r) = orderB n e.b r := by
  simp only [orderB, h1, decide_eq_true h2, Bool.true_and]
theorem order_out {n : Nat} {c : Int} {e : Ed} {r : List Ed} (h1 : inB n e.a e.b = false) : orderB n c (e :: r) = false := by simp only [orderB, h1, Bool.false_and]
theorem order_back {n : Nat} {c : Int} {e : Ed} {r : List Ed} (h2 : ¬ c ≤ e.a) : orderB n c (e :: r) = false := by simp only [orderB, decide_eq_false h2, Bool.false_and, Bool.and_false]
theorem order_gone {n : Nat} : ∀ {l : List Ed} {c : Int}, c ≤ n → orderB n c l = true → 0 ≤ gone l ∧ gone l ≤ n - c := by
  intro l
  induction l with
  | nil => intro c hc _; simp only [gone]; omega
  | cons e r ih =>
    intro c hc h
    obtain ⟨a, b, d, g, k⟩ := order_cons h
    have := ih d k
    simp only [gone]
    omega
theorem upd_length {T : List UInt8} : ∀ {l : List Ed} {c : Nat}, c ≤ T.length → orderB T.length c l = true → ((upd T c l).length : Int) = (T.length : Int) - c - gone l + put l := by
  intro l
  induction l with
  | nil => intro c hc _; simp only [upd, gone, put, List.length_drop]; omega
  | cons e r ih =>
    intro c hc h
    obtain ⟨a, b, d, g, k⟩ := order_cons h
    have := ih (c := e.b.toNat) (by omega) (by rw [Int.toNat_of_nonneg (by omega)]; exact k)
    simp only [upd, gone, put, List.length_append, List.length_take, List.length_drop, size_data]
    omega
theorem drop_head {l : List Ed} {k : Nat} (h : k < l.length) : l.drop k = l[k] :: l.drop (k + 1) := List.drop_eq_getElem_cons h
theorem gone_take (l : List Ed) (k : Nat) (h : k < l.length) : gone (l.take (k + 1)) = gone (l.take k) + (l[k].b - l[k].a) := by
  induction l generalizing k with
  | nil => simp at h
  | cons e r ih =>
    cases k with
    | zero => simp [gone]
    | succ k =>
      simp only [List.take_succ_cons, gone, List.getElem_cons_succ]
      have := ih k (by simpa using h)
      omega
theorem put_take (l : List Ed) (k : Nat) (h : k < l.length) : put (l.take (k + 1)) = put (l.take k) + l[k].s.size := by
  induction l generalizing k with
  | nil => simp at h
  | cons e r ih =>
    cases k with
    | zero => simp [put]
    | succ k =>
      simp only [List.take_succ_cons, put, List.getElem_cons_succ]
      have := ih k (by simpa using h)
      omega
theorem put_take_le (l : List Ed) (k : Nat) : put (l.take k) ≤ put l := by
  induction l generalizing k with
  | nil => simp
  | cons e r ih =>
    cases k with
    | zero => simp [put]
    | succ k => simp only [List.take_succ_cons, put]; have := ih k; omega

/-- The edits in memory. -/
def EdsAt (w : World) (v : Value) (l : List Ed) : Prop :=
  (l = [] ∧ ∃ oa cap, v = .slice oa 0 cap) ∨ ∃ b o cap, v = .slice (some ⟨b, o, none⟩) l.length cap ∧ b < w.heap.size ∧
    ∀ j (hj : j < l.length), w.cell? ⟨b, o + j * 3, none⟩ = some (.int .i64 l[j].a) ∧ w.cell? ⟨b, o + j * 3 + 1, none⟩ = some (.int .i64 l[j].b) ∧ w.cell? ⟨b, o + j * 3 + 2, none⟩ = some (.string l[j].s)
theorem EdsAt.below {w w' : World} {v : Value} {l : List Ed} (h : EdsAt w v l) (hb : Below w.heap.size w w') : EdsAt w' v l := by
  rcases h with h | ⟨b, o, cap, hv, hlt, hc⟩
  · exact .inl h
  · refine .inr ⟨b, o, cap, hv, Nat.lt_of_lt_of_le hlt hb.size, fun j hj => ?_⟩
    obtain ⟨c0, c1, c2⟩ := hc j hj
    exact ⟨(hb.cell hlt).trans c0, (hb.cell hlt).trans c1, (hb.cell hlt).trans c2⟩
end Go.Proofs.Yteocdcknfhlfgaa.buf
