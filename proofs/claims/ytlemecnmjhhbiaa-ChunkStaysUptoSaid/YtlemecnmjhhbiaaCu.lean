/-
  Layer 4: the law ChunkStays, as a call.
-/
import Derived.Test.YtlemecnmjhhbiaaCm
import Derived.Test.YtlemecnmjhhbiaaCt
namespace Go.Proofs.Ytlemecnmjhhbiaa.ck
open Go.RowKit
set_option linter.unusedVariables false

def plainT (K : List Int) : List Tk := K.map fun k => ⟨k, 0, 0⟩
theorem plainT_length (K : List Int) : (plainT K).length = K.length := by simp [plainT]
theorem plainT_succ (K : List Int) (n : Nat) (h : n < K.length) : plainT (K.take (n + 1)) = plainT (K.take n) ++ [⟨K[n], 0, 0⟩] := by
  unfold plainT
  rw [← List.take_append_getElem h, List.map_append]
  rfl

set_option maxRecDepth 100000 in
set_option maxHeartbeats 4000000 in
theorem stays_low (v vp : Value) (T : List Tk) (K : List Int) (x : Int) (w : World) (h1 : Row tk w v T) (h2 : Row it w vp K) (hx : x < 0) :
    Calls Try.prog 8 #[v, .int .i64 x, vp] w (True1 w) := by
  have HS := Lib.hid (shown_any w)
  obtain ⟨o, cap, rfl⟩ := h1.len
  obtain ⟨ob, cb, rfl⟩ := h2.len
  have d1 : decide (x < 0) = true := decide_eq_true hx
  clear h1 h2 hx
  go_enter Try.func8, Try.ntmps8
  go_wp2_with (go_at_call 9; refine HS.out.mono ?_; rintro e w1 ⟨rfl, hb1⟩; have HB1 := Lib.hid hb1; clear hb1 HS)
  go_ret
  exact ⟨rfl, HB1.out⟩
set_option maxRecDepth 100000 in
set_option maxHeartbeats 4000000 in
theorem stays_high (v vp : Value) (T : List Tk) (K : List Int) (x : Int) (w : World) (h1 : Row tk w v T) (h2 : Row it w vp K) (h0 : ¬ x < 0) (hx : (T.length : Int) ≤ x) :
    Calls Try.prog 8 #[v, .int .i64 x, vp] w (True1 w) := by
  have HS := Lib.hid (shown_any w)
  obtain ⟨o, cap, rfl⟩ := h1.len
  obtain ⟨ob, cb, rfl⟩ := h2.len
  have d1 : decide (x < 0) = false := decide_eq_false h0
  have d2 : decide ((T.length : Int) ≤ x) = true := decide_eq_true hx
  clear h1 h2 hx h0
  generalize T.length = len at *
  go_enter Try.func8, Try.ntmps8
  go_wp2_with (go_at_call 9; refine HS.out.mono ?_; rintro e w1 ⟨rfl, hb1⟩; have HB1 := Lib.hid hb1; clear hb1 HS)
  go_ret
  exact ⟨rfl, HB1.out⟩
set_option maxRecDepth 100000 in
set_option maxHeartbeats 4000000 in
theorem stays_bear (v vp : Value) (T : List Tk) (K : List Int) (a : Nat) (w : World) (h1 : Row tk w v T) (h2 : Row it w vp K) (ha : a < T.length) (hb : bear (T[a]).k = true) :
    Calls Try.prog 8 #[v, .int .i64 (a : Int), vp] w (True1 w) := by
  have HS := Lib.hid (shown_any w)
  obtain ⟨gl, ol, o, cap, hcl, rfl, ho, hcell⟩ := h1
  have ho := ho (by intro e; rw [e] at ha; simp at ha)
  subst ho
  have HA : Hid (∀ u, Below w.heap.size w u → u.cell? ⟨gl, ol + a * 3, none⟩ = some (.int .i64 (T[a]).k)) := Lib.hid (fun u hu => (cells_tk (hcell.below hu) a ha).1)
  obtain ⟨ob, cb, rfl⟩ := h2.len
  generalize T[a] = t at *
  obtain ⟨z, i1, i2⟩ := t
  simp only [] at HA hb
  have HE := Lib.hid (fun u => bears_any z u)
  rw [hb] at HE
  have d2 : decide ((T.length : Int) ≤ (a : Int)) = false := decide_eq_false (by omega)
  have d2' : decide (T.length ≤ a) = false := decide_eq_false (by omega)
  clear h2 hcell hb
  generalize T.length = len at *
  go_enter Try.func8, Try.ntmps8
  go_wp2_with (first
    | (go_at_call 9; refine HS.out.mono ?_; rintro e w1 ⟨rfl, hb1⟩; have HB1 := Lib.hid hb1; have c0 := HA.out _ hb1; clear hb1 HS)
    | (go_at_call 18; refine (HE.out _).mono ?_; rintro e w2 ⟨rfl, rfl⟩))
  go_ret
  exact ⟨rfl, HB1.out⟩
end Go.Proofs.Ytlemecnmjhhbiaa.ck
