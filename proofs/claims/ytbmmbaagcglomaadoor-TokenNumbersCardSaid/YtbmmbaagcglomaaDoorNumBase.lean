/-
  The law TokenNumbers: what its rounds ask.
-/
import Derived.Test.YtbmmbaagcglomaaDoorShown
import Derived.Test.YtbmmbaagcglomaaDoorHeads
import Derived.Test.YtbmmbaagcglomaaDoorBackBase
namespace Go.Proofs.YtbmmbaagcglomaaDoor.tok
open Go.RowKit

theorem bars_length (d : List UInt8) : (bars d).length = 2 * d.length := by
  induction d with
  | nil => rfl
  | cons c d ih => show (bars d).length + 1 + 1 = _; rw [ih]; simp; omega
theorem bars_append (a b : List UInt8) : bars (a ++ b) = bars a ++ bars b := by simp [bars]
theorem sep_length (d : List UInt8) : (sep d).length ≤ 2 * d.length := by
  cases d with
  | nil => simp [sep]
  | cons c d => show (bars d).length + 1 ≤ _; rw [bars_length]; simp; omega
theorem t_length (h d : List UInt8) : (tOf h d).length ≤ h.length + 2 * d.length := by
  unfold tOf
  split
  · have := sep_length d; omega
  · rw [List.length_append, bars_length]; omega
def DigitsCalls (x : List UInt8) (b : Int) (d : List UInt8) (ok : Bool) : Prop := Hid (∀ u : World, Calls Tryd.prog 25 #[.string (B x)] u (Gives (.tuple #[.int .i64 b, .string (B d), .bool ok]) u))
theorem digits_calls {x d : List UInt8} {b : Nat} {ok : Bool} (hx : x.length ≤ 16384) (h : numOf x = (b, d, ok)) : DigitsCalls x (b : Nat) d ok := Lib.hid (fun u => by
  have := digits_any (B x) u (by rw [bsize]; exact hx)
  rw [bdata, h] at this
  exact this)
theorem b_get (d : List UInt8) (k : Nat) (_h : k < d.length) (h' : k < (B d).size) : (B d)[k]'h' = d[k] := by
  have e := at_data (s := B d) h'
  rw [← e]
  exact List.getElem_of_eq (bdata d) _
theorem slice_b (d : List UInt8) (k : Nat) (h : k < d.length) (u : World) :
    (Instr.slice 9 (.string (B d)) (some (.int .i64 (k : Int))) (some (.int .i64 ((k : Int) + 1))) none).run Tryd.prog u = .ok (.string (B [d[k]])) u :=
  slice_one (B d) k (by rw [bsize]; exact h) d[k] (b_get d k h (by rw [bsize]; exact h)) u
theorem tN_succ (h d : List UInt8) (k : Nat) (hk : k < d.length) : h ++ bars (d.take (k + 1)) = h ++ bars (d.take k) ++ [95, d[k]] := by
  rw [List.take_succ_eq_append_getElem hk, bars_append]
  simp [bars]
theorem sep_snoc (d : List UInt8) (c : UInt8) (h : d ≠ []) : sep (d ++ [c]) = sep d ++ [95, c] := by
  cases d with
  | nil => exact absurd rfl h
  | cons a d => show a :: bars (d ++ [c]) = _; rw [bars_append]; simp [sep, bars]
theorem tE_succ (d : List UInt8) (k : Nat) (hk : k < d.length) (h0 : 0 < k) : sep (d.take (k + 1)) = sep (d.take k) ++ [95, d[k]] := by
  rw [List.take_succ_eq_append_getElem hk, sep_snoc _ _ (List.ne_nil_of_length_pos (by rw [List.length_take]; omega))]
theorem tE_one (d : List UInt8) (hk : 0 < d.length) : sep (d.take 1) = [d[0]] := by
  cases d with
  | nil => simp at hk
  | cons a d => rfl
theorem bars_take (d : List UInt8) (k : Nat) (h : k ≤ d.length) : (bars (d.take k)).length = 2 * k := by rw [bars_length, List.length_take]; omega
theorem sep_take (d : List UInt8) (k : Nat) (h : k ≤ d.length) : (sep (d.take k)).length ≤ 2 * k := by have := sep_length (d.take k); rw [List.length_take] at this; omega
end Go.Proofs.YtbmmbaagcglomaaDoor.tok
