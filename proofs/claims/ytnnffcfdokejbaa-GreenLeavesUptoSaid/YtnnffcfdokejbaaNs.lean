/-
  Taken together.
-/
import Derived.Test.YtnnffcfdokejbaaNl
import Derived.Lib.Strings
namespace Go.Proofs.Ytnnffcfdokejbaa.rd
open Go.RowKit

def B (l : List UInt8) : ByteArray := ⟨l.toArray⟩
theorem bsize (l : List UInt8) : (B l).size = l.length := by simp [B, ByteArray.size]
theorem sdata (s : ByteArray) : s.data.toList.length = s.size := by rw [Array.length_toList]; rfl
theorem b_append (x y : List UInt8) : B x ++ B y = B (x ++ y) := by
  apply ByteArray.ext
  simp [B]
theorem b_extract (s : ByteArray) (i j : Nat) : s.extract i j = B ((s.data.toList.drop i).take (j - i)) := Lib.extract_eq s i j
theorem at_data {s : ByteArray} {i : Nat} (h : i < s.size) : s.data.toList[i]'(by rw [sdata]; exact h) = s[i] := rfl
theorem b_one {s : ByteArray} {i : Nat} (h : i < s.size) : s.extract i (i + 1) = B [s[i]] := by
  have h' : i < s.data.toList.length := by rw [sdata]; exact h
  rw [b_extract, List.drop_eq_getElem_cons h', at_data h, show i + 1 - i = 1 by omega]
  rfl
theorem slice_one (s : ByteArray) (i : Nat) (h : i < s.size) (c : UInt8) (hc : s[i] = c) (u : World) :
    (Instr.slice 9 (.string s) (some (.int .i64 (i : Int))) (some (.int .i64 ((i : Int) + 1))) none).run Try.prog u = .ok (.string (B [c])) u := by
  rw [← hc, ← b_one h]
  exact run_slice_string (P := Try.prog) u 9 s .i64 .i64 i ((i : Int) + 1) Try.underlying9 (by omega) (by omega) (by omega)
theorem slice_mid (s : ByteArray) (a b : Nat) (z y : Int) (hz : z = (a : Int)) (hy : y = (b : Int)) (h1 : a ≤ b) (h2 : b ≤ s.size) (u : World) :
    (Instr.slice 9 (.string s) (some (.int .i64 z)) (some (.int .i64 y)) none).run Try.prog u = .ok (.string (B ((s.data.toList.drop a).take (b - a)))) u := by
  subst hz hy
  rw [← b_extract]
  exact run_slice_string (P := Try.prog) u 9 s .i64 .i64 a (b : Int) Try.underlying9 (by omega) (by omega) (by omega)
theorem cat_eq {x y : List UInt8} (h : x.length + y.length ≤ 9223372036854775807) : Op.stringOp .add (B x) (B y) = pure (.string (B (x ++ y))) := by
  unfold Op.stringOp
  simp only []
  rw [if_neg (by rw [bsize, bsize]; show ¬ ((_ : Nat) : Int) > 9223372036854775807; omega), b_append]
end Go.Proofs.Ytnnffcfdokejbaa.rd
