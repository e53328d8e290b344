/-
  The examples at the head of the laws.
-/
import Derived.Test.YtbmmbaagcglomaaDoorRune
import Derived.Test.YtbmmbaagcglomaaDoorDigits
namespace Go.Proofs.YtbmmbaagcglomaaDoor.tok
open Go.RowKit

def Gives (v : Value) (w : World) (e : Ending) (w' : World) : Prop := e = .returned v ∧ Below w.heap.size w w'
theorem show1 (w : World) : Calls Tryd.prog 21 #[.string { data := #[38, 94, 61, 120] }] w (Gives (.tuple #[.int .i64 41, .int .i64 3]) w) := by
  refine (operator_any ⟨#[38, 94, 61, 120]⟩ w).mono ?_
  rintro e w' ⟨rfl, hb⟩
  have e : opOf (⟨#[38, 94, 61, 120]⟩ : ByteArray).data.toList = (41, 3) := by kernel_rfl
  rw [e]
  exact ⟨rfl, hb⟩
theorem show2 (w : World) : Calls Tryd.prog 25 #[.string { data := #[48, 120, 95, 70, 102] }] w (Gives (.tuple #[.int .i64 16, .string (B [70, 102]), .bool true]) w) := by
  refine (digits_any ⟨#[48, 120, 95, 70, 102]⟩ w (by decide)).mono ?_
  rintro e w' ⟨rfl, hb⟩
  have e : numOf (⟨#[48, 120, 95, 70, 102]⟩ : ByteArray).data.toList = (16, [70, 102], true) := by kernel_rfl
  rw [e]
  exact ⟨rfl, hb⟩
theorem show3 (w : World) (hE : Env w) : Calls Tryd.prog 27 #[.string { data := #[34, 97, 92, 120, 52, 49, 92, 34, 34] }] w (Gives (.tuple #[.string (B [97, 65, 34]), .int .i64 0, .int .i64 0]) w) := by
  refine (unquote_any ⟨#[34, 97, 92, 120, 52, 49, 92, 34, 34]⟩ w hE (by decide)).mono ?_
  rintro e w' ⟨rfl, hb⟩
  have e : unqOf (⟨#[34, 97, 92, 120, 52, 49, 92, 34, 34]⟩ : ByteArray).data.toList = ([97, 65, 34], 0, 0) := by kernel_rfl
  rw [e]
  exact ⟨rfl, hb⟩
theorem show4 (w : World) (hE : Env w) : Calls Tryd.prog 29 #[.string { data := #[39, 92, 110, 39] }] w (Gives (.tuple #[.int .i64 10, .int .i64 0, .int .i64 0]) w) := by
  refine (rune_any ⟨#[39, 92, 110, 39]⟩ w hE (by decide)).mono ?_
  rintro e w' ⟨rfl, hb⟩
  have e : runeOf (⟨#[39, 92, 110, 39]⟩ : ByteArray).data.toList = (10, 0, 0) := by kernel_rfl
  rw [e]
  exact ⟨rfl, hb⟩
theorem show5 (w : World) : Calls Tryd.prog 23 #[.string { data := #[102, 117, 110, 99] }] w (Gives (.int .i64 79) w) := by
  refine (keyword_any ⟨#[102, 117, 110, 99]⟩ w).mono ?_
  rintro e w' ⟨rfl, hb⟩
  have e : kwOf (⟨#[102, 117, 110, 99]⟩ : ByteArray).data.toList = 79 := by kernel_rfl
  rw [e]
  exact ⟨rfl, hb⟩
theorem show6 (w : World) : Calls Tryd.prog 11 #[.int .i64 39] w (Gives (.string (B [60, 60, 61])) w) := by
  refine (name_any 39 w).mono ?_
  rintro e w' ⟨rfl, hb⟩
  have e : nameOf 39 = [60, 60, 61] := by kernel_rfl
  rw [e]
  exact ⟨rfl, hb⟩

set_option maxRecDepth 100000 in
set_option maxHeartbeats 2000000 in
theorem shown_any (w : World) (hE : Env w) : Calls Tryd.prog 10 #[] w (Gives (.bool true) w) := by
  have q1 : ((B [70, 102]).toList == [70, 102]) = true := by rw [blist]; rfl
  have q2 : ((B [97, 65, 34]).toList == [97, 65, 34]) = true := by rw [blist]; rfl
  have q3 : ((B [60, 60, 61]).toList == [60, 60, 61]) = true := by rw [blist]; rfl
  have HE := Lib.hid hE
  clear hE
  go_enter Tryd.func10, Tryd.ntmps10
  go_wp2_with (go_at_call 21; refine (show1 _).mono ?_; rintro e w1 ⟨rfl, hb1⟩; have B1 := Lib.hid hb1; have z1 := hb1.size; clear hb1)
  refine (show2 _).mono ?_
  rintro e w2 ⟨rfl, hb2⟩
  have B2 := Lib.hid (B1.out.trans (hb2.mono z1))
  have z2 := B2.out.size
  clear hb2 B1 z1
  go_wp2_with fail
  refine (show3 _ (HE.out.below B2.out)).mono ?_
  rintro e w3 ⟨rfl, hb3⟩
  have B3 := Lib.hid (B2.out.trans (hb3.mono z2))
  have z3 := B3.out.size
  clear hb3 B2 z2
  go_wp2_with fail
  refine (show4 _ (HE.out.below B3.out)).mono ?_
  rintro e w4 ⟨rfl, hb4⟩
  have B4 := Lib.hid (B3.out.trans (hb4.mono z3))
  have z4 := B4.out.size
  clear hb4 B3 z3
  go_wp2_with fail
  refine (show5 _).mono ?_
  rintro e w5 ⟨rfl, hb5⟩
  have B5 := Lib.hid (B4.out.trans (hb5.mono z4))
  have z5 := B5.out.size
  clear hb5 B4 z4
  go_wp2_with fail
  refine (show6 _).mono ?_
  rintro e w6 ⟨rfl, hb6⟩
  have B6 := Lib.hid (B5.out.trans (hb6.mono z5))
  clear hb6 B5 z5
  go_wp2_with fail
  go_ret
  exact ⟨rfl, B6.out⟩
end Go.Proofs.YtbmmbaagcglomaaDoor.tok
