/-
  The contracts of the reference's Place, Line, At.
-/
import Derived.Test.YteocdcknfhlfgaaRefAsks
namespace Go.Proofs.Yteocdcknfhlfgaa.buf
open Go.RowKit

set_option maxRecDepth 100000 in
set_option maxHeartbeats 1000000 in
theorem refPlace_out (h : Nat) (s : ByteArray) (p : Int) (w : World) (hR : RefAt w h s) (hp : p < 0 ∨ (s.size : Int) < p) :
    Calls Try.prog 34 #[.pointer (some ⟨h, 0, none⟩), .int .i64 p] w fun e w' => e = .returned (.tuple #[.int .i64 0, .int .i64 0, .int .i64 10]) ∧ w = w' := by
  have c0 := hR.cell
  clear hR
  by_cases h0 : p < 0
  · have t1 : decide (p < 0) = true := decide_eq_true h0
    clear hp
    go_enter Try.func34, Try.ntmps34
    go_wp2_with fail
    go_ret3
    exact ⟨rfl, rfl⟩
  · have t1 : decide (p < 0) = false := decide_eq_false h0
    have t2 : decide ((s.size : Int) < p) = true := decide_eq_true (by omega)
    clear hp
    go_enter Try.func34, Try.ntmps34
    go_wp2_with fail
    go_ret3
    exact ⟨rfl, rfl⟩

set_option maxRecDepth 100000 in
set_option maxHeartbeats 2000000 in
theorem refPlace_ok (h : Nat) (s : ByteArray) (p : Nat) (w : World) (hR : RefAt w h s) (hs : s.size ≤ 16384) (hp : p ≤ s.size) :
    Calls Try.prog 34 #[.pointer (some ⟨h, 0, none⟩), .int .i64 p] w fun e w' => (∃ (l F : Nat), InLine s.data.toList p l ∧ (begins s.data.toList)[l]? = some F ∧ e = .returned (.tuple #[.int .i64 l, .int .i64 ((p : Int) - (F : Int)), .int .i64 0])) ∧ w = w' := by
  have c0 := hR.cell
  have hsd := size_data s
  clear hR
  have t1 : decide ((p : Int) < 0) = false := decide_eq_false (by omega)
  have t2 : decide ((s.size : Int) < (p : Int)) = false := decide_eq_false (by omega)
  go_enter Try.func34, Try.ntmps34
  go_wp2_with fail
  go_loopw [7, 8, 9] (fun c b i wr => ∃ (k l F : Nat), i = .int .i64 k ∧ k ≤ p ∧ c = .int .i64 l ∧ b = .int .i64 F ∧ l ≤ k ∧ F ≤ k ∧ (InLine s.data.toList k l ∧ (begins s.data.toList)[l]? = some F) ∧ wr = w)
    (fun _ _ i _ => p - (intOf i).toNat)
  case atStart => exact ⟨0, 0, 0, rfl, Nat.zero_le _, rfl, rfl, Nat.le_refl _, Nat.le_refl _, ⟨InLine.zero _, rfl⟩, rfl⟩
  case round =>
    obtain ⟨k, l, F, rfl, hk, rfl, rfl, hl, hF, hin, rfl⟩ := hrel
    have HI := Lib.hid hin
    clear hin
    by_cases hlt : k < p
    · have hlts : k < s.size := by omega
      have hd : k < s.data.toList.length := by omega
      have HX := Lib.hid (show s.data.toList[k]? = some (s.data.toList[k]) from List.getElem?_eq_getElem hd)
      obtain ⟨c, hcc⟩ : ∃ c, s[k]'hlts = c := ⟨_, rfl⟩
      have hdc : s.data.toList[k] = c := by rw [← hcc]; rfl
      rw [hdc] at HX
      clear hdc hd hsd
      by_cases h10 : c = 10
      · have hcz : ((c.toNat : Int) == 10) = true := by rw [h10]; rfl
        have hq : s.data.toList[k]? = some 10 := by rw [HX.out, h10]
        have HY := Lib.hid (show InLine s.data.toList (k + 1) (l + 1) ∧ (begins s.data.toList)[l + 1]? = some (k + 1) from ⟨HI.out.1.next hq, by obtain ⟨a, b⟩ := HI.out.1.stop hq; rw [List.getElem?_eq_getElem a, b]⟩)
        clear h10 HX hq
        go_wp2_with fail
        go_roundw
        case rel => exact ⟨k + 1, l + 1, k + 1, by go_num, by omega, by go_num, by go_num, by omega, by omega, HY.out, trivial⟩
        case measure => simp [intOf]; omega
      · have hcz : ((c.toNat : Int) == 10) = false := beq_eq_false_iff_ne.2 (fun e => h10 (UInt8.toNat_inj.1 (by rw [show c.toNat = 10 from (by omega)]; rfl)))
        have HY := Lib.hid (show InLine s.data.toList (k + 1) l from HI.out.1.on (by rw [HX.out]; intro e; exact h10 (Option.some.inj e)))
        clear h10 HX
        go_wp2_with fail
        go_roundw
        case rel => exact ⟨k + 1, l, F, by go_num, by omega, rfl, rfl, by omega, by omega, ⟨HY.out, HI.out.2⟩, trivial⟩
        case measure => simp [intOf]; omega
    · obtain rfl : k = p := by omega
      have e1 : IntKind.i64.wrap ((k : Int) - (F : Int)) = (k : Int) - (F : Int) := IntWalk.i64_in _ (by omega)
      go_wp2_with fail
      go_ret3
      exact ⟨⟨l, F, HI.out.1, HI.out.2, rfl⟩, rfl⟩
end Go.Proofs.Yteocdcknfhlfgaa.buf
