/-
  lexer.run, lexer.right, lexer.wrong.
-/
import Derived.Test.YtjbamlmdeopcaaaDoorLa
import Derived.Test.YtjbamlmdeopcaaaDoorDigits
import Derived.RegionTactic
import Derived.ChangeAlike
import Derived.Deep.RegionHeld3
namespace Go.Proofs.YtjbamlmdeopcaaaDoor.lx
open Go.RowKit Go.Proofs.YtjbamlmdeopcaaaDoor.tok

set_option maxRecDepth 100000 in
set_option maxHeartbeats 2000000 in
theorem run_any (k : Nat) (p : UInt8 → Bool) (hk : Asked k p) (ek : Enters Tryd.prog k) (s : ByteArray) (w : World) (hs : s.size ≤ 9223372036854775807) :
    Calls Tryd.prog 14 #[.string s, .func (.func k) #[] #[]] w fun e w' => e = .returned (.int .i64 (runL p s.data.toList)) ∧ w = w' := by
  unfold Enters at ek
  have HK := Lib.hid hk
  clear hk
  go_enter Tryd.func14, Tryd.ntmps14
  go_wp2
  go_loop [5] (fun i => ∃ n : Nat, n ≤ s.size ∧ i = .int .i64 n ∧ ∀ j, j < n → ∀ h : j < s.data.toList.length, p s.data.toList[j] = true) (fun i => s.size - (intOf i).toNat)
  case atStart => exact ⟨0, Nat.zero_le _, rfl, fun j hj => by omega⟩
  case round =>
    obtain ⟨n, hn, rfl, hb⟩ := hrel
    have HB := Lib.hid hb
    clear hb
    have hsd := sdata s
    have HD := Lib.hid hsd
    clear hsd
    by_cases hlt : n < s.size
    · obtain ⟨c, hc⟩ : ∃ c, s[n]'hlt = c := ⟨_, rfl⟩
      have hix : ∀ u : World, (Instr.index 9 (.string s) (.int .i64 (n : Int))).run Tryd.prog u = .ok (.int .u8 (c.toNat : Int)) u := fun u => by rw [← hc]; exact index_at s _ n rfl hlt u
      have HC : Hid (∀ h : n < s.data.toList.length, s.data.toList[n] = c) := Lib.hid (fun _ => by rw [← hc]; rfl)
      have hd : decide ((n : Int) < (s.size : Int)) = true := decide_eq_true (by omega)
      clear hc
      cases hp : p c with
      | true =>
        have HP := Lib.hid hp
        clear hp
        go_wp2_with (go_at_fn k; refine (HK.out c _).mono ?_; rintro e w' ⟨rfl, rfl⟩; rw [HP.out])
        go_round
        case rel => exact ⟨n + 1, by omega, by go_num, fun j hj h => by
                      by_cases e : j = n
                      · subst e; rw [HC.out h]; exact HP.out
                      · exact HB.out j (by omega) h⟩
        case measure => simp [intOf]; omega
      | false =>
        have HP := Lib.hid hp
        clear hp
        go_wp2_with (go_at_fn k; refine (HK.out c _).mono ?_; rintro e w' ⟨rfl, rfl⟩; rw [HP.out])
        go_ret
        have hl : n < s.data.toList.length := by rw [HD.out]; exact hlt
        exact ⟨by rw [runL_more hl HB.out hl (by rw [HC.out hl]; exact HP.out)]; rfl, rfl⟩
    · have hd : decide ((n : Int) < (s.size : Int)) = false := decide_eq_false (by omega)
      go_wp2_with fail
      go_ret
      exact ⟨by rw [runL_all (fun j h => HB.out j (by rw [HD.out] at h; omega) h), HD.out, show n = s.size by omega]; rfl, rfl⟩

/-- A token and what is said of it, at a place. -/
def Told (n : Nx) (at_ : Nat) (w : World) (e : Ending) (w' : World) : Prop :=
  ∃ x y : Int, e = .returned (.tuple #[.agg #[.int .i64 n.kind, .int .i64 (at_ : Int), .int .i64 ((at_ : Int) + (n.width : Int))], .agg #[.int .i64 n.code, .int .i64 x, .int .i64 y]]) ∧
    (n.code ≠ 0 → x = (at_ : Int) + (n.off : Int) ∧ y = (at_ : Int) + (n.off : Int) + (n.dw : Int)) ∧ Below w.heap.size w w'
set_option maxRecDepth 100000 in
set_option maxHeartbeats 1000000 in
theorem right_any (kind : Int) (at_ n : Nat) (w : World) (ha : at_ ≤ 4294967296) (hn : n ≤ 4294967296) :
    Calls Tryd.prog 12 #[.int .i64 kind, .int .i64 (at_ : Int), .int .i64 (n : Int)] w (Told (right kind n) at_ w) := by
  go_enter Tryd.func12, Tryd.ntmps12
  go_wp2
  refine bodyPost_ret (v := .tuple #[.agg #[.int .i64 kind, .int .i64 (at_ : Int), .int .i64 ((at_ : Int) + (n : Int))], .agg #[.int .i64 0, .int .i64 0, .int .i64 0]]) (by simp [results, Tryd.results12, go_sem]) rfl ⟨0, 0, rfl, fun h => absurd rfl h, ?_⟩
  exact ((Below.refl _ _).alloc (Nat.le_refl _) _).alloc (by simp) _
theorem bcell {W w1 : World} (hb : Below W.heap.size W w1) : (∀ b o, b < W.heap.size → w1.cell? ⟨b, o, none⟩ = W.cell? ⟨b, o, none⟩) ∧ (∀ b o, b < W.heap.size → w1.frozen? ⟨b, o, none⟩ = W.frozen? ⟨b, o, none⟩) :=
  ⟨fun b o h => hb.cell (p := ⟨b, o, none⟩) h, fun b o h => hb.frozen (p := ⟨b, o, none⟩) h⟩
set_option maxRecDepth 100000 in
set_option maxHeartbeats 1000000 in
theorem wrong_any (kind code : Int) (at_ n : Nat) (w : World) (ha : at_ ≤ 4294967296) (hn : n ≤ 4294967296) :
    Calls Tryd.prog 27 #[.int .i64 kind, .int .i64 code, .int .i64 (at_ : Int), .int .i64 (n : Int)] w (Told (wrong kind n code) at_ w) := by
  go_enter Tryd.func27, Tryd.ntmps27
  go_wp2
  go_region
  go_wp2_with fail
  refine bodyPost_ret (v := .tuple #[.agg #[.int .i64 kind, .int .i64 (at_ : Int), .int .i64 ((at_ : Int) + (n : Int))], .agg #[.int .i64 code, .int .i64 (at_ : Int), .int .i64 ((at_ : Int) + (n : Int))]]) (by simp [results, Tryd.results27, go_sem]) rfl ⟨at_, (at_ : Int) + (n : Int), rfl, fun _ => ⟨?_, ?_⟩, ?_⟩
  · simp [wrong]
  · simp [wrong]
  · repeat (first | exact Below.refl _ _ | refine Below.drew ?_ | refine Below.alloc ?_ (by simp; try omega) _)
end Go.Proofs.YtjbamlmdeopcaaaDoor.lx
