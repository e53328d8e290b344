/-
  The reference's Escape: the quote, the end.
-/
import Derived.Test.YtbmmbaagcglomaaDoorUtf
import Derived.Test.YtbmmbaagcglomaaDoorUnq
import Derived.Test.YtbmmbaagcglomaaDoorBackBase
import Derived.RegionTactic
import Derived.IntWalk
import Derived.Deep.RegionHeld3
namespace Go.Proofs.YtbmmbaagcglomaaDoor.tok
open Go.RowKit

/-- What the reference tells of an escape. -/
def escT (v : Esc) : List UInt8 := if v.2.2 = 0 then [] else escB v
def RefEsc (v : Esc) (w : World) (e : Ending) (w' : World) : Prop := e = .returned (.tuple #[.int .i64 v.1, .string (B (escT v)), .int .i64 v.2.2]) ∧ Below w.heap.size w w'
theorem RefEsc.mk {v : Esc} {w w' : World} {e : Ending} {n : Int} {r : Bool} {k : Nat} {bs : List UInt8} (hv : v = (n, r, k)) (ht : escT (n, r, k) = bs) (he : e = .returned (.tuple #[.int .i64 n, .string (B bs), .int .i64 (k : Nat)])) (hb : Below w.heap.size w w') : RefEsc v w e w' := by
  subst hv ht
  exact ⟨he, hb⟩
def saySigns : List UInt8 := [97, 98, 102, 110, 114, 116, 118, 92]
def saySays : List Int := [7, 8, 12, 10, 13, 9, 11, 92]
theorem sign_hit (q : UInt8) : ∀ k, k < 8 → signE (saySigns.getD k 0) q = (saySays.getD k 0, false, 2) := by
  intro k hk
  match k, hk with
  | 0, _ => rfl
  | 1, _ => rfl
  | 2, _ => rfl
  | 3, _ => rfl
  | 4, _ => rfl
  | 5, _ => rfl
  | 6, _ => rfl
  | 7, _ => unfold signE; rfl
theorem sign_plain (k : Nat) (hk : k < 8) : saySigns.getD k 0 ≠ 120 ∧ saySigns.getD k 0 ≠ 117 ∧ saySigns.getD k 0 ≠ 85 ∧ ¬ (saySigns.getD k 0 = 48 ∨ saySigns.getD k 0 = 49 ∨ saySigns.getD k 0 = 50 ∨ saySigns.getD k 0 = 51 ∨ saySigns.getD k 0 = 52 ∨ saySigns.getD k 0 = 53 ∨ saySigns.getD k 0 = 54 ∨ saySigns.getD k 0 = 55) := by
  have all : ∀ j : Fin 8, saySigns.getD j.val 0 ≠ 120 ∧ saySigns.getD j.val 0 ≠ 117 ∧ saySigns.getD j.val 0 ≠ 85 ∧ ¬ (saySigns.getD j.val 0 = 48 ∨ saySigns.getD j.val 0 = 49 ∨ saySigns.getD j.val 0 = 50 ∨ saySigns.getD j.val 0 = 51 ∨ saySigns.getD j.val 0 = 52 ∨ saySigns.getD j.val 0 = 53 ∨ saySigns.getD j.val 0 = 54 ∨ saySigns.getD j.val 0 = 55) := by decide
  exact all ⟨k, hk⟩
theorem says_bounds (k : Nat) (hk : k < 8) : 0 ≤ saySays.getD k 0 ∧ saySays.getD k 0 ≤ 255 := by
  have all : ∀ j : Fin 8, 0 ≤ saySays.getD j.val 0 ∧ saySays.getD j.val 0 ≤ 255 := by decide
  exact all ⟨k, hk⟩
theorem conv_byte (z : Int) (h0 : 0 ≤ z) (h1 : z ≤ 255) (u : World) : (convert 38 9 (.slice (some ⟨u.heap.size, 0, none⟩) 1 1)).run Tryd.prog (u.alloc (.cells #[.int .u8 z] 5)) = .ok (.string (B [z.toNat.toUInt8])) (u.alloc (.cells #[.int .u8 z] 5)) :=
  conv_new [z] (by intro x hx; simp only [List.mem_cons, List.not_mem_nil, or_false] at hx; omega) 1 rfl _ rfl _ u rfl
theorem conv_byte_drew (z : Int) (h0 : 0 ≤ z) (h1 : z ≤ 255) (u : World) : (convert 38 9 (.slice (some ⟨u.heap.size, 0, none⟩) 1 1)).run Tryd.prog (u.alloc (.cells #[.int .u8 z] 5)).drew = .ok (.string (B [z.toNat.toUInt8])) (u.alloc (.cells #[.int .u8 z] 5)).drew := by
  refine run_convert_bytes_back _ _ _ _ ⟨u.heap.size, 0, none⟩ 1 [z.toNat.toUInt8] Tryd.underlying38 Tryd.underlying5 Tryd.underlying9 (fun j hj => ?_)
  match j, hj with
  | 0, _ =>
    have : (z.toNat.toUInt8.toNat : Int) = z := by
      rw [Nat.toUInt8, UInt8.toNat_ofNat', Nat.mod_eq_of_lt (by omega)]
      omega
    simp only [List.getElem_cons_zero, this]
    simp [Addr.add]
theorem escT_byte (n : Int) (k : Nat) (h : k ≠ 0) : escT (n, false, k) = [n.toNat.toUInt8] := by
  unfold escT
  rw [if_neg h]
  rfl
theorem escT_none : escT (0, false, 0) = [] := rfl
set_option maxRecDepth 100000 in
set_option maxHeartbeats 4000000 in
theorem refEsc_end (s : ByteArray) (i : Nat) (q : UInt8) (w : World) (hs : s.size ≤ 140737488355328) (hin : s.size ≤ i + 1) (hi : i < s.size) :
    Calls Tryd.prog 44 #[.string s, .int .i64 i, .int .u8 (q.toNat : Int)] w (RefEsc (escV s.data.toList i q) w) := by
  have hd : decide ((s.size : Int) ≤ (i : Int) + 1) = true := decide_eq_true (by omega)
  have HE := Lib.hid (escV_none (l := s.data.toList) (i := i) (q := q) (by rw [sdata]; exact hin))
  go_enter Tryd.func44, Tryd.ntmps44
  go_wp2_with fail
  go_ret3
  exact RefEsc.mk HE.out escT_none rfl (Below.refl _ _)
set_option maxRecDepth 100000 in
set_option maxHeartbeats 4000000 in
theorem refEsc_quote (s : ByteArray) (i : Nat) (q : UInt8) (w : World) (hs : s.size ≤ 140737488355328) (hin : i + 1 < s.size) (hc : s[i + 1] = q) (hq : q = 34 ∨ q = 39) :
    Calls Tryd.prog 44 #[.string s, .int .i64 i, .int .u8 (q.toNat : Int)] w (RefEsc (escV s.data.toList i q) w) := by
  have hd : decide ((s.size : Int) ≤ (i : Int) + 1) = false := decide_eq_false (by omega)
  have HE : Hid (escV s.data.toList i q = ((q.toNat : Int), false, 2)) := Lib.hid (by
    rw [escV_some (c := q) (by rw [List.getElem?_eq_getElem (by rw [sdata]; exact hin), at_data hin, hc])]
    rcases hq with rfl | rfl
    · rw [if_neg (by decide), if_neg (by decide), if_neg (by decide), if_neg (by decide)]; decide
    · rw [if_neg (by decide), if_neg (by decide), if_neg (by decide), if_neg (by decide)]; decide)
  have hix : ∀ u : World, (Instr.index 9 (.string s) (.int .i64 ((i : Int) + 1))).run Tryd.prog u = .ok (.int .u8 (q.toNat : Int)) u := fun u => by
    rw [← hc]; exact index_at s _ (i + 1) (by omega) hin u
  have hc0 : (0 : Int) ≤ (q.toNat : Int) := by omega
  have hc1 : (q.toNat : Int) ≤ 255 := by have := UInt8.toNat_lt q; omega
  have cv := conv_byte (q.toNat : Int) hc0 hc1
  have cvd := conv_byte_drew (q.toNat : Int) hc0 hc1
  have wq : IntKind.i64.wrap (q.toNat : Int) = (q.toNat : Int) := IntWalk.i64_in _ (by omega)
  clear hc hq
  go_enter Tryd.func44, Tryd.ntmps44
  go_wp2_with fail
  go_region
  all_goals (try go_wp2_with fail)
  all_goals go_ret3
  all_goals exact RefEsc.mk HE.out (by rw [escT_byte _ _ (by decide)]; simp) rfl ((Below.refl _ _).alloc (Nat.le_refl _) _).drew
end Go.Proofs.YtbmmbaagcglomaaDoor.tok
