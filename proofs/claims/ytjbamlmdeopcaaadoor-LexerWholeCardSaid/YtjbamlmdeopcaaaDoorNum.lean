/-
  What so many digits say: token.number and the reference's.
-/
import Derived.Test.YtjbamlmdeopcaaaDoorDigits
namespace Go.Proofs.YtjbamlmdeopcaaaDoor.tok
open Go.RowKit

def nStep (base : Int) : Option Int → UInt8 → Option Int
  | none, _ => none
  | some n, c => if isDig base c then some (n * base + digZ (c.toNat : Int) 16) else none
def nTo (base : Int) (l : List UInt8) (k : Nat) : Option Int := (l.take k).foldl (nStep base) (some 0)
/-- What count digits of a base say that stand from a place on, if they stand there. -/
def numAt (l : List UInt8) (i count : Nat) (base : Int) : Option Int := if i + count ≤ l.length then nTo base (l.drop i) count else none
theorem nTo_succ {base : Int} {l : List UInt8} {i k : Nat} (h : i + k < l.length) : nTo base (l.drop i) (k + 1) = nStep base (nTo base (l.drop i) k) l[i + k] := by
  unfold nTo
  rw [List.take_succ_eq_append_getElem (by rw [List.length_drop]; omega), List.foldl_append, List.getElem_drop]
  rfl
theorem nTo_none {base : Int} {l : List UInt8} {i k count : Nat} (hc : i + count ≤ l.length) (hk : k ≤ count) (h : nTo base (l.drop i) k = none) : nTo base (l.drop i) count = none := by
  have all : ∀ n, k + n ≤ count → nTo base (l.drop i) (k + n) = none := by
    intro n
    induction n with
    | zero => intro _; exact h
    | succ n ih =>
      intro hn
      rw [← Nat.add_assoc, nTo_succ (by omega), ih (by omega)]
      rfl
  have := all (count - k) (by omega)
  rwa [show k + (count - k) = count by omega] at this
theorem isDig_bounds {base : Int} {c : UInt8} (h : isDig base c = true) : 0 ≤ digZ (c.toNat : Int) 16 ∧ digZ (c.toNat : Int) 16 < base := ⟨(digZ_bounds _ 16 (by omega)).1, of_decide_eq_true h⟩
theorem nTo_bound {base : Int} (hb0 : 0 ≤ base) (hb : base ≤ 16) {l : List UInt8} {i : Nat} : ∀ k n, i + k ≤ l.length → nTo base (l.drop i) k = some n → 0 ≤ n ∧ n < 16 ^ k := by
  intro k
  induction k with
  | zero => intro n _ h; simp [nTo] at h; omega
  | succ k ih =>
    intro n hk h
    rw [nTo_succ (by omega)] at h
    cases hp : nTo base (l.drop i) k with
    | none => rw [hp] at h; cases h
    | some p =>
      have hi := ih p (by omega) hp
      rw [hp] at h
      simp only [nStep] at h
      split at h
      · next g =>
        have hd := isDig_bounds g
        have e := Option.some.inj h
        have h1 : 0 ≤ p * base := Int.mul_nonneg hi.1 hb0
        have h2 : p * base ≤ p * 16 := Int.mul_le_mul_of_nonneg_left hb hi.1
        rw [Int.pow_succ]
        omega
      · cases h
theorem pow_le8 (k : Nat) (h : k ≤ 8) : (16 : Int) ^ k ≤ 4294967296 := by
  have : ∀ j : Fin 9, (16 : Int) ^ j.val ≤ 4294967296 := by decide
  exact this ⟨k, by omega⟩
def numR (o : Option Int) : Int × Bool := match o with
  | some v => (v, true)
  | none => (0, false)
def numM (o : Option Int) : Int := match o with
  | some v => v
  | none => -1
def NumPost (o : Option Int) (w : World) (e : Ending) (w' : World) : Prop := e = .returned (.tuple #[.int .i64 (numR o).1, .bool (numR o).2]) ∧ w = w'
def NumMPost (o : Option Int) (w : World) (e : Ending) (w' : World) : Prop := e = .returned (.int .i64 (numM o)) ∧ w = w'

set_option maxRecDepth 100000 in
set_option maxHeartbeats 2000000 in
theorem number_8 (s : ByteArray) (i count : Nat) (w : World) (hs : s.size ≤ 140737488355328) (hi : i ≤ 140737488355338) (hc : count ≤ 8) :
    Calls Tryd.prog 62 #[.string s, .int .i64 i, .int .i64 count, .int .i64 8] w (NumPost (numAt s.data.toList i count 8) w) := by
  have hsd := sdata s
  by_cases hin : i + count ≤ s.size
  · have hd0 : decide ((s.size : Int) - (i : Int) < (count : Int)) = false := decide_eq_false (by omega)
    have HA : Hid (numAt s.data.toList i count 8 = nTo 8 (s.data.toList.drop i) count) := Lib.hid (by rw [numAt, if_pos (by omega)])
    have HD := Lib.hid hsd
    clear hsd
    go_enter Tryd.func62, Tryd.ntmps62
    go_wp2_with fail
    go_loop [10, 20] (fun n j => ∃ (k : Nat) (v : Int), k ≤ count ∧ j = .int .i64 k ∧ n = .int .i64 v ∧ nTo 8 (s.data.toList.drop i) k = some v) (fun _ j => count - (intOf j).toNat)
    case atStart => exact ⟨0, 0, by omega, rfl, rfl, rfl⟩
    case round =>
      obtain ⟨k, v, hk, rfl, rfl, hv⟩ := hrel
      have hvb := nTo_bound (base := 8) (by omega) (by omega) k v (by have := HD.out; omega) hv
      have hp8 := pow_le8 k (by omega)
      have hv0 : 0 ≤ v := hvb.1
      have hv1 : v < 4294967296 := by omega
      have HV := Lib.hid hv
      clear hv hvb hp8
      by_cases hlt : k < count
      · have hik : i + k < s.size := by omega
        have HN := Lib.hid (nTo_succ (base := 8) (l := s.data.toList) (i := i) (k := k) (by have := HD.out; omega))
        obtain ⟨c, hc'⟩ : ∃ c, s[i + k]'hik = c := ⟨_, rfl⟩
        have hix : ∀ u : World, (Instr.index 9 (.string s) (.int .i64 ((i : Int) + (k : Int)))).run Tryd.prog u = .ok (.int .u8 (c.toNat : Int)) u := fun u => by
          rw [← hc']; exact index_at s _ (i + k) (by omega) hik u
        rw [at_data hik, hc', HV.out] at HN
        have hc0 : (0 : Int) ≤ (c.toNat : Int) := by omega
        have hc1 : (c.toNat : Int) ≤ 255 := by have := UInt8.toNat_lt c; omega
        obtain ⟨z, hz⟩ : ∃ z, digZ (c.toNat : Int) 16 = z := ⟨_, rfl⟩
        have hzb := digZ_bounds (c.toNat : Int) 16 (by omega)
        have HZ := Lib.hid hz
        rw [hz] at hzb
        have hz0 : 0 ≤ z := hzb.1
        have hz1 : z ≤ 16 := by omega
        clear hz hzb hc'
        by_cases hdig : z < 8
        · have hdd : decide ((8 : Int) ≤ z) = false := decide_eq_false (by omega)
          have HR : Hid (nTo 8 (s.data.toList.drop i) (k + 1) = some (v * 8 + z)) := Lib.hid (by rw [HN.out, nStep, if_pos (by rw [isDig, HZ.out]; exact decide_eq_true hdig), HZ.out])
          clear HN
          go_wp2_with (go_at_call 49; refine (digit_any _ _ hc0 hc1).mono ?_; rintro e w' ⟨rfl, rfl⟩; rw [HZ.out])
          go_round
          case rel => exact ⟨k + 1, _, by omega, by go_num, rfl, HR.out⟩
          case measure => simp [intOf]; omega
        · have hdd : decide ((8 : Int) ≤ z) = true := decide_eq_true (by omega)
          have HR : Hid (numAt s.data.toList i count 8 = none) := Lib.hid (by
            rw [HA.out]
            exact nTo_none (by have := HD.out; omega) (show k + 1 ≤ count by omega) (by rw [HN.out, nStep, if_neg (by rw [isDig, HZ.out]; simpa using hdig)]))
          clear HN
          go_wp2_with (go_at_call 49; refine (digit_any _ _ hc0 hc1).mono ?_; rintro e w' ⟨rfl, rfl⟩; rw [HZ.out])
          go_ret2
          exact ⟨by rw [HR.out]; rfl, rfl⟩
      · obtain rfl : k = count := by omega
        have HR : Hid (numAt s.data.toList i k 8 = some v) := Lib.hid (by rw [HA.out, HV.out])
        go_wp2_with fail
        go_ret2
        exact ⟨by rw [HR.out]; rfl, rfl⟩
  · have hd0 : decide ((s.size : Int) - (i : Int) < (count : Int)) = true := decide_eq_true (by omega)
    have HA : Hid (numAt s.data.toList i count 8 = none) := Lib.hid (by rw [numAt, if_neg (by omega)])
    clear hsd
    go_enter Tryd.func62, Tryd.ntmps62
    go_wp2_with fail
    go_ret2
    exact ⟨by rw [HA.out]; rfl, rfl⟩
set_option maxRecDepth 100000 in
set_option maxHeartbeats 2000000 in
theorem number_16 (s : ByteArray) (i count : Nat) (w : World) (hs : s.size ≤ 140737488355328) (hi : i ≤ 140737488355338) (hc : count ≤ 8) :
    Calls Tryd.prog 62 #[.string s, .int .i64 i, .int .i64 count, .int .i64 16] w (NumPost (numAt s.data.toList i count 16) w) := by
  have hsd := sdata s
  by_cases hin : i + count ≤ s.size
  · have hd0 : decide ((s.size : Int) - (i : Int) < (count : Int)) = false := decide_eq_false (by omega)
    have HA : Hid (numAt s.data.toList i count 16 = nTo 16 (s.data.toList.drop i) count) := Lib.hid (by rw [numAt, if_pos (by omega)])
    have HD := Lib.hid hsd
    clear hsd
    go_enter Tryd.func62, Tryd.ntmps62
    go_wp2_with fail
    go_loop [10, 20] (fun n j => ∃ (k : Nat) (v : Int), k ≤ count ∧ j = .int .i64 k ∧ n = .int .i64 v ∧ nTo 16 (s.data.toList.drop i) k = some v) (fun _ j => count - (intOf j).toNat)
    case atStart => exact ⟨0, 0, by omega, rfl, rfl, rfl⟩
    case round =>
      obtain ⟨k, v, hk, rfl, rfl, hv⟩ := hrel
      have hvb := nTo_bound (base := 16) (by omega) (by omega) k v (by have := HD.out; omega) hv
      have hp8 := pow_le8 k (by omega)
      have hv0 : 0 ≤ v := hvb.1
      have hv1 : v < 4294967296 := by omega
      have HV := Lib.hid hv
      clear hv hvb hp8
      by_cases hlt : k < count
      · have hik : i + k < s.size := by omega
        have HN := Lib.hid (nTo_succ (base := 16) (l := s.data.toList) (i := i) (k := k) (by have := HD.out; omega))
        obtain ⟨c, hc'⟩ : ∃ c, s[i + k]'hik = c := ⟨_, rfl⟩
        have hix : ∀ u : World, (Instr.index 9 (.string s) (.int .i64 ((i : Int) + (k : Int)))).run Tryd.prog u = .ok (.int .u8 (c.toNat : Int)) u := fun u => by
          rw [← hc']; exact index_at s _ (i + k) (by omega) hik u
        rw [at_data hik, hc', HV.out] at HN
        have hc0 : (0 : Int) ≤ (c.toNat : Int) := by omega
        have hc1 : (c.toNat : Int) ≤ 255 := by have := UInt8.toNat_lt c; omega
        obtain ⟨z, hz⟩ : ∃ z, digZ (c.toNat : Int) 16 = z := ⟨_, rfl⟩
        have hzb := digZ_bounds (c.toNat : Int) 16 (by omega)
        have HZ := Lib.hid hz
        rw [hz] at hzb
        have hz0 : 0 ≤ z := hzb.1
        have hz1 : z ≤ 16 := by omega
        clear hz hzb hc'
        by_cases hdig : z < 16
        · have hdd : decide ((16 : Int) ≤ z) = false := decide_eq_false (by omega)
          have HR : Hid (nTo 16 (s.data.toList.drop i) (k + 1) = some (v * 16 + z)) := Lib.hid (by rw [HN.out, nStep, if_pos (by rw [isDig, HZ.out]; exact decide_eq_true hdig), HZ.out])
          clear HN
          go_wp2_with (go_at_call 49; refine (digit_any _ _ hc0 hc1).mono ?_; rintro e w' ⟨rfl, rfl⟩; rw [HZ.out])
          go_round
          case rel => exact ⟨k + 1, _, by omega, by go_num, rfl, HR.out⟩
          case measure => simp [intOf]; omega
        · have hdd : decide ((16 : Int) ≤ z) = true := decide_eq_true (by omega)
          have HR : Hid (numAt s.data.toList i count 16 = none) := Lib.hid (by
            rw [HA.out]
            exact nTo_none (by have := HD.out; omega) (show k + 1 ≤ count by omega) (by rw [HN.out, nStep, if_neg (by rw [isDig, HZ.out]; simpa using hdig)]))
          clear HN
          go_wp2_with (go_at_call 49; refine (digit_any _ _ hc0 hc1).mono ?_; rintro e w' ⟨rfl, rfl⟩; rw [HZ.out])
          go_ret2
          exact ⟨by rw [HR.out]; rfl, rfl⟩
      · obtain rfl : k = count := by omega
        have HR : Hid (numAt s.data.toList i k 16 = some v) := Lib.hid (by rw [HA.out, HV.out])
        go_wp2_with fail
        go_ret2
        exact ⟨by rw [HR.out]; rfl, rfl⟩
  · have hd0 : decide ((s.size : Int) - (i : Int) < (count : Int)) = true := decide_eq_true (by omega)
    have HA : Hid (numAt s.data.toList i count 16 = none) := Lib.hid (by rw [numAt, if_neg (by omega)])
    clear hsd
    go_enter Tryd.func62, Tryd.ntmps62
    go_wp2_with fail
    go_ret2
    exact ⟨by rw [HA.out]; rfl, rfl⟩
end Go.Proofs.YtjbamlmdeopcaaaDoor.tok
