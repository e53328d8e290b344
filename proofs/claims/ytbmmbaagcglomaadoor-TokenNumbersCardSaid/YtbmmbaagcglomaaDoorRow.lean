/-
  The reference's row.
-/
import Derived.Test.YtbmmbaagcglomaaDoorDigits
namespace Go.Proofs.YtbmmbaagcglomaaDoor.tok
open Go.RowKit

/-- What the reference's row answers for digits without a _ ahead. -/
def rowed (base : Int) (l : List UInt8) : List UInt8 × Bool := match jTo base l l.length with
  | some (d, false) => (d, true)
  | _ => ([], false)
theorem rowed_none {base : Int} {l : List UInt8} (h : jTo base l l.length = none) : rowed base l = ([], false) := by rw [rowed, h]
theorem rowed_apart {base : Int} {l d : List UInt8} (h : jTo base l l.length = some (d, true)) : rowed base l = ([], false) := by rw [rowed, h]
theorem jTo_digit_le {base : Int} {l : List UInt8} : ∀ k, k ≤ l.length → ∀ d a, jTo base l k = some (d, a) → a = false → d ≠ [] := by
  intro k
  induction k with
  | zero => intro _ d a h g; simp [jTo] at h; rw [g] at h; simp at h
  | succ k ih =>
    intro hk d a h g
    rw [jTo_succ (by omega)] at h
    cases hp : jTo base l k with
    | none => rw [hp] at h; simp [jStep] at h
    | some p =>
      obtain ⟨d', a'⟩ := p
      rw [hp] at h
      simp only [jStep] at h
      split at h
      · obtain ⟨h1, h2⟩ := Prod.mk.inj (Option.some.inj h); rw [← h1]; simp
      · split at h
        · obtain ⟨h1, h2⟩ := Prod.mk.inj (Option.some.inj h); rw [g] at h2; cases h2
        · cases h
theorem jTo_digit {base : Int} {l d : List UInt8} (h : jTo base l l.length = some (d, false)) : d ≠ [] := jTo_digit_le _ (Nat.le_refl _) d false h rfl
/-- What the flag says of the byte ahead. -/
def Side (l : List UInt8) (k : Nat) (a : Bool) : Prop := (a = true ↔ k = 0 ∨ ∃ h : k - 1 < l.length, 0 < k ∧ l[k - 1] = 95) ∧ (0 < k → k = l.length → a = false)
theorem Side.zero (l : List UInt8) : Side l 0 true := ⟨⟨fun _ => .inl rfl, fun _ => rfl⟩, fun h => by omega⟩
theorem Side.prev {l : List UInt8} {k : Nat} {a : Bool} (h : Side l k a) (hk : 0 < k) (hl : k - 1 < l.length) : a = true ↔ l[k - 1] = 95 := by
  rw [h.1]
  exact ⟨fun g => g.elim (fun e => by omega) (fun ⟨_, _, e⟩ => e), fun e => .inr ⟨hl, hk, e⟩⟩
theorem Side.zero_true {l : List UInt8} {k : Nat} {a : Bool} (h : Side l k a) (hk : k = 0) : a = true := h.1.2 (.inl hk)
theorem Side.at_end {l : List UInt8} {k : Nat} {a : Bool} (h : Side l k a) (hk : 0 < k) (hl : k = l.length) : a = false := h.2 hk hl
theorem Side.step {l : List UInt8} {k : Nat} {a : Bool} (hl : k < l.length) (h : a = true ↔ l[k] = 95) (he : a = true → k + 1 < l.length) : Side l (k + 1) a := by
  refine ⟨?_, fun _ e => ?_⟩
  · rw [h]
    constructor
    · intro g; exact .inr ⟨by simpa using hl, by omega, by simpa using g⟩
    · intro g
      rcases g with g | ⟨_, _, g⟩
      · omega
      · simpa using g
  · cases a with
    | false => rfl
    | true => have := he rfl; omega
def RowPost (x : List UInt8) (b : Bool) (w : World) (e : Ending) (w' : World) : Prop := e = .returned (.tuple #[.string (B x), .bool b]) ∧ w = w'

set_option maxRecDepth 100000 in
set_option maxHeartbeats 4000000 in
theorem row_plain (y : ByteArray) (base : Int) (w : World) (hs : y.size ≤ 16384) (hb : base ≤ 16) :
    Calls Tryd.prog 41 #[.string y, .int .i64 base, .bool false] w (RowPost (rowed base y.data.toList).1 (rowed base y.data.toList).2 w) := by
  go_enter Tryd.func41, Tryd.ntmps41
  go_wp2_with fail
  go_loop [8, 9] (fun out i => ∃ (k : Nat) (d : List UInt8) (a : Bool), k ≤ y.size ∧ i = .int .i64 k ∧ out = .string (B d) ∧ jTo base y.data.toList k = some (d, a) ∧ Side y.data.toList k a) (fun _ i => y.size - (intOf i).toNat)
  case atStart => exact ⟨0, [], true, Nat.zero_le _, rfl, rfl, rfl, Side.zero _⟩
  case round =>
    obtain ⟨k, d, a, hk, rfl, rfl, hj, hside⟩ := hrel
    have hsd := sdata y
    have hf := jTo_few k d a (by omega) hj
    have HJ := Lib.hid hj
    have HS := Lib.hid hside
    have hbd : (B d).size ≤ 16384 := by rw [bsize]; omega
    clear hj hside
    have HD := Lib.hid hsd
    clear hsd
    by_cases hlt : k < y.size
    · have HN := Lib.hid (jTo_succ (base := base) (l := y.data.toList) (k := k) (by have := HD.out; omega))
      obtain ⟨c, hc⟩ : ∃ c, y[k]'hlt = c := ⟨_, rfl⟩
      have hsl := slice_one y k hlt c hc
      have HC := Lib.hid hc
      rw [at_data hlt, hc, HJ.out] at HN
      have hc0 : (0 : Int) ≤ (c.toNat : Int) := by omega
      have hc1 : (c.toNat : Int) ≤ 255 := by have := UInt8.toNat_lt c; omega
      obtain ⟨z, hz⟩ : ∃ z, digZ (c.toNat : Int) 99 = z := ⟨_, rfl⟩
      have HZ := Lib.hid hz
      have HI : Hid (isDig base c = decide (z < base)) := Lib.hid (by rw [isDig, ← hz]; exact decide_eq_decide.2 (digZ_lt _ 16 99 base (by omega) (by omega) hb))
      clear hz
      by_cases h95 : c = 95
      · have hcz : ((c.toNat : Int) == 95) = true := byte_eq (d := 95) h95
        have hz99 : z = 99 := by rw [← HZ.out, h95]; rfl
        have hdd : decide (z < base) = false := decide_eq_false (by omega)
        have hdd' : decide (base ≤ z) = true := decide_eq_true (by omega)
        rw [hdd] at HI
        by_cases hk0 : 0 < k
        · have hd0 : decide ((0 : Int) < (k : Int)) = true := decide_eq_true (by omega)
          obtain ⟨p, hp⟩ : ∃ p, y[k - 1]'(by omega) = p := ⟨_, rfl⟩
          have hix : ∀ u : World, (Instr.index 9 (.string y) (.int .i64 ((k : Int) - 1))).run Tryd.prog u = .ok (.int .u8 (p.toNat : Int)) u := fun u => by
            rw [← hp]; exact index_at y _ (k - 1) (by omega) (by omega) u
          have ha := HS.out.prev hk0 (by have := HD.out; omega)
          rw [at_data (s := y) (i := k - 1) (by omega), hp] at ha
          by_cases hp95 : p = 95
          · have hpz : ((p.toNat : Int) != 95) = false := byte_eq' (d := 95) hp95
            have hat : a = true := ha.2 hp95
            have HR0 : Hid (rowed base y.data.toList = ([], false)) := Lib.hid (rowed_none (jTo_end (by have := HD.out; omega) (show jTo base y.data.toList (k + 1) = none by rw [HN.out, jStep, HI.out, if_neg (by simp), if_neg (by rw [hat]; simp)])))
            clear h95 HN ha hp95 hat hp
            go_wp2_with (go_at_call 51; refine (refDigit_any _ _ hc0 hc1).mono ?_; rintro e w' ⟨rfl, rfl⟩; rw [HZ.out])
            go_ret2
            exact ⟨by rw [HR0.out]; rfl, rfl⟩
          · have hpz : ((p.toNat : Int) != 95) = true := byte_ne' (d := 95) hp95
            have haf : a = false := by cases a with | false => rfl | true => exact absurd (ha.1 rfl) hp95
            have HR0 : Hid (jTo base y.data.toList (k + 1) = some (d, true)) := Lib.hid (by rw [HN.out, jStep, HI.out, if_neg (by simp), if_pos ⟨h95, haf⟩])
            clear HN ha hp95 haf hp
            by_cases hend : k + 1 < y.size
            · have he : decide ((k : Int) + 1 < (y.size : Int)) = true := decide_eq_true (by omega)
              have HS1 : Hid (Side y.data.toList (k + 1) true) := Lib.hid (Side.step (by have := HD.out; omega) (by rw [at_data hlt, HC.out]; exact ⟨fun _ => h95, fun _ => rfl⟩) (fun _ => by have := HD.out; omega))
              clear h95
              go_wp2_with fail
              go_round
              case rel => exact ⟨k + 1, d, true, by omega, by go_num, rfl, HR0.out, HS1.out⟩
              case measure => simp [intOf]; omega
            · have he : decide ((k : Int) + 1 < (y.size : Int)) = false := decide_eq_false (by omega)
              have HR1 : Hid (rowed base y.data.toList = ([], false)) := Lib.hid (rowed_apart (d := d) (by rw [HD.out, show y.size = k + 1 by omega]; exact HR0.out))
              clear h95
              go_wp2_with (go_at_call 51; refine (refDigit_any _ _ hc0 hc1).mono ?_; rintro e w' ⟨rfl, rfl⟩; rw [HZ.out])
              go_ret2
              exact ⟨by rw [HR1.out]; rfl, rfl⟩
        · have hd0 : decide ((0 : Int) < (k : Int)) = false := decide_eq_false (by omega)
          have hat : a = true := HS.out.zero_true (by omega)
          have HR0 : Hid (rowed base y.data.toList = ([], false)) := Lib.hid (rowed_none (jTo_end (by have := HD.out; omega) (show jTo base y.data.toList (k + 1) = none by rw [HN.out, jStep, HI.out, if_neg (by simp), if_neg (by rw [hat]; simp)])))
          clear h95 HN hat
          have hk00 : k = 0 := by omega
          subst hk00
          go_wp2_with (go_at_call 51; refine (refDigit_any _ _ hc0 hc1).mono ?_; rintro e w' ⟨rfl, rfl⟩; rw [HZ.out])
          go_ret2
          exact ⟨by rw [HR0.out]; rfl, rfl⟩
      · have hcz : ((c.toNat : Int) == 95) = false := byte_ne (d := 95) h95
        by_cases hdig : z < base
        · have hdd' : decide (base ≤ z) = false := decide_eq_false (by omega)
          have HR0 : Hid (jTo base y.data.toList (k + 1) = some (d ++ [c], false)) := Lib.hid (by rw [HN.out, jStep, HI.out, if_pos (decide_eq_true hdig)])
          have HS1 : Hid (Side y.data.toList (k + 1) false) := Lib.hid (Side.step (by have := HD.out; omega) (by rw [at_data hlt, HC.out]; exact ⟨fun g => (by cases g), fun g => absurd g h95⟩) (fun g => (by cases g)))
          have hbc : (B [c]).size ≤ 1 := by rw [bsize]; simp
          clear h95 HN
          go_wp2_with (go_at_call 51; refine (refDigit_any _ _ hc0 hc1).mono ?_; rintro e w' ⟨rfl, rfl⟩; rw [HZ.out])
          go_round
          case rel => exact ⟨k + 1, d ++ [c], false, by omega, by go_num, by rw [b_append], HR0.out, HS1.out⟩
          case measure => simp [intOf]; omega
        · have hdd' : decide (base ≤ z) = true := decide_eq_true (by omega)
          have HR0 : Hid (rowed base y.data.toList = ([], false)) := Lib.hid (rowed_none (jTo_end (by have := HD.out; omega) (show jTo base y.data.toList (k + 1) = none by rw [HN.out, jStep, HI.out, if_neg (by simpa using hdig), if_neg (fun g => h95 g.1)])))
          clear h95 HN
          go_wp2_with (go_at_call 51; refine (refDigit_any _ _ hc0 hc1).mono ?_; rintro e w' ⟨rfl, rfl⟩; rw [HZ.out])
          go_ret2
          exact ⟨by rw [HR0.out]; rfl, rfl⟩
    · obtain rfl : k = y.size := by omega
      by_cases hk0 : y.size = 0
      · have hda : d = [] ∧ a = true := by have := HJ.out; rw [hk0] at this; obtain ⟨h1, h2⟩ := Prod.mk.inj (Option.some.inj this); exact ⟨h1.symm, h2.symm⟩
        obtain ⟨rfl, rfl⟩ := hda
        have HR0 : Hid (rowed base y.data.toList = ([], false)) := Lib.hid (rowed_apart (d := []) (by rw [HD.out]; exact HJ.out))
        have hem : (B []).toList = [] := by rw [blist]
        go_wp2_with fail
        go_ret2
        exact ⟨by rw [HR0.out]; rfl, rfl⟩
      · have haf : a = false := HS.out.at_end (by omega) (by rw [HD.out])
        subst haf
        have hdne := jTo_digit (by rw [HD.out]; exact HJ.out)
        have HR0 : Hid (rowed base y.data.toList = (d, true)) := Lib.hid (by rw [rowed, HD.out, HJ.out])
        have hem : (B d).toList ≠ [] := by rw [blist]; exact hdne
        have hem2 : (!(B d).toList.isEmpty) = true := by rw [blist]; simpa using hdne
        go_wp2_with fail
        go_ret2
        exact ⟨by rw [HR0.out]; rfl, rfl⟩
set_option maxRecDepth 100000 in
set_option maxHeartbeats 4000000 in
theorem row_off (y : ByteArray) (base : Int) (w : World) (hs : y.size ≤ 16384) (hb : base ≤ 16) (hno : ∀ h : 0 < y.size, y[0] ≠ 95) :
    Calls Tryd.prog 41 #[.string y, .int .i64 base, .bool true] w (RowPost (rowed base y.data.toList).1 (rowed base y.data.toList).2 w) := by
  by_cases hp : 0 < y.size
  · have hd0 : decide ((0 : Int) < (y.size : Int)) = true := decide_eq_true (by omega)
    have h1 := hno hp
    obtain ⟨c, hc⟩ : ∃ c, y[0]'hp = c := ⟨_, rfl⟩
    rw [hc] at h1
    have hcz : ((c.toNat : Int) == 95) = false := byte_ne (d := 95) h1
    clear hno h1
    go_enter Tryd.func41, Tryd.ntmps41
    go_wp2_with fail
    clear hcz hc hd0
    go_loop [8, 9] (fun out i => ∃ (k : Nat) (d : List UInt8) (a : Bool), k ≤ y.size ∧ i = .int .i64 k ∧ out = .string (B d) ∧ jTo base y.data.toList k = some (d, a) ∧ Side y.data.toList k a) (fun _ i => y.size - (intOf i).toNat)
    case atStart => exact ⟨0, [], true, Nat.zero_le _, rfl, rfl, rfl, Side.zero _⟩
    case round =>
      obtain ⟨k, d, a, hk, rfl, rfl, hj, hside⟩ := hrel
      have hsd := sdata y
      have hf := jTo_few k d a (by omega) hj
      have HJ := Lib.hid hj
      have HS := Lib.hid hside
      have hbd : (B d).size ≤ 16384 := by rw [bsize]; omega
      clear hj hside
      have HD := Lib.hid hsd
      clear hsd
      by_cases hlt : k < y.size
      · have HN := Lib.hid (jTo_succ (base := base) (l := y.data.toList) (k := k) (by have := HD.out; omega))
        obtain ⟨c, hc⟩ : ∃ c, y[k]'hlt = c := ⟨_, rfl⟩
        have hsl := slice_one y k hlt c hc
        have HC := Lib.hid hc
        rw [at_data hlt, hc, HJ.out] at HN
        have hc0 : (0 : Int) ≤ (c.toNat : Int) := by omega
        have hc1 : (c.toNat : Int) ≤ 255 := by have := UInt8.toNat_lt c; omega
        obtain ⟨z, hz⟩ : ∃ z, digZ (c.toNat : Int) 99 = z := ⟨_, rfl⟩
        have HZ := Lib.hid hz
        have HI : Hid (isDig base c = decide (z < base)) := Lib.hid (by rw [isDig, ← hz]; exact decide_eq_decide.2 (digZ_lt _ 16 99 base (by omega) (by omega) hb))
        clear hz
        by_cases h95 : c = 95
        · have hcz : ((c.toNat : Int) == 95) = true := byte_eq (d := 95) h95
          have hz99 : z = 99 := by rw [← HZ.out, h95]; rfl
          have hdd : decide (z < base) = false := decide_eq_false (by omega)
          have hdd' : decide (base ≤ z) = true := decide_eq_true (by omega)
          rw [hdd] at HI
          by_cases hk0 : 0 < k
          · have hd0 : decide ((0 : Int) < (k : Int)) = true := decide_eq_true (by omega)
            obtain ⟨p, hp⟩ : ∃ p, y[k - 1]'(by omega) = p := ⟨_, rfl⟩
            have hix : ∀ u : World, (Instr.index 9 (.string y) (.int .i64 ((k : Int) - 1))).run Tryd.prog u = .ok (.int .u8 (p.toNat : Int)) u := fun u => by
              rw [← hp]; exact index_at y _ (k - 1) (by omega) (by omega) u
            have ha := HS.out.prev hk0 (by have := HD.out; omega)
            rw [at_data (s := y) (i := k - 1) (by omega), hp] at ha
            by_cases hp95 : p = 95
            · have hpz : ((p.toNat : Int) != 95) = false := byte_eq' (d := 95) hp95
              have hat : a = true := ha.2 hp95
              have HR0 : Hid (rowed base y.data.toList = ([], false)) := Lib.hid (rowed_none (jTo_end (by have := HD.out; omega) (show jTo base y.data.toList (k + 1) = none by rw [HN.out, jStep, HI.out, if_neg (by simp), if_neg (by rw [hat]; simp)])))
              clear h95 HN ha hp95 hat hp
              go_wp2_with (go_at_call 51; refine (refDigit_any _ _ hc0 hc1).mono ?_; rintro e w' ⟨rfl, rfl⟩; rw [HZ.out])
              go_ret2
              exact ⟨by rw [HR0.out]; rfl, rfl⟩
            · have hpz : ((p.toNat : Int) != 95) = true := byte_ne' (d := 95) hp95
              have haf : a = false := by cases a with | false => rfl | true => exact absurd (ha.1 rfl) hp95
              have HR0 : Hid (jTo base y.data.toList (k + 1) = some (d, true)) := Lib.hid (by rw [HN.out, jStep, HI.out, if_neg (by simp), if_pos ⟨h95, haf⟩])
              clear HN ha hp95 haf hp
              by_cases hend : k + 1 < y.size
              · have he : decide ((k : Int) + 1 < (y.size : Int)) = true := decide_eq_true (by omega)
                have HS1 : Hid (Side y.data.toList (k + 1) true) := Lib.hid (Side.step (by have := HD.out; omega) (by rw [at_data hlt, HC.out]; exact ⟨fun _ => h95, fun _ => rfl⟩) (fun _ => by have := HD.out; omega))
                clear h95
                go_wp2_with fail
                go_round
                case rel => exact ⟨k + 1, d, true, by omega, by go_num, rfl, HR0.out, HS1.out⟩
                case measure => simp [intOf]; omega
              · have he : decide ((k : Int) + 1 < (y.size : Int)) = false := decide_eq_false (by omega)
                have HR1 : Hid (rowed base y.data.toList = ([], false)) := Lib.hid (rowed_apart (d := d) (by rw [HD.out, show y.size = k + 1 by omega]; exact HR0.out))
                clear h95
                go_wp2_with (go_at_call 51; refine (refDigit_any _ _ hc0 hc1).mono ?_; rintro e w' ⟨rfl, rfl⟩; rw [HZ.out])
                go_ret2
                exact ⟨by rw [HR1.out]; rfl, rfl⟩
          · have hd0 : decide ((0 : Int) < (k : Int)) = false := decide_eq_false (by omega)
            have hat : a = true := HS.out.zero_true (by omega)
            have HR0 : Hid (rowed base y.data.toList = ([], false)) := Lib.hid (rowed_none (jTo_end (by have := HD.out; omega) (show jTo base y.data.toList (k + 1) = none by rw [HN.out, jStep, HI.out, if_neg (by simp), if_neg (by rw [hat]; simp)])))
            clear h95 HN hat
            have hk00 : k = 0 := by omega
            subst hk00
            go_wp2_with (go_at_call 51; refine (refDigit_any _ _ hc0 hc1).mono ?_; rintro e w' ⟨rfl, rfl⟩; rw [HZ.out])
            go_ret2
            exact ⟨by rw [HR0.out]; rfl, rfl⟩
        · have hcz : ((c.toNat : Int) == 95) = false := byte_ne (d := 95) h95
          by_cases hdig : z < base
          · have hdd' : decide (base ≤ z) = false := decide_eq_false (by omega)
            have HR0 : Hid (jTo base y.data.toList (k + 1) = some (d ++ [c], false)) := Lib.hid (by rw [HN.out, jStep, HI.out, if_pos (decide_eq_true hdig)])
            have HS1 : Hid (Side y.data.toList (k + 1) false) := Lib.hid (Side.step (by have := HD.out; omega) (by rw [at_data hlt, HC.out]; exact ⟨fun g => (by cases g), fun g => absurd g h95⟩) (fun g => (by cases g)))
            have hbc : (B [c]).size ≤ 1 := by rw [bsize]; simp
            clear h95 HN
            go_wp2_with (go_at_call 51; refine (refDigit_any _ _ hc0 hc1).mono ?_; rintro e w' ⟨rfl, rfl⟩; rw [HZ.out])
            go_round
            case rel => exact ⟨k + 1, d ++ [c], false, by omega, by go_num, by rw [b_append], HR0.out, HS1.out⟩
            case measure => simp [intOf]; omega
          · have hdd' : decide (base ≤ z) = true := decide_eq_true (by omega)
            have HR0 : Hid (rowed base y.data.toList = ([], false)) := Lib.hid (rowed_none (jTo_end (by have := HD.out; omega) (show jTo base y.data.toList (k + 1) = none by rw [HN.out, jStep, HI.out, if_neg (by simpa using hdig), if_neg (fun g => h95 g.1)])))
            clear h95 HN
            go_wp2_with (go_at_call 51; refine (refDigit_any _ _ hc0 hc1).mono ?_; rintro e w' ⟨rfl, rfl⟩; rw [HZ.out])
            go_ret2
            exact ⟨by rw [HR0.out]; rfl, rfl⟩
      · obtain rfl : k = y.size := by omega
        by_cases hk0 : y.size = 0
        · have hda : d = [] ∧ a = true := by have := HJ.out; rw [hk0] at this; obtain ⟨h1, h2⟩ := Prod.mk.inj (Option.some.inj this); exact ⟨h1.symm, h2.symm⟩
          obtain ⟨rfl, rfl⟩ := hda
          have HR0 : Hid (rowed base y.data.toList = ([], false)) := Lib.hid (rowed_apart (d := []) (by rw [HD.out]; exact HJ.out))
          have hem : (B []).toList = [] := by rw [blist]
          go_wp2_with fail
          go_ret2
          exact ⟨by rw [HR0.out]; rfl, rfl⟩
        · have haf : a = false := HS.out.at_end (by omega) (by rw [HD.out])
          subst haf
          have hdne := jTo_digit (by rw [HD.out]; exact HJ.out)
          have HR0 : Hid (rowed base y.data.toList = (d, true)) := Lib.hid (by rw [rowed, HD.out, HJ.out])
          have hem : (B d).toList ≠ [] := by rw [blist]; exact hdne
          have hem2 : (!(B d).toList.isEmpty) = true := by rw [blist]; simpa using hdne
          go_wp2_with fail
          go_ret2
          exact ⟨by rw [HR0.out]; rfl, rfl⟩
  · have hd0 : decide ((0 : Int) < (y.size : Int)) = false := decide_eq_false (by omega)
    clear hno
    go_enter Tryd.func41, Tryd.ntmps41
    go_wp2_with fail
    clear hd0
    go_loop [8, 9] (fun out i => ∃ (k : Nat) (d : List UInt8) (a : Bool), k ≤ y.size ∧ i = .int .i64 k ∧ out = .string (B d) ∧ jTo base y.data.toList k = some (d, a) ∧ Side y.data.toList k a) (fun _ i => y.size - (intOf i).toNat)
    case atStart => exact ⟨0, [], true, Nat.zero_le _, rfl, rfl, rfl, Side.zero _⟩
    case round =>
      obtain ⟨k, d, a, hk, rfl, rfl, hj, hside⟩ := hrel
      have hsd := sdata y
      have hf := jTo_few k d a (by omega) hj
      have HJ := Lib.hid hj
      have HS := Lib.hid hside
      have hbd : (B d).size ≤ 16384 := by rw [bsize]; omega
      clear hj hside
      have HD := Lib.hid hsd
      clear hsd
      by_cases hlt : k < y.size
      · omega
      · obtain rfl : k = y.size := by omega
        by_cases hk0 : y.size = 0
        · have hda : d = [] ∧ a = true := by have := HJ.out; rw [hk0] at this; obtain ⟨h1, h2⟩ := Prod.mk.inj (Option.some.inj this); exact ⟨h1.symm, h2.symm⟩
          obtain ⟨rfl, rfl⟩ := hda
          have HR0 : Hid (rowed base y.data.toList = ([], false)) := Lib.hid (rowed_apart (d := []) (by rw [HD.out]; exact HJ.out))
          have hem : (B []).toList = [] := by rw [blist]
          go_wp2_with fail
          go_ret2
          exact ⟨by rw [HR0.out]; rfl, rfl⟩
        · omega
set_option maxRecDepth 100000 in
set_option maxHeartbeats 4000000 in
theorem row_on (s : ByteArray) (y : ByteArray) (base : Int) (w : World) (hs : y.size ≤ 16384) (hb : base ≤ 16) (hp : 0 < s.size) (hc0 : s[0] = 95) (hy : s.extract 1 s.size = y) :
    Calls Tryd.prog 41 #[.string s, .int .i64 base, .bool true] w (RowPost (rowed base y.data.toList).1 (rowed base y.data.toList).2 w) := by
  have hd0 : decide ((0 : Int) < (s.size : Int)) = true := decide_eq_true (by omega)
  obtain ⟨c, hc⟩ : ∃ c, s[0]'hp = c := ⟨_, rfl⟩
  rw [hc] at hc0
  have hcz : ((c.toNat : Int) == 95) = true := byte_eq (d := 95) hc0
  have hsl : ∀ u : World, (Instr.slice 9 (.string s) (some (.int .i64 1)) none none).run Tryd.prog u = .ok (.string y) u := fun u => by
    rw [← hy]
    exact run_slice_string_l (P := Tryd.prog) (w := u) (t := 9) (s := s) (ht := Tryd.underlying9) .i64 1 (by omega) (by omega)
  clear hy hc0
  go_enter Tryd.func41, Tryd.ntmps41
  go_wp2_with fail
  clear hcz hc hd0 hsl
  go_loop [8, 9] (fun out i => ∃ (k : Nat) (d : List UInt8) (a : Bool), k ≤ y.size ∧ i = .int .i64 k ∧ out = .string (B d) ∧ jTo base y.data.toList k = some (d, a) ∧ Side y.data.toList k a) (fun _ i => y.size - (intOf i).toNat)
  case atStart => exact ⟨0, [], true, Nat.zero_le _, rfl, rfl, rfl, Side.zero _⟩
  case round =>
    obtain ⟨k, d, a, hk, rfl, rfl, hj, hside⟩ := hrel
    have hsd := sdata y
    have hf := jTo_few k d a (by omega) hj
    have HJ := Lib.hid hj
    have HS := Lib.hid hside
    have hbd : (B d).size ≤ 16384 := by rw [bsize]; omega
    clear hj hside
    have HD := Lib.hid hsd
    clear hsd
    by_cases hlt : k < y.size
    · have HN := Lib.hid (jTo_succ (base := base) (l := y.data.toList) (k := k) (by have := HD.out; omega))
      obtain ⟨c, hc⟩ : ∃ c, y[k]'hlt = c := ⟨_, rfl⟩
      have hsl := slice_one y k hlt c hc
      have HC := Lib.hid hc
      rw [at_data hlt, hc, HJ.out] at HN
      have hc0 : (0 : Int) ≤ (c.toNat : Int) := by omega
      have hc1 : (c.toNat : Int) ≤ 255 := by have := UInt8.toNat_lt c; omega
      obtain ⟨z, hz⟩ : ∃ z, digZ (c.toNat : Int) 99 = z := ⟨_, rfl⟩
      have HZ := Lib.hid hz
      have HI : Hid (isDig base c = decide (z < base)) := Lib.hid (by rw [isDig, ← hz]; exact decide_eq_decide.2 (digZ_lt _ 16 99 base (by omega) (by omega) hb))
      clear hz
      by_cases h95 : c = 95
      · have hcz : ((c.toNat : Int) == 95) = true := byte_eq (d := 95) h95
        have hz99 : z = 99 := by rw [← HZ.out, h95]; rfl
        have hdd : decide (z < base) = false := decide_eq_false (by omega)
        have hdd' : decide (base ≤ z) = true := decide_eq_true (by omega)
        rw [hdd] at HI
        by_cases hk0 : 0 < k
        · have hd0 : decide ((0 : Int) < (k : Int)) = true := decide_eq_true (by omega)
          obtain ⟨p, hp⟩ : ∃ p, y[k - 1]'(by omega) = p := ⟨_, rfl⟩
          have hix : ∀ u : World, (Instr.index 9 (.string y) (.int .i64 ((k : Int) - 1))).run Tryd.prog u = .ok (.int .u8 (p.toNat : Int)) u := fun u => by
            rw [← hp]; exact index_at y _ (k - 1) (by omega) (by omega) u
          have ha := HS.out.prev hk0 (by have := HD.out; omega)
          rw [at_data (s := y) (i := k - 1) (by omega), hp] at ha
          by_cases hp95 : p = 95
          · have hpz : ((p.toNat : Int) != 95) = false := byte_eq' (d := 95) hp95
            have hat : a = true := ha.2 hp95
            have HR0 : Hid (rowed base y.data.toList = ([], false)) := Lib.hid (rowed_none (jTo_end (by have := HD.out; omega) (show jTo base y.data.toList (k + 1) = none by rw [HN.out, jStep, HI.out, if_neg (by simp), if_neg (by rw [hat]; simp)])))
            clear h95 HN ha hp95 hat hp
            go_wp2_with (go_at_call 51; refine (refDigit_any _ _ hc0 hc1).mono ?_; rintro e w' ⟨rfl, rfl⟩; rw [HZ.out])
            go_ret2
            exact ⟨by rw [HR0.out]; rfl, rfl⟩
          · have hpz : ((p.toNat : Int) != 95) = true := byte_ne' (d := 95) hp95
            have haf : a = false := by cases a with | false => rfl | true => exact absurd (ha.1 rfl) hp95
            have HR0 : Hid (jTo base y.data.toList (k + 1) = some (d, true)) := Lib.hid (by rw [HN.out, jStep, HI.out, if_neg (by simp), if_pos ⟨h95, haf⟩])
            clear HN ha hp95 haf hp
            by_cases hend : k + 1 < y.size
            · have he : decide ((k : Int) + 1 < (y.size : Int)) = true := decide_eq_true (by omega)
              have HS1 : Hid (Side y.data.toList (k + 1) true) := Lib.hid (Side.step (by have := HD.out; omega) (by rw [at_data hlt, HC.out]; exact ⟨fun _ => h95, fun _ => rfl⟩) (fun _ => by have := HD.out; omega))
              clear h95
              go_wp2_with fail
              go_round
              case rel => exact ⟨k + 1, d, true, by omega, by go_num, rfl, HR0.out, HS1.out⟩
              case measure => simp [intOf]; omega
            · have he : decide ((k : Int) + 1 < (y.size : Int)) = false := decide_eq_false (by omega)
              have HR1 : Hid (rowed base y.data.toList = ([], false)) := Lib.hid (rowed_apart (d := d) (by rw [HD.out, show y.size = k + 1 by omega]; exact HR0.out))
              clear h95
              go_wp2_with (go_at_call 51; refine (refDigit_any _ _ hc0 hc1).mono ?_; rintro e w' ⟨rfl, rfl⟩; rw [HZ.out])
              go_ret2
              exact ⟨by rw [HR1.out]; rfl, rfl⟩
        · have hd0 : decide ((0 : Int) < (k : Int)) = false := decide_eq_false (by omega)
          have hat : a = true := HS.out.zero_true (by omega)
          have HR0 : Hid (rowed base y.data.toList = ([], false)) := Lib.hid (rowed_none (jTo_end (by have := HD.out; omega) (show jTo base y.data.toList (k + 1) = none by rw [HN.out, jStep, HI.out, if_neg (by simp), if_neg (by rw [hat]; simp)])))
          clear h95 HN hat
          have hk00 : k = 0 := by omega
          subst hk00
          go_wp2_with (go_at_call 51; refine (refDigit_any _ _ hc0 hc1).mono ?_; rintro e w' ⟨rfl, rfl⟩; rw [HZ.out])
          go_ret2
          exact ⟨by rw [HR0.out]; rfl, rfl⟩
      · have hcz : ((c.toNat : Int) == 95) = false := byte_ne (d := 95) h95
        by_cases hdig : z < base
        · have hdd' : decide (base ≤ z) = false := decide_eq_false (by omega)
          have HR0 : Hid (jTo base y.data.toList (k + 1) = some (d ++ [c], false)) := Lib.hid (by rw [HN.out, jStep, HI.out, if_pos (decide_eq_true hdig)])
          have HS1 : Hid (Side y.data.toList (k + 1) false) := Lib.hid (Side.step (by have := HD.out; omega) (by rw [at_data hlt, HC.out]; exact ⟨fun g => (by cases g), fun g => absurd g h95⟩) (fun g => (by cases g)))
          have hbc : (B [c]).size ≤ 1 := by rw [bsize]; simp
          clear h95 HN
          go_wp2_with (go_at_call 51; refine (refDigit_any _ _ hc0 hc1).mono ?_; rintro e w' ⟨rfl, rfl⟩; rw [HZ.out])
          go_round
          case rel => exact ⟨k + 1, d ++ [c], false, by omega, by go_num, by rw [b_append], HR0.out, HS1.out⟩
          case measure => simp [intOf]; omega
        · have hdd' : decide (base ≤ z) = true := decide_eq_true (by omega)
          have HR0 : Hid (rowed base y.data.toList = ([], false)) := Lib.hid (rowed_none (jTo_end (by have := HD.out; omega) (show jTo base y.data.toList (k + 1) = none by rw [HN.out, jStep, HI.out, if_neg (by simpa using hdig), if_neg (fun g => h95 g.1)])))
          clear h95 HN
          go_wp2_with (go_at_call 51; refine (refDigit_any _ _ hc0 hc1).mono ?_; rintro e w' ⟨rfl, rfl⟩; rw [HZ.out])
          go_ret2
          exact ⟨by rw [HR0.out]; rfl, rfl⟩
    · obtain rfl : k = y.size := by omega
      by_cases hk0 : y.size = 0
      · have hda : d = [] ∧ a = true := by have := HJ.out; rw [hk0] at this; obtain ⟨h1, h2⟩ := Prod.mk.inj (Option.some.inj this); exact ⟨h1.symm, h2.symm⟩
        obtain ⟨rfl, rfl⟩ := hda
        have HR0 : Hid (rowed base y.data.toList = ([], false)) := Lib.hid (rowed_apart (d := []) (by rw [HD.out]; exact HJ.out))
        have hem : (B []).toList = [] := by rw [blist]
        go_wp2_with fail
        go_ret2
        exact ⟨by rw [HR0.out]; rfl, rfl⟩
      · have haf : a = false := HS.out.at_end (by omega) (by rw [HD.out])
        subst haf
        have hdne := jTo_digit (by rw [HD.out]; exact HJ.out)
        have HR0 : Hid (rowed base y.data.toList = (d, true)) := Lib.hid (by rw [rowed, HD.out, HJ.out])
        have hem : (B d).toList ≠ [] := by rw [blist]; exact hdne
        have hem2 : (!(B d).toList.isEmpty) = true := by rw [blist]; simpa using hdne
        go_wp2_with fail
        go_ret2
        exact ⟨by rw [HR0.out]; rfl, rfl⟩
end Go.Proofs.YtbmmbaagcglomaaDoor.tok
