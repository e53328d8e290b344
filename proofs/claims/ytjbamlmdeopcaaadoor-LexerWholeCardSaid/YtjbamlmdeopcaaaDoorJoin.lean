/-
  token.joinDigits; rows of bytes of the call's own.
-/
import Derived.Test.YtjbamlmdeopcaaaDoorDigit
import Derived.Laws.BytesString
import Derived.Test.YtjbamlmdeopcaaaDoorShelf
namespace Go.Proofs.YtjbamlmdeopcaaaDoor.tok
open Go.RowKit

/-- A row of bytes of the call's own. -/
def Bytes (w : World) (B0 : Nat) (v : Value) (l : List UInt8) : Prop := w.ownsRow B0 5 1 v l.length (Lib.byteCells l)
theorem infoB : (Tryd.prog.info? 5).map (fun i => (i.zero, i.size, i.bytes)) = some (some (.int .u8 0), 1, 1) := by kernel_rfl
theorem Bytes.nil (w : World) (B0 : Nat) : Bytes w B0 (.slice none 0 0) [] := World.ownsRow_nil _ _ _ _
theorem Bytes.string {w : World} {B0 : Nat} {v : Value} {l : List UInt8} (h : Bytes w B0 v l) : (convert 74 9 v).run Tryd.prog w = .ok (.string (B l)) w := by
  rcases h.2 with ⟨rfl, b⟩ | ⟨g, cap, cur, rfl, hB, hg, hc, _⟩
  · have : l = [] := List.eq_nil_of_length_eq_zero b
    subst this
    rw [run_convert_bytes_string w _ _ _ _ _ _ Tryd.underlying74 Tryd.underlying5 Tryd.underlying9]
    simp [Conv.bytesToString]
    rfl
  · refine run_convert_bytes_back w _ _ _ ⟨g, 0, none⟩ cap l Tryd.underlying74 Tryd.underlying5 Tryd.underlying9 (fun j hj => ?_)
    exact World.ownsRow.cells h (g := g) rfl j _ (by simp [Lib.byteCells, hj])
theorem Bytes.more {w wr w2 : World} {o : Obj} {v v' : Value} {l : List UInt8} {c : UInt8} (hb : Below w.heap.size w wr) (hown : Bytes wr w.heap.size v l)
    (hown2 : w2.ownsRow w.heap.size 5 1 v' (l.length + 1) (Lib.byteCells l ++ [.int .u8 (c.toNat : Int)])) (hg : (wr.alloc o).grownBy w2 v.ownBlock) :
    Bytes w2 w.heap.size v' (l ++ [c]) ∧ Below w.heap.size w w2 := by
  have hlt := World.ownsRow.lt hown
  refine ⟨?_, (hb.alloc hb.size o).grown hg (by simp; have := hb.size; omega) (fun k hk => (hlt k hk).1)⟩
  unfold Bytes
  rw [List.length_append]
  have e : Lib.byteCells (l ++ [c]) = Lib.byteCells l ++ [.int .u8 (c.toNat : Int)] := by simp [Lib.byteCells]
  rw [e]
  exact hown2

def isDig (base : Int) (c : UInt8) : Bool := decide (digZ (c.toNat : Int) 16 < base)
def jStep (base : Int) : Option (List UInt8 × Bool) → UInt8 → Option (List UInt8 × Bool)
  | none, _ => none
  | some (d, a), c => if isDig base c then some (d ++ [c], false) else if c = 95 ∧ a = false then some (d, true) else none
def jTo (base : Int) (l : List UInt8) (k : Nat) : Option (List UInt8 × Bool) := (l.take k).foldl (jStep base) (some ([], true))
theorem jTo_succ {base : Int} {l : List UInt8} {k : Nat} (h : k < l.length) : jTo base l (k + 1) = jStep base (jTo base l k) l[k] := by
  unfold jTo
  rw [List.take_succ_eq_append_getElem h, List.foldl_append]
  rfl
theorem jTo_none {base : Int} {l : List UInt8} {k : Nat} (h : jTo base l k = none) : ∀ n, k + n ≤ l.length → jTo base l (k + n) = none := by
  intro n
  induction n with
  | zero => intro _; exact h
  | succ n ih =>
    intro hn
    rw [← Nat.add_assoc, jTo_succ (by omega), ih (by omega)]
    rfl
theorem jTo_end {base : Int} {l : List UInt8} {k : Nat} (hk : k ≤ l.length) (h : jTo base l k = none) : jTo base l l.length = none := by
  have := jTo_none h (l.length - k) (by omega)
  rwa [show k + (l.length - k) = l.length by omega] at this
theorem jTo_few {base : Int} {l : List UInt8} (k : Nat) : ∀ d a, k ≤ l.length → jTo base l k = some (d, a) → d.length ≤ k := by
  induction k with
  | zero => intro d a _ h; simp [jTo] at h; simp [← h.1]
  | succ k ih =>
    intro d a hk h
    rw [jTo_succ (by omega)] at h
    cases hp : jTo base l k with
    | none => rw [hp] at h; simp [jStep] at h
    | some p =>
      obtain ⟨d', a'⟩ := p
      have := ih d' a' (by omega) hp
      rw [hp] at h
      simp only [jStep] at h
      split at h
      · simp at h; rw [← h.1]; simp; omega
      · split at h
        · simp at h; rw [← h.1]; omega
        · simp at h
/-- What joinDigits answers. -/
def joined (base : Int) (l : List UInt8) : List UInt8 × Bool := match jTo base l l.length with
  | none => ([], false)
  | some (d, a) => (d, !a)
def Joined (x : List UInt8) (b : Bool) (w : World) (e : Ending) (w' : World) : Prop := e = .returned (.tuple #[.string (B x), .bool b]) ∧ Below w.heap.size w w'

set_option maxRecDepth 100000 in
set_option maxHeartbeats 2000000 in
theorem join_any (s : ByteArray) (base : Int) (w : World) (hs : s.size ≤ 16777216) :
    Calls Tryd.prog 40 #[.string s, .int .i64 base] w (Joined (joined base s.data.toList).1 (joined base s.data.toList).2 w) := by
  obtain ⟨i0, hi, hz0, hz1, hz2⟩ := info_parts infoB
  go_enter Tryd.func40, Tryd.ntmps40
  go_wp2
  go_loopw [6, 7, 11] (fun v ap i wr => ∃ (k : Nat) (d : List UInt8) (a : Bool), k ≤ s.size ∧ i = .int .i64 k ∧ ap = .bool a ∧ jTo base s.data.toList k = some (d, a) ∧ Bytes wr w.heap.size v d ∧ Below w.heap.size w wr) (fun _ _ i _ => s.size - (intOf i).toNat)
  case atStart => exact ⟨0, [], true, Nat.zero_le _, rfl, rfl, rfl, Bytes.nil _ _, Below.refl _ _⟩
  case round =>
    obtain ⟨k, d, a, hk, rfl, rfl, hj, hown, hbel⟩ := hrel
    have hsd := sdata s
    have hf := jTo_few k d a (by omega) hj
    have hsz := hbel.size
    have HO := Lib.hid hown
    have HB := Lib.hid hbel
    have HJ := Lib.hid hj
    clear hown hbel hj
    by_cases hlt : k < s.size
    · have HN := Lib.hid (jTo_succ (base := base) (l := s.data.toList) (k := k) (by omega))
      obtain ⟨c, hc⟩ : ∃ c, s[k]'hlt = c := ⟨_, rfl⟩
      rw [at_data hlt, hc, HJ.out] at HN
      have hc0 : (0 : Int) ≤ (c.toNat : Int) := by omega
      have hc1 : (c.toNat : Int) ≤ 255 := by have := UInt8.toNat_lt c; omega
      obtain ⟨z, hz⟩ : ∃ z, digZ (c.toNat : Int) 16 = z := ⟨_, rfl⟩
      have HZ := Lib.hid hz
      have hz16 := digZ_bounds (c.toNat : Int) 16 (by omega)
      rw [hz] at hz16
      clear hz
      have hz17 : z ≤ 16 := by omega
      have hz0' : 0 ≤ z := hz16.1
      have HD := Lib.hid hsd
      clear hsd hz16
      by_cases hdig : z < base
      · have hdd : decide (z < base) = true := decide_eq_true hdig
        have HR0 : Hid (jTo base s.data.toList (k + 1) = some (d ++ [c], false)) := Lib.hid (by rw [HN.out, jStep, if_pos (by rw [isDig, HZ.out]; exact hdd)])
        clear HN
        go_wp2_with (first | (go_at_call 49; refine (digit_any _ _ hc0 hc1).mono ?_; rintro e w' ⟨rfl, rfl⟩; rw [HZ.out]) | (at_builtin; refine wpList_append_own _ rfl _ _ 74 rfl w.heap.size 5 i0 (.int .u8 0) 1 1 Tryd.underlying74 hi hz0 hz1 hz2 rfl (by decide) _ _ _ rfl (World.ownsRow.alloc HO.out _) ⟨wr.heap.size, 0, none⟩ 1 1 [.int .u8 (c.toNat : Int)] rfl rfl ?c1 ?c2 ?c3 ?c4 ?c5 ?_))
        case c1 => exact one_new wr _ _
        case c2 => intro u hu; simp only [List.mem_cons, List.not_mem_nil, or_false] at hu; subst hu; rfl
        case c3 => unfold maxLen; omega
        case c4 => omega
        case c5 => simp; omega
        intro v' w2 hown2 hg _
        have HR := Lib.hid (Bytes.more HB.out HO.out hown2 hg)
        clear hown2 hg HO HB
        go_wp2
        go_roundw
        case rel => exact ⟨k + 1, d ++ [c], false, by omega, by go_num, rfl, HR0.out, HR.out.1, HR.out.2⟩
        case measure => simp [intOf]; omega
      · have hdd : decide (z < base) = false := decide_eq_false hdig
        by_cases h95 : c = 95
        · have hcz : ((c.toNat : Int) == 95) = true := byte_eq (d := 95) h95
          cases a with
          | false =>
            have HR0 : Hid (jTo base s.data.toList (k + 1) = some (d, true)) := Lib.hid (by rw [HN.out, jStep, if_neg (by rw [isDig, HZ.out, hdd]; simp), if_pos ⟨h95, rfl⟩])
            clear HN h95
            go_wp2_with (go_at_call 49; refine (digit_any _ _ hc0 hc1).mono ?_; rintro e w' ⟨rfl, rfl⟩; rw [HZ.out])
            go_roundw
            case rel => exact ⟨k + 1, d, true, by omega, by go_num, rfl, HR0.out, HO.out, HB.out⟩
            case measure => simp [intOf]; omega
          | true =>
            have HR0 : Hid (joined base s.data.toList = ([], false)) := Lib.hid (by
              have e1 : jTo base s.data.toList (k + 1) = none := by rw [HN.out, jStep, if_neg (by rw [isDig, HZ.out, hdd]; simp), if_neg (by simp)]
              have e2 := jTo_end (by have := HD.out; omega) e1
              rw [joined, e2])
            clear HN h95
            go_wp2_with (go_at_call 49; refine (digit_any _ _ hc0 hc1).mono ?_; rintro e w' ⟨rfl, rfl⟩; rw [HZ.out])
            go_ret2
            exact ⟨by rw [HR0.out]; rfl, HB.out⟩
        · have hcz : ((c.toNat : Int) == 95) = false := byte_ne (d := 95) h95
          have HR0 : Hid (joined base s.data.toList = ([], false)) := Lib.hid (by
            have e1 : jTo base s.data.toList (k + 1) = none := by rw [HN.out, jStep, if_neg (by rw [isDig, HZ.out, hdd]; simp), if_neg (fun g => h95 g.1)]
            have e2 := jTo_end (by have := HD.out; omega) e1
            rw [joined, e2])
          clear HN h95
          go_wp2_with (go_at_call 49; refine (digit_any _ _ hc0 hc1).mono ?_; rintro e w' ⟨rfl, rfl⟩; rw [HZ.out])
          go_ret2
          exact ⟨by rw [HR0.out]; rfl, HB.out⟩
    · obtain rfl : k = s.size := by omega
      have HR0 : Hid (joined base s.data.toList = (d, !a)) := Lib.hid (by rw [joined, hsd, HJ.out])
      have hcv := Bytes.string HO.out
      clear hsd
      go_wp2_with fail
      go_ret2
      exact ⟨by rw [HR0.out]; rfl, HB.out⟩
end Go.Proofs.YtjbamlmdeopcaaaDoor.tok
