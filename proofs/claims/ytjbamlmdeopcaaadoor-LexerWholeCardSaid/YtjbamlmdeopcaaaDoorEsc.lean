/-
  Escapes: token's.
-/
import Derived.Test.YtjbamlmdeopcaaaDoorNum
namespace Go.Proofs.YtjbamlmdeopcaaaDoor.tok
open Go.RowKit

/-- An escape: its number, whether that is a rune's, its width (0: there is none). -/
abbrev Esc := Int × Bool × Nat
def EscPost (v : Esc) (w : World) (e : Ending) (w' : World) : Prop := e = .returned (.agg #[.int .i64 v.1, .bool v.2.1, .int .i64 v.2.2]) ∧ Below w.heap.size w w'
def byteE (l : List UInt8) (i ahead count : Nat) (base : Int) : Esc := match numAt l (i + ahead) count base with
  | some n => if 255 < n then (0, false, 0) else (n, false, ahead + count)
  | none => (0, false, 0)
def runeE (l : List UInt8) (i count : Nat) : Esc := match numAt l (i + 2) count 16 with
  | some n => if 1114111 < n then (0, false, 0) else if Lib.validRune n then (n, true, 2 + count) else (0, false, 0)
  | none => (0, false, 0)
def signE (c q : UInt8) : Esc :=
  if c = 97 then (7, false, 2) else if c = 98 then (8, false, 2) else if c = 102 then (12, false, 2) else if c = 110 then (10, false, 2) else if c = 114 then (13, false, 2)
  else if c = 116 then (9, false, 2) else if c = 118 then (11, false, 2) else if c = 92 ∨ c = q then (c.toNat, false, 2) else (0, false, 0)
/-- The escape whose backslash stands at a place. -/
def escV (l : List UInt8) (i : Nat) (q : UInt8) : Esc := match l[i + 1]? with
  | none => (0, false, 0)
  | some c => if c = 120 then byteE l i 2 2 16 else if c = 117 then runeE l i 4 else if c = 85 then runeE l i 8
    else if c = 48 ∨ c = 49 ∨ c = 50 ∨ c = 51 ∨ c = 52 ∨ c = 53 ∨ c = 54 ∨ c = 55 then byteE l i 1 3 8 else signE c q

theorem numAt_bound {l : List UInt8} {i count : Nat} {base n : Int} (hb0 : 0 ≤ base) (hb : base ≤ 16) (h : numAt l i count base = some n) : i + count ≤ l.length ∧ 0 ≤ n ∧ n < 16 ^ count := by
  unfold numAt at h
  split at h
  · next g => exact ⟨g, nTo_bound hb0 hb _ _ g h⟩
  · cases h
theorem number_8z (s : ByteArray) (z m : Int) (i count : Nat) (w : World) (hz : z = (i : Int)) (hm : m = (count : Int)) (hs : s.size ≤ 140737488355328) (hi : i ≤ 140737488355338) (hc : count ≤ 8) :
    Calls Tryd.prog 62 #[.string s, .int .i64 z, .int .i64 m, .int .i64 8] w (NumPost (numAt s.data.toList i count 8) w) := by
  subst hz hm
  exact number_8 s i count w hs hi hc
theorem number_16z (s : ByteArray) (z m : Int) (i count : Nat) (w : World) (hz : z = (i : Int)) (hm : m = (count : Int)) (hs : s.size ≤ 140737488355328) (hi : i ≤ 140737488355338) (hc : count ≤ 8) :
    Calls Tryd.prog 62 #[.string s, .int .i64 z, .int .i64 m, .int .i64 16] w (NumPost (numAt s.data.toList i count 16) w) := by
  subst hz hm
  exact number_16 s i count w hs hi hc
set_option maxRecDepth 100000 in
set_option maxHeartbeats 1000000 in
theorem byteEsc_16 (s : ByteArray) (i : Nat) (w : World) (hs : s.size ≤ 140737488355328) (hi : i < s.size) :
    Calls Tryd.prog 56 #[.string s, .int .i64 i, .int .i64 2, .int .i64 2, .int .i64 16] w (EscPost (byteE s.data.toList i 2 2 16) w) := by
  obtain ⟨o, ho⟩ : ∃ o, numAt s.data.toList (i + 2) 2 16 = o := ⟨_, rfl⟩
  have HO := Lib.hid ho
  cases o with
  | none =>
    have HE : Hid (byteE s.data.toList i 2 2 16 = (0, false, 0)) := Lib.hid (by rw [byteE, ho])
    clear ho
    go_enter Tryd.func56, Tryd.ntmps56
    go_wp2_with (go_at_call 62; refine (number_16z s _ _ (i + 2) 2 _ (by omega) rfl hs (by omega) (by omega)).mono ?_; rintro e w' ⟨rfl, rfl⟩; rw [HO.out]; simp only [numR])
    refine bodyPost_ret (v := .agg #[.int .i64 0, .bool false, .int .i64 0]) (by simp [results, Tryd.results56, go_sem]) rfl ⟨by rw [HE.out]; rfl, ?_⟩
    exact (Below.refl _ _).alloc (Nat.le_refl _) _
  | some n =>
    obtain ⟨_, hn0, hn1⟩ := numAt_bound (by omega) (by omega) ho
    have hp := pow_le8 2 (by omega)
    have hn2 : n ≤ 4294967296 := by omega
    clear hp hn1
    by_cases hn : 255 < n
    · have hd : decide ((255 : Int) < n) = true := decide_eq_true hn
      have HE : Hid (byteE s.data.toList i 2 2 16 = (0, false, 0)) := Lib.hid (by rw [byteE, ho]; exact if_pos hn)
      clear ho
      go_enter Tryd.func56, Tryd.ntmps56
      go_wp2_with (go_at_call 62; refine (number_16z s _ _ (i + 2) 2 _ (by omega) rfl hs (by omega) (by omega)).mono ?_; rintro e w' ⟨rfl, rfl⟩; rw [HO.out]; simp only [numR])
      refine bodyPost_ret (v := .agg #[.int .i64 0, .bool false, .int .i64 0]) (by simp [results, Tryd.results56, go_sem]) rfl ⟨by rw [HE.out]; rfl, ?_⟩
      exact (Below.refl _ _).alloc (Nat.le_refl _) _
    · have hd : decide ((255 : Int) < n) = false := decide_eq_false hn
      have HE : Hid (byteE s.data.toList i 2 2 16 = (n, false, 4)) := Lib.hid (by rw [byteE, ho]; exact if_neg hn)
      clear ho
      go_enter Tryd.func56, Tryd.ntmps56
      go_wp2_with (go_at_call 62; refine (number_16z s _ _ (i + 2) 2 _ (by omega) rfl hs (by omega) (by omega)).mono ?_; rintro e w' ⟨rfl, rfl⟩; rw [HO.out]; simp only [numR])
      refine bodyPost_ret (v := .agg #[.int .i64 n, .bool false, .int .i64 4]) (by simp [results, Tryd.results56, go_sem]) rfl ⟨by rw [HE.out]; rfl, ?_⟩
      exact (Below.refl _ _).alloc (Nat.le_refl _) _
set_option maxRecDepth 100000 in
set_option maxHeartbeats 1000000 in
theorem byteEsc_8 (s : ByteArray) (i : Nat) (w : World) (hs : s.size ≤ 140737488355328) (hi : i < s.size) :
    Calls Tryd.prog 56 #[.string s, .int .i64 i, .int .i64 1, .int .i64 3, .int .i64 8] w (EscPost (byteE s.data.toList i 1 3 8) w) := by
  obtain ⟨o, ho⟩ : ∃ o, numAt s.data.toList (i + 1) 3 8 = o := ⟨_, rfl⟩
  have HO := Lib.hid ho
  cases o with
  | none =>
    have HE : Hid (byteE s.data.toList i 1 3 8 = (0, false, 0)) := Lib.hid (by rw [byteE, ho])
    clear ho
    go_enter Tryd.func56, Tryd.ntmps56
    go_wp2_with (go_at_call 62; refine (number_8z s _ _ (i + 1) 3 _ (by omega) rfl hs (by omega) (by omega)).mono ?_; rintro e w' ⟨rfl, rfl⟩; rw [HO.out]; simp only [numR])
    refine bodyPost_ret (v := .agg #[.int .i64 0, .bool false, .int .i64 0]) (by simp [results, Tryd.results56, go_sem]) rfl ⟨by rw [HE.out]; rfl, ?_⟩
    exact (Below.refl _ _).alloc (Nat.le_refl _) _
  | some n =>
    obtain ⟨_, hn0, hn1⟩ := numAt_bound (by omega) (by omega) ho
    have hp := pow_le8 3 (by omega)
    have hn2 : n ≤ 4294967296 := by omega
    clear hp hn1
    by_cases hn : 255 < n
    · have hd : decide ((255 : Int) < n) = true := decide_eq_true hn
      have HE : Hid (byteE s.data.toList i 1 3 8 = (0, false, 0)) := Lib.hid (by rw [byteE, ho]; exact if_pos hn)
      clear ho
      go_enter Tryd.func56, Tryd.ntmps56
      go_wp2_with (go_at_call 62; refine (number_8z s _ _ (i + 1) 3 _ (by omega) rfl hs (by omega) (by omega)).mono ?_; rintro e w' ⟨rfl, rfl⟩; rw [HO.out]; simp only [numR])
      refine bodyPost_ret (v := .agg #[.int .i64 0, .bool false, .int .i64 0]) (by simp [results, Tryd.results56, go_sem]) rfl ⟨by rw [HE.out]; rfl, ?_⟩
      exact (Below.refl _ _).alloc (Nat.le_refl _) _
    · have hd : decide ((255 : Int) < n) = false := decide_eq_false hn
      have HE : Hid (byteE s.data.toList i 1 3 8 = (n, false, 4)) := Lib.hid (by rw [byteE, ho]; exact if_neg hn)
      clear ho
      go_enter Tryd.func56, Tryd.ntmps56
      go_wp2_with (go_at_call 62; refine (number_8z s _ _ (i + 1) 3 _ (by omega) rfl hs (by omega) (by omega)).mono ?_; rintro e w' ⟨rfl, rfl⟩; rw [HO.out]; simp only [numR])
      refine bodyPost_ret (v := .agg #[.int .i64 n, .bool false, .int .i64 4]) (by simp [results, Tryd.results56, go_sem]) rfl ⟨by rw [HE.out]; rfl, ?_⟩
      exact (Below.refl _ _).alloc (Nat.le_refl _) _
set_option maxRecDepth 100000 in
set_option maxHeartbeats 1000000 in
theorem runeEsc_any (s : ByteArray) (i count : Nat) (w : World) (hs : s.size ≤ 140737488355328) (hi : i < s.size) (hc : count ≤ 8) :
    Calls Tryd.prog 57 #[.string s, .int .i64 i, .int .i64 count] w (EscPost (runeE s.data.toList i count) w) := by
  obtain ⟨o, ho⟩ : ∃ o, numAt s.data.toList (i + 2) count 16 = o := ⟨_, rfl⟩
  have HO := Lib.hid ho
  cases o with
  | none =>
    have HE : Hid (runeE s.data.toList i count = (0, false, 0)) := Lib.hid (by rw [runeE, ho])
    clear ho
    go_enter Tryd.func57, Tryd.ntmps57
    go_wp2_with (go_at_call 62; refine (number_16z s _ _ (i + 2) count _ (by omega) rfl hs (by omega) (by omega)).mono ?_; rintro e w' ⟨rfl, rfl⟩; rw [HO.out]; simp only [numR])
    refine bodyPost_ret (v := .agg #[.int .i64 0, .bool false, .int .i64 0]) (by simp [results, Tryd.results57, go_sem]) rfl ⟨by rw [HE.out]; rfl, ?_⟩
    exact (Below.refl _ _).alloc (Nat.le_refl _) _
  | some n =>
    obtain ⟨_, hn0, hn1⟩ := numAt_bound (by omega) (by omega) ho
    have hp := pow_le8 count (by omega)
    have hn2 : n ≤ 4294967296 := by omega
    clear hp hn1
    by_cases hn : 1114111 < n
    · have hd : decide ((1114111 : Int) < n) = true := decide_eq_true hn
      have HE : Hid (runeE s.data.toList i count = (0, false, 0)) := Lib.hid (by rw [runeE, ho]; exact if_pos hn)
      clear ho
      go_enter Tryd.func57, Tryd.ntmps57
      go_wp2_with (go_at_call 62; refine (number_16z s _ _ (i + 2) count _ (by omega) rfl hs (by omega) (by omega)).mono ?_; rintro e w' ⟨rfl, rfl⟩; rw [HO.out]; simp only [numR])
      refine bodyPost_ret (v := .agg #[.int .i64 0, .bool false, .int .i64 0]) (by simp [results, Tryd.results57, go_sem]) rfl ⟨by rw [HE.out]; rfl, ?_⟩
      exact (Below.refl _ _).alloc (Nat.le_refl _) _
    · have hd : decide ((1114111 : Int) < n) = false := decide_eq_false hn
      obtain ⟨b, hb⟩ : ∃ b, Lib.validRune n = b := ⟨_, rfl⟩
      have HB := Lib.hid hb
      cases b with
      | true =>
        have HE : Hid (runeE s.data.toList i count = (n, true, 2 + count)) := Lib.hid (by rw [runeE, ho]; simp only []; rw [if_neg hn, hb]; rfl)
        clear ho hb
        go_enter Tryd.func57, Tryd.ntmps57
        go_wp2_with (first | (go_at_call 62; refine (number_16z s _ _ (i + 2) count _ (by omega) rfl hs (by omega) (by omega)).mono ?_; rintro e w' ⟨rfl, rfl⟩; rw [HO.out]; simp only [numR]) | (go_at_call 63; refine (Tryd.utf8_ValidRune _ _).mono ?_; rintro e w' ⟨rfl, rfl⟩; rw [HB.out]))
        refine bodyPost_ret (v := .agg #[.int .i64 n, .bool true, .int .i64 (2 + (count : Int))]) (by simp [results, Tryd.results57, go_sem]) rfl ⟨by rw [HE.out]; show Ending.returned _ = Ending.returned (.agg #[.int .i64 n, .bool true, .int .i64 ((2 + count : Nat) : Int)]); rw [Int.natCast_add]; rfl, ?_⟩
        exact (Below.refl _ _).alloc (Nat.le_refl _) _
      | false =>
        have HE : Hid (runeE s.data.toList i count = (0, false, 0)) := Lib.hid (by rw [runeE, ho]; simp only []; rw [if_neg hn, hb]; rfl)
        clear ho hb
        go_enter Tryd.func57, Tryd.ntmps57
        go_wp2_with (first | (go_at_call 62; refine (number_16z s _ _ (i + 2) count _ (by omega) rfl hs (by omega) (by omega)).mono ?_; rintro e w' ⟨rfl, rfl⟩; rw [HO.out]; simp only [numR]) | (go_at_call 63; refine (Tryd.utf8_ValidRune _ _).mono ?_; rintro e w' ⟨rfl, rfl⟩; rw [HB.out]))
        refine bodyPost_ret (v := .agg #[.int .i64 0, .bool false, .int .i64 0]) (by simp [results, Tryd.results57, go_sem]) rfl ⟨by rw [HE.out]; rfl, ?_⟩
        exact (Below.refl _ _).alloc (Nat.le_refl _) _
end Go.Proofs.YtjbamlmdeopcaaaDoor.tok
