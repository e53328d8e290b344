/-
  The reference's Digits.
-/
import Derived.Test.YtbmmbaagcglomaaDoorRow
namespace Go.Proofs.YtbmmbaagcglomaaDoor.tok
open Go.RowKit

theorem trim_on {a : UInt8} {t : List UInt8} (h : a = 95) : Lib.trimPrefix (a :: t) [95] = t := by
  subst h
  simp [Lib.trimPrefix, Lib.hasPrefix]
theorem trim_off {a : UInt8} {t : List UInt8} (h : a ≠ 95) : Lib.trimPrefix (a :: t) [95] = a :: t := by
  have : Lib.hasPrefix (a :: t) [95] = false := by
    show ((95 : UInt8) == a && List.isPrefixOf [] t) = false
    rw [show ((95 : UInt8) == a) = false by simpa using Ne.symm h]
    rfl
  rw [Lib.trimPrefix, if_neg (by rw [this]; simp)]
theorem head_at {x : List UInt8} {a : UInt8} {t : List UInt8} (e : x = a :: t) (h : 0 < (B x).size) : (B x)[0] = a := by
  have h' : 0 < (B x).data.toList.length := by rw [sdata]; exact h
  have e1 : (B x).data.toList[0]'h' = (B x)[0] := at_data h
  rw [← e1]
  simp [bdata, e]
/-- What the reference's row answers. -/
def rowOf (base : Int) (ahead : Bool) (x : List UInt8) : List UInt8 × Bool := rowed base (if ahead then Lib.trimPrefix x [95] else x)
theorem row_b (x : List UInt8) (base : Int) (a : Bool) (w : World) (hs : x.length ≤ 16384) (hb : base ≤ 16) :
    Calls Tryd.prog 41 #[.string (B x), .int .i64 base, .bool a] w (RowPost (rowOf base a x).1 (rowOf base a x).2 w) := by
  cases a with
  | false =>
    have := row_plain (B x) base w (by rw [bsize]; exact hs) hb
    rwa [bdata] at this
  | true =>
    show Calls _ _ _ _ (RowPost (rowed base (Lib.trimPrefix x [95])).1 (rowed base (Lib.trimPrefix x [95])).2 w)
    cases x with
    | nil =>
      have := row_off (B []) base w (by rw [bsize]; simp) hb (fun h => by rw [bsize] at h; simp at h)
      rwa [bdata] at this
    | cons a t =>
      by_cases h : a = 95
      · have hy : (B (a :: t)).extract 1 (B (a :: t)).size = B t := by
          rw [b_extract, bdata, bsize, List.drop_one, List.tail_cons, List.take_of_length_le (by simp)]
        have := row_on (B (a :: t)) (B t) base w (by rw [bsize]; simp at hs; omega) hb (by rw [bsize]; simp) (by rw [head_at rfl, h]) hy
        rw [bdata] at this
        rw [trim_on h]
        exact this
      · have := row_off (B (a :: t)) base w (by rw [bsize]; exact hs) hb (fun g => by rw [head_at rfl]; exact h)
        rw [bdata] at this
        rw [trim_off h]
        exact this

/-- The document's answer, by the row's. -/
theorem num_row (l : List UInt8) : numOf l = if (rowOf (prefixOf l).1 (decide (0 < (prefixOf l).2)) (l.drop (prefixOf l).2)).2 then ((prefixOf l).1, (rowOf (prefixOf l).1 (decide (0 < (prefixOf l).2)) (l.drop (prefixOf l).2)).1, true) else (0, [], false) := by
  have e : (if decide (0 < (prefixOf l).2) = true then Lib.trimPrefix (l.drop (prefixOf l).2) [95] else l.drop (prefixOf l).2) = restOf l := by
    unfold restOf
    by_cases h : 0 < (prefixOf l).2
    · rw [if_pos (decide_eq_true h), if_pos h]
    · rw [if_neg (by simpa using h), if_neg h]
  unfold rowOf
  rw [e]
  unfold numOf rowed
  cases jTo ((prefixOf l).1 : Int) (restOf l) (restOf l).length with
  | none => rfl
  | some p =>
    obtain ⟨d, a⟩ := p
    cases a <;> rfl

set_option maxRecDepth 100000 in
set_option maxHeartbeats 1000000 in
theorem refDigits_short (s : ByteArray) (w : World) (hs : s.size ≤ 16384) (h48 : s.toList ≠ [48]) (h : s.size < 2) (hpre : prefixOf s.data.toList = (10, 0)) :
    Calls Tryd.prog 26 #[.string s] w (Triple (numOf s.data.toList).1 (numOf s.data.toList).2.1 (numOf s.data.toList).2.2 w) := by
  have hnum := num_row s.data.toList
  rw [hpre] at hnum
  have hlen : 0 ≤ s.size := by have := (prefix_le s.data.toList).1; rw [hpre, sdata] at this; exact this
  obtain ⟨x, hx⟩ : ∃ x, s.data.toList.drop 0 = x := ⟨_, rfl⟩
  have hsl : ∀ u : World, (Instr.slice 9 (.string s) (some (.int .i64 0)) none none).run Tryd.prog u = .ok (.string (B x)) u := fun u => by rw [← hx]; exact slice_from s 0 hlen u
  have hxl : x.length ≤ 16384 := by rw [← hx, List.length_drop, sdata]; omega
  obtain ⟨d, ok, hr⟩ : ∃ d ok, rowOf 10 false x = (d, ok) := ⟨_, _, rfl⟩
  have HR := Lib.hid hr
  have HE : Hid (numOf s.data.toList = if ok then (10, d, true) else (0, [], false)) := Lib.hid (by
    rw [hnum]
    show (if (rowOf 10 false (s.data.toList.drop 0)).2 then (10, (rowOf 10 false (s.data.toList.drop 0)).1, true) else (0, [], false)) = _
    rw [hx, hr])
  have h48' : (s.toList == [48]) = false := by simpa using h48
  have hd1 : decide ((1 : Int) < (s.size : Int)) = false := decide_eq_false (by omega)
  clear hnum hx hr hpre h48
  cases ok with
  | true =>
    have HF : Hid (numOf s.data.toList = (10, d, true)) := Lib.hid (by rw [HE.out, if_pos rfl])
    clear HE
    go_enter Tryd.func26, Tryd.ntmps26
    go_wp2_with (go_at_call 41; refine (row_b _ _ _ _ hxl (by decide)).mono ?_; rintro e w' ⟨rfl, rfl⟩; rw [HR.out])
    go_ret3
    exact ⟨by rw [HF.out]; rfl, Below.refl _ _⟩
  | false =>
    have HF : Hid (numOf s.data.toList = (0, [], false)) := Lib.hid (by rw [HE.out, if_neg (by simp)])
    clear HE
    go_enter Tryd.func26, Tryd.ntmps26
    go_wp2_with (go_at_call 41; refine (row_b _ _ _ _ hxl (by decide)).mono ?_; rintro e w' ⟨rfl, rfl⟩; rw [HR.out])
    go_ret3
    exact ⟨by rw [HF.out]; rfl, Below.refl _ _⟩
set_option maxRecDepth 100000 in
set_option maxHeartbeats 1000000 in
theorem refDigits_ten (s : ByteArray) (w : World) (hs : s.size ≤ 16384) (h48 : s.toList ≠ [48]) (h : 1 < s.size) (ha : s[0] ≠ 48) (hpre : prefixOf s.data.toList = (10, 0)) :
    Calls Tryd.prog 26 #[.string s] w (Triple (numOf s.data.toList).1 (numOf s.data.toList).2.1 (numOf s.data.toList).2.2 w) := by
  have hnum := num_row s.data.toList
  rw [hpre] at hnum
  have hlen : 0 ≤ s.size := by have := (prefix_le s.data.toList).1; rw [hpre, sdata] at this; exact this
  obtain ⟨x, hx⟩ : ∃ x, s.data.toList.drop 0 = x := ⟨_, rfl⟩
  have hsl : ∀ u : World, (Instr.slice 9 (.string s) (some (.int .i64 0)) none none).run Tryd.prog u = .ok (.string (B x)) u := fun u => by rw [← hx]; exact slice_from s 0 hlen u
  have hxl : x.length ≤ 16384 := by rw [← hx, List.length_drop, sdata]; omega
  obtain ⟨d, ok, hr⟩ : ∃ d ok, rowOf 10 false x = (d, ok) := ⟨_, _, rfl⟩
  have HR := Lib.hid hr
  have HE : Hid (numOf s.data.toList = if ok then (10, d, true) else (0, [], false)) := Lib.hid (by
    rw [hnum]
    show (if (rowOf 10 false (s.data.toList.drop 0)).2 then (10, (rowOf 10 false (s.data.toList.drop 0)).1, true) else (0, [], false)) = _
    rw [hx, hr])
  have h48' : (s.toList == [48]) = false := by simpa using h48
  have hd1 : decide ((1 : Int) < (s.size : Int)) = true := decide_eq_true (by omega)
  obtain ⟨a, ha'⟩ : ∃ a, s[0] = a := ⟨_, rfl⟩
  rw [ha'] at ha
  have haz : ((a.toNat : Int) == 48) = false := byte_ne (d := 48) ha
  clear ha
  clear hnum hx hr hpre h48
  cases ok with
  | true =>
    have HF : Hid (numOf s.data.toList = (10, d, true)) := Lib.hid (by rw [HE.out, if_pos rfl])
    clear HE
    go_enter Tryd.func26, Tryd.ntmps26
    go_wp2_with (go_at_call 41; refine (row_b _ _ _ _ hxl (by decide)).mono ?_; rintro e w' ⟨rfl, rfl⟩; rw [HR.out])
    go_ret3
    exact ⟨by rw [HF.out]; rfl, Below.refl _ _⟩
  | false =>
    have HF : Hid (numOf s.data.toList = (0, [], false)) := Lib.hid (by rw [HE.out, if_neg (by simp)])
    clear HE
    go_enter Tryd.func26, Tryd.ntmps26
    go_wp2_with (go_at_call 41; refine (row_b _ _ _ _ hxl (by decide)).mono ?_; rintro e w' ⟨rfl, rfl⟩; rw [HR.out])
    go_ret3
    exact ⟨by rw [HF.out]; rfl, Below.refl _ _⟩
set_option maxRecDepth 100000 in
set_option maxHeartbeats 1000000 in
theorem refDigits_98 (s : ByteArray) (w : World) (hs : s.size ≤ 16384) (h48 : s.toList ≠ [48]) (h : 1 < s.size) (ha : s[0] = 48) (hc : s[1] = 98) (hpre : prefixOf s.data.toList = (2, 2)) :
    Calls Tryd.prog 26 #[.string s] w (Triple (numOf s.data.toList).1 (numOf s.data.toList).2.1 (numOf s.data.toList).2.2 w) := by
  have hnum := num_row s.data.toList
  rw [hpre] at hnum
  have hlen : 2 ≤ s.size := by have := (prefix_le s.data.toList).1; rw [hpre, sdata] at this; exact this
  obtain ⟨x, hx⟩ : ∃ x, s.data.toList.drop 2 = x := ⟨_, rfl⟩
  have hsl : ∀ u : World, (Instr.slice 9 (.string s) (some (.int .i64 2)) none none).run Tryd.prog u = .ok (.string (B x)) u := fun u => by rw [← hx]; exact slice_from s 2 hlen u
  have hxl : x.length ≤ 16384 := by rw [← hx, List.length_drop, sdata]; omega
  obtain ⟨d, ok, hr⟩ : ∃ d ok, rowOf 2 true x = (d, ok) := ⟨_, _, rfl⟩
  have HR := Lib.hid hr
  have HE : Hid (numOf s.data.toList = if ok then (2, d, true) else (0, [], false)) := Lib.hid (by
    rw [hnum]
    show (if (rowOf 2 true (s.data.toList.drop 2)).2 then (2, (rowOf 2 true (s.data.toList.drop 2)).1, true) else (0, [], false)) = _
    rw [hx, hr])
  have h48' : (s.toList == [48]) = false := by simpa using h48
  have hd1 : decide ((1 : Int) < (s.size : Int)) = true := decide_eq_true (by omega)
  obtain ⟨a, ha'⟩ : ∃ a, s[0] = a := ⟨_, rfl⟩
  rw [ha'] at ha
  have haz : ((a.toNat : Int) == 48) = true := byte_eq (d := 48) ha
  clear ha
  obtain ⟨c, hc'⟩ : ∃ c, s[1] = c := ⟨_, rfl⟩
  rw [hc'] at hc
  have hc98 : ((c.toNat : Int) == 98) = true := byte_eq (d := 98) hc
  clear hc
  clear hnum hx hr hpre h48
  cases ok with
  | true =>
    have HF : Hid (numOf s.data.toList = (2, d, true)) := Lib.hid (by rw [HE.out, if_pos rfl])
    clear HE
    go_enter Tryd.func26, Tryd.ntmps26
    go_wp2_with (go_at_call 41; refine (row_b _ _ _ _ hxl (by decide)).mono ?_; rintro e w' ⟨rfl, rfl⟩; rw [HR.out])
    go_ret3
    exact ⟨by rw [HF.out]; rfl, Below.refl _ _⟩
  | false =>
    have HF : Hid (numOf s.data.toList = (0, [], false)) := Lib.hid (by rw [HE.out, if_neg (by simp)])
    clear HE
    go_enter Tryd.func26, Tryd.ntmps26
    go_wp2_with (go_at_call 41; refine (row_b _ _ _ _ hxl (by decide)).mono ?_; rintro e w' ⟨rfl, rfl⟩; rw [HR.out])
    go_ret3
    exact ⟨by rw [HF.out]; rfl, Below.refl _ _⟩
set_option maxRecDepth 100000 in
set_option maxHeartbeats 1000000 in
theorem refDigits_66 (s : ByteArray) (w : World) (hs : s.size ≤ 16384) (h48 : s.toList ≠ [48]) (h : 1 < s.size) (ha : s[0] = 48) (hc : s[1] = 66) (hpre : prefixOf s.data.toList = (2, 2)) :
    Calls Tryd.prog 26 #[.string s] w (Triple (numOf s.data.toList).1 (numOf s.data.toList).2.1 (numOf s.data.toList).2.2 w) := by
  have hnum := num_row s.data.toList
  rw [hpre] at hnum
  have hlen : 2 ≤ s.size := by have := (prefix_le s.data.toList).1; rw [hpre, sdata] at this; exact this
  obtain ⟨x, hx⟩ : ∃ x, s.data.toList.drop 2 = x := ⟨_, rfl⟩
  have hsl : ∀ u : World, (Instr.slice 9 (.string s) (some (.int .i64 2)) none none).run Tryd.prog u = .ok (.string (B x)) u := fun u => by rw [← hx]; exact slice_from s 2 hlen u
  have hxl : x.length ≤ 16384 := by rw [← hx, List.length_drop, sdata]; omega
  obtain ⟨d, ok, hr⟩ : ∃ d ok, rowOf 2 true x = (d, ok) := ⟨_, _, rfl⟩
  have HR := Lib.hid hr
  have HE : Hid (numOf s.data.toList = if ok then (2, d, true) else (0, [], false)) := Lib.hid (by
    rw [hnum]
    show (if (rowOf 2 true (s.data.toList.drop 2)).2 then (2, (rowOf 2 true (s.data.toList.drop 2)).1, true) else (0, [], false)) = _
    rw [hx, hr])
  have h48' : (s.toList == [48]) = false := by simpa using h48
  have hd1 : decide ((1 : Int) < (s.size : Int)) = true := decide_eq_true (by omega)
  obtain ⟨a, ha'⟩ : ∃ a, s[0] = a := ⟨_, rfl⟩
  rw [ha'] at ha
  have haz : ((a.toNat : Int) == 48) = true := byte_eq (d := 48) ha
  clear ha
  obtain ⟨c, hc'⟩ : ∃ c, s[1] = c := ⟨_, rfl⟩
  rw [hc'] at hc
  have hc98 : ((c.toNat : Int) == 98) = false := byte_ne (d := 98) (by rw [hc]; decide)
  have hc66 : ((c.toNat : Int) == 66) = true := byte_eq (d := 66) hc
  clear hc
  clear hnum hx hr hpre h48
  cases ok with
  | true =>
    have HF : Hid (numOf s.data.toList = (2, d, true)) := Lib.hid (by rw [HE.out, if_pos rfl])
    clear HE
    go_enter Tryd.func26, Tryd.ntmps26
    go_wp2_with (go_at_call 41; refine (row_b _ _ _ _ hxl (by decide)).mono ?_; rintro e w' ⟨rfl, rfl⟩; rw [HR.out])
    go_ret3
    exact ⟨by rw [HF.out]; rfl, Below.refl _ _⟩
  | false =>
    have HF : Hid (numOf s.data.toList = (0, [], false)) := Lib.hid (by rw [HE.out, if_neg (by simp)])
    clear HE
    go_enter Tryd.func26, Tryd.ntmps26
    go_wp2_with (go_at_call 41; refine (row_b _ _ _ _ hxl (by decide)).mono ?_; rintro e w' ⟨rfl, rfl⟩; rw [HR.out])
    go_ret3
    exact ⟨by rw [HF.out]; rfl, Below.refl _ _⟩
set_option maxRecDepth 100000 in
set_option maxHeartbeats 1000000 in
theorem refDigits_111 (s : ByteArray) (w : World) (hs : s.size ≤ 16384) (h48 : s.toList ≠ [48]) (h : 1 < s.size) (ha : s[0] = 48) (hc : s[1] = 111) (hpre : prefixOf s.data.toList = (8, 2)) :
    Calls Tryd.prog 26 #[.string s] w (Triple (numOf s.data.toList).1 (numOf s.data.toList).2.1 (numOf s.data.toList).2.2 w) := by
  have hnum := num_row s.data.toList
  rw [hpre] at hnum
  have hlen : 2 ≤ s.size := by have := (prefix_le s.data.toList).1; rw [hpre, sdata] at this; exact this
  obtain ⟨x, hx⟩ : ∃ x, s.data.toList.drop 2 = x := ⟨_, rfl⟩
  have hsl : ∀ u : World, (Instr.slice 9 (.string s) (some (.int .i64 2)) none none).run Tryd.prog u = .ok (.string (B x)) u := fun u => by rw [← hx]; exact slice_from s 2 hlen u
  have hxl : x.length ≤ 16384 := by rw [← hx, List.length_drop, sdata]; omega
  obtain ⟨d, ok, hr⟩ : ∃ d ok, rowOf 8 true x = (d, ok) := ⟨_, _, rfl⟩
  have HR := Lib.hid hr
  have HE : Hid (numOf s.data.toList = if ok then (8, d, true) else (0, [], false)) := Lib.hid (by
    rw [hnum]
    show (if (rowOf 8 true (s.data.toList.drop 2)).2 then (8, (rowOf 8 true (s.data.toList.drop 2)).1, true) else (0, [], false)) = _
    rw [hx, hr])
  have h48' : (s.toList == [48]) = false := by simpa using h48
  have hd1 : decide ((1 : Int) < (s.size : Int)) = true := decide_eq_true (by omega)
  obtain ⟨a, ha'⟩ : ∃ a, s[0] = a := ⟨_, rfl⟩
  rw [ha'] at ha
  have haz : ((a.toNat : Int) == 48) = true := byte_eq (d := 48) ha
  clear ha
  obtain ⟨c, hc'⟩ : ∃ c, s[1] = c := ⟨_, rfl⟩
  rw [hc'] at hc
  have hc98 : ((c.toNat : Int) == 98) = false := byte_ne (d := 98) (by rw [hc]; decide)
  have hc66 : ((c.toNat : Int) == 66) = false := byte_ne (d := 66) (by rw [hc]; decide)
  have hc111 : ((c.toNat : Int) == 111) = true := byte_eq (d := 111) hc
  clear hc
  clear hnum hx hr hpre h48
  cases ok with
  | true =>
    have HF : Hid (numOf s.data.toList = (8, d, true)) := Lib.hid (by rw [HE.out, if_pos rfl])
    clear HE
    go_enter Tryd.func26, Tryd.ntmps26
    go_wp2_with (go_at_call 41; refine (row_b _ _ _ _ hxl (by decide)).mono ?_; rintro e w' ⟨rfl, rfl⟩; rw [HR.out])
    go_ret3
    exact ⟨by rw [HF.out]; rfl, Below.refl _ _⟩
  | false =>
    have HF : Hid (numOf s.data.toList = (0, [], false)) := Lib.hid (by rw [HE.out, if_neg (by simp)])
    clear HE
    go_enter Tryd.func26, Tryd.ntmps26
    go_wp2_with (go_at_call 41; refine (row_b _ _ _ _ hxl (by decide)).mono ?_; rintro e w' ⟨rfl, rfl⟩; rw [HR.out])
    go_ret3
    exact ⟨by rw [HF.out]; rfl, Below.refl _ _⟩
set_option maxRecDepth 100000 in
set_option maxHeartbeats 1000000 in
theorem refDigits_79 (s : ByteArray) (w : World) (hs : s.size ≤ 16384) (h48 : s.toList ≠ [48]) (h : 1 < s.size) (ha : s[0] = 48) (hc : s[1] = 79) (hpre : prefixOf s.data.toList = (8, 2)) :
    Calls Tryd.prog 26 #[.string s] w (Triple (numOf s.data.toList).1 (numOf s.data.toList).2.1 (numOf s.data.toList).2.2 w) := by
  have hnum := num_row s.data.toList
  rw [hpre] at hnum
  have hlen : 2 ≤ s.size := by have := (prefix_le s.data.toList).1; rw [hpre, sdata] at this; exact this
  obtain ⟨x, hx⟩ : ∃ x, s.data.toList.drop 2 = x := ⟨_, rfl⟩
  have hsl : ∀ u : World, (Instr.slice 9 (.string s) (some (.int .i64 2)) none none).run Tryd.prog u = .ok (.string (B x)) u := fun u => by rw [← hx]; exact slice_from s 2 hlen u
  have hxl : x.length ≤ 16384 := by rw [← hx, List.length_drop, sdata]; omega
  obtain ⟨d, ok, hr⟩ : ∃ d ok, rowOf 8 true x = (d, ok) := ⟨_, _, rfl⟩
  have HR := Lib.hid hr
  have HE : Hid (numOf s.data.toList = if ok then (8, d, true) else (0, [], false)) := Lib.hid (by
    rw [hnum]
    show (if (rowOf 8 true (s.data.toList.drop 2)).2 then (8, (rowOf 8 true (s.data.toList.drop 2)).1, true) else (0, [], false)) = _
    rw [hx, hr])
  have h48' : (s.toList == [48]) = false := by simpa using h48
  have hd1 : decide ((1 : Int) < (s.size : Int)) = true := decide_eq_true (by omega)
  obtain ⟨a, ha'⟩ : ∃ a, s[0] = a := ⟨_, rfl⟩
  rw [ha'] at ha
  have haz : ((a.toNat : Int) == 48) = true := byte_eq (d := 48) ha
  clear ha
  obtain ⟨c, hc'⟩ : ∃ c, s[1] = c := ⟨_, rfl⟩
  rw [hc'] at hc
  have hc98 : ((c.toNat : Int) == 98) = false := byte_ne (d := 98) (by rw [hc]; decide)
  have hc66 : ((c.toNat : Int) == 66) = false := byte_ne (d := 66) (by rw [hc]; decide)
  have hc111 : ((c.toNat : Int) == 111) = false := byte_ne (d := 111) (by rw [hc]; decide)
  have hc79 : ((c.toNat : Int) == 79) = true := byte_eq (d := 79) hc
  clear hc
  clear hnum hx hr hpre h48
  cases ok with
  | true =>
    have HF : Hid (numOf s.data.toList = (8, d, true)) := Lib.hid (by rw [HE.out, if_pos rfl])
    clear HE
    go_enter Tryd.func26, Tryd.ntmps26
    go_wp2_with (go_at_call 41; refine (row_b _ _ _ _ hxl (by decide)).mono ?_; rintro e w' ⟨rfl, rfl⟩; rw [HR.out])
    go_ret3
    exact ⟨by rw [HF.out]; rfl, Below.refl _ _⟩
  | false =>
    have HF : Hid (numOf s.data.toList = (0, [], false)) := Lib.hid (by rw [HE.out, if_neg (by simp)])
    clear HE
    go_enter Tryd.func26, Tryd.ntmps26
    go_wp2_with (go_at_call 41; refine (row_b _ _ _ _ hxl (by decide)).mono ?_; rintro e w' ⟨rfl, rfl⟩; rw [HR.out])
    go_ret3
    exact ⟨by rw [HF.out]; rfl, Below.refl _ _⟩
set_option maxRecDepth 100000 in
set_option maxHeartbeats 1000000 in
theorem refDigits_120 (s : ByteArray) (w : World) (hs : s.size ≤ 16384) (h48 : s.toList ≠ [48]) (h : 1 < s.size) (ha : s[0] = 48) (hc : s[1] = 120) (hpre : prefixOf s.data.toList = (16, 2)) :
    Calls Tryd.prog 26 #[.string s] w (Triple (numOf s.data.toList).1 (numOf s.data.toList).2.1 (numOf s.data.toList).2.2 w) := by
  have hnum := num_row s.data.toList
  rw [hpre] at hnum
  have hlen : 2 ≤ s.size := by have := (prefix_le s.data.toList).1; rw [hpre, sdata] at this; exact this
  obtain ⟨x, hx⟩ : ∃ x, s.data.toList.drop 2 = x := ⟨_, rfl⟩
  have hsl : ∀ u : World, (Instr.slice 9 (.string s) (some (.int .i64 2)) none none).run Tryd.prog u = .ok (.string (B x)) u := fun u => by rw [← hx]; exact slice_from s 2 hlen u
  have hxl : x.length ≤ 16384 := by rw [← hx, List.length_drop, sdata]; omega
  obtain ⟨d, ok, hr⟩ : ∃ d ok, rowOf 16 true x = (d, ok) := ⟨_, _, rfl⟩
  have HR := Lib.hid hr
  have HE : Hid (numOf s.data.toList = if ok then (16, d, true) else (0, [], false)) := Lib.hid (by
    rw [hnum]
    show (if (rowOf 16 true (s.data.toList.drop 2)).2 then (16, (rowOf 16 true (s.data.toList.drop 2)).1, true) else (0, [], false)) = _
    rw [hx, hr])
  have h48' : (s.toList == [48]) = false := by simpa using h48
  have hd1 : decide ((1 : Int) < (s.size : Int)) = true := decide_eq_true (by omega)
  obtain ⟨a, ha'⟩ : ∃ a, s[0] = a := ⟨_, rfl⟩
  rw [ha'] at ha
  have haz : ((a.toNat : Int) == 48) = true := byte_eq (d := 48) ha
  clear ha
  obtain ⟨c, hc'⟩ : ∃ c, s[1] = c := ⟨_, rfl⟩
  rw [hc'] at hc
  have hc98 : ((c.toNat : Int) == 98) = false := byte_ne (d := 98) (by rw [hc]; decide)
  have hc66 : ((c.toNat : Int) == 66) = false := byte_ne (d := 66) (by rw [hc]; decide)
  have hc111 : ((c.toNat : Int) == 111) = false := byte_ne (d := 111) (by rw [hc]; decide)
  have hc79 : ((c.toNat : Int) == 79) = false := byte_ne (d := 79) (by rw [hc]; decide)
  have hc120 : ((c.toNat : Int) == 120) = true := byte_eq (d := 120) hc
  clear hc
  clear hnum hx hr hpre h48
  cases ok with
  | true =>
    have HF : Hid (numOf s.data.toList = (16, d, true)) := Lib.hid (by rw [HE.out, if_pos rfl])
    clear HE
    go_enter Tryd.func26, Tryd.ntmps26
    go_wp2_with (go_at_call 41; refine (row_b _ _ _ _ hxl (by decide)).mono ?_; rintro e w' ⟨rfl, rfl⟩; rw [HR.out])
    go_ret3
    exact ⟨by rw [HF.out]; rfl, Below.refl _ _⟩
  | false =>
    have HF : Hid (numOf s.data.toList = (0, [], false)) := Lib.hid (by rw [HE.out, if_neg (by simp)])
    clear HE
    go_enter Tryd.func26, Tryd.ntmps26
    go_wp2_with (go_at_call 41; refine (row_b _ _ _ _ hxl (by decide)).mono ?_; rintro e w' ⟨rfl, rfl⟩; rw [HR.out])
    go_ret3
    exact ⟨by rw [HF.out]; rfl, Below.refl _ _⟩
set_option maxRecDepth 100000 in
set_option maxHeartbeats 1000000 in
theorem refDigits_88 (s : ByteArray) (w : World) (hs : s.size ≤ 16384) (h48 : s.toList ≠ [48]) (h : 1 < s.size) (ha : s[0] = 48) (hc : s[1] = 88) (hpre : prefixOf s.data.toList = (16, 2)) :
    Calls Tryd.prog 26 #[.string s] w (Triple (numOf s.data.toList).1 (numOf s.data.toList).2.1 (numOf s.data.toList).2.2 w) := by
  have hnum := num_row s.data.toList
  rw [hpre] at hnum
  have hlen : 2 ≤ s.size := by have := (prefix_le s.data.toList).1; rw [hpre, sdata] at this; exact this
  obtain ⟨x, hx⟩ : ∃ x, s.data.toList.drop 2 = x := ⟨_, rfl⟩
  have hsl : ∀ u : World, (Instr.slice 9 (.string s) (some (.int .i64 2)) none none).run Tryd.prog u = .ok (.string (B x)) u := fun u => by rw [← hx]; exact slice_from s 2 hlen u
  have hxl : x.length ≤ 16384 := by rw [← hx, List.length_drop, sdata]; omega
  obtain ⟨d, ok, hr⟩ : ∃ d ok, rowOf 16 true x = (d, ok) := ⟨_, _, rfl⟩
  have HR := Lib.hid hr
  have HE : Hid (numOf s.data.toList = if ok then (16, d, true) else (0, [], false)) := Lib.hid (by
    rw [hnum]
    show (if (rowOf 16 true (s.data.toList.drop 2)).2 then (16, (rowOf 16 true (s.data.toList.drop 2)).1, true) else (0, [], false)) = _
    rw [hx, hr])
  have h48' : (s.toList == [48]) = false := by simpa using h48
  have hd1 : decide ((1 : Int) < (s.size : Int)) = true := decide_eq_true (by omega)
  obtain ⟨a, ha'⟩ : ∃ a, s[0] = a := ⟨_, rfl⟩
  rw [ha'] at ha
  have haz : ((a.toNat : Int) == 48) = true := byte_eq (d := 48) ha
  clear ha
  obtain ⟨c, hc'⟩ : ∃ c, s[1] = c := ⟨_, rfl⟩
  rw [hc'] at hc
  have hc98 : ((c.toNat : Int) == 98) = false := byte_ne (d := 98) (by rw [hc]; decide)
  have hc66 : ((c.toNat : Int) == 66) = false := byte_ne (d := 66) (by rw [hc]; decide)
  have hc111 : ((c.toNat : Int) == 111) = false := byte_ne (d := 111) (by rw [hc]; decide)
  have hc79 : ((c.toNat : Int) == 79) = false := byte_ne (d := 79) (by rw [hc]; decide)
  have hc120 : ((c.toNat : Int) == 120) = false := byte_ne (d := 120) (by rw [hc]; decide)
  have hc88 : ((c.toNat : Int) == 88) = true := byte_eq (d := 88) hc
  clear hc
  clear hnum hx hr hpre h48
  cases ok with
  | true =>
    have HF : Hid (numOf s.data.toList = (16, d, true)) := Lib.hid (by rw [HE.out, if_pos rfl])
    clear HE
    go_enter Tryd.func26, Tryd.ntmps26
    go_wp2_with (go_at_call 41; refine (row_b _ _ _ _ hxl (by decide)).mono ?_; rintro e w' ⟨rfl, rfl⟩; rw [HR.out])
    go_ret3
    exact ⟨by rw [HF.out]; rfl, Below.refl _ _⟩
  | false =>
    have HF : Hid (numOf s.data.toList = (0, [], false)) := Lib.hid (by rw [HE.out, if_neg (by simp)])
    clear HE
    go_enter Tryd.func26, Tryd.ntmps26
    go_wp2_with (go_at_call 41; refine (row_b _ _ _ _ hxl (by decide)).mono ?_; rintro e w' ⟨rfl, rfl⟩; rw [HR.out])
    go_ret3
    exact ⟨by rw [HF.out]; rfl, Below.refl _ _⟩
set_option maxRecDepth 100000 in
set_option maxHeartbeats 1000000 in
theorem refDigits_eight (s : ByteArray) (w : World) (hs : s.size ≤ 16384) (h48 : s.toList ≠ [48]) (h : 1 < s.size) (ha : s[0] = 48) (n98 : s[1] ≠ 98) (n66 : s[1] ≠ 66) (n111 : s[1] ≠ 111) (n79 : s[1] ≠ 79) (n120 : s[1] ≠ 120) (n88 : s[1] ≠ 88) (hpre : prefixOf s.data.toList = (8, 1)) :
    Calls Tryd.prog 26 #[.string s] w (Triple (numOf s.data.toList).1 (numOf s.data.toList).2.1 (numOf s.data.toList).2.2 w) := by
  have hnum := num_row s.data.toList
  rw [hpre] at hnum
  have hlen : 1 ≤ s.size := by have := (prefix_le s.data.toList).1; rw [hpre, sdata] at this; exact this
  obtain ⟨x, hx⟩ : ∃ x, s.data.toList.drop 1 = x := ⟨_, rfl⟩
  have hsl : ∀ u : World, (Instr.slice 9 (.string s) (some (.int .i64 1)) none none).run Tryd.prog u = .ok (.string (B x)) u := fun u => by rw [← hx]; exact slice_from s 1 hlen u
  have hxl : x.length ≤ 16384 := by rw [← hx, List.length_drop, sdata]; omega
  obtain ⟨d, ok, hr⟩ : ∃ d ok, rowOf 8 true x = (d, ok) := ⟨_, _, rfl⟩
  have HR := Lib.hid hr
  have HE : Hid (numOf s.data.toList = if ok then (8, d, true) else (0, [], false)) := Lib.hid (by
    rw [hnum]
    show (if (rowOf 8 true (s.data.toList.drop 1)).2 then (8, (rowOf 8 true (s.data.toList.drop 1)).1, true) else (0, [], false)) = _
    rw [hx, hr])
  have h48' : (s.toList == [48]) = false := by simpa using h48
  have hd1 : decide ((1 : Int) < (s.size : Int)) = true := decide_eq_true (by omega)
  obtain ⟨a, ha'⟩ : ∃ a, s[0] = a := ⟨_, rfl⟩
  rw [ha'] at ha
  have haz : ((a.toNat : Int) == 48) = true := byte_eq (d := 48) ha
  clear ha
  obtain ⟨c, hc'⟩ : ∃ c, s[1] = c := ⟨_, rfl⟩
  rw [hc'] at n98 n66 n111 n79 n120 n88
  have hc98 : ((c.toNat : Int) == 98) = false := byte_ne (d := 98) n98
  have hc66 : ((c.toNat : Int) == 66) = false := byte_ne (d := 66) n66
  have hc111 : ((c.toNat : Int) == 111) = false := byte_ne (d := 111) n111
  have hc79 : ((c.toNat : Int) == 79) = false := byte_ne (d := 79) n79
  have hc120 : ((c.toNat : Int) == 120) = false := byte_ne (d := 120) n120
  have hc88 : ((c.toNat : Int) == 88) = false := byte_ne (d := 88) n88
  clear n98 n66 n111 n79 n120 n88
  clear hnum hx hr hpre h48
  cases ok with
  | true =>
    have HF : Hid (numOf s.data.toList = (8, d, true)) := Lib.hid (by rw [HE.out, if_pos rfl])
    clear HE
    go_enter Tryd.func26, Tryd.ntmps26
    go_wp2_with (go_at_call 41; refine (row_b _ _ _ _ hxl (by decide)).mono ?_; rintro e w' ⟨rfl, rfl⟩; rw [HR.out])
    go_ret3
    exact ⟨by rw [HF.out]; rfl, Below.refl _ _⟩
  | false =>
    have HF : Hid (numOf s.data.toList = (0, [], false)) := Lib.hid (by rw [HE.out, if_neg (by simp)])
    clear HE
    go_enter Tryd.func26, Tryd.ntmps26
    go_wp2_with (go_at_call 41; refine (row_b _ _ _ _ hxl (by decide)).mono ?_; rintro e w' ⟨rfl, rfl⟩; rw [HR.out])
    go_ret3
    exact ⟨by rw [HF.out]; rfl, Below.refl _ _⟩
set_option maxRecDepth 100000 in
set_option maxHeartbeats 1000000 in
theorem refDigits_zero (s : ByteArray) (w : World) (h48 : s.toList = [48]) :
    Calls Tryd.prog 26 #[.string s] w (Triple (numOf s.data.toList).1 (numOf s.data.toList).2.1 (numOf s.data.toList).2.2 w) := by
  have e : numOf s.data.toList = (10, [48], true) := by rw [← Lib.toList_data, h48]; decide
  have HE := Lib.hid e
  have h48' : (s.toList == [48]) = true := by simpa using h48
  clear e h48
  go_enter Tryd.func26, Tryd.ntmps26
  go_wp2_with fail
  go_ret3
  exact ⟨by rw [HE.out]; rfl, Below.refl _ _⟩
theorem refDigits_any (s : ByteArray) (w : World) (hs : s.size ≤ 16384) :
    Calls Tryd.prog 26 #[.string s] w (Triple (numOf s.data.toList).1 (numOf s.data.toList).2.1 (numOf s.data.toList).2.2 w) := by
  by_cases h48 : s.toList = [48]
  · exact refDigits_zero s w h48
  by_cases h : s.size < 2
  · exact refDigits_short s w hs h48 h (prefix_short (by rw [sdata]; exact h))
  have h0 : 0 < s.size := by omega
  have h1 : 1 < s.size := by omega
  have e := prefix_long (l := s.data.toList) (by rw [sdata]; exact h1)
  rw [at_data h0, at_data h1] at e
  by_cases ha : s[0] = 48
  · rw [if_pos ha] at e
    by_cases c98 : s[1] = 98
    · rw [if_pos (.inl c98)] at e; exact refDigits_98 s w hs h48 h1 ha c98 e
    by_cases c66 : s[1] = 66
    · rw [if_pos (.inr c66)] at e; exact refDigits_66 s w hs h48 h1 ha c66 e
    rw [if_neg (fun g => g.elim c98 c66)] at e
    by_cases c111 : s[1] = 111
    · rw [if_pos (.inl c111)] at e; exact refDigits_111 s w hs h48 h1 ha c111 e
    by_cases c79 : s[1] = 79
    · rw [if_pos (.inr c79)] at e; exact refDigits_79 s w hs h48 h1 ha c79 e
    rw [if_neg (fun g => g.elim c111 c79)] at e
    by_cases c120 : s[1] = 120
    · rw [if_pos (.inl c120)] at e; exact refDigits_120 s w hs h48 h1 ha c120 e
    by_cases c88 : s[1] = 88
    · rw [if_pos (.inr c88)] at e; exact refDigits_88 s w hs h48 h1 ha c88 e
    rw [if_neg (fun g => g.elim c120 c88)] at e
    exact refDigits_eight s w hs h48 h1 ha c98 c66 c111 c79 c120 c88 e
  · rw [if_neg ha] at e
    exact refDigits_ten s w hs h48 h1 ha e
end Go.Proofs.YtbmmbaagcglomaaDoor.tok
