/-
  strings.ReplaceAll of returns, unquoteRaw and Unquote, of any length.
-/
import Derived.Test.YtbmmbaagcglomaaDoorReplace
namespace Go.Proofs.YtbmmbaagcglomaaDoor.tok
open Go.RowKit

set_option maxRecDepth 100000 in
set_option maxHeartbeats 4000000 in
theorem replace_none (s : ByteArray) (w : World) (hK : s.data.toList.count 13 = 0) :
    Calls Tryd.prog 62 #[.string s, .string { data := #[13] }, .string { data := #[] }, .int .i64 (-1)] w (OneText (noCR s.data.toList) w) := by
  have HC := Lib.hid (Tryd.strings_Count_one s 13)
  unfold Lib.countByte at HC
  rw [hK] at HC
  have HN : Hid (s = B (noCR s.data.toList)) := Lib.hid (by rw [no_count hK]; rfl)
  go_enter Tryd.func62, Tryd.ntmps62
  go_wp2_with (go_at_call 68; refine (HC.out _).mono ?_; rintro e w' ⟨rfl, hw⟩; rw [hw])
  go_ret
  exact ⟨by rw [← HN.out]; rfl, Below.refl _ _⟩
theorem replace_big (x : List UInt8) (w : World) (hs : x.length ≤ 140737488351232) :
    Calls Tryd.prog 62 #[.string (B x), .string { data := #[13] }, .string { data := #[] }, .int .i64 (-1)] w (OneText (noCR x) w) := by
  by_cases h : x.count 13 = 0
  · have := replace_none (B x) w (by rw [bdata]; exact h)
    rwa [bdata] at this
  · have := replace_some (B x) w (by rw [bsize]; exact hs) _ rfl (by rw [bdata]; omega)
    rwa [bdata] at this
set_option maxRecDepth 100000 in
set_option maxHeartbeats 4000000 in
theorem replaceAll_big (x : List UInt8) (w : World) (hs : x.length ≤ 140737488351232) :
    Calls Tryd.prog 53 #[.string (B x), .string { data := #[13] }, .string { data := #[] }] w (OneText (noCR x) w) := by
  have HR := Lib.hid (replace_big x w hs)
  go_enter Tryd.func53, Tryd.ntmps53
  go_wp2_with (go_at_call 62; refine HR.out.mono ?_; rintro e w' ⟨rfl, hb⟩; have HB := Lib.hid hb; clear hb)
  go_ret
  exact ⟨rfl, HB.out⟩
set_option maxRecDepth 100000 in
set_option maxHeartbeats 1000000 in
theorem raw_big (s : ByteArray) (w : World) (hs : s.size ≤ 140737488351232) (h1 : 1 ≤ s.size) :
    Calls Tryd.prog 42 #[.string s] w (UnqPost (rawOf s.data.toList) w) := by
  have hsl : ∀ u : World, (Instr.slice 9 (.string s) (some (.int .i64 1)) none none).run Tryd.prog u = .ok (.string (B (s.data.toList.drop 1))) u := fun u => slice_from s 1 h1 u
  obtain ⟨m, hm⟩ : ∃ m, s.data.toList.drop 1 = m := ⟨_, rfl⟩
  obtain ⟨R, hR⟩ : ∃ R, rawOf s.data.toList = R := ⟨_, rfl⟩
  have hml : m.length ≤ 140737488351232 := by rw [← hm, List.length_drop, sdata]; omega
  have HR : Hid (R = if 0 ≤ Lib.indexByte m 96 ∧ Lib.indexByte m 96 = (m.length : Int) - 1 then (noCR (m.take (m.length - 1)), 0, 0) else ([], 106, 0)) := Lib.hid (by rw [← hR, ← hm]; rfl)
  rw [hm] at hsl
  rw [hR]
  clear hm hR
  have hidx : ∀ u : World, Calls Tryd.prog 52 #[.string (B m), .int .u8 96] u fun e w' => e = .returned (.int .i64 (Lib.indexByte m 96)) ∧ u = w' := fun u => by
    refine (Tryd.strings_IndexByte (B m) 96 u).mono ?_
    rintro e w' ⟨rfl, rfl⟩
    rw [bdata]
    exact ⟨rfl, rfl⟩
  have hge := Lib.indexByte_ge m 96
  obtain ⟨z, hz⟩ : ∃ z, Lib.indexByte m 96 = z := ⟨_, rfl⟩
  rw [hz] at HR hidx hge
  have HI := Lib.hid hidx
  have hbm : (B m).size = m.length := bsize m
  clear hidx hz
  by_cases h0 : z < 0
  · have hd : decide (z < 0) = true := decide_eq_true h0
    have HF : Hid (R = ([], 106, 0)) := Lib.hid (by rw [HR.out, if_neg (by omega)])
    clear HR
    go_enter Tryd.func42, Tryd.ntmps42
    go_wp2_with (go_at_call 52; refine (HI.out _).mono ?_; rintro e w' ⟨rfl, rfl⟩)
    go_ret3
    exact ⟨by rw [HF.out]; rfl, Below.refl _ _⟩
  · have hd : decide (z < 0) = false := decide_eq_false h0
    by_cases he : z = (m.length : Int) - 1
    · have hd2 : (z != (m.length : Int) - 1) = false := by rw [he]; simp
      have HF : Hid (R = (noCR (m.take (m.length - 1)), 0, 0)) := Lib.hid (by rw [HR.out, if_pos ⟨by omega, he⟩])
      have hsl2 : ∀ u : World, (Instr.slice 9 (.string (B m)) none (some (.int .i64 z)) none).run Tryd.prog u = .ok (.string (B (m.take (m.length - 1)))) u := fun u => by
        have := slice_to (B m) (m.length - 1) z (by omega) (by rw [hbm]; omega) u
        rwa [bdata] at this
      have HL : Hid ((m.take (m.length - 1)).length ≤ 140737488351232) := Lib.hid (by rw [List.length_take]; omega)
      have HZ := Lib.hid he
      clear HR he
      go_enter Tryd.func42, Tryd.ntmps42
      go_wp2_with (first | (go_at_call 52; refine (HI.out _).mono ?_; rintro e w' ⟨rfl, rfl⟩) | (go_at_call 53; refine (replaceAll_big _ _ HL.out).mono ?_; rintro e w1 ⟨rfl, hb⟩; have HB := Lib.hid hb; clear hb))
      go_ret3
      exact ⟨by rw [HF.out]; rfl, HB.out⟩
    · have hd2 : (z != (m.length : Int) - 1) = true := by simpa using he
      have HF : Hid (R = ([], 106, 0)) := Lib.hid (by rw [HR.out, if_neg (fun g => he g.2)])
      clear HR he
      go_enter Tryd.func42, Tryd.ntmps42
      go_wp2_with (go_at_call 52; refine (HI.out _).mono ?_; rintro e w' ⟨rfl, rfl⟩)
      go_ret3
      exact ⟨by rw [HF.out]; rfl, Below.refl _ _⟩

set_option maxRecDepth 100000 in
set_option maxHeartbeats 1000000 in
theorem unquote_big (s : ByteArray) (w : World) (hs : s.size ≤ 140737488351232) :
    Calls Tryd.prog 27 #[.string s] w (UnqPost (unqOf s.data.toList) w) := by
  have HP := Lib.hid (Tryd.strings_HasPrefix s)
  cases h96 : Lib.hasPrefix s.data.toList [96] with
  | true =>
    have h1 := prefix_one h96
    rw [sdata] at h1
    have HF : Hid (unqOf s.data.toList = rawOf s.data.toList) := Lib.hid (by rw [unqOf, if_pos h96])
    have H9 := Lib.hid h96
    clear h96
    go_enter Tryd.func27, Tryd.ntmps27
    go_wp2_with (first | (go_at_call 37; refine (HP.out _ _).mono ?_; rintro e w' ⟨rfl, rfl⟩; rw [H9.out]) | (go_at_call 42; refine (raw_big s _ hs h1).mono ?_; rintro e w1 ⟨rfl, hb⟩; have HB := Lib.hid hb; clear hb))
    go_ret3
    exact ⟨by rw [HF.out]; rfl, HB.out⟩
  | false =>
    cases h34 : Lib.hasPrefix s.data.toList [34] with
    | true =>
      have h1 := prefix_one h34
      rw [sdata] at h1
      have HF : Hid (unqOf s.data.toList = uqAt s.data.toList 1 []) := Lib.hid (by rw [unqOf, if_neg (by rw [h96]; simp), if_pos h34])
      have H9 := Lib.hid h96
      have H3 := Lib.hid h34
      clear h96 h34
      go_enter Tryd.func27, Tryd.ntmps27
      go_wp2_with (first | (go_at_call 37; refine (HP.out _ _).mono ?_; rintro e w' ⟨rfl, rfl⟩; first | rw [H9.out] | rw [H3.out]) | (go_at_call 43; refine (unqText_any s _ (by omega) h1).mono ?_; rintro e w1 ⟨rfl, hb⟩; have HB := Lib.hid hb; clear hb))
      go_ret3
      exact ⟨by rw [HF.out]; rfl, HB.out⟩
    | false =>
      have HF : Hid (unqOf s.data.toList = ([], 106, 0)) := Lib.hid (by rw [unqOf, if_neg (by rw [h96]; simp), if_neg (by rw [h34]; simp)])
      have H9 := Lib.hid h96
      have H3 := Lib.hid h34
      clear h96 h34
      go_enter Tryd.func27, Tryd.ntmps27
      go_wp2_with (go_at_call 37; refine (HP.out _ _).mono ?_; rintro e w' ⟨rfl, rfl⟩; first | rw [H9.out] | rw [H3.out])
      go_ret3
      exact ⟨by rw [HF.out]; rfl, Below.refl _ _⟩
end Go.Proofs.YtbmmbaagcglomaaDoor.tok
