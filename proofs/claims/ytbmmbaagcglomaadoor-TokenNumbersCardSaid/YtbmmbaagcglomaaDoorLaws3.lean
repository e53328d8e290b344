/-
  The law TokenNumbers.
-/
import Derived.Test.YtbmmbaagcglomaaDoorNumTwo
import Derived.Test.YtbmmbaagcglomaaDoorNumEight
import Derived.Test.YtbmmbaagcglomaaDoorNumSixteen
import Derived.Test.YtbmmbaagcglomaaDoorNumTen
namespace Go.Proofs.YtbmmbaagcglomaaDoor.tok
open Go.RowKit

theorem num_no_digits {l : List UInt8} {b : Nat} {d : List UInt8} (h : numOf l = (b, d, false)) : b = 0 ∧ d = [] := by
  rw [num_all] at h
  cases hj : jAll ((prefixOf l).1 : Int) (restOf l) with
  | none => rw [hj] at h; exact ⟨(congrArg Prod.fst h).symm, (congrArg (fun x => x.2.1) h).symm⟩
  | some p =>
    obtain ⟨d', a⟩ := p
    rw [hj] at h
    cases a with
    | true => exact ⟨(congrArg Prod.fst h).symm, (congrArg (fun x => x.2.1) h).symm⟩
    | false => exact absurd (congrArg (fun x => x.2.2) h) (by simp)
theorem fold_few (base : Int) : ∀ (l acc d : List UInt8) (a b : Bool), l.foldl (jStep base) (some (acc, a)) = some (d, b) → d.length ≤ acc.length + l.length := by
  intro l
  induction l with
  | nil => intro acc d a b h; cases h; simp
  | cons c l ih =>
    intro acc d a b h
    rw [List.foldl_cons] at h
    cases hs : jStep base (some (acc, a)) c with
    | none => rw [hs, fold_none] at h; cases h
    | some p =>
      obtain ⟨acc', a'⟩ := p
      rw [hs] at h
      have h1 := ih _ _ _ _ h
      have h2 : acc'.length ≤ acc.length + 1 := by
        simp only [jStep] at hs
        split at hs
        · obtain ⟨e, _⟩ := Prod.mk.inj (Option.some.inj hs); rw [← e]; simp
        · split at hs
          · obtain ⟨e, _⟩ := Prod.mk.inj (Option.some.inj hs); rw [← e]; omega
          · cases hs
      rw [List.length_cons]
      omega
theorem num_few {l : List UInt8} {b : Nat} {d : List UInt8} (h : numOf l = (b, d, true)) : d.length ≤ l.length := by
  rw [num_all] at h
  cases hj : jAll ((prefixOf l).1 : Int) (restOf l) with
  | none => rw [hj] at h; cases h
  | some p =>
    obtain ⟨d', a⟩ := p
    rw [hj] at h
    cases a with
    | true => cases h
    | false =>
      have e2 : d' = d := congrArg (fun x => x.2.1) h
      subst e2
      have h1 := fold_few _ _ _ _ _ _ hj
      have h2 : (restOf l).length ≤ l.length := by
        unfold restOf
        split
        · exact Nat.le_trans (trim_le _ _) (by rw [List.length_drop]; omega)
        · rw [List.length_drop]; omega
      simp at h1
      omega

set_option maxRecDepth 100000 in
set_option maxHeartbeats 1000000 in
theorem numbers_law (s : ByteArray) (w : World) (hE : Env w) : Calls Tryd.prog 7 #[.string s] w (Gives (.bool true) w) := by
  by_cases hs : s.size ≤ 4096
  · have HE := Lib.hid hE
    obtain ⟨b, d, ok, hn⟩ : ∃ b d ok, numOf s.data.toList = (b, d, ok) := ⟨_, _, _, rfl⟩
    have HO : Hid (∀ u : World, Calls Tryd.prog 25 #[.string s] u (Gives (.tuple #[.int .i64 (b : Nat), .string (B d), .bool ok]) u)) := Lib.hid (fun u => by
      have := digits_any s u (by omega)
      rwa [hn] at this)
    cases ok with
    | false =>
      obtain ⟨rfl, rfl⟩ := num_no_digits hn
      have HO0 : Hid (∀ u : World, Calls Tryd.prog 25 #[.string s] u (Gives (.tuple #[.int .i64 0, .string (B []), .bool false]) u)) := HO
      have hd : decide ((4096 : Int) < (s.size : Int)) = false := decide_eq_false (by omega)
      have he : (B []).toList = [] := blist []
      clear hE hn HO
      go_enter Tryd.func7, Tryd.ntmps7
      go_wp2_with (go_at_call 10; refine (shown_any _ HE.out).mono ?_; rintro e w1 ⟨rfl, hb1⟩; have B1 := Lib.hid hb1; have z1 := hb1.size; clear hb1)
      refine (HO0.out _).mono ?_
      rintro e w2 ⟨rfl, hb2⟩
      have B2 := Lib.hid (B1.out.trans (hb2.mono z1))
      clear hb2 B1 z1
      go_wp2_with fail
      go_ret
      exact ⟨rfl, B2.out⟩
    | true =>
      obtain ⟨h1, h2, h3⟩ := num_digits hn
      have hl := num_few hn
      rw [sdata] at hl
      have HDL : Hid (d.length ≤ 4096) := Lib.hid (by omega)
      rcases h3 with rfl | rfl | rfl | ⟨rfl, h4⟩
      · exact numbers_Two s w hs HE d HDL HO (Lib.hid (head_two h1 h2))
      · exact numbers_Eight s w hs HE d HDL HO (Lib.hid (head_eight h1 h2))
      · exact numbers_Sixteen s w hs HE d HDL HO (Lib.hid (head_sixteen h1 h2))
      · refine numbers_Ten s w hs HE d HDL HO (Lib.hid (fun k hk => ?_))
        obtain rfl : k = 0 := by omega
        exact head_ten h1 h2 h4
  · have hd : decide ((4096 : Int) < (s.size : Int)) = true := decide_eq_true (by omega)
    go_enter Tryd.func7, Tryd.ntmps7
    go_wp2_with fail
    go_ret
    exact ⟨rfl, Below.refl _ _⟩
end Go.Proofs.YtbmmbaagcglomaaDoor.tok
