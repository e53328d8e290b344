/-
  The reference's Unquote: a raw literal.
-/
import Derived.Test.YtbmmbaagcglomaaDoorRefEsc
import Derived.Test.YtbmmbaagcglomaaDoorQuoteBase
namespace Go.Proofs.YtbmmbaagcglomaaDoor.tok
open Go.RowKit

theorem index_first {l : List UInt8} {c : UInt8} {j : Nat} (h : l[j]? = some c) (hb : ∀ m, m < j → l[m]? ≠ some c) : Lib.indexByte l c = j := by
  have hg := Lib.indexByte_ge l c
  by_cases h1 : Lib.indexByte l c = -1
  · exact absurd h (Lib.indexByte_none h1 j)
  obtain ⟨o, ho⟩ : ∃ o : Nat, Lib.indexByte l c = o := ⟨(Lib.indexByte l c).toNat, by omega⟩
  obtain ⟨h2, h3⟩ := Lib.indexByte_some ho
  by_cases h4 : o < j
  · exact absurd h2 (hb o h4)
  by_cases h5 : j < o
  · exact absurd h (h3 j h5)
  omega
theorem index_never {l : List UInt8} {c : UInt8} (hb : ∀ m, m < l.length → l[m]? ≠ some c) : Lib.indexByte l c = -1 := by
  have hg := Lib.indexByte_ge l c
  by_cases h1 : Lib.indexByte l c = -1
  · exact h1
  obtain ⟨o, ho⟩ : ∃ o : Nat, Lib.indexByte l c = o := ⟨(Lib.indexByte l c).toNat, by omega⟩
  obtain ⟨h2, h3⟩ := Lib.indexByte_some ho
  exact absurd h2 (hb o (List.getElem?_eq_some_iff.1 h2).1)
theorem raw_end {l : List UInt8} {j : Nat} (h : (l.drop 1)[j]? = some 96) (hb : ∀ m, m < j → (l.drop 1)[m]? ≠ some 96) (he : j + 2 = l.length) : rawOf l = (noCR ((l.drop 1).take j), 0, 0) := by
  have hi := index_first h hb
  unfold rawOf
  rw [hi, List.length_drop, if_pos ⟨by omega, by omega⟩]
  congr 3
  omega
theorem raw_early {l : List UInt8} {j : Nat} (h : (l.drop 1)[j]? = some 96) (hb : ∀ m, m < j → (l.drop 1)[m]? ≠ some 96) (he : j + 2 ≠ l.length) : rawOf l = ([], 106, 0) := by
  have hi := index_first h hb
  have hj := (List.getElem?_eq_some_iff.1 h).1
  unfold rawOf
  rw [List.length_drop] at hj
  rw [hi, List.length_drop, if_neg (by omega)]
theorem raw_never {l : List UInt8} (hb : ∀ m, m < (l.drop 1).length → (l.drop 1)[m]? ≠ some 96) : rawOf l = ([], 106, 0) := by
  have hi := index_never hb
  unfold rawOf
  rw [hi, if_neg (by omega)]
theorem noCR_more {t : List UInt8} {j : Nat} {c : UInt8} (h : t[j]? = some c) : noCR (t.take (j + 1)) = noCR (t.take j) ++ (if c = 13 then [] else [c]) := by
  obtain ⟨hj, e⟩ := List.getElem?_eq_some_iff.1 h
  rw [List.take_succ_eq_append_getElem hj, e, noCR_snoc]

set_option maxRecDepth 100000 in
set_option maxHeartbeats 4000000 in
theorem refUnq_raw (s : ByteArray) (w : World) (hs : s.size ≤ 140737488351232) (h1 : 1 ≤ s.size) (h0 : s[0] = 96) :
    Calls Tryd.prog 28 #[.string s] w (UnqPost (rawOf s.data.toList) w) := by
  have hix0 : ∀ u : World, (Instr.index 9 (.string s) (.int .i64 0)).run Tryd.prog u = .ok (.int .u8 96) u := fun u => by
    rw [index_at s 0 0 (by omega) (by omega) u, h0]; rfl
  have hd : decide ((0 : Int) < (s.size : Int)) = true := decide_eq_true (by omega)
  have HT : Hid (∃ t : List UInt8, t = s.data.toList.drop 1 ∧ t.length + 1 = s.size ∧ ∀ j c, ∀ h : j + 1 < s.size, s[j + 1] = c → t[j]? = some c) := Lib.hid ⟨_, rfl, by rw [List.length_drop, sdata]; omega, fun j c h e => by
    rw [List.getElem?_drop, Nat.add_comm 1 j, List.getElem?_eq_getElem (by rw [sdata]; exact h), at_data h, e]⟩
  obtain ⟨t, ht, htl, hta⟩ := HT.out
  obtain ⟨R, hR⟩ : ∃ R, rawOf s.data.toList = R := ⟨_, rfl⟩
  have HEnd : Hid (∀ j, t[j]? = some 96 → (∀ m, m < j → t[m]? ≠ some 96) → j + 2 = s.size → R = (noCR (t.take j), 0, 0)) := Lib.hid (fun j h hb he => by
    subst ht; rw [← hR]; exact raw_end h hb (by rw [sdata]; exact he))
  have HEarly : Hid (∀ j, t[j]? = some 96 → (∀ m, m < j → t[m]? ≠ some 96) → j + 2 ≠ s.size → R = ([], 106, 0)) := Lib.hid (fun j h hb he => by
    subst ht; rw [← hR]; exact raw_early h hb (by rw [sdata]; exact he))
  have HNever : Hid ((∀ m, m < t.length → t[m]? ≠ some 96) → R = ([], 106, 0)) := Lib.hid (fun hb => by
    subst ht; rw [← hR]; exact raw_never hb)
  rw [hR]
  have HTA := Lib.hid hta
  clear hta ht hR HT h0
  go_enter Tryd.func28, Tryd.ntmps28
  go_wp2_with fail
  go_loop [5, 6] (fun o i => ∃ j : Nat, j + 1 ≤ s.size ∧ i = .int .i64 ((j : Int) + 1) ∧ o = .string (B (noCR (t.take j))) ∧ ∀ m, m < j → t[m]? ≠ some 96) (fun _ i => s.size - (intOf i).toNat)
  case atStart => exact ⟨0, by omega, rfl, rfl, fun m hm => by omega⟩
  case round =>
    obtain ⟨j, hj, rfl, rfl, hbef⟩ := hrel
    have HBF := Lib.hid hbef
    clear hbef
    have hle := noCR_few (t.take j)
    rw [List.length_take] at hle
    by_cases hlt : j + 1 < s.size
    · obtain ⟨c, hc⟩ : ∃ c, s[j + 1]'hlt = c := ⟨_, rfl⟩
      have hix : ∀ u : World, (Instr.index 9 (.string s) (.int .i64 ((j : Int) + 1))).run Tryd.prog u = .ok (.int .u8 (c.toNat : Int)) u := fun u => by
        rw [← hc]; exact index_at s _ (j + 1) (by omega) hlt u
      have hsl : ∀ u : World, (Instr.slice 9 (.string s) (some (.int .i64 ((j : Int) + 1))) (some (.int .i64 ((j : Int) + 1 + 1))) none).run Tryd.prog u = .ok (.string (B [c])) u := fun u => by
        have := slice_one s (j + 1) hlt c hc u
        simpa using this
      have HC := Lib.hid (HTA.out j c hlt hc)
      have hdl : decide ((j : Int) + 1 < (s.size : Int)) = true := decide_eq_true (by omega)
      have hc0 : (0 : Int) ≤ (c.toNat : Int) := by omega
      have hc1 : (c.toNat : Int) ≤ 255 := by have := UInt8.toNat_lt c; omega
      have hcat := cat_eq (x := noCR (t.take j)) (y := [c]) (by simp only [List.length_cons, List.length_nil]; omega)
      by_cases h96 : c = 96
      · have z96 : ((c.toNat : Int) == 96) = true := byte_eq (d := 96) h96
        by_cases hend : j + 2 = s.size
        · have hpe : ((j : Int) + 1 + 1 == (s.size : Int)) = true := beq_iff_eq.2 (by omega)
          have HR : Hid (R = (noCR (t.take j), 0, 0)) := Lib.hid (HEnd.out j (h96 ▸ HC.out) HBF.out hend)
          clear h96 hc hle hcat hsl
          go_wp2_with fail
          go_ret3
          exact ⟨by rw [HR.out]; rfl, Below.refl _ _⟩
        · have hpe : ((j : Int) + 1 + 1 == (s.size : Int)) = false := beq_eq_false_iff_ne.2 (by omega)
          have HR : Hid (R = ([], 106, 0)) := Lib.hid (HEarly.out j (h96 ▸ HC.out) HBF.out hend)
          clear h96 hc hle hcat hsl
          go_wp2_with fail
          go_ret3
          exact ⟨by rw [HR.out]; rfl, Below.refl _ _⟩
      · have z96 : ((c.toNat : Int) == 96) = false := byte_ne (d := 96) h96
        have HB2 : Hid (∀ m, m < j + 1 → t[m]? ≠ some 96) := Lib.hid (fun m hm => by
          by_cases e : m = j
          · subst e; rw [HC.out]; simpa using h96
          · exact HBF.out m (by omega))
        have HM := Lib.hid (noCR_more HC.out)
        by_cases h13 : c = 13
        · have z13 : ((c.toNat : Int) != 13) = false := byte_eq' (d := 13) h13
          have HM2 : Hid (noCR (t.take j) = noCR (t.take (j + 1))) := Lib.hid (by rw [HM.out, if_pos h13, List.append_nil])
          clear HM h96 h13 hc hle hcat hsl
          go_wp2_with fail
          go_round
          case rel => exact ⟨j + 1, by omega, by go_num, by rw [HM2.out], HB2.out⟩
          case measure => simp [intOf]; omega
        · have z13 : ((c.toNat : Int) != 13) = true := byte_ne' (d := 13) h13
          have HM2 : Hid (noCR (t.take j) ++ [c] = noCR (t.take (j + 1))) := Lib.hid (by rw [HM.out, if_neg h13])
          clear HM h96 h13 hc hle
          go_wp2_with fail
          go_round
          case rel => exact ⟨j + 1, by omega, by go_num, by rw [HM2.out], HB2.out⟩
          case measure => simp [intOf]; omega
    · have hdl : decide ((j : Int) + 1 < (s.size : Int)) = false := decide_eq_false (by omega)
      have HR : Hid (R = ([], 106, 0)) := Lib.hid (HNever.out (fun m hm => HBF.out m (by omega)))
      clear hle
      go_wp2_with fail
      go_ret3
      exact ⟨by rw [HR.out]; rfl, Below.refl _ _⟩
end Go.Proofs.YtbmmbaagcglomaaDoor.tok
