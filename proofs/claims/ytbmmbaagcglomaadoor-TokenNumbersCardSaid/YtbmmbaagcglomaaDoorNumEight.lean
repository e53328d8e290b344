/-
  The law TokenNumbers: the base 8.
-/
import Derived.Test.YtbmmbaagcglomaaDoorNumBase
namespace Go.Proofs.YtbmmbaagcglomaaDoor.tok
open Go.RowKit

set_option maxRecDepth 100000 in
set_option maxHeartbeats 4000000 in
theorem numbers_Eight (s : ByteArray) (w : World) (hs : s.size ≤ 4096) (HE : Hid (Env w)) (d : List UInt8) (HDL : Hid (d.length ≤ 4096))
    (HO : Hid (∀ u : World, Calls Tryd.prog 25 #[.string s] u (Gives (.tuple #[.int .i64 8, .string (B d), .bool true]) u)))
    (HG : Hid (∀ k, k < 3 → GoodHead 8 d (([[48, 111], [48, 79], [48]] : List (List UInt8)).getD k []))) :
    Calls Tryd.prog 7 #[.string s] w (Gives (.bool true) w) := by
  have hd : decide ((4096 : Int) < (s.size : Int)) = false := decide_eq_false (by omega)
  go_enter Tryd.func7, Tryd.ntmps7
  go_wp2_with (go_at_call 10; refine (shown_any _ HE.out).mono ?_; rintro e w1 ⟨rfl, hb1⟩; have B1 := Lib.hid hb1; have z1 := hb1.size; clear hb1)
  refine (HO.out _).mono ?_
  rintro e w2 ⟨rfl, hb2⟩
  have B2 := Lib.hid (B1.out.trans (hb2.mono z1))
  have z2 := B2.out.size
  clear hb2 B1 z1
  go_wp2_with fail
  have hbd : (B d).size = d.length := bsize d
  have hdl4 := HDL.out
  go_loopw [50] (fun i wr => ∃ k : Nat, k ≤ 3 ∧ i = .int .i64 k ∧ w2.heap.size + 1 < wr.heap.size ∧ (∀ j, j < 3 → wr.cell? ⟨w2.heap.size + 1, j, none⟩ = some (.string (B (([[48, 111], [48, 79], [48]] : List (List UInt8)).getD j [])))) ∧ Below w.heap.size w wr) (fun i _ => 3 - (intOf i).toNat)
  case atStart =>
    refine ⟨0, Nat.zero_le _, rfl, by simp, fun j hj => ?_, (B2.out.alloc z2 _).alloc (by simp; omega) _⟩
    match j, hj with
    | 0, _ => simp [B]
    | 1, _ => simp [B]
    | 2, _ => simp [B]
  case round =>
    obtain ⟨k, hk, rfl, hgz, hcell, hbel⟩ := hrel
    have HC := Lib.hid hcell
    have HB := Lib.hid hbel
    have hsz := hbel.size
    have HGZ := Lib.hid hgz
    clear hcell hbel hgz
    by_cases hlt : k < 3
    · have hck := HC.out k hlt
      have hgood := HG.out k hlt
      obtain ⟨h, hh⟩ : ∃ h, ([[48, 111], [48, 79], [48]] : List (List UInt8)).getD k [] = h := ⟨_, rfl⟩
      rw [hh] at hck hgood
      have hall : ∀ j : Fin 3, ([[48, 111], [48, 79], [48]] : List (List UInt8)).getD j.val [] ≠ [] ∧ (([[48, 111], [48, 79], [48]] : List (List UInt8)).getD j.val []).length ≤ 2 := by decide
      have HH0 : Hid (h ≠ []) := Lib.hid (by rw [← hh]; exact (hall ⟨k, hlt⟩).1)
      have HHL : Hid (h.length ≤ 2) := Lib.hid (by rw [← hh]; exact (hall ⟨k, hlt⟩).2)
      clear hall
      clear hh
      have HTL : Hid ((tOf h d).length ≤ 9000) := Lib.hid (by have := t_length h d; have := HHL.out; have := HDL.out; omega)
      have D1 : DigitsCalls (tOf h d) 8 d true := digits_calls (by have := HTL.out; omega) hgood.anew
      have D2 : DigitsCalls (h ++ d) 8 d true := digits_calls (by rw [List.length_append]; have := HHL.out; have := HDL.out; omega) hgood.plain
      have D3 : DigitsCalls (tOf h d ++ [95]) 0 [] false := digits_calls (by rw [List.length_append]; have := HTL.out; simp; omega) hgood.bar
      have D4 : DigitsCalls (tOf h d ++ [103]) 0 [] false := digits_calls (by rw [List.length_append]; have := HTL.out; simp; omega) hgood.bad
      clear hgood
      have he1 : (B h).toList ≠ [] := by rw [blist]; exact HH0.out
      have he2 : (!(B h).toList.isEmpty) = true := by rw [blist]; simpa using HH0.out
      obtain ⟨wo, rfl⟩ : ∃ wo : World, wo = wr := ⟨_, rfl⟩
      go_wp2_with fail
      go_loop [9, 59] (fun tv i => ∃ j : Nat, j ≤ d.length ∧ i = .int .i64 j ∧ tv = .string (B (h ++ bars (d.take j)))) (fun _ i => d.length - (intOf i).toNat)
      case atStart => exact ⟨0, Nat.zero_le _, rfl, by simp [bars]⟩
      case round =>
        obtain ⟨j, hj, rfl, rfl⟩ := hrel
        have HL : Hid ((h ++ bars (d.take j)).length ≤ 10000) := Lib.hid (by rw [List.length_append, bars_take d j hj]; have := HHL.out; have := HDL.out; omega)
        by_cases hlt : j < d.length
        · have hsl := slice_b d j hlt
          have HN := Lib.hid (tN_succ h d j hlt)
          obtain ⟨c, hc⟩ : ∃ c, d[j] = c := ⟨_, rfl⟩
          rw [hc] at hsl HN
          clear hc
          obtain ⟨T, hT⟩ : ∃ T, h ++ bars (d.take j) = T := ⟨_, rfl⟩
          rw [hT] at HN HL ⊢
          clear hT
          have c1 := cat_eq (x := T) (y := [95]) (by have := HL.out; simp; omega)
          have c1' : Op.stringOp .add (B T) { data := #[95] } = pure (.string (B (T ++ [95]))) := c1
          have c2 : Op.stringOp .add (B (T ++ [95])) (B [c]) = pure (.string (B (T ++ [95, c]))) := by
            have := cat_eq (x := T ++ [95]) (y := [c]) (by have := HL.out; simp; omega)
            rwa [List.append_assoc] at this
          clear c1
          by_cases hj0 : 0 < j
          · go_wp2_with fail
            go_round
            case rel => exact ⟨j + 1, by omega, by go_num, by rw [HN.out]⟩
            case measure => simp [intOf]; omega
          · obtain rfl : j = 0 := by omega
            have hsl0 : ∀ u : World, (Instr.slice 9 (.string (B d)) (some (.int .i64 0)) (some (.int .i64 1)) none).run Tryd.prog u = .ok (.string (B [c])) u := hsl
            clear hsl hj0
            go_wp2_with fail
            go_round
            case rel => exact ⟨1, by omega, rfl, by rw [HN.out]⟩
            case measure => simp [intOf]; omega
        · obtain rfl : j = d.length := by omega
          have hTT : h ++ bars (d.take d.length) = tOf h d := by unfold tOf; rw [if_neg HH0.out, List.take_length]
          rw [hTT]
          clear hTT
          obtain ⟨T, hT⟩ : ∃ T, tOf h d = T := ⟨_, rfl⟩
          rw [hT] at D1 D3 D4 HTL ⊢
          clear hT
          have c5 : Op.stringOp .add (B h) (B d) = pure (.string (B (h ++ d))) := cat_eq (by have := HHL.out; have := HDL.out; omega)
          have c6 : Op.stringOp .add (B T) { data := #[95] } = pure (.string (B (T ++ [95]))) := cat_eq (x := T) (y := [95]) (by have := HTL.out; simp; omega)
          have c7 : Op.stringOp .add (B T) { data := #[103] } = pure (.string (B (T ++ [103]))) := cat_eq (x := T) (y := [103]) (by have := HTL.out; simp; omega)
          go_wp2_with fail
          refine (D1.out _).mono ?_
          rintro e v1 ⟨rfl, b1⟩
          have B1 := Lib.hid b1
          have z1 := b1.size
          clear b1
          go_wp2_with fail
          refine (D2.out _).mono ?_
          rintro e v2 ⟨rfl, b2⟩
          have B2 := Lib.hid (B1.out.trans (b2.mono z1))
          have z2 := B2.out.size
          clear b2 B1 z1
          go_wp2_with fail
          refine (D3.out _).mono ?_
          rintro e v3 ⟨rfl, b3⟩
          have B3 := Lib.hid (B2.out.trans (b3.mono z2))
          have z3 := B3.out.size
          clear b3 B2 z2
          go_wp2_with fail
          refine (D4.out _).mono ?_
          rintro e v4 ⟨rfl, b4⟩
          have B4 := Lib.hid (B3.out.trans (b4.mono z3))
          have z4 := B4.out.size
          clear b4 B3 z3
          go_wp2_with fail
          go_roundw
          case rel => exact ⟨k + 1, by omega, by go_num, by have := HGZ.out; omega, fun j hj => (B4.out.cell (p := ⟨w2.heap.size + 1, j, none⟩) HGZ.out).trans (HC.out j hj), HB.out.trans (B4.out.mono hsz)⟩
          case measure => simp [intOf]; omega
    · go_wp2_with fail
      go_ret
      exact ⟨rfl, HB.out⟩
end Go.Proofs.YtbmmbaagcglomaaDoor.tok
