/-
  Texts put together: RefCharB, RefCharC, RefRune, RefRuneB, Rbd, Rbe.
-/
import Derived.Test.YtjbamlmdeopcaaaGreatDoorPa7
import Derived.Test.YtjbamlmdeopcaaaGreatDoorPa4
import Derived.Test.YtjbamlmdeopcaaaGreatDoorPa6
section
/-
  The reference's Char: the walk.
-/
namespace Go.Proofs.YtjbamlmdeopcaaaGreatDoor.tok
open Go.RowKit

set_option maxRecDepth 100000 in
set_option maxHeartbeats 4000000 in
theorem refChar_more (s : ByteArray) (c : UInt8) (w : World) (hs : s.size ≤ 140737488351232) (h1 : 1 < s.size) (hc : s[1] = c) (h128 : 128 ≤ c.toNat) :
    Calls Tryz.prog 91 #[.string s, .int .i64 1] w (Chr (charC s.data.toList) w) := by
  have hix0 : ∀ u : World, (Instr.index 9 (.string s) (.int .i64 1)).run Tryz.prog u = .ok (.int .u8 (c.toNat : Int)) u := fun u => by
    rw [index_at s 1 1 (by omega) (by omega) u, hc]
  have hbz : ∀ j, ∀ h : j < s.size, bz s.data.toList j = (s[j].toNat : Int) := fun j h => by
    unfold bz
    rw [List.getD_eq_getElem?_getD, List.getElem?_eq_getElem (by rw [sdata]; exact h), at_data h]
    rfl
  have HC1 : Hid (bz s.data.toList 1 = (c.toNat : Int)) := Lib.hid (by rw [hbz 1 h1, hc])
  have HIX : Hid (∀ (z : Int) (j : Nat), z = (j : Int) → j < s.size → ∀ u : World, (Instr.index 9 (.string s) (.int .i64 z)).run Tryz.prog u = .ok (.int .u8 (bz s.data.toList j)) u) := Lib.hid (fun z j hz hj u => by
    rw [hbz j hj]; exact index_at s z j hz hj u)
  have hd : decide ((s.size : Int) ≤ 1) = false := decide_eq_false (by omega)
  have hc0 : (0 : Int) ≤ (c.toNat : Int) := by omega
  have hc1 : (c.toNat : Int) ≤ 255 := by have := UInt8.toNat_lt c; omega
  have hd2 : decide ((c.toNat : Int) < 128) = false := decide_eq_false (by omega)
  have HSL := Lib.hid (sdata s)
  clear hc hbz
  go_enter Tryz.func91, Tryz.ntmps91
  go_wp2_with fail
  go_loopw [7] (fun nv wr => ∃ n : Nat, 2 ≤ n ∧ n ≤ 5 ∧ nv = .int .i64 n ∧ (∀ m, 2 ≤ m → m < n → 1 + m ≤ s.size ∧ ¬ hitC s.data.toList m) ∧ Below w.heap.size w wr) (fun nv _ => 5 - (intOf nv).toNat)
  case atStart => exact ⟨2, by omega, by omega, rfl, fun m _ _ => by omega, Below.refl _ _⟩
  case round =>
    obtain ⟨n, hn2, hn5, rfl, hbef, hbel⟩ := hrel
    have hsz := hbel.size
    have HB := Lib.hid hbel
    have HBF := Lib.hid hbef
    clear hbel hbef
    by_cases hin : n ≤ 4 ∧ 1 + n ≤ s.size
    · obtain ⟨hn4, hns⟩ := hin
      have hda : decide ((n : Int) ≤ 4) = true := decide_eq_true (by omega)
      have hdb : decide (1 + (n : Int) ≤ (s.size : Int)) = true := decide_eq_true (by omega)
      have hnn : n = 2 ∨ n = 3 ∨ n = 4 := by omega
      clear hn4
      rcases hnn with rfl | rfl | rfl
      · have HU0 : Hid (uTo s.data.toList 2 0 = (c.toNat : Int) - 192) := Lib.hid (by rw [← HC1.out]; rfl)
        by_cases hlo : 192 ≤ (c.toNat : Int)
        · obtain ⟨g, hg1⟩ : ∃ g, decide ((c.toNat : Int) - 192 < 32) = g := ⟨_, rfl⟩
          go_wp2_with fail
          have hg : okTo s.data.toList 2 0 = g := by
            show (decide (192 ≤ bz s.data.toList 1) && decide (bz s.data.toList 1 - 192 < 32)) = _
            rw [HC1.out]
            rw [decide_eq_true hlo, hg1]; rfl
          go_loop [9, 10, 11] (fun u b i => ∃ k : Nat, k ≤ 1 ∧ i = .int .i64 (2 + (k : Int)) ∧ b = .bool (okTo s.data.toList 2 k) ∧ u = .int .i64 (uTo s.data.toList 2 k)) (fun _ _ i => 3 - (intOf i).toNat)
          case atStart => exact ⟨0, by omega, rfl, by rw [hg], by rw [HU0.out]⟩
          case round =>
            obtain ⟨k, hk, rfl, rfl, rfl⟩ := hrel
            clear hg
            by_cases hkl : k < 1
            · have hdk : decide (2 + (k : Int) < 3) = true := decide_eq_true (by omega)
              have hix := HIX.out (2 + (k : Int)) (2 + k) (by omega) (by omega)
              have hub := uTo_bounds s.data.toList 2 k (by omega)
              have HO1 : Hid (okTo s.data.toList 2 (k + 1) = (okTo s.data.toList 2 k && decide (bz s.data.toList (2 + k) / 64 * 64 = 128))) := Lib.hid rfl
              have HU1 : Hid (uTo s.data.toList 2 (k + 1) = uTo s.data.toList 2 k * 64 + bz s.data.toList (2 + k) % 64) := Lib.hid rfl
              obtain ⟨x, hx⟩ : ∃ x, bz s.data.toList (2 + k) = x := ⟨_, rfl⟩
              obtain ⟨hx0, hx1⟩ := bz_bounds s.data.toList (2 + k)
              obtain ⟨u, hu⟩ : ∃ u, uTo s.data.toList 2 k = u := ⟨_, rfl⟩
              obtain ⟨b, hb⟩ : ∃ b, okTo s.data.toList 2 k = b := ⟨_, rfl⟩
              rw [hx] at hix HO1 HU1 hx0 hx1
              rw [hu] at hub HU1 ⊢
              rw [hb] at HO1 ⊢
              have a1 := and192 x hx0 hx1
              have a2 := and63 x hx0 hx1
              clear hx hu hb
              cases b with
              | false =>
                go_wp2_with fail
                go_round
                case rel => exact ⟨k + 1, by omega, by go_num, by rw [HO1.out]; rfl, by rw [HU1.out]⟩
                case measure => simp [intOf]; omega
              | true =>
                go_wp2_with fail
                go_round
                case rel => exact ⟨k + 1, by omega, by go_num, by rw [HO1.out, Bool.true_and]; rfl, by rw [HU1.out]⟩
                case measure => simp [intOf]; omega
            · obtain rfl : k = 1 := by omega
              obtain ⟨u, hu⟩ : ∃ u, uTo s.data.toList 2 1 = u := ⟨_, rfl⟩
              obtain ⟨b, hb⟩ : ∃ b, okTo s.data.toList 2 1 = b := ⟨_, rfl⟩
              have HH : Hid (hitC s.data.toList 2 ↔ (b = true ∧ u ≤ 1114111 ∧ (u < 55296 ∨ 57343 < u) ∧ 128 ≤ u)) := Lib.hid (by rw [← hu, ← hb]; exact Iff.rfl)
              have hub := uTo_bounds s.data.toList 2 1 (by omega)
              rw [hu] at hub ⊢
              rw [hb]
              have HU := Lib.hid hu
              clear hu hb hkl hk
              cases b with
              | false =>
                have HNH : Hid (¬ hitC s.data.toList 2) := Lib.hid (fun h => by have := (HH.out.1 h).1; cases this)
                clear HH
                go_wp2_with fail
                have HNB : Hid (∀ m, 2 ≤ m → m < 3 → 1 + m ≤ s.size ∧ ¬ hitC s.data.toList m) := Lib.hid (fun m h2 h3 => by
                  by_cases e : m = 2
                  · subst e; exact ⟨hns, HNH.out⟩
                  · exact HBF.out m h2 (by omega))
                go_roundw
                case rel => exact ⟨3, by omega, by omega, by go_num, HNB.out, by first | exact HB.out.alloc hsz _ | exact (HB.out.alloc hsz _).drew | exact ((HB.out.alloc hsz _).alloc (by rw [World.size_alloc]; omega) _) | exact ((HB.out.alloc hsz _).alloc (by rw [World.size_alloc]; omega) _).drew⟩
                case measure => simp [intOf]
              | true =>
                by_cases u1 : u ≤ 1114111
                · have du1 : decide (u ≤ 1114111) = true := decide_eq_true u1
                  by_cases u2 : u < 55296
                  · have du2 : decide (u < 55296) = true := decide_eq_true u2
                    by_cases u4 : 128 ≤ u
                    · have du4 : decide (128 ≤ u) = true := decide_eq_true u4
                      have HR : Hid (charC s.data.toList = (u, 2)) := Lib.hid (by rw [charC, if_pos ⟨by rw [HSL.out]; omega, HH.out.2 ⟨rfl, u1, .inl u2, u4⟩⟩, HU.out])
                      clear HH u1 u2 u4
                      go_wp2_with fail
                      go_ret2
                      exact ⟨by rw [HR.out]; rfl, by first | exact HB.out.alloc hsz _ | exact (HB.out.alloc hsz _).drew | exact ((HB.out.alloc hsz _).alloc (by rw [World.size_alloc]; omega) _) | exact ((HB.out.alloc hsz _).alloc (by rw [World.size_alloc]; omega) _).drew⟩
                    · have du4 : decide (128 ≤ u) = false := decide_eq_false u4
                      have HNH : Hid (¬ hitC s.data.toList 2) := Lib.hid (fun h => u4 (HH.out.1 h).2.2.2)
                      clear HH u1 u2 u4
                      go_wp2_with fail
                      have HNB : Hid (∀ m, 2 ≤ m → m < 3 → 1 + m ≤ s.size ∧ ¬ hitC s.data.toList m) := Lib.hid (fun m h2 h3 => by
                        by_cases e : m = 2
                        · subst e; exact ⟨hns, HNH.out⟩
                        · exact HBF.out m h2 (by omega))
                      go_roundw
                      case rel => exact ⟨3, by omega, by omega, by go_num, HNB.out, by first | exact HB.out.alloc hsz _ | exact (HB.out.alloc hsz _).drew | exact ((HB.out.alloc hsz _).alloc (by rw [World.size_alloc]; omega) _) | exact ((HB.out.alloc hsz _).alloc (by rw [World.size_alloc]; omega) _).drew⟩
                      case measure => simp [intOf]
                  · have du2 : decide (u < 55296) = false := decide_eq_false u2
                    by_cases u3 : 57343 < u
                    · have du3 : decide (57343 < u) = true := decide_eq_true u3
                      by_cases u4 : 128 ≤ u
                      · have du4 : decide (128 ≤ u) = true := decide_eq_true u4
                        have HR : Hid (charC s.data.toList = (u, 2)) := Lib.hid (by rw [charC, if_pos ⟨by rw [HSL.out]; omega, HH.out.2 ⟨rfl, u1, .inr u3, u4⟩⟩, HU.out])
                        clear HH u1 u2 u4 u3
                        go_wp2_with fail
                        go_ret2
                        exact ⟨by rw [HR.out]; rfl, by first | exact HB.out.alloc hsz _ | exact (HB.out.alloc hsz _).drew | exact ((HB.out.alloc hsz _).alloc (by rw [World.size_alloc]; omega) _) | exact ((HB.out.alloc hsz _).alloc (by rw [World.size_alloc]; omega) _).drew⟩
                      · have du4 : decide (128 ≤ u) = false := decide_eq_false u4
                        have HNH : Hid (¬ hitC s.data.toList 2) := Lib.hid (fun h => u4 (HH.out.1 h).2.2.2)
                        clear HH u1 u2 u4 u3
                        go_wp2_with fail
                        have HNB : Hid (∀ m, 2 ≤ m → m < 3 → 1 + m ≤ s.size ∧ ¬ hitC s.data.toList m) := Lib.hid (fun m h2 h3 => by
                          by_cases e : m = 2
                          · subst e; exact ⟨hns, HNH.out⟩
                          · exact HBF.out m h2 (by omega))
                        go_roundw
                        case rel => exact ⟨3, by omega, by omega, by go_num, HNB.out, by first | exact HB.out.alloc hsz _ | exact (HB.out.alloc hsz _).drew | exact ((HB.out.alloc hsz _).alloc (by rw [World.size_alloc]; omega) _) | exact ((HB.out.alloc hsz _).alloc (by rw [World.size_alloc]; omega) _).drew⟩
                        case measure => simp [intOf]
                    · have du3 : decide (57343 < u) = false := decide_eq_false u3
                      have HNH : Hid (¬ hitC s.data.toList 2) := Lib.hid (fun h => by have := (HH.out.1 h).2.2.1; omega)
                      clear HH u1 u2 u3
                      go_wp2_with fail
                      have HNB : Hid (∀ m, 2 ≤ m → m < 3 → 1 + m ≤ s.size ∧ ¬ hitC s.data.toList m) := Lib.hid (fun m h2 h3 => by
                        by_cases e : m = 2
                        · subst e; exact ⟨hns, HNH.out⟩
                        · exact HBF.out m h2 (by omega))
                      go_roundw
                      case rel => exact ⟨3, by omega, by omega, by go_num, HNB.out, by first | exact HB.out.alloc hsz _ | exact (HB.out.alloc hsz _).drew | exact ((HB.out.alloc hsz _).alloc (by rw [World.size_alloc]; omega) _) | exact ((HB.out.alloc hsz _).alloc (by rw [World.size_alloc]; omega) _).drew⟩
                      case measure => simp [intOf]
                · have du1 : decide (u ≤ 1114111) = false := decide_eq_false u1
                  have HNH : Hid (¬ hitC s.data.toList 2) := Lib.hid (fun h => u1 (HH.out.1 h).2.1)
                  clear HH u1
                  go_wp2_with fail
                  have HNB : Hid (∀ m, 2 ≤ m → m < 3 → 1 + m ≤ s.size ∧ ¬ hitC s.data.toList m) := Lib.hid (fun m h2 h3 => by
                    by_cases e : m = 2
                    · subst e; exact ⟨hns, HNH.out⟩
                    · exact HBF.out m h2 (by omega))
                  go_roundw
                  case rel => exact ⟨3, by omega, by omega, by go_num, HNB.out, by first | exact HB.out.alloc hsz _ | exact (HB.out.alloc hsz _).drew | exact ((HB.out.alloc hsz _).alloc (by rw [World.size_alloc]; omega) _) | exact ((HB.out.alloc hsz _).alloc (by rw [World.size_alloc]; omega) _).drew⟩
                  case measure => simp [intOf]
        · go_wp2_with fail
          have hg : okTo s.data.toList 2 0 = false := by
            show (decide (192 ≤ bz s.data.toList 1) && decide (bz s.data.toList 1 - 192 < 32)) = _
            rw [HC1.out]
            rw [decide_eq_false (by omega)]; rfl
          go_loop [9, 10, 11] (fun u b i => ∃ k : Nat, k ≤ 1 ∧ i = .int .i64 (2 + (k : Int)) ∧ b = .bool (okTo s.data.toList 2 k) ∧ u = .int .i64 (uTo s.data.toList 2 k)) (fun _ _ i => 3 - (intOf i).toNat)
          case atStart => exact ⟨0, by omega, rfl, by rw [hg], by rw [HU0.out]⟩
          case round =>
            obtain ⟨k, hk, rfl, rfl, rfl⟩ := hrel
            clear hg
            by_cases hkl : k < 1
            · have hdk : decide (2 + (k : Int) < 3) = true := decide_eq_true (by omega)
              have hix := HIX.out (2 + (k : Int)) (2 + k) (by omega) (by omega)
              have hub := uTo_bounds s.data.toList 2 k (by omega)
              have HO1 : Hid (okTo s.data.toList 2 (k + 1) = (okTo s.data.toList 2 k && decide (bz s.data.toList (2 + k) / 64 * 64 = 128))) := Lib.hid rfl
              have HU1 : Hid (uTo s.data.toList 2 (k + 1) = uTo s.data.toList 2 k * 64 + bz s.data.toList (2 + k) % 64) := Lib.hid rfl
              obtain ⟨x, hx⟩ : ∃ x, bz s.data.toList (2 + k) = x := ⟨_, rfl⟩
              obtain ⟨hx0, hx1⟩ := bz_bounds s.data.toList (2 + k)
              obtain ⟨u, hu⟩ : ∃ u, uTo s.data.toList 2 k = u := ⟨_, rfl⟩
              obtain ⟨b, hb⟩ : ∃ b, okTo s.data.toList 2 k = b := ⟨_, rfl⟩
              rw [hx] at hix HO1 HU1 hx0 hx1
              rw [hu] at hub HU1 ⊢
              rw [hb] at HO1 ⊢
              have a1 := and192 x hx0 hx1
              have a2 := and63 x hx0 hx1
              clear hx hu hb
              cases b with
              | false =>
                go_wp2_with fail
                go_round
                case rel => exact ⟨k + 1, by omega, by go_num, by rw [HO1.out]; rfl, by rw [HU1.out]⟩
                case measure => simp [intOf]; omega
              | true =>
                go_wp2_with fail
                go_round
                case rel => exact ⟨k + 1, by omega, by go_num, by rw [HO1.out, Bool.true_and]; rfl, by rw [HU1.out]⟩
                case measure => simp [intOf]; omega
            · obtain rfl : k = 1 := by omega
              obtain ⟨u, hu⟩ : ∃ u, uTo s.data.toList 2 1 = u := ⟨_, rfl⟩
              obtain ⟨b, hb⟩ : ∃ b, okTo s.data.toList 2 1 = b := ⟨_, rfl⟩
              have HH : Hid (hitC s.data.toList 2 ↔ (b = true ∧ u ≤ 1114111 ∧ (u < 55296 ∨ 57343 < u) ∧ 128 ≤ u)) := Lib.hid (by rw [← hu, ← hb]; exact Iff.rfl)
              have hub := uTo_bounds s.data.toList 2 1 (by omega)
              rw [hu] at hub ⊢
              rw [hb]
              have HU := Lib.hid hu
              clear hu hb hkl hk
              cases b with
              | false =>
                have HNH : Hid (¬ hitC s.data.toList 2) := Lib.hid (fun h => by have := (HH.out.1 h).1; cases this)
                clear HH
                go_wp2_with fail
                have HNB : Hid (∀ m, 2 ≤ m → m < 3 → 1 + m ≤ s.size ∧ ¬ hitC s.data.toList m) := Lib.hid (fun m h2 h3 => by
                  by_cases e : m = 2
                  · subst e; exact ⟨hns, HNH.out⟩
                  · exact HBF.out m h2 (by omega))
                go_roundw
                case rel => exact ⟨3, by omega, by omega, by go_num, HNB.out, by first | exact HB.out.alloc hsz _ | exact (HB.out.alloc hsz _).drew | exact ((HB.out.alloc hsz _).alloc (by rw [World.size_alloc]; omega) _) | exact ((HB.out.alloc hsz _).alloc (by rw [World.size_alloc]; omega) _).drew⟩
                case measure => simp [intOf]
              | true =>
                by_cases u1 : u ≤ 1114111
                · have du1 : decide (u ≤ 1114111) = true := decide_eq_true u1
                  by_cases u2 : u < 55296
                  · have du2 : decide (u < 55296) = true := decide_eq_true u2
                    by_cases u4 : 128 ≤ u
                    · have du4 : decide (128 ≤ u) = true := decide_eq_true u4
                      have HR : Hid (charC s.data.toList = (u, 2)) := Lib.hid (by rw [charC, if_pos ⟨by rw [HSL.out]; omega, HH.out.2 ⟨rfl, u1, .inl u2, u4⟩⟩, HU.out])
                      clear HH u1 u2 u4
                      go_wp2_with fail
                      go_ret2
                      exact ⟨by rw [HR.out]; rfl, by first | exact HB.out.alloc hsz _ | exact (HB.out.alloc hsz _).drew | exact ((HB.out.alloc hsz _).alloc (by rw [World.size_alloc]; omega) _) | exact ((HB.out.alloc hsz _).alloc (by rw [World.size_alloc]; omega) _).drew⟩
                    · have du4 : decide (128 ≤ u) = false := decide_eq_false u4
                      have HNH : Hid (¬ hitC s.data.toList 2) := Lib.hid (fun h => u4 (HH.out.1 h).2.2.2)
                      clear HH u1 u2 u4
                      go_wp2_with fail
                      have HNB : Hid (∀ m, 2 ≤ m → m < 3 → 1 + m ≤ s.size ∧ ¬ hitC s.data.toList m) := Lib.hid (fun m h2 h3 => by
                        by_cases e : m = 2
                        · subst e; exact ⟨hns, HNH.out⟩
                        · exact HBF.out m h2 (by omega))
                      go_roundw
                      case rel => exact ⟨3, by omega, by omega, by go_num, HNB.out, by first | exact HB.out.alloc hsz _ | exact (HB.out.alloc hsz _).drew | exact ((HB.out.alloc hsz _).alloc (by rw [World.size_alloc]; omega) _) | exact ((HB.out.alloc hsz _).alloc (by rw [World.size_alloc]; omega) _).drew⟩
                      case measure => simp [intOf]
                  · have du2 : decide (u < 55296) = false := decide_eq_false u2
                    by_cases u3 : 57343 < u
                    · have du3 : decide (57343 < u) = true := decide_eq_true u3
                      by_cases u4 : 128 ≤ u
                      · have du4 : decide (128 ≤ u) = true := decide_eq_true u4
                        have HR : Hid (charC s.data.toList = (u, 2)) := Lib.hid (by rw [charC, if_pos ⟨by rw [HSL.out]; omega, HH.out.2 ⟨rfl, u1, .inr u3, u4⟩⟩, HU.out])
                        clear HH u1 u2 u4 u3
                        go_wp2_with fail
                        go_ret2
                        exact ⟨by rw [HR.out]; rfl, by first | exact HB.out.alloc hsz _ | exact (HB.out.alloc hsz _).drew | exact ((HB.out.alloc hsz _).alloc (by rw [World.size_alloc]; omega) _) | exact ((HB.out.alloc hsz _).alloc (by rw [World.size_alloc]; omega) _).drew⟩
                      · have du4 : decide (128 ≤ u) = false := decide_eq_false u4
                        have HNH : Hid (¬ hitC s.data.toList 2) := Lib.hid (fun h => u4 (HH.out.1 h).2.2.2)
                        clear HH u1 u2 u4 u3
                        go_wp2_with fail
                        have HNB : Hid (∀ m, 2 ≤ m → m < 3 → 1 + m ≤ s.size ∧ ¬ hitC s.data.toList m) := Lib.hid (fun m h2 h3 => by
                          by_cases e : m = 2
                          · subst e; exact ⟨hns, HNH.out⟩
                          · exact HBF.out m h2 (by omega))
                        go_roundw
                        case rel => exact ⟨3, by omega, by omega, by go_num, HNB.out, by first | exact HB.out.alloc hsz _ | exact (HB.out.alloc hsz _).drew | exact ((HB.out.alloc hsz _).alloc (by rw [World.size_alloc]; omega) _) | exact ((HB.out.alloc hsz _).alloc (by rw [World.size_alloc]; omega) _).drew⟩
                        case measure => simp [intOf]
                    · have du3 : decide (57343 < u) = false := decide_eq_false u3
                      have HNH : Hid (¬ hitC s.data.toList 2) := Lib.hid (fun h => by have := (HH.out.1 h).2.2.1; omega)
                      clear HH u1 u2 u3
                      go_wp2_with fail
                      have HNB : Hid (∀ m, 2 ≤ m → m < 3 → 1 + m ≤ s.size ∧ ¬ hitC s.data.toList m) := Lib.hid (fun m h2 h3 => by
                        by_cases e : m = 2
                        · subst e; exact ⟨hns, HNH.out⟩
                        · exact HBF.out m h2 (by omega))
                      go_roundw
                      case rel => exact ⟨3, by omega, by omega, by go_num, HNB.out, by first | exact HB.out.alloc hsz _ | exact (HB.out.alloc hsz _).drew | exact ((HB.out.alloc hsz _).alloc (by rw [World.size_alloc]; omega) _) | exact ((HB.out.alloc hsz _).alloc (by rw [World.size_alloc]; omega) _).drew⟩
                      case measure => simp [intOf]
                · have du1 : decide (u ≤ 1114111) = false := decide_eq_false u1
                  have HNH : Hid (¬ hitC s.data.toList 2) := Lib.hid (fun h => u1 (HH.out.1 h).2.1)
                  clear HH u1
                  go_wp2_with fail
                  have HNB : Hid (∀ m, 2 ≤ m → m < 3 → 1 + m ≤ s.size ∧ ¬ hitC s.data.toList m) := Lib.hid (fun m h2 h3 => by
                    by_cases e : m = 2
                    · subst e; exact ⟨hns, HNH.out⟩
                    · exact HBF.out m h2 (by omega))
                  go_roundw
                  case rel => exact ⟨3, by omega, by omega, by go_num, HNB.out, by first | exact HB.out.alloc hsz _ | exact (HB.out.alloc hsz _).drew | exact ((HB.out.alloc hsz _).alloc (by rw [World.size_alloc]; omega) _) | exact ((HB.out.alloc hsz _).alloc (by rw [World.size_alloc]; omega) _).drew⟩
                  case measure => simp [intOf]
      · have HU0 : Hid (uTo s.data.toList 3 0 = (c.toNat : Int) - 224) := Lib.hid (by rw [← HC1.out]; rfl)
        by_cases hlo : 224 ≤ (c.toNat : Int)
        · obtain ⟨g, hg1⟩ : ∃ g, decide ((c.toNat : Int) - 224 < 16) = g := ⟨_, rfl⟩
          go_wp2_with fail
          have hg : okTo s.data.toList 3 0 = g := by
            show (decide (224 ≤ bz s.data.toList 1) && decide (bz s.data.toList 1 - 224 < 16)) = _
            rw [HC1.out]
            rw [decide_eq_true hlo, hg1]; rfl
          go_loop [9, 10, 11] (fun u b i => ∃ k : Nat, k ≤ 2 ∧ i = .int .i64 (2 + (k : Int)) ∧ b = .bool (okTo s.data.toList 3 k) ∧ u = .int .i64 (uTo s.data.toList 3 k)) (fun _ _ i => 4 - (intOf i).toNat)
          case atStart => exact ⟨0, by omega, rfl, by rw [hg], by rw [HU0.out]⟩
          case round =>
            obtain ⟨k, hk, rfl, rfl, rfl⟩ := hrel
            clear hg
            by_cases hkl : k < 2
            · have hdk : decide (2 + (k : Int) < 4) = true := decide_eq_true (by omega)
              have hix := HIX.out (2 + (k : Int)) (2 + k) (by omega) (by omega)
              have hub := uTo_bounds s.data.toList 3 k (by omega)
              have HO1 : Hid (okTo s.data.toList 3 (k + 1) = (okTo s.data.toList 3 k && decide (bz s.data.toList (2 + k) / 64 * 64 = 128))) := Lib.hid rfl
              have HU1 : Hid (uTo s.data.toList 3 (k + 1) = uTo s.data.toList 3 k * 64 + bz s.data.toList (2 + k) % 64) := Lib.hid rfl
              obtain ⟨x, hx⟩ : ∃ x, bz s.data.toList (2 + k) = x := ⟨_, rfl⟩
              obtain ⟨hx0, hx1⟩ := bz_bounds s.data.toList (2 + k)
              obtain ⟨u, hu⟩ : ∃ u, uTo s.data.toList 3 k = u := ⟨_, rfl⟩
              obtain ⟨b, hb⟩ : ∃ b, okTo s.data.toList 3 k = b := ⟨_, rfl⟩
              rw [hx] at hix HO1 HU1 hx0 hx1
              rw [hu] at hub HU1 ⊢
              rw [hb] at HO1 ⊢
              have a1 := and192 x hx0 hx1
              have a2 := and63 x hx0 hx1
              clear hx hu hb
              cases b with
              | false =>
                go_wp2_with fail
                go_round
                case rel => exact ⟨k + 1, by omega, by go_num, by rw [HO1.out]; rfl, by rw [HU1.out]⟩
                case measure => simp [intOf]; omega
              | true =>
                go_wp2_with fail
                go_round
                case rel => exact ⟨k + 1, by omega, by go_num, by rw [HO1.out, Bool.true_and]; rfl, by rw [HU1.out]⟩
                case measure => simp [intOf]; omega
            · obtain rfl : k = 2 := by omega
              obtain ⟨u, hu⟩ : ∃ u, uTo s.data.toList 3 2 = u := ⟨_, rfl⟩
              obtain ⟨b, hb⟩ : ∃ b, okTo s.data.toList 3 2 = b := ⟨_, rfl⟩
              have HH : Hid (hitC s.data.toList 3 ↔ (b = true ∧ u ≤ 1114111 ∧ (u < 55296 ∨ 57343 < u) ∧ 2048 ≤ u)) := Lib.hid (by rw [← hu, ← hb]; exact Iff.rfl)
              have hub := uTo_bounds s.data.toList 3 2 (by omega)
              rw [hu] at hub ⊢
              rw [hb]
              have HU := Lib.hid hu
              clear hu hb hkl hk
              cases b with
              | false =>
                have HNH : Hid (¬ hitC s.data.toList 3) := Lib.hid (fun h => by have := (HH.out.1 h).1; cases this)
                clear HH
                go_wp2_with fail
                have HNB : Hid (∀ m, 2 ≤ m → m < 4 → 1 + m ≤ s.size ∧ ¬ hitC s.data.toList m) := Lib.hid (fun m h2 h3 => by
                  by_cases e : m = 3
                  · subst e; exact ⟨hns, HNH.out⟩
                  · exact HBF.out m h2 (by omega))
                go_roundw
                case rel => exact ⟨4, by omega, by omega, by go_num, HNB.out, by first | exact HB.out.alloc hsz _ | exact (HB.out.alloc hsz _).drew | exact ((HB.out.alloc hsz _).alloc (by rw [World.size_alloc]; omega) _) | exact ((HB.out.alloc hsz _).alloc (by rw [World.size_alloc]; omega) _).drew⟩
                case measure => simp [intOf]
              | true =>
                by_cases u1 : u ≤ 1114111
                · have du1 : decide (u ≤ 1114111) = true := decide_eq_true u1
                  by_cases u2 : u < 55296
                  · have du2 : decide (u < 55296) = true := decide_eq_true u2
                    by_cases u4 : 2048 ≤ u
                    · have du4 : decide (2048 ≤ u) = true := decide_eq_true u4
                      have HR : Hid (charC s.data.toList = (u, 3)) := Lib.hid (by rw [charC, if_neg (fun g => (HBF.out 2 (by omega) (by omega)).2 g.2), if_pos ⟨by rw [HSL.out]; omega, HH.out.2 ⟨rfl, u1, .inl u2, u4⟩⟩, HU.out])
                      clear HH u1 u2 u4
                      go_wp2_with fail
                      go_ret2
                      exact ⟨by rw [HR.out]; rfl, by first | exact HB.out.alloc hsz _ | exact (HB.out.alloc hsz _).drew | exact ((HB.out.alloc hsz _).alloc (by rw [World.size_alloc]; omega) _) | exact ((HB.out.alloc hsz _).alloc (by rw [World.size_alloc]; omega) _).drew⟩
                    · have du4 : decide (2048 ≤ u) = false := decide_eq_false u4
                      have HNH : Hid (¬ hitC s.data.toList 3) := Lib.hid (fun h => u4 (HH.out.1 h).2.2.2)
                      clear HH u1 u2 u4
                      go_wp2_with fail
                      have HNB : Hid (∀ m, 2 ≤ m → m < 4 → 1 + m ≤ s.size ∧ ¬ hitC s.data.toList m) := Lib.hid (fun m h2 h3 => by
                        by_cases e : m = 3
                        · subst e; exact ⟨hns, HNH.out⟩
                        · exact HBF.out m h2 (by omega))
                      go_roundw
                      case rel => exact ⟨4, by omega, by omega, by go_num, HNB.out, by first | exact HB.out.alloc hsz _ | exact (HB.out.alloc hsz _).drew | exact ((HB.out.alloc hsz _).alloc (by rw [World.size_alloc]; omega) _) | exact ((HB.out.alloc hsz _).alloc (by rw [World.size_alloc]; omega) _).drew⟩
                      case measure => simp [intOf]
                  · have du2 : decide (u < 55296) = false := decide_eq_false u2
                    by_cases u3 : 57343 < u
                    · have du3 : decide (57343 < u) = true := decide_eq_true u3
                      by_cases u4 : 2048 ≤ u
                      · have du4 : decide (2048 ≤ u) = true := decide_eq_true u4
                        have HR : Hid (charC s.data.toList = (u, 3)) := Lib.hid (by rw [charC, if_neg (fun g => (HBF.out 2 (by omega) (by omega)).2 g.2), if_pos ⟨by rw [HSL.out]; omega, HH.out.2 ⟨rfl, u1, .inr u3, u4⟩⟩, HU.out])
                        clear HH u1 u2 u4 u3
                        go_wp2_with fail
                        go_ret2
                        exact ⟨by rw [HR.out]; rfl, by first | exact HB.out.alloc hsz _ | exact (HB.out.alloc hsz _).drew | exact ((HB.out.alloc hsz _).alloc (by rw [World.size_alloc]; omega) _) | exact ((HB.out.alloc hsz _).alloc (by rw [World.size_alloc]; omega) _).drew⟩
                      · have du4 : decide (2048 ≤ u) = false := decide_eq_false u4
                        have HNH : Hid (¬ hitC s.data.toList 3) := Lib.hid (fun h => u4 (HH.out.1 h).2.2.2)
                        clear HH u1 u2 u4 u3
                        go_wp2_with fail
                        have HNB : Hid (∀ m, 2 ≤ m → m < 4 → 1 + m ≤ s.size ∧ ¬ hitC s.data.toList m) := Lib.hid (fun m h2 h3 => by
                          by_cases e : m = 3
                          · subst e; exact ⟨hns, HNH.out⟩
                          · exact HBF.out m h2 (by omega))
                        go_roundw
                        case rel => exact ⟨4, by omega, by omega, by go_num, HNB.out, by first | exact HB.out.alloc hsz _ | exact (HB.out.alloc hsz _).drew | exact ((HB.out.alloc hsz _).alloc (by rw [World.size_alloc]; omega) _) | exact ((HB.out.alloc hsz _).alloc (by rw [World.size_alloc]; omega) _).drew⟩
                        case measure => simp [intOf]
                    · have du3 : decide (57343 < u) = false := decide_eq_false u3
                      have HNH : Hid (¬ hitC s.data.toList 3) := Lib.hid (fun h => by have := (HH.out.1 h).2.2.1; omega)
                      clear HH u1 u2 u3
                      go_wp2_with fail
                      have HNB : Hid (∀ m, 2 ≤ m → m < 4 → 1 + m ≤ s.size ∧ ¬ hitC s.data.toList m) := Lib.hid (fun m h2 h3 => by
                        by_cases e : m = 3
                        · subst e; exact ⟨hns, HNH.out⟩
                        · exact HBF.out m h2 (by omega))
                      go_roundw
                      case rel => exact ⟨4, by omega, by omega, by go_num, HNB.out, by first | exact HB.out.alloc hsz _ | exact (HB.out.alloc hsz _).drew | exact ((HB.out.alloc hsz _).alloc (by rw [World.size_alloc]; omega) _) | exact ((HB.out.alloc hsz _).alloc (by rw [World.size_alloc]; omega) _).drew⟩
                      case measure => simp [intOf]
                · have du1 : decide (u ≤ 1114111) = false := decide_eq_false u1
                  have HNH : Hid (¬ hitC s.data.toList 3) := Lib.hid (fun h => u1 (HH.out.1 h).2.1)
                  clear HH u1
                  go_wp2_with fail
                  have HNB : Hid (∀ m, 2 ≤ m → m < 4 → 1 + m ≤ s.size ∧ ¬ hitC s.data.toList m) := Lib.hid (fun m h2 h3 => by
                    by_cases e : m = 3
                    · subst e; exact ⟨hns, HNH.out⟩
                    · exact HBF.out m h2 (by omega))
                  go_roundw
                  case rel => exact ⟨4, by omega, by omega, by go_num, HNB.out, by first | exact HB.out.alloc hsz _ | exact (HB.out.alloc hsz _).drew | exact ((HB.out.alloc hsz _).alloc (by rw [World.size_alloc]; omega) _) | exact ((HB.out.alloc hsz _).alloc (by rw [World.size_alloc]; omega) _).drew⟩
                  case measure => simp [intOf]
        · go_wp2_with fail
          have hg : okTo s.data.toList 3 0 = false := by
            show (decide (224 ≤ bz s.data.toList 1) && decide (bz s.data.toList 1 - 224 < 16)) = _
            rw [HC1.out]
            rw [decide_eq_false (by omega)]; rfl
          go_loop [9, 10, 11] (fun u b i => ∃ k : Nat, k ≤ 2 ∧ i = .int .i64 (2 + (k : Int)) ∧ b = .bool (okTo s.data.toList 3 k) ∧ u = .int .i64 (uTo s.data.toList 3 k)) (fun _ _ i => 4 - (intOf i).toNat)
          case atStart => exact ⟨0, by omega, rfl, by rw [hg], by rw [HU0.out]⟩
          case round =>
            obtain ⟨k, hk, rfl, rfl, rfl⟩ := hrel
            clear hg
            by_cases hkl : k < 2
            · have hdk : decide (2 + (k : Int) < 4) = true := decide_eq_true (by omega)
              have hix := HIX.out (2 + (k : Int)) (2 + k) (by omega) (by omega)
              have hub := uTo_bounds s.data.toList 3 k (by omega)
              have HO1 : Hid (okTo s.data.toList 3 (k + 1) = (okTo s.data.toList 3 k && decide (bz s.data.toList (2 + k) / 64 * 64 = 128))) := Lib.hid rfl
              have HU1 : Hid (uTo s.data.toList 3 (k + 1) = uTo s.data.toList 3 k * 64 + bz s.data.toList (2 + k) % 64) := Lib.hid rfl
              obtain ⟨x, hx⟩ : ∃ x, bz s.data.toList (2 + k) = x := ⟨_, rfl⟩
              obtain ⟨hx0, hx1⟩ := bz_bounds s.data.toList (2 + k)
              obtain ⟨u, hu⟩ : ∃ u, uTo s.data.toList 3 k = u := ⟨_, rfl⟩
              obtain ⟨b, hb⟩ : ∃ b, okTo s.data.toList 3 k = b := ⟨_, rfl⟩
              rw [hx] at hix HO1 HU1 hx0 hx1
              rw [hu] at hub HU1 ⊢
              rw [hb] at HO1 ⊢
              have a1 := and192 x hx0 hx1
              have a2 := and63 x hx0 hx1
              clear hx hu hb
              cases b with
              | false =>
                go_wp2_with fail
                go_round
                case rel => exact ⟨k + 1, by omega, by go_num, by rw [HO1.out]; rfl, by rw [HU1.out]⟩
                case measure => simp [intOf]; omega
              | true =>
                go_wp2_with fail
                go_round
                case rel => exact ⟨k + 1, by omega, by go_num, by rw [HO1.out, Bool.true_and]; rfl, by rw [HU1.out]⟩
                case measure => simp [intOf]; omega
            · obtain rfl : k = 2 := by omega
              obtain ⟨u, hu⟩ : ∃ u, uTo s.data.toList 3 2 = u := ⟨_, rfl⟩
              obtain ⟨b, hb⟩ : ∃ b, okTo s.data.toList 3 2 = b := ⟨_, rfl⟩
              have HH : Hid (hitC s.data.toList 3 ↔ (b = true ∧ u ≤ 1114111 ∧ (u < 55296 ∨ 57343 < u) ∧ 2048 ≤ u)) := Lib.hid (by rw [← hu, ← hb]; exact Iff.rfl)
              have hub := uTo_bounds s.data.toList 3 2 (by omega)
              rw [hu] at hub ⊢
              rw [hb]
              have HU := Lib.hid hu
              clear hu hb hkl hk
              cases b with
              | false =>
                have HNH : Hid (¬ hitC s.data.toList 3) := Lib.hid (fun h => by have := (HH.out.1 h).1; cases this)
                clear HH
                go_wp2_with fail
                have HNB : Hid (∀ m, 2 ≤ m → m < 4 → 1 + m ≤ s.size ∧ ¬ hitC s.data.toList m) := Lib.hid (fun m h2 h3 => by
                  by_cases e : m = 3
                  · subst e; exact ⟨hns, HNH.out⟩
                  · exact HBF.out m h2 (by omega))
                go_roundw
                case rel => exact ⟨4, by omega, by omega, by go_num, HNB.out, by first | exact HB.out.alloc hsz _ | exact (HB.out.alloc hsz _).drew | exact ((HB.out.alloc hsz _).alloc (by rw [World.size_alloc]; omega) _) | exact ((HB.out.alloc hsz _).alloc (by rw [World.size_alloc]; omega) _).drew⟩
                case measure => simp [intOf]
              | true =>
                by_cases u1 : u ≤ 1114111
                · have du1 : decide (u ≤ 1114111) = true := decide_eq_true u1
                  by_cases u2 : u < 55296
                  · have du2 : decide (u < 55296) = true := decide_eq_true u2
                    by_cases u4 : 2048 ≤ u
                    · have du4 : decide (2048 ≤ u) = true := decide_eq_true u4
                      have HR : Hid (charC s.data.toList = (u, 3)) := Lib.hid (by rw [charC, if_neg (fun g => (HBF.out 2 (by omega) (by omega)).2 g.2), if_pos ⟨by rw [HSL.out]; omega, HH.out.2 ⟨rfl, u1, .inl u2, u4⟩⟩, HU.out])
                      clear HH u1 u2 u4
                      go_wp2_with fail
                      go_ret2
                      exact ⟨by rw [HR.out]; rfl, by first | exact HB.out.alloc hsz _ | exact (HB.out.alloc hsz _).drew | exact ((HB.out.alloc hsz _).alloc (by rw [World.size_alloc]; omega) _) | exact ((HB.out.alloc hsz _).alloc (by rw [World.size_alloc]; omega) _).drew⟩
                    · have du4 : decide (2048 ≤ u) = false := decide_eq_false u4
                      have HNH : Hid (¬ hitC s.data.toList 3) := Lib.hid (fun h => u4 (HH.out.1 h).2.2.2)
                      clear HH u1 u2 u4
                      go_wp2_with fail
                      have HNB : Hid (∀ m, 2 ≤ m → m < 4 → 1 + m ≤ s.size ∧ ¬ hitC s.data.toList m) := Lib.hid (fun m h2 h3 => by
                        by_cases e : m = 3
                        · subst e; exact ⟨hns, HNH.out⟩
                        · exact HBF.out m h2 (by omega))
                      go_roundw
                      case rel => exact ⟨4, by omega, by omega, by go_num, HNB.out, by first | exact HB.out.alloc hsz _ | exact (HB.out.alloc hsz _).drew | exact ((HB.out.alloc hsz _).alloc (by rw [World.size_alloc]; omega) _) | exact ((HB.out.alloc hsz _).alloc (by rw [World.size_alloc]; omega) _).drew⟩
                      case measure => simp [intOf]
                  · have du2 : decide (u < 55296) = false := decide_eq_false u2
                    by_cases u3 : 57343 < u
                    · have du3 : decide (57343 < u) = true := decide_eq_true u3
                      by_cases u4 : 2048 ≤ u
                      · have du4 : decide (2048 ≤ u) = true := decide_eq_true u4
                        have HR : Hid (charC s.data.toList = (u, 3)) := Lib.hid (by rw [charC, if_neg (fun g => (HBF.out 2 (by omega) (by omega)).2 g.2), if_pos ⟨by rw [HSL.out]; omega, HH.out.2 ⟨rfl, u1, .inr u3, u4⟩⟩, HU.out])
                        clear HH u1 u2 u4 u3
                        go_wp2_with fail
                        go_ret2
                        exact ⟨by rw [HR.out]; rfl, by first | exact HB.out.alloc hsz _ | exact (HB.out.alloc hsz _).drew | exact ((HB.out.alloc hsz _).alloc (by rw [World.size_alloc]; omega) _) | exact ((HB.out.alloc hsz _).alloc (by rw [World.size_alloc]; omega) _).drew⟩
                      · have du4 : decide (2048 ≤ u) = false := decide_eq_false u4
                        have HNH : Hid (¬ hitC s.data.toList 3) := Lib.hid (fun h => u4 (HH.out.1 h).2.2.2)
                        clear HH u1 u2 u4 u3
                        go_wp2_with fail
                        have HNB : Hid (∀ m, 2 ≤ m → m < 4 → 1 + m ≤ s.size ∧ ¬ hitC s.data.toList m) := Lib.hid (fun m h2 h3 => by
                          by_cases e : m = 3
                          · subst e; exact ⟨hns, HNH.out⟩
                          · exact HBF.out m h2 (by omega))
                        go_roundw
                        case rel => exact ⟨4, by omega, by omega, by go_num, HNB.out, by first | exact HB.out.alloc hsz _ | exact (HB.out.alloc hsz _).drew | exact ((HB.out.alloc hsz _).alloc (by rw [World.size_alloc]; omega) _) | exact ((HB.out.alloc hsz _).alloc (by rw [World.size_alloc]; omega) _).drew⟩
                        case measure => simp [intOf]
                    · have du3 : decide (57343 < u) = false := decide_eq_false u3
                      have HNH : Hid (¬ hitC s.data.toList 3) := Lib.hid (fun h => by have := (HH.out.1 h).2.2.1; omega)
                      clear HH u1 u2 u3
                      go_wp2_with fail
                      have HNB : Hid (∀ m, 2 ≤ m → m < 4 → 1 + m ≤ s.size ∧ ¬ hitC s.data.toList m) := Lib.hid (fun m h2 h3 => by
                        by_cases e : m = 3
                        · subst e; exact ⟨hns, HNH.out⟩
                        · exact HBF.out m h2 (by omega))
                      go_roundw
                      case rel => exact ⟨4, by omega, by omega, by go_num, HNB.out, by first | exact HB.out.alloc hsz _ | exact (HB.out.alloc hsz _).drew | exact ((HB.out.alloc hsz _).alloc (by rw [World.size_alloc]; omega) _) | exact ((HB.out.alloc hsz _).alloc (by rw [World.size_alloc]; omega) _).drew⟩
                      case measure => simp [intOf]
                · have du1 : decide (u ≤ 1114111) = false := decide_eq_false u1
                  have HNH : Hid (¬ hitC s.data.toList 3) := Lib.hid (fun h => u1 (HH.out.1 h).2.1)
                  clear HH u1
                  go_wp2_with fail
                  have HNB : Hid (∀ m, 2 ≤ m → m < 4 → 1 + m ≤ s.size ∧ ¬ hitC s.data.toList m) := Lib.hid (fun m h2 h3 => by
                    by_cases e : m = 3
                    · subst e; exact ⟨hns, HNH.out⟩
                    · exact HBF.out m h2 (by omega))
                  go_roundw
                  case rel => exact ⟨4, by omega, by omega, by go_num, HNB.out, by first | exact HB.out.alloc hsz _ | exact (HB.out.alloc hsz _).drew | exact ((HB.out.alloc hsz _).alloc (by rw [World.size_alloc]; omega) _) | exact ((HB.out.alloc hsz _).alloc (by rw [World.size_alloc]; omega) _).drew⟩
                  case measure => simp [intOf]
      · have HU0 : Hid (uTo s.data.toList 4 0 = (c.toNat : Int) - 240) := Lib.hid (by rw [← HC1.out]; rfl)
        by_cases hlo : 240 ≤ (c.toNat : Int)
        · obtain ⟨g, hg1⟩ : ∃ g, decide ((c.toNat : Int) - 240 < 8) = g := ⟨_, rfl⟩
          go_wp2_with fail
          have hg : okTo s.data.toList 4 0 = g := by
            show (decide (240 ≤ bz s.data.toList 1) && decide (bz s.data.toList 1 - 240 < 8)) = _
            rw [HC1.out]
            rw [decide_eq_true hlo, hg1]; rfl
          go_loop [9, 10, 11] (fun u b i => ∃ k : Nat, k ≤ 3 ∧ i = .int .i64 (2 + (k : Int)) ∧ b = .bool (okTo s.data.toList 4 k) ∧ u = .int .i64 (uTo s.data.toList 4 k)) (fun _ _ i => 5 - (intOf i).toNat)
          case atStart => exact ⟨0, by omega, rfl, by rw [hg], by rw [HU0.out]⟩
          case round =>
            obtain ⟨k, hk, rfl, rfl, rfl⟩ := hrel
            clear hg
            by_cases hkl : k < 3
            · have hdk : decide (2 + (k : Int) < 5) = true := decide_eq_true (by omega)
              have hix := HIX.out (2 + (k : Int)) (2 + k) (by omega) (by omega)
              have hub := uTo_bounds s.data.toList 4 k (by omega)
              have HO1 : Hid (okTo s.data.toList 4 (k + 1) = (okTo s.data.toList 4 k && decide (bz s.data.toList (2 + k) / 64 * 64 = 128))) := Lib.hid rfl
              have HU1 : Hid (uTo s.data.toList 4 (k + 1) = uTo s.data.toList 4 k * 64 + bz s.data.toList (2 + k) % 64) := Lib.hid rfl
              obtain ⟨x, hx⟩ : ∃ x, bz s.data.toList (2 + k) = x := ⟨_, rfl⟩
              obtain ⟨hx0, hx1⟩ := bz_bounds s.data.toList (2 + k)
              obtain ⟨u, hu⟩ : ∃ u, uTo s.data.toList 4 k = u := ⟨_, rfl⟩
              obtain ⟨b, hb⟩ : ∃ b, okTo s.data.toList 4 k = b := ⟨_, rfl⟩
              rw [hx] at hix HO1 HU1 hx0 hx1
              rw [hu] at hub HU1 ⊢
              rw [hb] at HO1 ⊢
              have a1 := and192 x hx0 hx1
              have a2 := and63 x hx0 hx1
              clear hx hu hb
              cases b with
              | false =>
                go_wp2_with fail
                go_round
                case rel => exact ⟨k + 1, by omega, by go_num, by rw [HO1.out]; rfl, by rw [HU1.out]⟩
                case measure => simp [intOf]; omega
              | true =>
                go_wp2_with fail
                go_round
                case rel => exact ⟨k + 1, by omega, by go_num, by rw [HO1.out, Bool.true_and]; rfl, by rw [HU1.out]⟩
                case measure => simp [intOf]; omega
            · obtain rfl : k = 3 := by omega
              obtain ⟨u, hu⟩ : ∃ u, uTo s.data.toList 4 3 = u := ⟨_, rfl⟩
              obtain ⟨b, hb⟩ : ∃ b, okTo s.data.toList 4 3 = b := ⟨_, rfl⟩
              have HH : Hid (hitC s.data.toList 4 ↔ (b = true ∧ u ≤ 1114111 ∧ (u < 55296 ∨ 57343 < u) ∧ 65536 ≤ u)) := Lib.hid (by rw [← hu, ← hb]; exact Iff.rfl)
              have hub := uTo_bounds s.data.toList 4 3 (by omega)
              rw [hu] at hub ⊢
              rw [hb]
              have HU := Lib.hid hu
              clear hu hb hkl hk
              cases b with
              | false =>
                have HNH : Hid (¬ hitC s.data.toList 4) := Lib.hid (fun h => by have := (HH.out.1 h).1; cases this)
                clear HH
                go_wp2_with fail
                have HNB : Hid (∀ m, 2 ≤ m → m < 5 → 1 + m ≤ s.size ∧ ¬ hitC s.data.toList m) := Lib.hid (fun m h2 h3 => by
                  by_cases e : m = 4
                  · subst e; exact ⟨hns, HNH.out⟩
                  · exact HBF.out m h2 (by omega))
                go_roundw
                case rel => exact ⟨5, by omega, by omega, by go_num, HNB.out, by first | exact HB.out.alloc hsz _ | exact (HB.out.alloc hsz _).drew | exact ((HB.out.alloc hsz _).alloc (by rw [World.size_alloc]; omega) _) | exact ((HB.out.alloc hsz _).alloc (by rw [World.size_alloc]; omega) _).drew⟩
                case measure => simp [intOf]
              | true =>
                by_cases u1 : u ≤ 1114111
                · have du1 : decide (u ≤ 1114111) = true := decide_eq_true u1
                  by_cases u2 : u < 55296
                  · have du2 : decide (u < 55296) = true := decide_eq_true u2
                    by_cases u4 : 65536 ≤ u
                    · have du4 : decide (65536 ≤ u) = true := decide_eq_true u4
                      have HR : Hid (charC s.data.toList = (u, 4)) := Lib.hid (by rw [charC, if_neg (fun g => (HBF.out 2 (by omega) (by omega)).2 g.2), if_neg (fun g => (HBF.out 3 (by omega) (by omega)).2 g.2), if_pos ⟨by rw [HSL.out]; omega, HH.out.2 ⟨rfl, u1, .inl u2, u4⟩⟩, HU.out])
                      clear HH u1 u2 u4
                      go_wp2_with fail
                      go_ret2
                      exact ⟨by rw [HR.out]; rfl, by first | exact HB.out.alloc hsz _ | exact (HB.out.alloc hsz _).drew | exact ((HB.out.alloc hsz _).alloc (by rw [World.size_alloc]; omega) _) | exact ((HB.out.alloc hsz _).alloc (by rw [World.size_alloc]; omega) _).drew⟩
                    · have du4 : decide (65536 ≤ u) = false := decide_eq_false u4
                      have HNH : Hid (¬ hitC s.data.toList 4) := Lib.hid (fun h => u4 (HH.out.1 h).2.2.2)
                      clear HH u1 u2 u4
                      go_wp2_with fail
                      have HNB : Hid (∀ m, 2 ≤ m → m < 5 → 1 + m ≤ s.size ∧ ¬ hitC s.data.toList m) := Lib.hid (fun m h2 h3 => by
                        by_cases e : m = 4
                        · subst e; exact ⟨hns, HNH.out⟩
                        · exact HBF.out m h2 (by omega))
                      go_roundw
                      case rel => exact ⟨5, by omega, by omega, by go_num, HNB.out, by first | exact HB.out.alloc hsz _ | exact (HB.out.alloc hsz _).drew | exact ((HB.out.alloc hsz _).alloc (by rw [World.size_alloc]; omega) _) | exact ((HB.out.alloc hsz _).alloc (by rw [World.size_alloc]; omega) _).drew⟩
                      case measure => simp [intOf]
                  · have du2 : decide (u < 55296) = false := decide_eq_false u2
                    by_cases u3 : 57343 < u
                    · have du3 : decide (57343 < u) = true := decide_eq_true u3
                      by_cases u4 : 65536 ≤ u
                      · have du4 : decide (65536 ≤ u) = true := decide_eq_true u4
                        have HR : Hid (charC s.data.toList = (u, 4)) := Lib.hid (by rw [charC, if_neg (fun g => (HBF.out 2 (by omega) (by omega)).2 g.2), if_neg (fun g => (HBF.out 3 (by omega) (by omega)).2 g.2), if_pos ⟨by rw [HSL.out]; omega, HH.out.2 ⟨rfl, u1, .inr u3, u4⟩⟩, HU.out])
                        clear HH u1 u2 u4 u3
                        go_wp2_with fail
                        go_ret2
                        exact ⟨by rw [HR.out]; rfl, by first | exact HB.out.alloc hsz _ | exact (HB.out.alloc hsz _).drew | exact ((HB.out.alloc hsz _).alloc (by rw [World.size_alloc]; omega) _) | exact ((HB.out.alloc hsz _).alloc (by rw [World.size_alloc]; omega) _).drew⟩
                      · have du4 : decide (65536 ≤ u) = false := decide_eq_false u4
                        have HNH : Hid (¬ hitC s.data.toList 4) := Lib.hid (fun h => u4 (HH.out.1 h).2.2.2)
                        clear HH u1 u2 u4 u3
                        go_wp2_with fail
                        have HNB : Hid (∀ m, 2 ≤ m → m < 5 → 1 + m ≤ s.size ∧ ¬ hitC s.data.toList m) := Lib.hid (fun m h2 h3 => by
                          by_cases e : m = 4
                          · subst e; exact ⟨hns, HNH.out⟩
                          · exact HBF.out m h2 (by omega))
                        go_roundw
                        case rel => exact ⟨5, by omega, by omega, by go_num, HNB.out, by first | exact HB.out.alloc hsz _ | exact (HB.out.alloc hsz _).drew | exact ((HB.out.alloc hsz _).alloc (by rw [World.size_alloc]; omega) _) | exact ((HB.out.alloc hsz _).alloc (by rw [World.size_alloc]; omega) _).drew⟩
                        case measure => simp [intOf]
                    · have du3 : decide (57343 < u) = false := decide_eq_false u3
                      have HNH : Hid (¬ hitC s.data.toList 4) := Lib.hid (fun h => by have := (HH.out.1 h).2.2.1; omega)
                      clear HH u1 u2 u3
                      go_wp2_with fail
                      have HNB : Hid (∀ m, 2 ≤ m → m < 5 → 1 + m ≤ s.size ∧ ¬ hitC s.data.toList m) := Lib.hid (fun m h2 h3 => by
                        by_cases e : m = 4
                        · subst e; exact ⟨hns, HNH.out⟩
                        · exact HBF.out m h2 (by omega))
                      go_roundw
                      case rel => exact ⟨5, by omega, by omega, by go_num, HNB.out, by first | exact HB.out.alloc hsz _ | exact (HB.out.alloc hsz _).drew | exact ((HB.out.alloc hsz _).alloc (by rw [World.size_alloc]; omega) _) | exact ((HB.out.alloc hsz _).alloc (by rw [World.size_alloc]; omega) _).drew⟩
                      case measure => simp [intOf]
                · have du1 : decide (u ≤ 1114111) = false := decide_eq_false u1
                  have HNH : Hid (¬ hitC s.data.toList 4) := Lib.hid (fun h => u1 (HH.out.1 h).2.1)
                  clear HH u1
                  go_wp2_with fail
                  have HNB : Hid (∀ m, 2 ≤ m → m < 5 → 1 + m ≤ s.size ∧ ¬ hitC s.data.toList m) := Lib.hid (fun m h2 h3 => by
                    by_cases e : m = 4
                    · subst e; exact ⟨hns, HNH.out⟩
                    · exact HBF.out m h2 (by omega))
                  go_roundw
                  case rel => exact ⟨5, by omega, by omega, by go_num, HNB.out, by first | exact HB.out.alloc hsz _ | exact (HB.out.alloc hsz _).drew | exact ((HB.out.alloc hsz _).alloc (by rw [World.size_alloc]; omega) _) | exact ((HB.out.alloc hsz _).alloc (by rw [World.size_alloc]; omega) _).drew⟩
                  case measure => simp [intOf]
        · go_wp2_with fail
          have hg : okTo s.data.toList 4 0 = false := by
            show (decide (240 ≤ bz s.data.toList 1) && decide (bz s.data.toList 1 - 240 < 8)) = _
            rw [HC1.out]
            rw [decide_eq_false (by omega)]; rfl
          go_loop [9, 10, 11] (fun u b i => ∃ k : Nat, k ≤ 3 ∧ i = .int .i64 (2 + (k : Int)) ∧ b = .bool (okTo s.data.toList 4 k) ∧ u = .int .i64 (uTo s.data.toList 4 k)) (fun _ _ i => 5 - (intOf i).toNat)
          case atStart => exact ⟨0, by omega, rfl, by rw [hg], by rw [HU0.out]⟩
          case round =>
            obtain ⟨k, hk, rfl, rfl, rfl⟩ := hrel
            clear hg
            by_cases hkl : k < 3
            · have hdk : decide (2 + (k : Int) < 5) = true := decide_eq_true (by omega)
              have hix := HIX.out (2 + (k : Int)) (2 + k) (by omega) (by omega)
              have hub := uTo_bounds s.data.toList 4 k (by omega)
              have HO1 : Hid (okTo s.data.toList 4 (k + 1) = (okTo s.data.toList 4 k && decide (bz s.data.toList (2 + k) / 64 * 64 = 128))) := Lib.hid rfl
              have HU1 : Hid (uTo s.data.toList 4 (k + 1) = uTo s.data.toList 4 k * 64 + bz s.data.toList (2 + k) % 64) := Lib.hid rfl
              obtain ⟨x, hx⟩ : ∃ x, bz s.data.toList (2 + k) = x := ⟨_, rfl⟩
              obtain ⟨hx0, hx1⟩ := bz_bounds s.data.toList (2 + k)
              obtain ⟨u, hu⟩ : ∃ u, uTo s.data.toList 4 k = u := ⟨_, rfl⟩
              obtain ⟨b, hb⟩ : ∃ b, okTo s.data.toList 4 k = b := ⟨_, rfl⟩
              rw [hx] at hix HO1 HU1 hx0 hx1
              rw [hu] at hub HU1 ⊢
              rw [hb] at HO1 ⊢
              have a1 := and192 x hx0 hx1
              have a2 := and63 x hx0 hx1
              clear hx hu hb
              cases b with
              | false =>
                go_wp2_with fail
                go_round
                case rel => exact ⟨k + 1, by omega, by go_num, by rw [HO1.out]; rfl, by rw [HU1.out]⟩
                case measure => simp [intOf]; omega
              | true =>
                go_wp2_with fail
                go_round
                case rel => exact ⟨k + 1, by omega, by go_num, by rw [HO1.out, Bool.true_and]; rfl, by rw [HU1.out]⟩
                case measure => simp [intOf]; omega
            · obtain rfl : k = 3 := by omega
              obtain ⟨u, hu⟩ : ∃ u, uTo s.data.toList 4 3 = u := ⟨_, rfl⟩
              obtain ⟨b, hb⟩ : ∃ b, okTo s.data.toList 4 3 = b := ⟨_, rfl⟩
              have HH : Hid (hitC s.data.toList 4 ↔ (b = true ∧ u ≤ 1114111 ∧ (u < 55296 ∨ 57343 < u) ∧ 65536 ≤ u)) := Lib.hid (by rw [← hu, ← hb]; exact Iff.rfl)
              have hub := uTo_bounds s.data.toList 4 3 (by omega)
              rw [hu] at hub ⊢
              rw [hb]
              have HU := Lib.hid hu
              clear hu hb hkl hk
              cases b with
              | false =>
                have HNH : Hid (¬ hitC s.data.toList 4) := Lib.hid (fun h => by have := (HH.out.1 h).1; cases this)
                clear HH
                go_wp2_with fail
                have HNB : Hid (∀ m, 2 ≤ m → m < 5 → 1 + m ≤ s.size ∧ ¬ hitC s.data.toList m) := Lib.hid (fun m h2 h3 => by
                  by_cases e : m = 4
                  · subst e; exact ⟨hns, HNH.out⟩
                  · exact HBF.out m h2 (by omega))
                go_roundw
                case rel => exact ⟨5, by omega, by omega, by go_num, HNB.out, by first | exact HB.out.alloc hsz _ | exact (HB.out.alloc hsz _).drew | exact ((HB.out.alloc hsz _).alloc (by rw [World.size_alloc]; omega) _) | exact ((HB.out.alloc hsz _).alloc (by rw [World.size_alloc]; omega) _).drew⟩
                case measure => simp [intOf]
              | true =>
                by_cases u1 : u ≤ 1114111
                · have du1 : decide (u ≤ 1114111) = true := decide_eq_true u1
                  by_cases u2 : u < 55296
                  · have du2 : decide (u < 55296) = true := decide_eq_true u2
                    by_cases u4 : 65536 ≤ u
                    · have du4 : decide (65536 ≤ u) = true := decide_eq_true u4
                      have HR : Hid (charC s.data.toList = (u, 4)) := Lib.hid (by rw [charC, if_neg (fun g => (HBF.out 2 (by omega) (by omega)).2 g.2), if_neg (fun g => (HBF.out 3 (by omega) (by omega)).2 g.2), if_pos ⟨by rw [HSL.out]; omega, HH.out.2 ⟨rfl, u1, .inl u2, u4⟩⟩, HU.out])
                      clear HH u1 u2 u4
                      go_wp2_with fail
                      go_ret2
                      exact ⟨by rw [HR.out]; rfl, by first | exact HB.out.alloc hsz _ | exact (HB.out.alloc hsz _).drew | exact ((HB.out.alloc hsz _).alloc (by rw [World.size_alloc]; omega) _) | exact ((HB.out.alloc hsz _).alloc (by rw [World.size_alloc]; omega) _).drew⟩
                    · have du4 : decide (65536 ≤ u) = false := decide_eq_false u4
                      have HNH : Hid (¬ hitC s.data.toList 4) := Lib.hid (fun h => u4 (HH.out.1 h).2.2.2)
                      clear HH u1 u2 u4
                      go_wp2_with fail
                      have HNB : Hid (∀ m, 2 ≤ m → m < 5 → 1 + m ≤ s.size ∧ ¬ hitC s.data.toList m) := Lib.hid (fun m h2 h3 => by
                        by_cases e : m = 4
                        · subst e; exact ⟨hns, HNH.out⟩
                        · exact HBF.out m h2 (by omega))
                      go_roundw
                      case rel => exact ⟨5, by omega, by omega, by go_num, HNB.out, by first | exact HB.out.alloc hsz _ | exact (HB.out.alloc hsz _).drew | exact ((HB.out.alloc hsz _).alloc (by rw [World.size_alloc]; omega) _) | exact ((HB.out.alloc hsz _).alloc (by rw [World.size_alloc]; omega) _).drew⟩
                      case measure => simp [intOf]
                  · have du2 : decide (u < 55296) = false := decide_eq_false u2
                    by_cases u3 : 57343 < u
                    · have du3 : decide (57343 < u) = true := decide_eq_true u3
                      by_cases u4 : 65536 ≤ u
                      · have du4 : decide (65536 ≤ u) = true := decide_eq_true u4
                        have HR : Hid (charC s.data.toList = (u, 4)) := Lib.hid (by rw [charC, if_neg (fun g => (HBF.out 2 (by omega) (by omega)).2 g.2), if_neg (fun g => (HBF.out 3 (by omega) (by omega)).2 g.2), if_pos ⟨by rw [HSL.out]; omega, HH.out.2 ⟨rfl, u1, .inr u3, u4⟩⟩, HU.out])
                        clear HH u1 u2 u4 u3
                        go_wp2_with fail
                        go_ret2
                        exact ⟨by rw [HR.out]; rfl, by first | exact HB.out.alloc hsz _ | exact (HB.out.alloc hsz _).drew | exact ((HB.out.alloc hsz _).alloc (by rw [World.size_alloc]; omega) _) | exact ((HB.out.alloc hsz _).alloc (by rw [World.size_alloc]; omega) _).drew⟩
                      · have du4 : decide (65536 ≤ u) = false := decide_eq_false u4
                        have HNH : Hid (¬ hitC s.data.toList 4) := Lib.hid (fun h => u4 (HH.out.1 h).2.2.2)
                        clear HH u1 u2 u4 u3
                        go_wp2_with fail
                        have HNB : Hid (∀ m, 2 ≤ m → m < 5 → 1 + m ≤ s.size ∧ ¬ hitC s.data.toList m) := Lib.hid (fun m h2 h3 => by
                          by_cases e : m = 4
                          · subst e; exact ⟨hns, HNH.out⟩
                          · exact HBF.out m h2 (by omega))
                        go_roundw
                        case rel => exact ⟨5, by omega, by omega, by go_num, HNB.out, by first | exact HB.out.alloc hsz _ | exact (HB.out.alloc hsz _).drew | exact ((HB.out.alloc hsz _).alloc (by rw [World.size_alloc]; omega) _) | exact ((HB.out.alloc hsz _).alloc (by rw [World.size_alloc]; omega) _).drew⟩
                        case measure => simp [intOf]
                    · have du3 : decide (57343 < u) = false := decide_eq_false u3
                      have HNH : Hid (¬ hitC s.data.toList 4) := Lib.hid (fun h => by have := (HH.out.1 h).2.2.1; omega)
                      clear HH u1 u2 u3
                      go_wp2_with fail
                      have HNB : Hid (∀ m, 2 ≤ m → m < 5 → 1 + m ≤ s.size ∧ ¬ hitC s.data.toList m) := Lib.hid (fun m h2 h3 => by
                        by_cases e : m = 4
                        · subst e; exact ⟨hns, HNH.out⟩
                        · exact HBF.out m h2 (by omega))
                      go_roundw
                      case rel => exact ⟨5, by omega, by omega, by go_num, HNB.out, by first | exact HB.out.alloc hsz _ | exact (HB.out.alloc hsz _).drew | exact ((HB.out.alloc hsz _).alloc (by rw [World.size_alloc]; omega) _) | exact ((HB.out.alloc hsz _).alloc (by rw [World.size_alloc]; omega) _).drew⟩
                      case measure => simp [intOf]
                · have du1 : decide (u ≤ 1114111) = false := decide_eq_false u1
                  have HNH : Hid (¬ hitC s.data.toList 4) := Lib.hid (fun h => u1 (HH.out.1 h).2.1)
                  clear HH u1
                  go_wp2_with fail
                  have HNB : Hid (∀ m, 2 ≤ m → m < 5 → 1 + m ≤ s.size ∧ ¬ hitC s.data.toList m) := Lib.hid (fun m h2 h3 => by
                    by_cases e : m = 4
                    · subst e; exact ⟨hns, HNH.out⟩
                    · exact HBF.out m h2 (by omega))
                  go_roundw
                  case rel => exact ⟨5, by omega, by omega, by go_num, HNB.out, by first | exact HB.out.alloc hsz _ | exact (HB.out.alloc hsz _).drew | exact ((HB.out.alloc hsz _).alloc (by rw [World.size_alloc]; omega) _) | exact ((HB.out.alloc hsz _).alloc (by rw [World.size_alloc]; omega) _).drew⟩
                  case measure => simp [intOf]
    · have HR : Hid (charC s.data.toList = (0, 0)) := Lib.hid (by
        have hf : ∀ m, 2 ≤ m → m ≤ 4 → ¬ (1 + m ≤ s.data.toList.length ∧ hitC s.data.toList m) := fun m g2 g4 g => by
          rw [HSL.out] at g
          by_cases hm : m < n
          · exact (HBF.out m g2 hm).2 g.2
          · omega
        rw [charC, if_neg (hf 2 (by omega) (by omega)), if_neg (hf 3 (by omega) (by omega)), if_neg (hf 4 (by omega) (by omega))])
      by_cases hn4 : n ≤ 4
      · have hda : decide ((n : Int) ≤ 4) = true := decide_eq_true (by omega)
        have hdb : decide (1 + (n : Int) ≤ (s.size : Int)) = false := decide_eq_false (by omega)
        clear hin
        go_wp2_with fail
        go_ret2
        exact ⟨by rw [HR.out]; rfl, HB.out⟩
      · have hda : decide ((n : Int) ≤ 4) = false := decide_eq_false (by omega)
        clear hin
        go_wp2_with fail
        go_ret2
        exact ⟨by rw [HR.out]; rfl, HB.out⟩
end Go.Proofs.YtjbamlmdeopcaaaGreatDoor.tok
end

section
/-
  The reference's Char says what UTF-8's decoding says.
-/
namespace Go.Proofs.YtjbamlmdeopcaaaGreatDoor.tok
open Go.RowKit

def v2 (b0 b1 : Nat) : Nat := b0 % 32 * 64 + b1 % 64
def v3 (b0 b1 b2 : Nat) : Nat := b0 % 16 * 4096 + b1 % 64 * 64 + b2 % 64
def v4 (b0 b1 b2 b3 : Nat) : Nat := b0 % 8 * 262144 + b1 % 64 * 4096 + b2 % 64 * 64 + b3 % 64
def g2 (n b0 b1 : Nat) : Prop := 1 < n ∧ b0 / 32 = 6 ∧ b1 / 64 = 2 ∧ 128 ≤ v2 b0 b1
def g3 (n b0 b1 b2 : Nat) : Prop := 2 < n ∧ b0 / 16 = 14 ∧ b1 / 64 = 2 ∧ b2 / 64 = 2 ∧ 2048 ≤ v3 b0 b1 b2 ∧ (v3 b0 b1 b2 < 55296 ∨ 57343 < v3 b0 b1 b2)
def g4 (n b0 b1 b2 b3 : Nat) : Prop := 3 < n ∧ b0 / 8 = 30 ∧ b1 / 64 = 2 ∧ b2 / 64 = 2 ∧ b3 / 64 = 2 ∧ 65536 ≤ v4 b0 b1 b2 b3 ∧ v4 b0 b1 b2 b3 ≤ 1114111
def fin0 (d : Nat × Nat) : Nat × Nat := if d.1 = 65533 ∧ d.2 < 2 then (0, 0) else d
theorem dec2 {n b0 b1 b2 b3 : Nat} (h : 128 ≤ b0) (h255 : b0 ≤ 255) (g : g2 n b0 b1) : fin0 (Lib.decodeN n b0 b1 b2 b3) = (v2 b0 b1, 2) := by
  obtain ⟨a1, a2, a3, a4⟩ := g
  unfold Lib.decodeN
  unfold v2 at a4
  rw [if_neg (by omega), if_pos ⟨a2, a1, a3⟩, if_pos a4]
  exact if_neg (fun x => by have := x.2; simp at this)
theorem dec3 {n b0 b1 b2 b3 : Nat} (h : 128 ≤ b0) (h255 : b0 ≤ 255) (g : g3 n b0 b1 b2) : fin0 (Lib.decodeN n b0 b1 b2 b3) = (v3 b0 b1 b2, 3) := by
  obtain ⟨a1, a2, a3, a4, a5, a6⟩ := g
  unfold v3 at a5 a6
  unfold Lib.decodeN
  rw [if_neg (by omega), if_neg (by omega), if_pos ⟨a2, ⟨by omega, a3⟩, a1, a4⟩, if_pos ⟨a5, by omega⟩]
  exact if_neg (fun x => by have := x.2; simp at this)
theorem dec4 {n b0 b1 b2 b3 : Nat} (h : 128 ≤ b0) (h255 : b0 ≤ 255) (g : g4 n b0 b1 b2 b3) : fin0 (Lib.decodeN n b0 b1 b2 b3) = (v4 b0 b1 b2 b3, 4) := by
  obtain ⟨a1, a2, a3, a4, a5, a6, a7⟩ := g
  unfold v4 at a6 a7
  unfold Lib.decodeN
  rw [if_neg (by omega), if_neg (by omega), if_neg (by omega), if_pos ⟨a2, ⟨by omega, a3⟩, ⟨by omega, a4⟩, a1, a5⟩, if_pos ⟨a6, by omega⟩]
  exact if_neg (fun x => by have := x.2; simp at this)
theorem dec0 {n b0 b1 b2 b3 : Nat} (h : 128 ≤ b0) (_h255 : b0 ≤ 255) (n2 : ¬ g2 n b0 b1) (n3 : ¬ g3 n b0 b1 b2) (n4 : ¬ g4 n b0 b1 b2 b3) : fin0 (Lib.decodeN n b0 b1 b2 b3) = (0, 0) := by
  have none : fin0 (65533, 1) = (0, 0) := by unfold fin0; rw [if_pos ⟨rfl, by decide⟩]
  unfold Lib.decodeN
  rw [if_neg (by omega)]
  split
  · next x =>
    split
    · next y => exact absurd ⟨x.2.1, x.1, x.2.2, y⟩ n2
    · exact none
  · split
    · next x =>
      split
      · next y => exact absurd ⟨x.2.2.1, x.1, x.2.1.2, x.2.2.2, y.1, by unfold v3; omega⟩ n3
      · exact none
    · split
      · next x =>
        split
        · next y => exact absurd ⟨x.2.2.2.1, x.1, x.2.1.2, x.2.2.1.2, x.2.2.2.2, y.1, by unfold v4; omega⟩ n4
        · exact none
      · exact none
theorem get_b (x : List UInt8) (i : Nat) : (B x).get! i = x.getD i 0 := by
  show x.toArray[i]! = _
  simp [List.getD]
  rfl
theorem charL_dec (l : List UInt8) (h : 1 < l.length) : charL (l.drop 1) = fin0 (Lib.decodeN (l.length - 1) (l.getD 1 0).toNat (l.getD 2 0).toNat (l.getD 3 0).toNat (l.getD 4 0).toNat) := by
  have hd : ∀ i, (l.drop 1).getD i 0 = l.getD (1 + i) 0 := fun i => by simp [List.getD, Nat.add_comm 1 i]
  have e : Lib.decodeGo (B (l.drop 1)) = Lib.decodeN (l.length - 1) (l.getD 1 0).toNat (l.getD 2 0).toNat (l.getD 3 0).toNat (l.getD 4 0).toNat := by
    unfold Lib.decodeGo
    rw [if_neg (by rw [bsize, List.length_drop]; omega), Lib.decode_at, get_b, get_b, get_b, get_b, hd, hd, hd, hd, bsize, List.length_drop]
    rfl
  unfold charL
  rw [e]
  rfl
theorem ok0 (l : List UInt8) (n : Nat) : okTo l n 0 = true ↔ (ldC n ≤ bz l 1 ∧ bz l 1 - ldC n < capC n) := by
  rw [okTo, Bool.and_eq_true, decide_eq_true_eq, decide_eq_true_eq]
theorem okS (l : List UInt8) (n k : Nat) : okTo l n (k + 1) = true ↔ (okTo l n k = true ∧ bz l (2 + k) / 64 * 64 = 128) := by
  rw [okTo, Bool.and_eq_true, decide_eq_true_eq]
theorem hit2 (l : List UInt8) (h128 : 128 ≤ (l.getD 1 0).toNat) : (3 ≤ l.length ∧ hitC l 2) ↔ g2 (l.length - 1) (l.getD 1 0).toNat (l.getD 2 0).toNat := by
  have b1 := UInt8.toNat_lt (l.getD 1 0)
  have b2 := UInt8.toNat_lt (l.getD 2 0)
  unfold hitC g2 v2
  rw [show (2 - 1 : Nat) = 0 + 1 from rfl, okS, ok0]
  simp only [uTo, bz, ldC, capC, leastC, Nat.add_zero, if_true]
  omega
theorem val2 (l : List UInt8) (g : g2 (l.length - 1) (l.getD 1 0).toNat (l.getD 2 0).toNat) : uTo l 2 1 = (v2 (l.getD 1 0).toNat (l.getD 2 0).toNat : Nat) := by
  have b1 := UInt8.toNat_lt (l.getD 1 0)
  obtain ⟨_, a, _⟩ := g
  simp only [uTo, bz, ldC, Nat.add_zero, if_true]
  unfold v2
  omega
theorem hit3 (l : List UInt8) (h128 : 128 ≤ (l.getD 1 0).toNat) : (4 ≤ l.length ∧ hitC l 3) ↔ g3 (l.length - 1) (l.getD 1 0).toNat (l.getD 2 0).toNat (l.getD 3 0).toNat := by
  have b1 := UInt8.toNat_lt (l.getD 1 0)
  have b2 := UInt8.toNat_lt (l.getD 2 0)
  have b3 := UInt8.toNat_lt (l.getD 3 0)
  unfold hitC g3 v3
  rw [show (3 - 1 : Nat) = 0 + 1 + 1 from rfl, okS, okS, ok0]
  simp only [uTo, bz, ldC, capC, leastC, Nat.reduceAdd, Nat.reduceEqDiff, Nat.add_zero, if_true, if_false]
  omega
theorem val3 (l : List UInt8) (g : g3 (l.length - 1) (l.getD 1 0).toNat (l.getD 2 0).toNat (l.getD 3 0).toNat) : uTo l 3 2 = (v3 (l.getD 1 0).toNat (l.getD 2 0).toNat (l.getD 3 0).toNat : Nat) := by
  have b1 := UInt8.toNat_lt (l.getD 1 0)
  obtain ⟨_, a, _⟩ := g
  simp only [uTo, bz, ldC, Nat.add_zero, Nat.reduceAdd, Nat.reduceEqDiff, if_true, if_false]
  unfold v3
  omega
theorem hit4 (l : List UInt8) (h128 : 128 ≤ (l.getD 1 0).toNat) : (5 ≤ l.length ∧ hitC l 4) ↔ g4 (l.length - 1) (l.getD 1 0).toNat (l.getD 2 0).toNat (l.getD 3 0).toNat (l.getD 4 0).toNat := by
  have b1 := UInt8.toNat_lt (l.getD 1 0)
  have b2 := UInt8.toNat_lt (l.getD 2 0)
  have b3 := UInt8.toNat_lt (l.getD 3 0)
  have b4 := UInt8.toNat_lt (l.getD 4 0)
  unfold hitC g4 v4
  rw [show (4 - 1 : Nat) = 0 + 1 + 1 + 1 from rfl, okS, okS, okS, ok0]
  simp only [uTo, bz, ldC, capC, leastC, Nat.reduceAdd, Nat.reduceEqDiff, Nat.add_zero, if_false]
  omega
theorem val4 (l : List UInt8) (g : g4 (l.length - 1) (l.getD 1 0).toNat (l.getD 2 0).toNat (l.getD 3 0).toNat (l.getD 4 0).toNat) : uTo l 4 3 = (v4 (l.getD 1 0).toNat (l.getD 2 0).toNat (l.getD 3 0).toNat (l.getD 4 0).toNat : Nat) := by
  have b1 := UInt8.toNat_lt (l.getD 1 0)
  obtain ⟨_, a, _⟩ := g
  simp only [uTo, bz, ldC, Nat.add_zero, Nat.reduceAdd, Nat.reduceEqDiff, if_false]
  unfold v4
  omega
theorem char_bridge (l : List UInt8) (h : 1 < l.length) (h128 : 128 ≤ (l.getD 1 0).toNat) : charC l = ((((charL (l.drop 1)).1 : Nat) : Int), (charL (l.drop 1)).2) := by
  have b := UInt8.toNat_lt (l.getD 1 0)
  rw [charL_dec l h]
  unfold charC
  by_cases c2 : g2 (l.length - 1) (l.getD 1 0).toNat (l.getD 2 0).toNat
  · rw [if_pos ((hit2 l h128).2 c2), dec2 h128 (by omega) c2, val2 l c2]
  rw [if_neg (fun g => c2 ((hit2 l h128).1 g))]
  by_cases c3 : g3 (l.length - 1) (l.getD 1 0).toNat (l.getD 2 0).toNat (l.getD 3 0).toNat
  · rw [if_pos ((hit3 l h128).2 c3), dec3 h128 (by omega) c3, val3 l c3]
  rw [if_neg (fun g => c3 ((hit3 l h128).1 g))]
  by_cases c4 : g4 (l.length - 1) (l.getD 1 0).toNat (l.getD 2 0).toNat (l.getD 3 0).toNat (l.getD 4 0).toNat
  · rw [if_pos ((hit4 l h128).2 c4), dec4 h128 (by omega) c4, val4 l c4]
  rw [if_neg (fun g => c4 ((hit4 l h128).1 g)), dec0 h128 (by omega) c2 c3 c4]
  rfl
end Go.Proofs.YtjbamlmdeopcaaaGreatDoor.tok
end

section
/-
  The reference's Char and Rune.
-/
namespace Go.Proofs.YtjbamlmdeopcaaaGreatDoor.tok
open Go.RowKit

def ChrOf (x : List UInt8) : Int × Nat := (((charL x).1 : Nat), (charL x).2)
set_option maxRecDepth 100000 in
set_option maxHeartbeats 2000000 in
theorem refChar_one (s : ByteArray) (c : UInt8) (w : World) (h1 : 1 < s.size) (hc : s[1] = c) (h128 : c.toNat < 128) :
    Calls Tryz.prog 91 #[.string s, .int .i64 1] w (Chr ((c.toNat : Int), 1) w) := by
  have hix0 : ∀ u : World, (Instr.index 9 (.string s) (.int .i64 1)).run Tryz.prog u = .ok (.int .u8 (c.toNat : Int)) u := fun u => by
    rw [index_at s 1 1 (by omega) (by omega) u, hc]
  have hd : decide ((s.size : Int) ≤ 1) = false := decide_eq_false (by omega)
  have hd2 : decide ((c.toNat : Int) < 128) = true := decide_eq_true (by omega)
  clear hc
  go_enter Tryz.func91, Tryz.ntmps91
  go_wp2_with fail
  go_ret2
  exact ⟨rfl, Below.refl _ _⟩
theorem charL_one (l : List UInt8) (h : 1 < l.length) (h128 : (l.getD 1 0).toNat < 128) : charL (l.drop 1) = ((l.getD 1 0).toNat, 1) := by
  rw [charL_dec l h]
  unfold Lib.decodeN
  rw [if_pos h128]
  unfold fin0
  rw [if_neg (by simp only; omega)]
theorem refChar_any (s : ByteArray) (w : World) (hs : s.size ≤ 140737488351232) (h1 : 1 < s.size) :
    Calls Tryz.prog 91 #[.string s, .int .i64 1] w (Chr (ChrOf (s.data.toList.drop 1)) w) := by
  obtain ⟨c, hc⟩ : ∃ c, s[1] = c := ⟨_, rfl⟩
  have hl : 1 < s.data.toList.length := by rw [sdata]; exact h1
  have hg : s.data.toList.getD 1 0 = c := by
    rw [List.getD_eq_getElem?_getD, List.getElem?_eq_getElem hl, at_data h1, hc]
    rfl
  by_cases h128 : c.toNat < 128
  · have e : ChrOf (s.data.toList.drop 1) = ((c.toNat : Int), 1) := by
      unfold ChrOf
      rw [charL_one _ hl (by rw [hg]; exact h128), hg]
    rw [e]
    exact refChar_one s c w h1 hc h128
  · have e : ChrOf (s.data.toList.drop 1) = charC s.data.toList := (char_bridge _ hl (by rw [hg]; omega)).symm
    rw [e]
    exact refChar_more s c w hs h1 hc (by omega)
theorem drop_one {l : List UInt8} {n : Nat} : l.drop (1 + n) = [39] ↔ (l.length = n + 2 ∧ l[n + 1]? = some 39) := by
  constructor
  · intro h
    have hl := congrArg List.length h
    rw [List.length_drop, List.length_singleton] at hl
    refine ⟨by omega, ?_⟩
    have := congrArg (fun x => x[0]?) h
    simp only [List.getElem?_drop, Nat.add_zero] at this
    rw [Nat.add_comm n 1, this]
    rfl
  · intro ⟨hl, h⟩
    apply List.ext_getElem?
    intro i
    rw [List.getElem?_drop]
    match i with
    | 0 => rw [Nat.add_zero, Nat.add_comm 1 n, h]; rfl
    | i + 1 => rw [List.getElem?_eq_none (by omega)]; rfl
theorem fin_no {l : List UInt8} {u : Int} {n : Nat} (h : ¬ (n ≠ 0 ∧ l.length = n + 2 ∧ l[n + 1]? = some 39)) : finOf l u n = (0, 107, 0) := by
  unfold finOf
  rw [if_pos]
  by_cases h0 : n = 0
  · exact .inl h0
  · exact .inr (fun g => h ⟨h0, drop_one.1 g⟩)
theorem fin_yes {l : List UInt8} {u : Int} {n : Nat} (h0 : n ≠ 0) (h1 : l.length = n + 2) (h2 : l[n + 1]? = some 39) : finOf l u n = (u, 0, 0) := by
  unfold finOf
  rw [if_neg]
  exact fun g => g.elim h0 (fun g => g (drop_one.2 ⟨h1, h2⟩))
end Go.Proofs.YtjbamlmdeopcaaaGreatDoor.tok
end

section
/-
  The reference's Rune.
-/
namespace Go.Proofs.YtjbamlmdeopcaaaGreatDoor.tok
open Go.RowKit

set_option maxRecDepth 100000 in
set_option maxHeartbeats 4000000 in
theorem refRune_any (s : ByteArray) (w : World) (hs : s.size ≤ 140737488351232) :
    Calls Tryz.prog 74 #[.string s] w (Runed (runeOf s.data.toList) w) := by
  by_cases h2 : s.size < 2
  · have hd : decide ((s.size : Int) < 2) = true := decide_eq_true (by omega)
    have HF := Lib.hid (rune_short (l := s.data.toList) (by rw [sdata]; exact h2))
    go_enter Tryz.func74, Tryz.ntmps74
    go_wp2_with fail
    go_ret3
    exact ⟨by rw [HF.out]; rfl, Below.refl _ _⟩
  have hd : decide ((s.size : Int) < 2) = false := decide_eq_false (by omega)
  have h0 : 0 < s.size := by omega
  have h1 : 1 < s.size := by omega
  have e := rune_long (l := s.data.toList) (by rw [sdata]; exact h1)
  rw [at_data h0, at_data h1] at e
  obtain ⟨a, ha⟩ : ∃ a, s[0]'h0 = a := ⟨_, rfl⟩
  obtain ⟨c, hc⟩ : ∃ c, s[1]'h1 = c := ⟨_, rfl⟩
  have hix0 : ∀ u : World, (Instr.index 9 (.string s) (.int .i64 0)).run Tryz.prog u = .ok (.int .u8 (a.toNat : Int)) u := fun u => by
    rw [index_at s 0 0 (by omega) (by omega) u, ha]
  have hix1 : ∀ u : World, (Instr.index 9 (.string s) (.int .i64 1)).run Tryz.prog u = .ok (.int .u8 (c.toNat : Int)) u := fun u => by
    rw [index_at s 1 1 (by omega) (by omega) u, hc]
  rw [ha, hc] at e
  by_cases ca : a = 39
  · have za : ((a.toNat : Int) != 39) = false := byte_eq' (d := 39) ca
    rw [if_pos ca] at e
    have HCH : Hid (∀ u : World, Calls Tryz.prog 91 #[.string s, .int .i64 1] u (Chr (ChrOf (s.data.toList.drop 1)) u)) := Lib.hid (fun u => refChar_any s u hs h1)
    obtain ⟨p, m, hpm⟩ : ∃ p m, ChrOf (s.data.toList.drop 1) = (p, m) := ⟨_, _, rfl⟩
    have hmb : m ≤ 4 := by have := (charL_bounds (s.data.toList.drop 1)).2.2; have h' := congrArg Prod.snd hpm; simp only [ChrOf] at h'; omega
    have hp1 : ((charL (s.data.toList.drop 1)).1 : Int) = p := congrArg Prod.fst hpm
    have hm1 : (charL (s.data.toList.drop 1)).2 = m := congrArg Prod.snd hpm
    rw [hpm] at HCH
    rw [hp1, hm1] at e
    clear ca ha hpm hp1 hm1
    by_cases c92 : c = 92
    · have z92 : ((c.toNat : Int) == 92) = true := byte_eq (d := 92) c92
      have z39 : ((c.toNat : Int) == 39) = false := byte_ne (d := 39) (by rw [c92]; decide)
      have z10 : ((c.toNat : Int) == 10) = false := byte_ne (d := 10) (by rw [c92]; decide)
      rw [if_pos c92] at e
      have hfit := escV_fit s.data.toList 1 39
      have HES : Hid (∀ u : World, Calls Tryz.prog 90 #[.string s, .int .i64 1, .int .u8 39] u (RefEsc (escV s.data.toList 1 39) u)) := Lib.hid (fun u => refEsc_any s 1 39 u (by omega) (by omega) (.inr rfl))
      obtain ⟨n, r, wd, hv⟩ : ∃ n r wd, escV s.data.toList 1 39 = (n, r, wd) := ⟨_, _, _, rfl⟩
      rw [hv] at e hfit HES
      simp only [] at e
      obtain ⟨t, ht⟩ : ∃ t, escT (n, r, wd) = t := ⟨_, rfl⟩
      unfold RefEsc at HES
      rw [ht] at HES
      have HFIT := Lib.hid hfit
      clear c92 hv hfit ht hc
      by_cases hw : wd = 0
      · have hwz : ((wd : Int) == 0) = true := by rw [hw]; rfl
        rw [if_pos hw] at e
        have HF := Lib.hid e
        clear e HFIT
        go_enter Tryz.func74, Tryz.ntmps74
        go_wp2_with (first | (go_at_call 91; refine (HCH.out _).mono ?_; rintro e w1 ⟨rfl, hb⟩; have HB1 := Lib.hid hb; have hbz := hb.size; clear hb) | (go_at_call 90; refine (HES.out _).mono ?_; rintro e w2 ⟨rfl, hb⟩; have HB2 := Lib.hid hb; clear hb))
        go_ret3
        exact ⟨by rw [HF.out]; rfl, HB1.out.trans (HB2.out.mono hbz)⟩
      · rw [if_neg hw] at e
        have HFN := Lib.hid e
        have hwb : wd ≤ s.size := by have := (HFIT.out.2 hw).1; rw [sdata] at this; simp only [] at this; omega
        clear e HFIT
        have h0 : ¬ wd = 0 := hw
        clear hw
        have hnz : ((wd : Int) == 0) = false := beq_eq_false_iff_ne.2 (by omega)
        by_cases hlen : s.size = wd + 2
        · have hl : ((s.size : Int) != (wd : Int) + 2) = false := by rw [hlen]; simp
          obtain ⟨d, hd⟩ : ∃ d, s[wd + 1] = d := ⟨_, rfl⟩
          have hixd : ∀ u : World, (Instr.index 9 (.string s) (.int .i64 ((wd : Int) + 1))).run Tryz.prog u = .ok (.int .u8 (d.toNat : Int)) u := fun u => by
            rw [← hd]; exact index_at s _ (wd + 1) (by omega) (by omega) u
          have hat : s.data.toList[wd + 1]? = some d := by rw [List.getElem?_eq_getElem (by rw [sdata]; omega), at_data (by omega), hd]
          by_cases h39 : d = 39
          · have z3 : ((d.toNat : Int) != 39) = false := byte_eq' (d := 39) h39
            have HR : Hid (runeOf s.data.toList = (n, 0, 0)) := Lib.hid (by rw [HFN.out]; exact fin_yes h0 (by rw [sdata]; exact hlen) (by rw [hat, h39]))
            clear h39 hat hd hlen
            go_enter Tryz.func74, Tryz.ntmps74
            go_wp2_with (first | (go_at_call 91; refine (HCH.out _).mono ?_; rintro e w1 ⟨rfl, hb⟩; have HB1 := Lib.hid hb; have hbz := hb.size; clear hb) | (go_at_call 90; refine (HES.out _).mono ?_; rintro e w2 ⟨rfl, hb⟩; have HB2 := Lib.hid hb; clear hb))
            go_ret3
            exact ⟨by rw [HR.out]; rfl, HB1.out.trans (HB2.out.mono hbz)⟩
          · have z3 : ((d.toNat : Int) != 39) = true := byte_ne' (d := 39) h39
            have HR : Hid (runeOf s.data.toList = (0, 107, 0)) := Lib.hid (by rw [HFN.out]; exact fin_no (fun g => h39 (by have := g.2.2; rw [hat] at this; exact Option.some.inj this)))
            clear h39 hat hd hlen
            go_enter Tryz.func74, Tryz.ntmps74
            go_wp2_with (first | (go_at_call 91; refine (HCH.out _).mono ?_; rintro e w1 ⟨rfl, hb⟩; have HB1 := Lib.hid hb; have hbz := hb.size; clear hb) | (go_at_call 90; refine (HES.out _).mono ?_; rintro e w2 ⟨rfl, hb⟩; have HB2 := Lib.hid hb; clear hb))
            go_ret3
            exact ⟨by rw [HR.out]; rfl, HB1.out.trans (HB2.out.mono hbz)⟩
        · have hl : ((s.size : Int) != (wd : Int) + 2) = true := by simp; omega
          have HR : Hid (runeOf s.data.toList = (0, 107, 0)) := Lib.hid (by rw [HFN.out]; exact fin_no (fun g => hlen (by have := g.2.1; rwa [sdata] at this)))
          go_enter Tryz.func74, Tryz.ntmps74
          go_wp2_with (first | (go_at_call 91; refine (HCH.out _).mono ?_; rintro e w1 ⟨rfl, hb⟩; have HB1 := Lib.hid hb; have hbz := hb.size; clear hb) | (go_at_call 90; refine (HES.out _).mono ?_; rintro e w2 ⟨rfl, hb⟩; have HB2 := Lib.hid hb; clear hb))
          go_ret3
          exact ⟨by rw [HR.out]; rfl, HB1.out.trans (HB2.out.mono hbz)⟩
    · have z92 : ((c.toNat : Int) == 92) = false := byte_ne (d := 92) c92
      rw [if_neg c92] at e
      by_cases c3 : c = 39
      · have z39 : ((c.toNat : Int) == 39) = true := byte_eq (d := 39) c3
        rw [if_pos (.inl c3)] at e
        have HF := Lib.hid e
        clear e c3 c92 hc
        by_cases h0 : m = 0
        · have hnz : ((m : Int) == 0) = true := by rw [h0]; rfl
          clear h0
          go_enter Tryz.func74, Tryz.ntmps74
          go_wp2_with (go_at_call 91; refine (HCH.out _).mono ?_; rintro e w1 ⟨rfl, hb⟩; have HB1 := Lib.hid hb; have hbz := hb.size; clear hb)
          go_ret3
          exact ⟨by rw [HF.out]; rfl, HB1.out⟩
        · have hnz : ((m : Int) == 0) = false := beq_eq_false_iff_ne.2 (by omega)
          clear h0
          go_enter Tryz.func74, Tryz.ntmps74
          go_wp2_with (go_at_call 91; refine (HCH.out _).mono ?_; rintro e w1 ⟨rfl, hb⟩; have HB1 := Lib.hid hb; have hbz := hb.size; clear hb)
          go_ret3
          exact ⟨by rw [HF.out]; rfl, HB1.out⟩
      have z39 : ((c.toNat : Int) == 39) = false := byte_ne (d := 39) c3
      by_cases c1 : c = 10
      · have z10 : ((c.toNat : Int) == 10) = true := byte_eq (d := 10) c1
        rw [if_pos (.inr c1)] at e
        have HF := Lib.hid e
        clear e c3 c92 c1 hc
        by_cases h0 : m = 0
        · have hnz : ((m : Int) == 0) = true := by rw [h0]; rfl
          clear h0
          go_enter Tryz.func74, Tryz.ntmps74
          go_wp2_with (go_at_call 91; refine (HCH.out _).mono ?_; rintro e w1 ⟨rfl, hb⟩; have HB1 := Lib.hid hb; have hbz := hb.size; clear hb)
          go_ret3
          exact ⟨by rw [HF.out]; rfl, HB1.out⟩
        · have hnz : ((m : Int) == 0) = false := beq_eq_false_iff_ne.2 (by omega)
          clear h0
          go_enter Tryz.func74, Tryz.ntmps74
          go_wp2_with (go_at_call 91; refine (HCH.out _).mono ?_; rintro e w1 ⟨rfl, hb⟩; have HB1 := Lib.hid hb; have hbz := hb.size; clear hb)
          go_ret3
          exact ⟨by rw [HF.out]; rfl, HB1.out⟩
      have z10 : ((c.toNat : Int) == 10) = false := byte_ne (d := 10) c1
      rw [if_neg (fun g => g.elim c3 c1)] at e
      have HFN := Lib.hid e
      clear e c3 c92 c1 hc
      by_cases h0 : m = 0
      · have hnz : ((m : Int) == 0) = true := by rw [h0]; rfl
        have HR : Hid (runeOf s.data.toList = (0, 107, 0)) := Lib.hid (by rw [HFN.out]; exact fin_no (fun g => g.1 h0))
        clear h0
        go_enter Tryz.func74, Tryz.ntmps74
        go_wp2_with (go_at_call 91; refine (HCH.out _).mono ?_; rintro e w1 ⟨rfl, hb⟩; have HB1 := Lib.hid hb; have hbz := hb.size; clear hb)
        go_ret3
        exact ⟨by rw [HR.out]; rfl, HB1.out⟩
      have hnz : ((m : Int) == 0) = false := beq_eq_false_iff_ne.2 (by omega)
      by_cases hlen : s.size = m + 2
      · have hl : ((s.size : Int) != (m : Int) + 2) = false := by rw [hlen]; simp
        obtain ⟨d, hd⟩ : ∃ d, s[m + 1] = d := ⟨_, rfl⟩
        have hixd : ∀ u : World, (Instr.index 9 (.string s) (.int .i64 ((m : Int) + 1))).run Tryz.prog u = .ok (.int .u8 (d.toNat : Int)) u := fun u => by
          rw [← hd]; exact index_at s _ (m + 1) (by omega) (by omega) u
        have hat : s.data.toList[m + 1]? = some d := by rw [List.getElem?_eq_getElem (by rw [sdata]; omega), at_data (by omega), hd]
        by_cases h39 : d = 39
        · have z3 : ((d.toNat : Int) != 39) = false := byte_eq' (d := 39) h39
          have HR : Hid (runeOf s.data.toList = (p, 0, 0)) := Lib.hid (by rw [HFN.out]; exact fin_yes h0 (by rw [sdata]; exact hlen) (by rw [hat, h39]))
          clear h39 hat hd hlen
          go_enter Tryz.func74, Tryz.ntmps74
          go_wp2_with (go_at_call 91; refine (HCH.out _).mono ?_; rintro e w1 ⟨rfl, hb⟩; have HB1 := Lib.hid hb; have hbz := hb.size; clear hb)
          go_ret3
          exact ⟨by rw [HR.out]; rfl, HB1.out⟩
        · have z3 : ((d.toNat : Int) != 39) = true := byte_ne' (d := 39) h39
          have HR : Hid (runeOf s.data.toList = (0, 107, 0)) := Lib.hid (by rw [HFN.out]; exact fin_no (fun g => h39 (by have := g.2.2; rw [hat] at this; exact Option.some.inj this)))
          clear h39 hat hd hlen
          go_enter Tryz.func74, Tryz.ntmps74
          go_wp2_with (go_at_call 91; refine (HCH.out _).mono ?_; rintro e w1 ⟨rfl, hb⟩; have HB1 := Lib.hid hb; have hbz := hb.size; clear hb)
          go_ret3
          exact ⟨by rw [HR.out]; rfl, HB1.out⟩
      · have hl : ((s.size : Int) != (m : Int) + 2) = true := by simp; omega
        have HR : Hid (runeOf s.data.toList = (0, 107, 0)) := Lib.hid (by rw [HFN.out]; exact fin_no (fun g => hlen (by have := g.2.1; rwa [sdata] at this)))
        go_enter Tryz.func74, Tryz.ntmps74
        go_wp2_with (go_at_call 91; refine (HCH.out _).mono ?_; rintro e w1 ⟨rfl, hb⟩; have HB1 := Lib.hid hb; have hbz := hb.size; clear hb)
        go_ret3
        exact ⟨by rw [HR.out]; rfl, HB1.out⟩
  · have za : ((a.toNat : Int) != 39) = true := byte_ne' (d := 39) ca
    rw [if_neg ca] at e
    have HF := Lib.hid e
    clear e ca ha hc
    go_enter Tryz.func74, Tryz.ntmps74
    go_wp2_with fail
    go_ret3
    exact ⟨by rw [HF.out]; rfl, Below.refl _ _⟩
end Go.Proofs.YtjbamlmdeopcaaaGreatDoor.tok
end

section
/-
  The reference's text: literals in quotes.
-/
namespace Go.Proofs.YtjbamlmdeopcaaaGreatDoor.lx
open Go.RowKit Go.Proofs.YtjbamlmdeopcaaaGreatDoor.tok

theorem quoted_is (f : List UInt8 → Int × Nat) (kind code : Int) (q : UInt8) (s : ByteArray) (i : Nat) :
    quotedL f kind code q (s.data.toList.drop i) = if (lit q (s.data.toList.drop (i + 1))).2 = false then wrong kind (1 + (lit q (s.data.toList.drop (i + 1))).1) code else if (f ((s.data.toList.drop i).take (1 + (lit q (s.data.toList.drop (i + 1))).1))).1 = 0 then right kind (1 + (lit q (s.data.toList.drop (i + 1))).1) else ⟨kind, 1 + (lit q (s.data.toList.drop (i + 1))).1, (f ((s.data.toList.drop i).take (1 + (lit q (s.data.toList.drop (i + 1))).1))).1, (f ((s.data.toList.drop i).take (1 + (lit q (s.data.toList.drop (i + 1))).1))).2, 1⟩ := by
  unfold quotedL
  rw [List.drop_drop]
theorem quoted_told {f : List UInt8 → Int × Nat} {kind c : Int} {p n : Nat} {i : Nat} {m : Nx} {x : List UInt8}
    (hW : m = if (f x).1 = 0 then right kind n else ⟨kind, n, (f x).1, (f x).2, 1⟩) (hc : (f x).1 = c) (hp : (f x).2 = p) :
    m.kind = kind ∧ m.width = n ∧ m.code = c ∧ (m.code ≠ 0 → ((i : Int) + (p : Int)) = (i : Int) + (m.off : Int) ∧ (i : Int) + (p : Int) + 1 = (i : Int) + (m.off : Int) + (m.dw : Int)) := by
  rw [hc, hp] at hW
  by_cases h : c = 0
  · rw [if_pos h] at hW
    subst hW
    exact ⟨rfl, rfl, h.symm, fun h => absurd rfl h⟩
  · rw [if_neg h] at hW
    subst hW
    exact ⟨rfl, rfl, rfl, fun _ => ⟨rfl, rfl⟩⟩
theorem refQuoted_then (s : ByteArray) (i n : Nat) (b : Bool) (q : UInt8) (w : World) (hs : s.size ≤ 4194304) (h1 : i < s.size) (hq : s[i] = q) (hq10 : q ≠ 10) (hn : n = 1 + (lit q (s.data.toList.drop (i + 1))).1) (hb : b = (lit q (s.data.toList.drop (i + 1))).2) :
    Calls Tryz.prog 72 #[.string s, .int .i64 (i : Int)] w (fun e w' => e = .returned (.tuple #[.int .i64 ((i : Int) + (n : Int)), .bool b]) ∧ Below w.heap.size w w') := by
  refine (refQuoted_any s i q w hs h1 hq hq10).mono ?_
  rintro e w' ⟨rfl, rfl⟩
  refine ⟨?_, Below.refl _ _⟩
  rw [hb, hn, show ((i + 1 + (lit q (s.data.toList.drop (i + 1))).1 : Nat) : Int) = (i : Int) + ((1 + (lit q (s.data.toList.drop (i + 1))).1 : Nat) : Int) by omega]
theorem uq_zero (l : List UInt8) : ∀ (n p : Nat) (acc : List UInt8), l.length - p ≤ n → (uqAt l p acc).2.1 = 0 → (uqAt l p acc).2.2 = 0 := by
  intro n
  induction n with
  | zero => intro p acc h; rw [uqAt_past (by omega)]; exact fun h => absurd h (by decide)
  | succ n ih =>
    intro p acc h
    by_cases hp : p < l.length
    · rw [uqAt_step hp]
      split
      · split
        · exact fun h => absurd h (show (108 : Int) ≠ 0 by decide)
        · exact ih _ _ (by omega)
      · split
        · split
          · exact fun _ => rfl
          · exact fun _ => rfl
        · split
          · exact fun _ => rfl
          · exact ih _ _ (by omega)
    · rw [uqAt_past (by omega)]; exact fun h => absurd h (by decide)
theorem str_few (l : List UInt8) (hl : l ≠ []) : (lang.str l).2 ≤ l.length := by
  by_cases h : (lang.str l).1 = 0
  · have : (lang.str l).2 = 0 := by
      show (unqOf l).2.2 = 0
      have h' : (unqOf l).2.1 = 0 := h
      unfold unqOf at h' ⊢
      split
      · unfold rawOf
        split <;> rfl
      · rename_i g
        rw [if_neg g] at h'
        split
        · rename_i g2
          rw [if_pos g2] at h'
          exact uq_zero l _ 1 [] (Nat.le_refl _) h'
        · rfl
    omega
  · exact Nat.le_of_lt (lang.str_place l h hl)
theorem rune_few (l : List UInt8) (hl : l ≠ []) : (lang.rune l).2 ≤ l.length := by
  by_cases h : (lang.rune l).1 = 0
  · have : (lang.rune l).2 = 0 := by
      show (runeOf l).2.2 = 0
      have h' : (runeOf l).2.1 = 0 := h
      by_cases h2 : l.length < 2
      · rw [rune_short h2]
      · rw [rune_long (by omega)] at h' ⊢
        have f := fin_place l
        revert h'
        repeat' split
        all_goals first
          | exact fun _ => (f _ _).2
          | exact fun h => absurd h (by decide)
          | exact fun _ => rfl
    omega
  · exact Nat.le_of_lt (lang.rune_place l h hl)
/-- Two boxes more. -/
theorem six_two {w w1 : World} {b : Nat} (h : Six w1 b) (hb : Below w.heap.size w w1) (o p : Obj) : Six ((w1.alloc o).alloc p) b ∧ Below w.heap.size w ((w1.alloc o).alloc p) :=
  ⟨h.below (below2 w1 o p), hb.trans ((below2 w1 o p).mono hb.size)⟩
set_option maxRecDepth 100000 in
set_option maxHeartbeats 4000000 in
theorem refText_str (s : ByteArray) (i : Nat) (w : World) (hs : s.size ≤ 4194304) (h1 : i < s.size) (hq : s[i] = 34) :
    Calls Tryz.prog 52 #[.string s, .int .i64 (i : Int)] w (Told (quotedL lang.str 13 106 34 (s.data.toList.drop i)) i w) := by
  have hix : ∀ u : World, (Instr.index 9 (.string s) (.int .i64 (i : Int))).run Tryz.prog u = .ok (.int .u8 34) u := fun u => by
    have := index_at s _ i rfl h1 u
    rw [hq] at this
    exact this
  have hll := lit_len 34 (s.data.toList.drop (i + 1))
  rw [List.length_drop, sdata] at hll
  have HW := Lib.hid (quoted_is lang.str 13 106 34 s i)
  have HQ := Lib.hid (fun u n b => refQuoted_then s i n b 34 u hs h1 hq (by decide))
  obtain ⟨n, hn⟩ : ∃ n, n = 1 + (lit 34 (s.data.toList.drop (i + 1))).1 := ⟨_, rfl⟩
  obtain ⟨b, hb⟩ : ∃ b, b = (lit 34 (s.data.toList.drop (i + 1))).2 := ⟨_, rfl⟩
  have HQ := Lib.hid (fun u => HQ.out u n b hn hb)
  rw [← hn, ← hb] at HW
  have hle : i + n ≤ s.size := by omega
  have hn1 : 1 ≤ n := by omega
  clear hb hll hq hn
  cases b with
  | false =>
    rw [if_pos rfl] at HW
    go_enter Tryz.func52, Tryz.ntmps52
    go_wp2_with (go_at_call 72; refine (HQ.out _).mono ?_; rintro e w1 ⟨rfl, hb⟩; have S1 := Lib.hid ((six_new w _ _ _ _ _ _ _ _).below hb); have HB := Lib.hid (below2_then hb); have hsz := hb.size; simp at hsz; have hz : w.heap.size + 1 < w1.heap.size := (by omega); have hz0 : w.heap.size < w1.heap.size := (by omega); clear hb)
    have S3 := Lib.hid (six_two S1.out HB.out (.cells #[.int .i64 13, .int .i64 (i : Int), .int .i64 ((i : Int) + (n : Int))] 29) (.cells #[.int .i64 106, .int .i64 (i : Int), .int .i64 ((i : Int) + (n : Int))] 27))
    have HX := Lib.hid (boxes_then (Below.refl ((w1.alloc (.cells #[.int .i64 13, .int .i64 (i : Int), .int .i64 ((i : Int) + (n : Int))] 29)).alloc (.cells #[.int .i64 106, .int .i64 (i : Int), .int .i64 ((i : Int) + (n : Int))] 27)).heap.size ((w1.alloc (.cells #[.int .i64 13, .int .i64 (i : Int), .int .i64 ((i : Int) + (n : Int))] 29)).alloc (.cells #[.int .i64 106, .int .i64 (i : Int), .int .i64 ((i : Int) + (n : Int))] 27))))
    generalize (w1.alloc (.cells #[.int .i64 13, .int .i64 (i : Int), .int .i64 ((i : Int) + (n : Int))] 29)).alloc (.cells #[.int .i64 106, .int .i64 (i : Int), .int .i64 ((i : Int) + (n : Int))] 27) = W at *
    obtain ⟨⟨j0, j1, j2, j3, j4, j5⟩, g3, g4, g5⟩ := HX.out
    obtain ⟨⟨u0, u1, u2, u3, u4, u5, k0, k1, k2, k3, k4, k5⟩, f0, f1, f2, f3, f4, f5⟩ := S3.out.1
    go_region
    go_wp2_with fail
    exact bodyPost_ret (results_drew Tryz.results52 _ S3.out.1 (.int .i64 13) (.int .i64 (i : Int)) (.int .i64 ((i : Int) + (n : Int))) (.int .i64 106) (.int .i64 (i : Int)) (.int .i64 ((i : Int) + (n : Int))) rfl rfl) rfl (Told.mk' (x := (i : Int)) (y := (i : Int) + (n : Int)) (by rw [HW.out]; rfl) (by rw [HW.out]; exact fun _ => ⟨by simp [wrong], by simp [wrong]⟩) (below_put6 S3.out.2 (Nat.le_refl _) _ _ _ _ _ _).drew)
  | true =>
    rw [if_neg (by simp)] at HW
    have hsl := piece_mid s i (i + n) (i : Int) ((i : Int) + (n : Int)) rfl (by omega) (by omega) hle
    rw [show i + n - i = n by omega] at hsl
    have HS := Lib.hid (fun u => refUnq_any (B ((s.data.toList.drop i).take n)) u (by rw [bsize, List.length_take, List.length_drop, sdata]; omega))
    rw [bdata] at HS
    have HF : Hid ((lang.str ((s.data.toList.drop i).take n)).1 = (unqOf ((s.data.toList.drop i).take n)).2.1 ∧ (lang.str ((s.data.toList.drop i).take n)).2 = (unqOf ((s.data.toList.drop i).take n)).2.2) := Lib.hid ⟨rfl, rfl⟩
    obtain ⟨x, hx⟩ : ∃ x, (s.data.toList.drop i).take n = x := ⟨_, rfl⟩
    have hxl : x.length = n := by rw [← hx, List.length_take, List.length_drop, sdata]; omega
    have hxn : x ≠ [] := by rintro rfl; simp at hxl; omega
    rw [hx] at hsl HS HF HW
    have hpl := str_few x hxn
    rw [hxl, HF.out.2] at hpl
    obtain ⟨v, c, p, hv⟩ : ∃ v c p, unqOf x = (v, c, p) := ⟨_, _, _, rfl⟩
    rw [hv] at HS HF hpl
    have HT := Lib.hid (quoted_told (i := i) HW.out HF.out.1 HF.out.2)
    clear hx hv HW HF hxl hxn
    have hpl : p ≤ n := hpl
    go_enter Tryz.func52, Tryz.ntmps52
    go_wp2_with (first | (go_at_call 72; refine (HQ.out _).mono ?_; rintro e w1 ⟨rfl, hb⟩; have S1 := Lib.hid ((six_new w _ _ _ _ _ _ _ _).below hb); have HB := Lib.hid (below2_then hb); have hsz := hb.size; simp at hsz; have hz : w.heap.size + 1 < w1.heap.size := (by omega); have hz0 : w.heap.size < w1.heap.size := (by omega); clear hb) | (go_at_call 73; refine (HS.out _).mono ?_; rintro e w3 ⟨rfl, hb3⟩; obtain ⟨⟨j0, j1, j2, j3, j4, j5⟩, g3, g4, g5⟩ := boxes_then hb3; have S3 := Lib.hid ((six_two S1.out HB.out _ _).1.below hb3); have HB3 := Lib.hid ((six_two S1.out HB.out _ _).2.trans (hb3.mono (six_two S1.out HB.out _ _).2.size)); obtain ⟨⟨u0, u1, u2, u3, u4, u5, k0, k1, k2, k3, k4, k5⟩, f0, f1, f2, f3, f4, f5⟩ := S3.out; clear hb3))
    exact bodyPost_ret (results_two Tryz.results52 _ S3.out (.int .i64 13) (.int .i64 (i : Int)) (.int .i64 ((i : Int) + (n : Int))) (.int .i64 c) (.int .i64 ((i : Int) + (p : Int))) (.int .i64 ((i : Int) + (p : Int) + 1)) rfl rfl) rfl (Told.mk' (x := (i : Int) + (p : Int)) (y := (i : Int) + (p : Int) + 1) (by rw [HT.out.1, HT.out.2.1, HT.out.2.2.1]) HT.out.2.2.2 (below_put6 HB3.out (Nat.le_refl _) _ _ _ _ _ _))
set_option maxRecDepth 100000 in
set_option maxHeartbeats 4000000 in
theorem refText_rune (s : ByteArray) (i : Nat) (w : World) (hs : s.size ≤ 4194304) (h1 : i < s.size) (hq : s[i] = 39) :
    Calls Tryz.prog 52 #[.string s, .int .i64 (i : Int)] w (Told (quotedL lang.rune 12 107 39 (s.data.toList.drop i)) i w) := by
  have hix : ∀ u : World, (Instr.index 9 (.string s) (.int .i64 (i : Int))).run Tryz.prog u = .ok (.int .u8 39) u := fun u => by
    have := index_at s _ i rfl h1 u
    rw [hq] at this
    exact this
  have hll := lit_len 39 (s.data.toList.drop (i + 1))
  rw [List.length_drop, sdata] at hll
  have HW := Lib.hid (quoted_is lang.rune 12 107 39 s i)
  have HQ := Lib.hid (fun u n b => refQuoted_then s i n b 39 u hs h1 hq (by decide))
  obtain ⟨n, hn⟩ : ∃ n, n = 1 + (lit 39 (s.data.toList.drop (i + 1))).1 := ⟨_, rfl⟩
  obtain ⟨b, hb⟩ : ∃ b, b = (lit 39 (s.data.toList.drop (i + 1))).2 := ⟨_, rfl⟩
  have HQ := Lib.hid (fun u => HQ.out u n b hn hb)
  rw [← hn, ← hb] at HW
  have hle : i + n ≤ s.size := by omega
  have hn1 : 1 ≤ n := by omega
  clear hb hll hq hn
  cases b with
  | false =>
    rw [if_pos rfl] at HW
    go_enter Tryz.func52, Tryz.ntmps52
    go_wp2_with (go_at_call 72; refine (HQ.out _).mono ?_; rintro e w1 ⟨rfl, hb⟩; have S1 := Lib.hid ((six_new w _ _ _ _ _ _ _ _).below hb); have HB := Lib.hid (below2_then hb); have hsz := hb.size; simp at hsz; have hz : w.heap.size + 1 < w1.heap.size := (by omega); have hz0 : w.heap.size < w1.heap.size := (by omega); clear hb)
    have S3 := Lib.hid (six_two S1.out HB.out (.cells #[.int .i64 12, .int .i64 (i : Int), .int .i64 ((i : Int) + (n : Int))] 29) (.cells #[.int .i64 107, .int .i64 (i : Int), .int .i64 ((i : Int) + (n : Int))] 27))
    have HX := Lib.hid (boxes_then (Below.refl ((w1.alloc (.cells #[.int .i64 12, .int .i64 (i : Int), .int .i64 ((i : Int) + (n : Int))] 29)).alloc (.cells #[.int .i64 107, .int .i64 (i : Int), .int .i64 ((i : Int) + (n : Int))] 27)).heap.size ((w1.alloc (.cells #[.int .i64 12, .int .i64 (i : Int), .int .i64 ((i : Int) + (n : Int))] 29)).alloc (.cells #[.int .i64 107, .int .i64 (i : Int), .int .i64 ((i : Int) + (n : Int))] 27))))
    generalize (w1.alloc (.cells #[.int .i64 12, .int .i64 (i : Int), .int .i64 ((i : Int) + (n : Int))] 29)).alloc (.cells #[.int .i64 107, .int .i64 (i : Int), .int .i64 ((i : Int) + (n : Int))] 27) = W at *
    obtain ⟨⟨j0, j1, j2, j3, j4, j5⟩, g3, g4, g5⟩ := HX.out
    obtain ⟨⟨u0, u1, u2, u3, u4, u5, k0, k1, k2, k3, k4, k5⟩, f0, f1, f2, f3, f4, f5⟩ := S3.out.1
    go_region
    go_wp2_with fail
    exact bodyPost_ret (results_drew Tryz.results52 _ S3.out.1 (.int .i64 12) (.int .i64 (i : Int)) (.int .i64 ((i : Int) + (n : Int))) (.int .i64 107) (.int .i64 (i : Int)) (.int .i64 ((i : Int) + (n : Int))) rfl rfl) rfl (Told.mk' (x := (i : Int)) (y := (i : Int) + (n : Int)) (by rw [HW.out]; rfl) (by rw [HW.out]; exact fun _ => ⟨by simp [wrong], by simp [wrong]⟩) (below_put6 S3.out.2 (Nat.le_refl _) _ _ _ _ _ _).drew)
  | true =>
    rw [if_neg (by simp)] at HW
    have hsl := piece_mid s i (i + n) (i : Int) ((i : Int) + (n : Int)) rfl (by omega) (by omega) hle
    rw [show i + n - i = n by omega] at hsl
    have HS := Lib.hid (fun u => refRune_any (B ((s.data.toList.drop i).take n)) u (by rw [bsize, List.length_take, List.length_drop, sdata]; omega))
    rw [bdata] at HS
    have HF : Hid ((lang.rune ((s.data.toList.drop i).take n)).1 = (runeOf ((s.data.toList.drop i).take n)).2.1 ∧ (lang.rune ((s.data.toList.drop i).take n)).2 = (runeOf ((s.data.toList.drop i).take n)).2.2) := Lib.hid ⟨rfl, rfl⟩
    obtain ⟨x, hx⟩ : ∃ x, (s.data.toList.drop i).take n = x := ⟨_, rfl⟩
    have hxl : x.length = n := by rw [← hx, List.length_take, List.length_drop, sdata]; omega
    have hxn : x ≠ [] := by rintro rfl; simp at hxl; omega
    rw [hx] at hsl HS HF HW
    have hpl := rune_few x hxn
    rw [hxl, HF.out.2] at hpl
    obtain ⟨v, c, p, hv⟩ : ∃ v c p, runeOf x = (v, c, p) := ⟨_, _, _, rfl⟩
    rw [hv] at HS HF hpl
    have HT := Lib.hid (quoted_told (i := i) HW.out HF.out.1 HF.out.2)
    clear hx hv HW HF hxl hxn
    have hpl : p ≤ n := hpl
    go_enter Tryz.func52, Tryz.ntmps52
    go_wp2_with (first | (go_at_call 72; refine (HQ.out _).mono ?_; rintro e w1 ⟨rfl, hb⟩; have S1 := Lib.hid ((six_new w _ _ _ _ _ _ _ _).below hb); have HB := Lib.hid (below2_then hb); have hsz := hb.size; simp at hsz; have hz : w.heap.size + 1 < w1.heap.size := (by omega); have hz0 : w.heap.size < w1.heap.size := (by omega); clear hb) | (go_at_call 74; refine (HS.out _).mono ?_; rintro e w3 ⟨rfl, hb3⟩; obtain ⟨⟨j0, j1, j2, j3, j4, j5⟩, g3, g4, g5⟩ := boxes_then hb3; have S3 := Lib.hid ((six_two S1.out HB.out _ _).1.below hb3); have HB3 := Lib.hid ((six_two S1.out HB.out _ _).2.trans (hb3.mono (six_two S1.out HB.out _ _).2.size)); obtain ⟨⟨u0, u1, u2, u3, u4, u5, k0, k1, k2, k3, k4, k5⟩, f0, f1, f2, f3, f4, f5⟩ := S3.out; clear hb3))
    exact bodyPost_ret (results_two Tryz.results52 _ S3.out (.int .i64 12) (.int .i64 (i : Int)) (.int .i64 ((i : Int) + (n : Int))) (.int .i64 c) (.int .i64 ((i : Int) + (p : Int))) (.int .i64 ((i : Int) + (p : Int) + 1)) rfl rfl) rfl (Told.mk' (x := (i : Int) + (p : Int)) (y := (i : Int) + (p : Int) + 1) (by rw [HT.out.1, HT.out.2.1, HT.out.2.2.1]) HT.out.2.2.2 (below_put6 HB3.out (Nat.le_refl _) _ _ _ _ _ _))
end Go.Proofs.YtjbamlmdeopcaaaGreatDoor.lx
end

section
/-
  The reference's Next: its four boxes.
-/
namespace Go.Proofs.YtjbamlmdeopcaaaGreatDoor.lx
open Go.RowKit Go.Proofs.YtjbamlmdeopcaaaGreatDoor.tok

/-- The boxes of Next: the two results, a token, what is said of it. -/
structure Four (w W : World) (x0 x1 x2 y0 y1 y2 : Value) : Prop where
  six : Six W w.heap.size
  x0 : W.cell? ⟨w.heap.size + 1 + 1, 0, none⟩ = some x0
  x1 : W.cell? ⟨w.heap.size + 1 + 1, 1, none⟩ = some x1
  x2 : W.cell? ⟨w.heap.size + 1 + 1, 2, none⟩ = some x2
  y0 : W.cell? ⟨w.heap.size + 1 + 1 + 1, 0, none⟩ = some y0
  y1 : W.cell? ⟨w.heap.size + 1 + 1 + 1, 1, none⟩ = some y1
  y2 : W.cell? ⟨w.heap.size + 1 + 1 + 1, 2, none⟩ = some y2
  f : (W.frozen? ⟨w.heap.size + 1 + 1, 0, none⟩ = false ∧ W.frozen? ⟨w.heap.size + 1 + 1, 1, none⟩ = false ∧ W.frozen? ⟨w.heap.size + 1 + 1, 2, none⟩ = false) ∧ W.frozen? ⟨w.heap.size + 1 + 1 + 1, 0, none⟩ = false ∧ W.frozen? ⟨w.heap.size + 1 + 1 + 1, 1, none⟩ = false ∧ W.frozen? ⟨w.heap.size + 1 + 1 + 1, 2, none⟩ = false
  below : Below w.heap.size w W
def boxes4 (w : World) (x0 x1 x2 y0 y1 y2 : Value) : World := (((w.alloc (.cells #[.int .i64 0, .int .i64 0, .int .i64 0] 29)).alloc (.cells #[.int .i64 0, .int .i64 0, .int .i64 0] 27)).alloc (.cells #[x0, x1, x2] 29)).alloc (.cells #[y0, y1, y2] 27)
theorem four_new (w : World) (x0 x1 x2 y0 y1 y2 : Value) : Four w (boxes4 w x0 x1 x2 y0 y1 y2) x0 x1 x2 y0 y1 y2 := by
  have h6 := six_new w (.int .i64 0) (.int .i64 0) (.int .i64 0) (.int .i64 0) (.int .i64 0) (.int .i64 0) 29 27
  have hb := below2 w (.cells #[.int .i64 0, .int .i64 0, .int .i64 0] 29) (.cells #[.int .i64 0, .int .i64 0, .int .i64 0] 27)
  unfold boxes4
  have hz : ((w.alloc (.cells #[.int .i64 0, .int .i64 0, .int .i64 0] 29)).alloc (.cells #[.int .i64 0, .int .i64 0, .int .i64 0] 27)).heap.size = w.heap.size + 1 + 1 := by rw [World.size_alloc, World.size_alloc]
  generalize (w.alloc (.cells #[.int .i64 0, .int .i64 0, .int .i64 0] 29)).alloc (.cells #[.int .i64 0, .int .i64 0, .int .i64 0] 27) = w1 at *
  have hn := six_new w1 x0 x1 x2 y0 y1 y2 29 27
  obtain ⟨⟨a0, a1, a2, b0, b1, b2⟩, _⟩ := boxes_then (Below.refl ((w1.alloc (.cells #[x0, x1, x2] 29)).alloc (.cells #[y0, y1, y2] 27)).heap.size ((w1.alloc (.cells #[x0, x1, x2] 29)).alloc (.cells #[y0, y1, y2] 27)))
  rw [hz] at hn a0 a1 a2 b0 b1 b2
  obtain ⟨_, f0, f1, f2, g0, g1, g2⟩ := hn
  exact ⟨h6.below (below2 _ _ _), a0, a1, a2, b0, b1, b2, ⟨⟨f0, f1, f2⟩, g0, g1, g2⟩, hb.trans ((below2 w1 _ _).mono (by omega))⟩
theorem Four.then {w W W' : World} {x0 x1 x2 y0 y1 y2 : Value} (h : Four w W x0 x1 x2 y0 y1 y2) (hb : Below W.heap.size W W') : Four w W' x0 x1 x2 y0 y1 y2 := by
  obtain ⟨h6, a0, a1, a2, b0, b1, b2, ⟨⟨f0, f1, f2⟩, g0, g1, g2⟩, hbl⟩ := h
  obtain ⟨hc, hf⟩ := bcell hb
  have la := World.block_lt_of_cell? _ _ a0
  have lb := World.block_lt_of_cell? _ _ b0
  exact ⟨h6.below hb, (hc _ _ la).trans a0, (hc _ _ la).trans a1, (hc _ _ la).trans a2, (hc _ _ lb).trans b0, (hc _ _ lb).trans b1, (hc _ _ lb).trans b2, ⟨⟨(hf _ _ la).trans f0, (hf _ _ la).trans f1, (hf _ _ la).trans f2⟩, (hf _ _ lb).trans g0, (hf _ _ lb).trans g1, (hf _ _ lb).trans g2⟩, hbl.trans (hb.mono hbl.size)⟩
theorem four_cells {q o p k : Nat} {v u : Value} (hne : ⟨q, o, none⟩ ≠ (⟨p, k, none⟩ : Addr)) {W : World} (h : W.cell? ⟨p, k, none⟩ = some u) : (W.setCell ⟨q, o, none⟩ v).cell? ⟨p, k, none⟩ = some u := by
  rw [World.cell?_setCell_other _ _ _ _ hne]
  exact h
theorem Four.set2 {w W : World} {x0 x1 x2 y0 y1 y2 : Value} (h : Four w W x0 x1 x2 y0 y1 y2) (v : Value) : Four w (W.setCell ⟨w.heap.size + 1 + 1, 2, none⟩ v) x0 x1 v y0 y1 y2 := by
  obtain ⟨h6, a0, a1, a2, b0, b1, b2, ⟨⟨f0, f1, f2⟩, g0, g1, g2⟩, hbl⟩ := h
  refine ⟨six_past h6 (by omega) v, ?_, ?_, ?_, ?_, ?_, ?_, ⟨⟨?_, ?_, ?_⟩, ?_, ?_, ?_⟩, hbl.setCell (by show w.heap.size ≤ w.heap.size + 1 + 1; omega) v⟩
  all_goals simp [World.cell?_setCell_other, World.cell?_setCell_same', a0, a1, a2, b0, b1, b2, f0, f1, f2, g0, g1, g2]
theorem Four.set0 {w W : World} {x0 x1 x2 y0 y1 y2 : Value} (h : Four w W x0 x1 x2 y0 y1 y2) (v : Value) : Four w (W.setCell ⟨w.heap.size + 1 + 1, 0, none⟩ v) v x1 x2 y0 y1 y2 := by
  obtain ⟨h6, a0, a1, a2, b0, b1, b2, ⟨⟨f0, f1, f2⟩, g0, g1, g2⟩, hbl⟩ := h
  refine ⟨six_past h6 (by omega) v, ?_, ?_, ?_, ?_, ?_, ?_, ⟨⟨?_, ?_, ?_⟩, ?_, ?_, ?_⟩, hbl.setCell (by show w.heap.size ≤ w.heap.size + 1 + 1; omega) v⟩
  all_goals simp [World.cell?_setCell_other, World.cell?_setCell_same', a0, a1, a2, b0, b1, b2, f0, f1, f2, g0, g1, g2]
theorem refBlank_then (c : UInt8) (w : World) : Calls Tryz.prog 47 #[.int .u8 (c.toNat : Int)] w (fun e w' => e = .returned (.bool (isBl c)) ∧ Below w.heap.size w w') := by
  refine (refBlank_any c w).mono ?_
  rintro e w' ⟨rfl, rfl⟩
  exact ⟨rfl, Below.refl _ _⟩
theorem below_at {B0 : Nat} {a W : World} {q o : Nat} (h : Below B0 a W) (hq : B0 ≤ q) (v : Value) : Below B0 a (W.setCell ⟨q, o, none⟩ v) := h.setCell (p := ⟨q, o, none⟩) hq v
/-- Where no byte order mark stands at the beginning. -/
theorem nm_cases {s : ByteArray} {i : Nat} (h : i ≠ 0 ∨ Lib.hasPrefix s.data.toList mark = false) : i ≠ 0 ∨ (i = 0 ∧ s.size < 3) ∨ (i = 0 ∧ 3 ≤ s.size ∧ ((B (s.data.toList.take 3)).toList == [239, 187, 191]) = false) := by
  by_cases h0 : i = 0
  · refine .inr ?_
    by_cases h3 : s.size < 3
    · exact .inl ⟨h0, h3⟩
    · refine .inr ⟨h0, by omega, ?_⟩
      have := h.resolve_left (fun h => h h0)
      rw [blist]
      have e := piece_is s.data.toList mark 0
      rw [List.drop_zero] at e
      exact e.trans this
  · exact .inl h0
theorem run_to {p : UInt8 → Bool} {l : List UInt8} {i n : Nat} (hi : i ≤ n) (hn : n < l.length) (h : ∀ j, i ≤ j → j < n → ∀ h : j < l.length, p l[j] = true) (hf : p l[n] = false) : i + runL p (l.drop i) = n := by
  have hl : n - i < (l.drop i).length := by rw [List.length_drop]; omega
  have := runL_more (p := p) (l := l.drop i) (k := n - i) hl (fun j hj hj' => by
    rw [List.getElem_drop]
    exact h (i + j) (by omega) (by omega) (by rw [List.length_drop] at hj'; omega)) hl (by
    rw [List.getElem_drop]
    have e : i + (n - i) = n := by omega
    simp only [e]
    exact hf)
  omega
theorem run_end {p : UInt8 → Bool} {l : List UInt8} {i : Nat} (hi : i ≤ l.length) (h : ∀ j, i ≤ j → ∀ h : j < l.length, p l[j] = true) : i + runL p (l.drop i) = l.length := by
  have := runL_all (p := p) (l := l.drop i) (fun j hj => by
    rw [List.getElem_drop]
    exact h (i + j) (by omega) (by rw [List.length_drop] at hj; omega))
  rw [this, List.length_drop]
  omega
theorem find_feed (l : List UInt8) (i : Nat) (hi : i ≤ l.length) : findL l i [10] = i + runL noFeed (l.drop i) := by
  have hr := runL_len noFeed (l.drop i)
  rw [List.length_drop] at hr
  have hno : ∀ j, i ≤ j → j < i + runL noFeed (l.drop i) → Lib.hasPrefix (l.drop j) [10] = false := by
    intro j h1 h2
    have hj : j < l.length := by omega
    have key : ∀ (r : List UInt8) (k : Nat) (hk : k < runL noFeed r) (h : k < r.length), r[k] ≠ 10 := by
      intro r
      induction r with
      | nil => intro k hk; simp [runL] at hk
      | cons c r ih =>
        intro k hk h
        rw [runL] at hk
        split at hk
        · rename_i hc
          cases k with
          | zero => simp only [List.getElem_cons_zero]; unfold noFeed at hc; simpa using hc
          | succ k => simp only [List.getElem_cons_succ]; exact ih k (by omega) _
        · omega
    have := key (l.drop i) (j - i) (by omega) (by rw [List.length_drop]; omega)
    rw [List.getElem_drop] at this
    have e : i + (j - i) = j := by omega
    simp only [e] at this
    rw [List.drop_eq_getElem_cons hj]
    simp [Lib.hasPrefix, List.isPrefixOf]
    exact fun h => this h.symm
  by_cases hn : i + runL noFeed (l.drop i) < l.length
  · refine find_hit (by omega) (by omega) ?_ hno
    have hp : runL noFeed (l.drop i) < (l.drop i).length := by rw [List.length_drop]; omega
    have key : ∀ (r : List UInt8), (h : runL noFeed r < r.length) → r[runL noFeed r] = 10 := by
      intro r
      induction r with
      | nil => intro h; simp [runL] at h
      | cons c r ih =>
        intro h
        by_cases hc : noFeed c = true
        · have e : runL noFeed (c :: r) = runL noFeed r + 1 := by rw [runL, if_pos hc]
          simp only [e, List.length_cons] at h ⊢
          simp only [List.getElem_cons_succ]
          exact ih (by omega)
        · have e : runL noFeed (c :: r) = 0 := by rw [runL, if_neg hc]
          simp only [e, List.getElem_cons_zero]
          unfold noFeed at hc
          simpa using hc
    have := key _ hp
    rw [List.getElem_drop] at this
    rw [List.drop_eq_getElem_cons hn, this]
    rfl
  · have hq : i + runL noFeed (l.drop i) = l.length := by omega
    rw [hq]
    exact find_miss (n := l.length) hi (by simp) (fun j h1 h2 => hno j h1 (by omega))
end Go.Proofs.YtjbamlmdeopcaaaGreatDoor.lx
end
