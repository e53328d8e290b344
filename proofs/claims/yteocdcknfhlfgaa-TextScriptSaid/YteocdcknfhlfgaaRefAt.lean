/-
  The contracts of the reference's Line and At.
-/
import Derived.Test.YteocdcknfhlfgaaRefLine
namespace Go.Proofs.Yteocdcknfhlfgaa.buf
open Go.RowKit

/-- Where the reference's Line stands: what it keeps of the world. -/
structure Span0 (h : Nat) (s : ByteArray) (w wr : World) : Prop where
  cell : wr.cell? ⟨h, 0, none⟩ = some (.string s)
  new : wr.heap[w.heap.size]? = some (.cells #[.int .i64 0, .int .i64 0] 30 (0, 0))
  below : Below w.heap.size w wr
theorem Span0.two {h : Nat} {s : ByteArray} {w wr : World} (k : Span0 h s w wr) (x y : Value) : Below w.heap.size w ((wr.setCell ⟨w.heap.size, 0, none⟩ x).setCell ⟨w.heap.size, 1, none⟩ y) :=
  k.below.trans (((Below.refl w.heap.size wr).setCell (p := ⟨w.heap.size, 0, none⟩) (Nat.le_refl _) x).setCell (p := ⟨w.heap.size, 1, none⟩) (Nat.le_refl _) y |>.mono (Nat.le_refl _))

set_option maxRecDepth 100000 in
set_option maxHeartbeats 2000000 in
theorem refLine_ok (h : Nat) (s : ByteArray) (n : Nat) (w : World) (hR : RefAt w h s) (hs : s.size ≤ 16384) (hn : n < (begins s.data.toList).length) :
    Calls Try.prog 33 #[.pointer (some ⟨h, 0, none⟩), .int .i64 n] w fun e w' => e = .returned (.tuple #[.agg #[.int .i64 ((begins s.data.toList)[n] : Nat), .int .i64 (lineTo s.data.toList n : Nat)], .int .i64 0]) ∧ Below w.heap.size w w' := by
  have c0 := hR.cell
  have hlt0 := hR.lt
  have hsd := size_data s
  have hfew := begins_few s.data.toList
  clear hR
  obtain ⟨E, hE⟩ : ∃ E, lineTo s.data.toList n = E := ⟨_, rfl⟩
  obtain ⟨F0, hF0⟩ : ∃ F, (begins s.data.toList)[n] = F := ⟨_, rfl⟩
  rw [hE, hF0]
  have HE := Lib.hid hE
  have HF := Lib.hid hF0
  clear hE hF0
  go_enter Try.func33, Try.ntmps33
  go_wp2_with fail
  go_loopw [6, 7, 8] (fun b c i wr => ∃ (k l F : Nat), i = .int .i64 k ∧ k ≤ s.size ∧ c = .int .i64 l ∧ b = .int .i64 F ∧ l ≤ k ∧ l ≤ n ∧ (InLine s.data.toList k l ∧ (begins s.data.toList)[l]? = some F) ∧ Span0 h s w wr)
    (fun _ _ i _ => s.size - (intOf i).toNat)
  case atStart => exact ⟨0, 0, 0, rfl, Nat.zero_le _, rfl, rfl, Nat.le_refl _, Nat.zero_le _, ⟨InLine.zero _, rfl⟩, ⟨((Below.refl w.heap.size w).alloc (Nat.le_refl _) _).cell (p := ⟨h, 0, none⟩) hlt0 |>.trans c0, heap_alloc_new w _, (Below.refl _ _).alloc (Nat.le_refl _) _⟩⟩
  case round =>
    obtain ⟨k, l, F, rfl, hk, rfl, rfl, hl, hln, hin, hsp⟩ := hrel
    have cc := hsp.cell
    have cn : wr.cell? ⟨w.heap.size, 0, none⟩ = some (.int .i64 0) ∧ wr.cell? ⟨w.heap.size, 1, none⟩ = some (.int .i64 0) ∧ wr.frozen? ⟨w.heap.size, 0, none⟩ = false ∧ wr.frozen? ⟨w.heap.size, 1, none⟩ = false := by
      simp [World.cell?, World.frozen?, hsp.new]
    obtain ⟨n0, n1, m0, m1⟩ := cn
    have HI := Lib.hid hin
    have HS := Lib.hid hsp
    have p0 : ∀ x : Value, (wr.setCell ⟨w.heap.size, 0, none⟩ x).cell? ⟨w.heap.size, 0, none⟩ = some x := fun x => World.cell?_setCell_same wr _ x n0
    have p1 : ∀ x y : Value, ((wr.setCell ⟨w.heap.size, 0, none⟩ x).setCell ⟨w.heap.size, 1, none⟩ y).cell? ⟨w.heap.size, 1, none⟩ = some y := fun x y => World.cell?_setCell_same _ _ y ((World.cell?_setCell_other _ ⟨w.heap.size, 0, none⟩ ⟨w.heap.size, 1, none⟩ _ (by simp)).trans n1)
    clear hin hsp c0
    by_cases hend : k = s.size
    · have q1 : ((k : Int) == (s.size : Int)) = true := by rw [hend]; exact beq_self_eq_true _
      have hla := InLine.last (l := l) (T := s.data.toList) (by rw [hsd, ← hend]; exact HI.out.1)
      obtain rfl : l = n := by omega
      have q2 : ((l : Int) == (l : Int)) = true := beq_self_eq_true _
      have hEk : E = k := by rw [← HE.out, hla.1, hsd, hend]
      have hFk : F0 = F := by
        have := HI.out.2
        rw [List.getElem?_eq_getElem hn] at this
        rw [← HF.out]
        exact Option.some.inj this
      subst hEk
      subst hFk
      clear hla hend HI HE HF
      go_wp2_with fail
      refine bodyPost_ret (v := .tuple #[.agg #[.int .i64 (F0 : Nat), .int .i64 (E : Nat)], .int .i64 0]) ?_ rfl ⟨rfl, HS.out.two _ _⟩
      simp [results, Try.results33, go_sem, p0, p1]
    · have q1 : ((k : Int) == (s.size : Int)) = false := beq_eq_false_iff_ne.2 (by omega)
      have hlt : k < s.size := by omega
      have hd : k < s.data.toList.length := by omega
      have HX := Lib.hid (show s.data.toList[k]? = some (s.data.toList[k]) from List.getElem?_eq_getElem hd)
      obtain ⟨c, hcc⟩ : ∃ c, s[k]'hlt = c := ⟨_, rfl⟩
      have hdc : s.data.toList[k] = c := by rw [← hcc]; rfl
      rw [hdc] at HX
      clear hdc hd hsd hend
      by_cases h10 : c = 10
      · have hcz : ((c.toNat : Int) == 10) = true := by rw [h10]; rfl
        have hq : s.data.toList[k]? = some 10 := by rw [HX.out, h10]
        have HY := Lib.hid (show InLine s.data.toList (k + 1) (l + 1) ∧ (begins s.data.toList)[l + 1]? = some (k + 1) from ⟨HI.out.1.next hq, by obtain ⟨a, b⟩ := HI.out.1.stop hq; rw [List.getElem?_eq_getElem a, b]⟩)
        have hto := HI.out.1.lineTo hq
        by_cases hnl : l = n
        · subst hnl
          have q2 : ((l : Int) == (l : Int)) = true := beq_self_eq_true _
          have hEk : E = k := by rw [← HE.out, hto]
          have hFk : F0 = F := by
            have := HI.out.2
            rw [List.getElem?_eq_getElem hn] at this
            rw [← HF.out]
            exact Option.some.inj this
          subst hEk
          subst hFk
          clear h10 HX hq HY hto HI HE HF
          go_wp2_with fail
          refine bodyPost_ret (v := .tuple #[.agg #[.int .i64 (F0 : Nat), .int .i64 (E : Nat)], .int .i64 0]) ?_ rfl ⟨rfl, HS.out.two _ _⟩
          simp [results, Try.results33, go_sem, p0, p1]
        · have q2 : ((l : Int) == (n : Int)) = false := beq_eq_false_iff_ne.2 (by omega)
          clear h10 HX hq hto p0 p1
          go_wp2_with fail
          go_roundw
          case rel => exact ⟨k + 1, l + 1, k + 1, by go_num, by omega, by go_num, by go_num, by omega, by omega, HY.out, HS.out⟩
          case measure => simp [intOf]; omega
      · have hcz : ((c.toNat : Int) == 10) = false := beq_eq_false_iff_ne.2 (fun e => h10 (UInt8.toNat_inj.1 (by rw [show c.toNat = 10 from (by omega)]; rfl)))
        have HY := Lib.hid (show InLine s.data.toList (k + 1) l from HI.out.1.on (by rw [HX.out]; intro e; exact h10 (Option.some.inj e)))
        clear h10 HX p0 p1
        go_wp2_with fail
        go_roundw
        case rel => exact ⟨k + 1, l, F, by go_num, by omega, rfl, rfl, by omega, hln, ⟨HY.out, HI.out.2⟩, HS.out⟩
        case measure => simp [intOf]; omega

set_option maxRecDepth 100000 in
set_option maxHeartbeats 2000000 in
theorem refLine_out (h : Nat) (s : ByteArray) (n : Int) (w : World) (hR : RefAt w h s) (hs : s.size ≤ 16384) (hn : n < 0 ∨ ((begins s.data.toList).length : Int) ≤ n) :
    Calls Try.prog 33 #[.pointer (some ⟨h, 0, none⟩), .int .i64 n] w fun e w' => e = .returned (.tuple #[.agg #[.int .i64 0, .int .i64 0], .int .i64 10]) ∧ Below w.heap.size w w' := by
  have c0 := hR.cell
  have hlt0 := hR.lt
  have hsd := size_data s
  clear hR
  go_enter Try.func33, Try.ntmps33
  go_wp2_with fail
  go_loopw [6, 7, 8] (fun b c i wr => ∃ (k l F : Nat), i = .int .i64 k ∧ k ≤ s.size + 1 ∧ c = .int .i64 l ∧ b = .int .i64 F ∧ l ≤ k ∧ (k ≤ s.size → InLine s.data.toList k l) ∧ Span0 h s w wr)
    (fun _ _ i _ => s.size + 1 - (intOf i).toNat)
  case atStart => exact ⟨0, 0, 0, rfl, Nat.zero_le _, rfl, rfl, Nat.le_refl _, fun _ => InLine.zero _, ⟨((Below.refl w.heap.size w).alloc (Nat.le_refl _) _).cell (p := ⟨h, 0, none⟩) hlt0 |>.trans c0, heap_alloc_new w _, (Below.refl _ _).alloc (Nat.le_refl _) _⟩⟩
  case round =>
    obtain ⟨k, l, F, rfl, hk, rfl, rfl, hl, hin, hsp⟩ := hrel
    have cc := hsp.cell
    have cn : wr.cell? ⟨w.heap.size, 0, none⟩ = some (.int .i64 0) ∧ wr.cell? ⟨w.heap.size, 1, none⟩ = some (.int .i64 0) ∧ wr.frozen? ⟨w.heap.size, 0, none⟩ = false ∧ wr.frozen? ⟨w.heap.size, 1, none⟩ = false := by
      simp [World.cell?, World.frozen?, hsp.new]
    obtain ⟨n0, n1, m0, m1⟩ := cn
    have HS := Lib.hid hsp
    clear hsp c0
    by_cases hle : k ≤ s.size
    · have hI := hin hle
      have hll : l < (begins s.data.toList).length := by obtain ⟨a, _⟩ := hI; exact a
      clear hI
      have q2 : ((l : Int) == n) = false := beq_eq_false_iff_ne.2 (by omega)
      have HI := Lib.hid (hin hle)
      clear hin hn
      by_cases hend : k = s.size
      · have q1 : ((k : Int) == (s.size : Int)) = true := by rw [hend]; exact beq_self_eq_true _
        clear HI hll
        go_wp2_with fail
        go_roundw
        case rel => exact ⟨k + 1, l + 1, k + 1, by go_num, by omega, by go_num, by go_num, by omega, fun x => absurd x (by omega), HS.out⟩
        case measure => simp [intOf]; omega
      · have q1 : ((k : Int) == (s.size : Int)) = false := beq_eq_false_iff_ne.2 (by omega)
        have hlt : k < s.size := by omega
        have hd : k < s.data.toList.length := by omega
        have HX := Lib.hid (show s.data.toList[k]? = some (s.data.toList[k]) from List.getElem?_eq_getElem hd)
        obtain ⟨c, hcc⟩ : ∃ c, s[k]'hlt = c := ⟨_, rfl⟩
        have hdc : s.data.toList[k] = c := by rw [← hcc]; rfl
        rw [hdc] at HX
        clear hdc hd hsd hend hll
        by_cases h10 : c = 10
        · have hcz : ((c.toNat : Int) == 10) = true := by rw [h10]; rfl
          have HY := Lib.hid (show InLine s.data.toList (k + 1) (l + 1) from HI.out.next (by rw [HX.out, h10]))
          clear h10 HX
          go_wp2_with fail
          go_roundw
          case rel => exact ⟨k + 1, l + 1, k + 1, by go_num, by omega, by go_num, by go_num, by omega, fun _ => HY.out, HS.out⟩
          case measure => simp [intOf]; omega
        · have hcz : ((c.toNat : Int) == 10) = false := beq_eq_false_iff_ne.2 (fun e => h10 (UInt8.toNat_inj.1 (by rw [show c.toNat = 10 from (by omega)]; rfl)))
          have HY := Lib.hid (show InLine s.data.toList (k + 1) l from HI.out.on (by rw [HX.out]; intro e; exact h10 (Option.some.inj e)))
          clear h10 HX
          go_wp2_with fail
          go_roundw
          case rel => exact ⟨k + 1, l, F, by go_num, by omega, rfl, rfl, by omega, fun _ => HY.out, HS.out⟩
          case measure => simp [intOf]; omega
    · have p0 : ∀ x : Value, (wr.setCell ⟨w.heap.size, 0, none⟩ x).cell? ⟨w.heap.size, 0, none⟩ = some x := fun x => World.cell?_setCell_same wr _ x n0
      have p1 : ∀ x y : Value, ((wr.setCell ⟨w.heap.size, 0, none⟩ x).setCell ⟨w.heap.size, 1, none⟩ y).cell? ⟨w.heap.size, 1, none⟩ = some y := fun x y => World.cell?_setCell_same _ _ y ((World.cell?_setCell_other _ ⟨w.heap.size, 0, none⟩ ⟨w.heap.size, 1, none⟩ _ (by simp)).trans n1)
      clear hin hn
      go_wp2_with fail
      refine bodyPost_ret (v := .tuple #[.agg #[.int .i64 0, .int .i64 0], .int .i64 10]) ?_ rfl ⟨rfl, HS.out.two _ _⟩
      simp [results, Try.results33, go_sem, p0, p1]
end Go.Proofs.Yteocdcknfhlfgaa.buf
