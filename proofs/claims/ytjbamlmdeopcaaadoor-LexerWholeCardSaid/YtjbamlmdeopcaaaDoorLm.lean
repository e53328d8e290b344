/-
  lexer.Scan.
-/
import Derived.Test.YtjbamlmdeopcaaaDoorLl
namespace Go.Proofs.YtjbamlmdeopcaaaDoor.lx
open Go.RowKit Go.Proofs.YtjbamlmdeopcaaaDoor.tok

theorem own_apart {w : World} {B0 B1 e1 e2 s1 s2 n1 n2 : Nat} {v1 v2 : Value} {x1 x2 : List Value} (h1 : w.ownsRow B0 e1 s1 v1 n1 x1) (h2 : w.ownsRow B1 e2 s2 v2 n2 x2) (hne : e1 ≠ e2) : v1.ownBlock = none ∨ v1.ownBlock ≠ v2.ownBlock := by
  rcases h1.2 with ⟨rfl, _⟩ | ⟨g, cap, cur, rfl, _, hg, _⟩
  · exact .inl rfl
  · refine .inr fun e => ?_
    rcases h2.2 with ⟨rfl, _⟩ | ⟨g', cap', cur', rfl, _, hg', _⟩
    · cases e
    · have : g = g' := Option.some.inj e
      subst this
      rw [hg] at hg'
      have := Obj.cells.inj (Option.some.inj hg')
      exact hne this.2.1
theorem three_at2 (w : World) (o p : Obj) (x y z : Value) (t : TypeId) : ∀ j u, [x, y, z][j]? = some u → (((w.alloc o).alloc p).alloc (.cells #[x, y, z] t)).cell? ((⟨w.heap.size + 1 + 1, 0, none⟩ : Addr).add j) = some u := by
  have := three_at ((w.alloc o).alloc p) x y z t
  rw [World.size_alloc, World.size_alloc] at this
  exact this
/-- What an append behind two boxes does. -/
theorem step_two {w wr w1 w2 : World} {B0 e : Nat} {v v' x0 x1 x2 y0 y1 y2 : Value} {T : List Tr} {t : Tr} {t' u' : TypeId} {q : Obj} (hb : Below B0 w wr) (hb1 : Below wr.heap.size wr w1) (hB : B0 ≤ wr.heap.size) (hm : wr.ownsRow B0 e 3 v T.length (cellsT T))
    (hown2 : w2.ownsRow B0 e 3 v' (T.length + 1) (cellsT T ++ [.int .i64 t.k, .int .i64 (t.i : Int), .int .i64 (t.j : Int)])) (hg : (((w1.alloc (.cells #[x0, x1, x2] t')).alloc (.cells #[y0, y1, y2] u')).alloc q).grownBy w2 v.ownBlock) :
    (w2.ownsRow B0 e 3 v' (T ++ [t]).length (cellsT (T ++ [t])) ∧ Below B0 w w2) ∧ w2.cell? ⟨w1.heap.size, 0, none⟩ = some x0 ∧ w2.cell? ⟨w1.heap.size, 1, none⟩ = some x1 ∧ w2.cell? ⟨w1.heap.size, 2, none⟩ = some x2 ∧ w2.cell? ⟨w1.heap.size + 1, 0, none⟩ = some y0 ∧ w2.cell? ⟨w1.heap.size + 1, 1, none⟩ = some y1 ∧ w2.cell? ⟨w1.heap.size + 1, 2, none⟩ = some y2 ∧ w1.heap.size + 2 < w2.heap.size := by
  have hlt := World.ownsRow.lt hm
  have h1 := hb1.size
  have hne : some w1.heap.size ≠ v.ownBlock := fun h => by have := (hlt _ h.symm).2; omega
  have hne2 : some (w1.heap.size + 1) ≠ v.ownBlock := fun h => by have := (hlt _ h.symm).2; omega
  have hs := hg.size
  have e : ∀ k o, k < ((w1.alloc (.cells #[x0, x1, x2] t')).alloc (.cells #[y0, y1, y2] u')).heap.size → (((w1.alloc (.cells #[x0, x1, x2] t')).alloc (.cells #[y0, y1, y2] u')).alloc q).cell? ⟨k, o, none⟩ = ((w1.alloc (.cells #[x0, x1, x2] t')).alloc (.cells #[y0, y1, y2] u')).cell? ⟨k, o, none⟩ := fun k o hk => World.cell?_alloc_lt _ _ _ hk
  refine ⟨own_more hb ((((hb1.mono hB).alloc (by omega) _).alloc (by simp; omega) _).alloc (by simp; omega) _) (by simp; omega) (fun k hk => (hlt k hk).1) hown2 hg, hg.cell ((e _ _ (by simp; try omega)).trans (by simp)) hne, hg.cell ((e _ _ (by simp; try omega)).trans (by simp)) hne, hg.cell ((e _ _ (by simp; try omega)).trans (by simp)) hne, hg.cell ((e _ _ (by simp; try omega)).trans (by simp)) hne2, hg.cell ((e _ _ (by simp; try omega)).trans (by simp)) hne2, hg.cell ((e _ _ (by simp; try omega)).trans (by simp)) hne2, by simp at hs; omega⟩
theorem kept3 {w1 w2 : World} {B0 B1 e1 e2 s1 s2 n1 n2 : Nat} {v1 v2 : Value} {x1 x2 : List Value} (hG : w1.ownsRow B0 e2 s2 v2 n2 x2) (hT : w1.ownsRow B1 e1 s1 v1 n1 x1) (hne : e2 ≠ e1) {a b c : Obj}
    (hg : (((w1.alloc a).alloc b).alloc c).grownBy w2 v1.ownBlock) : w2.ownsRow B0 e2 s2 v2 n2 x2 := World.ownsRow.kept (((World.ownsRow.alloc hG a).alloc b).alloc c) hg (own_apart hG hT hne)
theorem kept1 {w1 w2 : World} {B0 B1 e1 e2 s1 s2 n1 n2 : Nat} {v1 v2 : Value} {x1 x2 : List Value} (hG : w1.ownsRow B0 e2 s2 v2 n2 x2) (hT : w1.ownsRow B1 e1 s1 v1 n1 x1) (hne : e2 ≠ e1) {c : Obj}
    (hg : (w1.alloc c).grownBy w2 v1.ownBlock) : w2.ownsRow B0 e2 s2 v2 n2 x2 := World.ownsRow.kept (World.ownsRow.alloc hG c) hg (own_apart hG hT hne)
def ScanPost (T D : List Tr) (w : World) (e : Ending) (w' : World) : Prop := ∃ v1 v2, e = .returned (.tuple #[v1, v2]) ∧ OwnT w' w.heap.size v1 T ∧ OwnG w' w.heap.size v2 D ∧ Below w.heap.size w w'
theorem bare_in (l : List UInt8) : Within l.length (bare lang l 0) := fun t ht => bare_within l 0 t ht

set_option maxRecDepth 100000 in
set_option maxHeartbeats 8000000 in
theorem scan_any (s : ByteArray) (w : World) (hE : Env w) (hs : s.size ≤ 4194304) :
    Calls Tryd.prog 4 #[.string s] w (ScanPost (scan lang s.data.toList) (dgs lang s.data.toList 0) w) := by
  obtain ⟨i0, hi, hz0, hz1, hz2⟩ := info_parts infoT
  obtain ⟨j0, hj, hy0, hy1, hy2⟩ := info_parts infoG
  have HE := Lib.hid hE
  have hsd := sdata s
  have HD := Lib.hid hsd
  clear hE hsd
  go_enter Tryd.func4, Tryd.ntmps4
  go_wp2
  go_loopw [4, 5, 6] (fun v1 v2 a wr => ∃ (p : Nat) (T D : List Tr), a = .int .i64 p ∧ Far lang s.data.toList p T D ∧ OwnT wr w.heap.size v1 T ∧ OwnG wr w.heap.size v2 D ∧ Below w.heap.size w wr) (fun _ _ a _ => s.size - (intOf a).toNat)
  case atStart => exact ⟨0, [], [], rfl, Far.zero _, World.ownsRow_nil _ _ _ _, World.ownsRow_nil _ _ _ _, Below.refl _ _⟩
  case round =>
    obtain ⟨p, T, D, rfl, hF, hT, hG, hb⟩ := hrel
    have hfew := hF.few
    have hfew' := hF.few'
    have hple : p ≤ s.size := by have := hF.le; rwa [HD.out] at this
    have HF := Lib.hid hF
    have HT := Lib.hid hT
    have HG := Lib.hid hG
    have HB := Lib.hid hb
    have hsz := hb.size
    clear hF hT hG hb
    by_cases hlt : p < s.size
    · have hd : decide ((p : Int) < (s.size : Int)) = true := decide_eq_true (by omega)
      have HX := Lib.hid (next_any s p wr (HE.out.below HB.out) hs hlt)
      have hltL : p < s.data.toList.length := by rw [HD.out]; exact hlt
      have HS := Lib.hid (HF.out.step hltL)
      have hwp := at_pos (L := lang) hltL
      have hwl := at_le (L := lang) hltL
      rw [HD.out] at hwl
      have HK : Hid (tkAt lang s.data.toList p = ⟨(nxAt lang s.data.toList p).kind, p, p + (nxAt lang s.data.toList p).width⟩) := Lib.hid rfl
      have HQ : Hid (dgAt lang s.data.toList p = if (nxAt lang s.data.toList p).code = 0 then [] else [⟨(nxAt lang s.data.toList p).code, p + (nxAt lang s.data.toList p).off, p + (nxAt lang s.data.toList p).off + (nxAt lang s.data.toList p).dw⟩]) := Lib.hid rfl
      generalize nxAt lang s.data.toList p = N at *
      rw [HK.out, HQ.out] at HS
      clear HQ HK hltL
      obtain ⟨nk, nw, nc, no, nd⟩ := N
      simp only [] at HS hwp hwl
      by_cases hc0 : nc = 0
      · rw [if_pos hc0, List.append_nil] at HS
        have hcz : (nc != 0) = false := by rw [hc0]; rfl
        clear hc0
        go_wp2_with (first | (go_at_call 7; refine HX.out.mono ?_; rintro e w1 ⟨x, y, rfl, hxy, hb1⟩; have HB1 := Lib.hid hb1; have hs1 := hb1.size; have HT1 := Lib.hid (dec.own_below HT.out hb1); clear hb1 hxy) | (at_builtin; refine wpList_append_own _ rfl _ _ 22 rfl w.heap.size 27 i0 (.agg #[.int .i64 0, .int .i64 0, .int .i64 0]) 3 24 Tryd.underlying22 hi hz0 hz1 hz2 rfl (by decide) _ _ _ rfl (((World.ownsRow.alloc HT1.out _).alloc _).alloc _) ⟨w1.heap.size + 1 + 1, 0, none⟩ 1 1 [.int .i64 nk, .int .i64 (p : Int), .int .i64 ((p : Int) + (nw : Int))] rfl rfl ?c1 ?c2 ?c3 ?c4 ?c5 ?_))
        case c1 => first | exact three_at2 w1 _ _ _ _ _ _ | (refine ⟨?_, ?_, ?_⟩ <;> simp)
        case c2 => first | exact ⟨rfl, rfl, rfl⟩ | (intro u hu; simp only [List.mem_cons, List.not_mem_nil, or_false] at hu; rcases hu with rfl | rfl | rfl <;> rfl)
        case c3 => unfold maxLen; omega
        case c4 => omega
        case c5 => first | omega | (simp; omega)
        intro v2 w2 hown2 hg _
        have H2 := Lib.hid (step_two (t := ⟨nk, p, p + nw⟩) HB.out HB1.out hsz HT.out hown2 hg)
        have HG2 := Lib.hid (kept3 (dec.own_below HG.out HB1.out) HT1.out (by decide) hg)
        have HGL := Lib.hid (World.ownsRow.lt HG.out)
        obtain ⟨_, a0, a1, a2, b0, b1, b2, hs2⟩ := H2.out
        clear hown2 hg HT1 HG
        clear a0 a1 b1 b2 HGL
        go_wp2_with fail
        go_roundw
        case rel => exact ⟨p + nw, _, _, by go_num, HS.out, H2.out.1.1, HG2.out, H2.out.1.2⟩
        case measure => simp [intOf]; omega
      · rw [if_neg hc0] at HS
        have hcz : (nc != 0) = true := bne_iff_ne.2 hc0
        have HNE := Lib.hid hc0
        clear hc0
        go_wp2_with (first | (go_at_call 7; refine HX.out.mono ?_; rintro e w1 ⟨x, y, rfl, hxy, hb1⟩; obtain ⟨rfl, rfl⟩ := hxy HNE.out; have HB1 := Lib.hid hb1; have hs1 := hb1.size; have HT1 := Lib.hid (dec.own_below HT.out hb1); clear hb1 hxy) | (at_builtin; refine wpList_append_own _ rfl _ _ 22 rfl w.heap.size 27 i0 (.agg #[.int .i64 0, .int .i64 0, .int .i64 0]) 3 24 Tryd.underlying22 hi hz0 hz1 hz2 rfl (by decide) _ _ _ rfl (((World.ownsRow.alloc HT1.out _).alloc _).alloc _) ⟨w1.heap.size + 1 + 1, 0, none⟩ 1 1 [.int .i64 nk, .int .i64 (p : Int), .int .i64 ((p : Int) + (nw : Int))] rfl rfl ?d1 ?d2 ?d3 ?d4 ?d5 ?_))
        case d1 => first | exact three_at2 w1 _ _ _ _ _ _ | (refine ⟨?_, ?_, ?_⟩ <;> simp)
        case d2 => first | exact ⟨rfl, rfl, rfl⟩ | (intro u hu; simp only [List.mem_cons, List.not_mem_nil, or_false] at hu; rcases hu with rfl | rfl | rfl <;> rfl)
        case d3 => unfold maxLen; omega
        case d4 => omega
        case d5 => first | omega | (simp; omega)
        intro v2 w2 hown2 hg _
        have H2 := Lib.hid (step_two (t := ⟨nk, p, p + nw⟩) HB.out HB1.out hsz HT.out hown2 hg)
        have HG2 := Lib.hid (kept3 (dec.own_below HG.out HB1.out) HT1.out (by decide) hg)
        have HGL := Lib.hid (World.ownsRow.lt HG.out)
        obtain ⟨_, a0, a1, a2, b0, b1, b2, hs2⟩ := H2.out
        clear hown2 hg HT1 HG
        clear a0 a1
        go_wp2_with (at_builtin; refine wpList_append_own _ rfl _ _ 23 rfl w.heap.size 30 j0 (.agg #[.int .i64 0, .int .i64 0, .int .i64 0]) 3 24 Tryd.underlying23 hj hy0 hy1 hy2 rfl (by decide) _ _ _ rfl (World.ownsRow.alloc HG2.out _) ⟨w2.heap.size, 0, none⟩ 1 1 [.int .i64 nc, .int .i64 ((p : Int) + (no : Int)), .int .i64 ((p : Int) + (no : Int) + (nd : Int))] rfl rfl ?e1 ?e2 ?e3 ?e4 ?e5 ?_)
        try (case e1 => exact three_at w2 _ _ _ 30)
        case e2 => first | exact ⟨rfl, rfl, rfl⟩ | (intro u hu; simp only [List.mem_cons, List.not_mem_nil, or_false] at hu; rcases hu with rfl | rfl | rfl <;> rfl)
        case e3 => unfold maxLen; omega
        case e4 => omega
        case e5 => first | omega | (simp; omega)
        intro v3 w3 hown3 hg3 _
        have H3 := Lib.hid (step_own1 (t := ⟨nc, p + no, p + no + nd⟩) H2.out.1.2 (by omega) HG2.out hown3 hg3)
        have HT3 := Lib.hid (kept1 H2.out.1.1 HG2.out (by decide) hg3)
        have a3 : w3.cell? ⟨w1.heap.size, 2, none⟩ = some (.int .i64 ((p : Int) + (nw : Int))) := hg3.cell ((World.cell?_alloc_lt _ _ _ (show w1.heap.size < w2.heap.size by omega)).trans a2) (fun h => by have : w1.heap.size < wr.heap.size := (HGL.out _ h.symm).2; omega)
        clear hown3 hg3 a2
        go_wp2_with fail
        go_roundw
        case rel => exact ⟨p + nw, _, _, by go_num, HS.out, HT3.out, H3.out.1, H3.out.2⟩
        case measure => simp [intOf]; omega
    · have hd : decide ((p : Int) < (s.size : Int)) = false := decide_eq_false (by omega)
      obtain ⟨e1, e2⟩ := HF.out.done (by rw [HD.out]; omega)
      have hln := bare_few (L := lang) s.data.toList 0
      rw [← e1, HD.out] at hln
      have hwi : Within s.size T := by rw [e1, ← HD.out]; exact bare_in s.data.toList
      have HA := Lib.hid (appendEnded_any s (.slice none 0 0) u4 [] T false wr.heap.size wr (World.ownsRow_nil _ _ _ _) (Nat.le_refl _) (row_of_own HT.out).rowB hwi (by simp; omega))
      have HR : Hid (scan lang s.data.toList = autos s.data.toList false T) := Lib.hid (by rw [e1]; rfl)
      have HR2 := Lib.hid e2
      clear e1 e2 hwi
      go_wp2_with (go_at_call 8; refine HA.out.mono ?_; rintro e w1 ⟨v1, rfl, ho1, hb1⟩; have HO1 := Lib.hid ho1; have HB1 := Lib.hid hb1; clear ho1 hb1)
      go_ret2
      exact ⟨_, _, rfl, by rw [HR.out]; exact own_mono HO1.out hsz, by rw [← HR2.out]; exact dec.own_below HG.out HB1.out, HB.out.trans (HB1.out.mono hsz)⟩
end Go.Proofs.YtjbamlmdeopcaaaDoor.lx
