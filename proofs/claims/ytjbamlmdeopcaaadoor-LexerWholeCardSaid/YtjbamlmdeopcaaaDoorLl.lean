/-
  lexer.appendEnded.
-/
import Derived.Test.YtjbamlmdeopcaaaDoorLk
import Derived.Test.YtjbamlmdeopcaaaDoorOwn
namespace Go.Proofs.YtjbamlmdeopcaaaDoor.lx
open Go.RowKit Go.Proofs.YtjbamlmdeopcaaaDoor.tok

theorem grown_cell {w w' : World} {row : Option Nat} (hg : w.grownBy w' row) {k : Nat} (o : Nat) (hk : k < w.heap.size) (hr : some k ≠ row) : w'.cell? ⟨k, o, none⟩ = w.cell? ⟨k, o, none⟩ := by
  unfold World.cell?
  rw [hg.block k hk hr]
theorem own_mono {w : World} {B0 B1 e size n : Nat} {v : Value} {xs : List Value} (h : w.ownsRow B0 e size v n xs) (hB : B1 ≤ B0) : w.ownsRow B1 e size v n xs := by
  refine ⟨h.1, ?_⟩
  rcases h.2 with hn | ⟨g, cap, cur, rfl, hg, rest⟩
  · exact .inl hn
  · exact .inr ⟨g, cap, cur, rfl, by omega, rest⟩
/-- A row of tokens in a block below a number. -/
def RowB (B0 : Nat) (w : World) (v : Value) (T : List Tr) : Prop := ∃ (g off : Nat) (o : Option Addr) (cap : Nat), T.length ≤ cap ∧ v = .slice o T.length cap ∧ (T ≠ [] → o = some ⟨g, off, none⟩ ∧ g < B0) ∧ Cells w g off T
theorem RowB.row {B0 : Nat} {w : World} {v : Value} {T : List Tr} (h : RowB B0 w v T) : Row w v T := by
  obtain ⟨g, off, o, cap, hc, hv, ho, hcell⟩ := h
  exact ⟨g, off, o, cap, hc, hv, fun e => (ho e).1, hcell⟩
theorem Row.rowB {w : World} {v : Value} {T : List Tr} (h : Row w v T) : RowB w.heap.size w v T := by
  obtain ⟨g, off, o, cap, hc, hv, ho, hcell⟩ := h
  refine ⟨g, off, o, cap, hc, hv, fun e => ⟨ho e, ?_⟩, hcell⟩
  have : 0 < T.length := by cases T with | nil => exact absurd rfl e | cons => simp
  exact World.block_lt_of_cell? _ _ (hcell 0 this).1
theorem RowB.below {B0 B1 : Nat} {w w' : World} {v : Value} {T : List Tr} (h : RowB B0 w v T) (hb : Below B1 w w') (hB : B0 ≤ B1) : RowB B0 w' v T := by
  obtain ⟨g, off, o, cap, hc, hv, ho, hcell⟩ := h
  refine ⟨g, off, o, cap, hc, hv, ho, fun j hj => ?_⟩
  have hne : T ≠ [] := by rintro rfl; simp at hj
  have hg := (ho hne).2
  obtain ⟨a, b, c⟩ := hcell j hj
  exact ⟨(hb.cell (p := ⟨g, off + j * 3, none⟩) (by show g < B1; omega)).trans a, (hb.cell (p := ⟨g, off + j * 3 + 1, none⟩) (by show g < B1; omega)).trans b, (hb.cell (p := ⟨g, off + j * 3 + 2, none⟩) (by show g < B1; omega)).trans c⟩
theorem infoT : (Tryd.prog.info? 27).map (fun i => (i.zero, i.size, i.bytes)) = some (some (.agg #[.int .i64 0, .int .i64 0, .int .i64 0]), 3, 24) := by kernel_rfl
theorem infoG : (Tryd.prog.info? 30).map (fun i => (i.zero, i.size, i.bytes)) = some (some (.agg #[.int .i64 0, .int .i64 0, .int .i64 0]), 3, 24) := by kernel_rfl
/-- A row of tokens of the call's own. -/
def OwnT (w : World) (B0 : Nat) (v : Value) (T : List Tr) : Prop := w.ownsRow B0 27 3 v T.length (cellsT T)
def OwnG (w : World) (B0 : Nat) (v : Value) (D : List Tr) : Prop := w.ownsRow B0 30 3 v D.length (cellsT D)
/-- What an append does. -/
theorem own_more {w wr W w2 : World} {B0 e : Nat} {v v' : Value} {T : List Tr} {t : Tr} (hb : Below B0 w wr) (hW : Below B0 wr W) (hBW : B0 ≤ W.heap.size) (hlt : ∀ k, v.ownBlock = some k → B0 ≤ k)
    (hown2 : w2.ownsRow B0 e 3 v' (T.length + 1) (cellsT T ++ [.int .i64 t.k, .int .i64 (t.i : Int), .int .i64 (t.j : Int)])) (hg : W.grownBy w2 v.ownBlock) :
    w2.ownsRow B0 e 3 v' (T ++ [t]).length (cellsT (T ++ [t])) ∧ Below B0 w w2 := by
  refine ⟨?_, ?_⟩
  · rw [cellsT_append, List.length_append]
    exact hown2
  · exact (hb.trans hW).grown hg hBW hlt
/-- What an append behind a box does. -/
theorem step_own {w wr w2 : World} {B0 e : Nat} {v v' x0 x1 x2 : Value} {T : List Tr} {t : Tr} {t' : TypeId} {q : Obj} (hb : Below B0 w wr) (hB : B0 ≤ wr.heap.size) (hm : wr.ownsRow B0 e 3 v T.length (cellsT T))
    (hown2 : w2.ownsRow B0 e 3 v' (T.length + 1) (cellsT T ++ [.int .i64 t.k, .int .i64 (t.i : Int), .int .i64 (t.j : Int)])) (hg : ((wr.alloc (.cells #[x0, x1, x2] t')).alloc q).grownBy w2 v.ownBlock) :
    (w2.ownsRow B0 e 3 v' (T ++ [t]).length (cellsT (T ++ [t])) ∧ Below B0 w w2) ∧ w2.cell? ⟨wr.heap.size, 0, none⟩ = some x0 ∧ w2.cell? ⟨wr.heap.size, 1, none⟩ = some x1 ∧ w2.cell? ⟨wr.heap.size, 2, none⟩ = some x2 ∧ wr.heap.size + 1 < w2.heap.size := by
  have hlt := World.ownsRow.lt hm
  have hne : some wr.heap.size ≠ v.ownBlock := fun h => by have := (hlt _ h.symm).2; omega
  have hs := hg.size
  refine ⟨own_more hb ((((Below.refl B0 wr).alloc hB _).alloc (by simp; omega) _)) (by simp; omega) (fun k hk => (hlt k hk).1) hown2 hg, hg.cell (by simp) hne, hg.cell (by simp) hne, hg.cell (by simp) hne, by simp at hs; omega⟩
theorem step_own1 {w wr w2 : World} {B0 e : Nat} {v v' : Value} {T : List Tr} {t : Tr} {q : Obj} (hb : Below B0 w wr) (hB : B0 ≤ wr.heap.size) (hm : wr.ownsRow B0 e 3 v T.length (cellsT T))
    (hown2 : w2.ownsRow B0 e 3 v' (T.length + 1) (cellsT T ++ [.int .i64 t.k, .int .i64 (t.i : Int), .int .i64 (t.j : Int)])) (hg : (wr.alloc q).grownBy w2 v.ownBlock) :
    w2.ownsRow B0 e 3 v' (T ++ [t]).length (cellsT (T ++ [t])) ∧ Below B0 w w2 := by
  have hlt := World.ownsRow.lt hm
  exact own_more hb ((Below.refl B0 wr).alloc hB _) (by simp; omega) (fun k hk => (hlt k hk).1) hown2 hg
theorem three_at (w : World) (x y z : Value) (t : TypeId) : ∀ j u, [x, y, z][j]? = some u → (w.alloc (.cells #[x, y, z] t)).cell? ((⟨w.heap.size, 0, none⟩ : Addr).add j) = some u := dec.three_new w x y z t
def MadeT (B0 : Nat) (T : List Tr) (w : World) (e : Ending) (w' : World) : Prop := ∃ v', e = .returned v' ∧ OwnT w' B0 v' T ∧ Below B0 w w'
set_option maxRecDepth 100000 in
set_option maxHeartbeats 8000000 in
theorem appendEnded_any (s : ByteArray) (vt v : Value) (T0 T : List Tr) (more : Bool) (B0 : Nat) (w : World) (hto : OwnT w B0 vt T0) (hB : B0 ≤ w.heap.size) (hr : RowB B0 w v T) (hw : Within s.size T) (hn : T0.length + 2 * T.length ≤ 16777216) :
    Calls Tryd.prog 8 #[vt, .string s, v, .bool more] w (MadeT B0 (T0 ++ autos s.data.toList more T) w) := by
  obtain ⟨i0, hi, hz0, hz1, hz2⟩ := info_parts infoT
  have hrow := hr
  obtain ⟨g, off, o, cap, hc, rfl, ho, hcell⟩ := hr
  have HR := Lib.hid hrow
  have HW := Lib.hid hw
  have HO := Lib.hid ho
  have HT := Lib.hid hto
  obtain ⟨len, hlen⟩ : ∃ len, T.length = len := ⟨_, rfl⟩
  have HC : Hid (∀ w1, Below B0 w w1 → ∀ j (h : j < T.length), w1.cell? ⟨g, off + j * 3, none⟩ = some (.int .i64 T[j].k) ∧ w1.cell? ⟨g, off + j * 3 + 1, none⟩ = some (.int .i64 (T[j].i : Int)) ∧ w1.cell? ⟨g, off + j * 3 + 2, none⟩ = some (.int .i64 (T[j].j : Int))) := Lib.hid (fun w1 h1 j hj => by
    have hne : T ≠ [] := by rintro rfl; simp at hj
    have hg := (ho hne).2
    obtain ⟨a, b, c⟩ := hcell j hj
    exact ⟨(h1.cell (p := ⟨g, off + j * 3, none⟩) hg).trans a, (h1.cell (p := ⟨g, off + j * 3 + 1, none⟩) hg).trans b, (h1.cell (p := ⟨g, off + j * 3 + 2, none⟩) hg).trans c⟩)
  clear hcell hw ho hto hrow
  rw [hlen] at hc hn HR
  have HN := Lib.hid hlen
  clear hlen
  rw [HN.out]
  go_enter Tryd.func8, Tryd.ntmps8
  go_wp2
  go_loopw [0, 13] (fun vv p wr => ∃ (n : Nat) (M : List Tr), n ≤ len ∧ p = .int .i64 n ∧ M ++ autos s.data.toList more (T.drop n) = T0 ++ autos s.data.toList more T ∧ M.length ≤ T0.length + 2 * n ∧ OwnT wr B0 vv M ∧ Below B0 w wr) (fun _ p _ => len - (intOf p).toNat)
  case atStart => exact ⟨0, T0, Nat.zero_le _, rfl, rfl, by omega, HT.out, Below.refl _ _⟩
  case round =>
    obtain ⟨n, M, hnl, rfl, hle, hfew, hown, hb⟩ := hrel
    have HB := Lib.hid hb
    have HL := Lib.hid hle
    have HM := Lib.hid hown
    have hsz := hb.size
    have hlt := World.ownsRow.lt hown
    have HLT := Lib.hid hlt
    clear hb hle hown hlt
    by_cases hlt : n < len
    · have hltT : n < T.length := by rw [HN.out]; exact hlt
      have hd : decide ((n : Int) < (len : Int)) = true := decide_eq_true (by omega)
      have hne : T ≠ [] := by rintro rfl; simp at hltT
      obtain ⟨ho, hgB⟩ := HO.out hne
      subst ho
      have hD := List.drop_eq_getElem_cons hltT
      obtain ⟨c0, c1, c2⟩ := HC.out _ HB.out n hltT
      generalize T[n] = t at *
      obtain ⟨k, i, j⟩ := t
      simp only [] at c0 c1 c2
      rw [hD, autos] at HL
      clear hne hltT hD
      go_wp2_with (at_builtin; refine wpList_append_own _ rfl _ _ 22 rfl B0 27 i0 (.agg #[.int .i64 0, .int .i64 0, .int .i64 0]) 3 24 Tryd.underlying22 hi hz0 hz1 hz2 rfl (by decide) _ _ _ rfl ((World.ownsRow.alloc HM.out _).alloc _) ⟨wr.heap.size + 1, 0, none⟩ 1 1 [.int .i64 k, .int .i64 (i : Int), .int .i64 (j : Int)] rfl rfl ?c1 ?c2 ?c3 ?c4 ?c5 ?_)
      try (case c1 => exact three_at (wr.alloc _) _ _ _ 27)
      case c2 => first | exact ⟨rfl, rfl, rfl⟩ | (intro u hu; simp only [List.mem_cons, List.not_mem_nil, or_false] at hu; rcases hu with rfl | rfl | rfl <;> rfl)
      case c3 => unfold maxLen; omega
      case c4 => omega
      case c5 => first | omega | (simp; omega)
      intro v2 w2 hown2 hg _
      have HS := Lib.hid (step_own (t := ⟨k, i, j⟩) HB.out (by omega) HM.out hown2 hg)
      obtain ⟨_, b0, b1, b2, hs2⟩ := HS.out
      have hlt2 : wr.heap.size < w2.heap.size := Nat.lt_of_succ_lt hs2
      have hML : (M ++ [(⟨k, i, j⟩ : Tr)]).length = M.length + 1 := by simp
      have HE := Lib.hid (fun u => ends_any k u)
      have he : endsOf k = ends k := rfl
      rw [he] at HE
      clear hown2 hg c0 c1 c2 he HM
      cases h1 : ends k with
      | false =>
        have HA : Hid (autoOf s.data.toList more ⟨k, i, j⟩ (T.drop (n + 1)) = []) := Lib.hid (by unfold autoOf; rw [h1]; rfl)
        rw [HA.out, List.nil_append] at HL
        rw [h1] at HE
        clear h1 b1 b2
        go_wp2_with (go_at_call 5; refine (HE.out _).mono ?_; rintro e w' ⟨rfl, rfl⟩)
        go_roundw
        case rel => exact ⟨n + 1, _, by omega, by go_num, by rw [← HL.out]; simp, by rw [hML]; omega, HS.out.1.1, HS.out.1.2⟩
        case measure => simp [intOf]; omega
      | true =>
        rw [h1] at HE
        obtain ⟨v3, hsl, hrow⟩ := ((HR.out.below HS.out.1.2 (Nat.le_refl _)).row).drop (n + 1) (by rw [HN.out]; omega)
        have HX := Lib.hid (endsLine_any s v3 (T.drop (n + 1)) more w2 hrow (HW.out.drop _) (by rw [List.length_drop, HN.out]; omega))
        clear hrow
        have e3 : ((n + 1 : Nat) : Int) = (n : Int) + 1 := by omega
        rw [e3] at hsl
        clear e3
        cases h2 : lineEnd s.data.toList more (T.drop (n + 1)) with
        | false =>
          have HA : Hid (autoOf s.data.toList more ⟨k, i, j⟩ (T.drop (n + 1)) = []) := Lib.hid (by unfold autoOf; rw [h2, Bool.and_false, if_neg (by simp)])
          rw [HA.out, List.nil_append] at HL
          rw [h2] at HX
          clear h1 h2
          go_wp2_with (first | (go_at_call 5; refine (HE.out _).mono ?_; rintro e w' ⟨rfl, rfl⟩) | (go_at_call 23; refine HX.out.mono ?_; rintro e w3 ⟨rfl, hb3⟩; have HB3 := Lib.hid hb3; clear hb3))
          go_roundw
          case rel => exact ⟨n + 1, _, by omega, by go_num, by rw [← HL.out]; simp, by rw [hML]; omega, dec.own_below HS.out.1.1 HB3.out, HS.out.1.2.trans (HB3.out.mono (by omega))⟩
          case measure => simp [intOf]; omega
        | true =>
          have HA : Hid (autoOf s.data.toList more ⟨k, i, j⟩ (T.drop (n + 1)) = [⟨16, j, j⟩]) := Lib.hid (by unfold autoOf; rw [h1, h2]; rfl)
          rw [HA.out] at HL
          rw [h2] at HX
          clear h1 h2
          go_wp2_with (first | (go_at_call 5; refine (HE.out _).mono ?_; rintro e w' ⟨rfl, rfl⟩) | (go_at_call 23; refine HX.out.mono ?_; rintro e w3 ⟨rfl, hb3⟩; have HB3 := Lib.hid hb3; have HM3 := Lib.hid (dec.own_below HS.out.1.1 hb3); have hs3 : w2.heap.size ≤ w3.heap.size := hb3.size; have d0 : w3.cell? ⟨wr.heap.size, 0, none⟩ = some (.int .i64 k) := (hb3.cell (p := ⟨wr.heap.size, 0, none⟩) hlt2).trans b0; have d2 : w3.cell? ⟨wr.heap.size, 2, none⟩ = some (.int .i64 (j : Int)) := (hb3.cell (p := ⟨wr.heap.size, 2, none⟩) hlt2).trans b2; clear hb3) | (at_builtin; refine wpList_append_own _ rfl _ _ 22 rfl B0 27 i0 (.agg #[.int .i64 0, .int .i64 0, .int .i64 0]) 3 24 Tryd.underlying22 hi hz0 hz1 hz2 rfl (by decide) _ _ _ rfl (World.ownsRow.alloc HM3.out _) ⟨w3.heap.size, 0, none⟩ 1 1 [.int .i64 16, .int .i64 (j : Int), .int .i64 (j : Int)] rfl rfl ?d1 ?d2 ?d3 ?d4 ?d5 ?_))
          try (case d1 => exact three_at w3 _ _ _ 27)
          case d2 => first | exact ⟨rfl, rfl, rfl⟩ | (intro u hu; simp only [List.mem_cons, List.not_mem_nil, or_false] at hu; rcases hu with rfl | rfl | rfl <;> rfl)
          case d3 => unfold maxLen; omega
          case d4 => omega
          case d5 => first | omega | (simp; omega)
          intro v4 w4 hown4 hg4 _
          have HS4 := Lib.hid (step_own1 (t := ⟨16, j, j⟩) (HS.out.1.2.trans (HB3.out.mono (by omega))) (by omega) HM3.out (by rw [hML]; exact hown4) hg4)
          clear hown4 hg4
          go_wp2_with fail
          go_roundw
          case rel => exact ⟨n + 1, _, by omega, by go_num, by rw [← HL.out]; simp, by rw [List.length_append, hML]; simp; omega, HS4.out.1, HS4.out.2⟩
          case measure => simp [intOf]; omega
    · have hd : decide ((n : Int) < (len : Int)) = false := decide_eq_false (by omega)
      have hD : T.drop n = [] := List.drop_of_length_le (by rw [HN.out]; omega)
      rw [hD, autos, List.append_nil] at HL
      clear hD
      go_wp2_with fail
      go_ret
      exact ⟨_, rfl, by rw [← HL.out]; exact HM.out, HB.out⟩
end Go.Proofs.YtjbamlmdeopcaaaDoor.lx
