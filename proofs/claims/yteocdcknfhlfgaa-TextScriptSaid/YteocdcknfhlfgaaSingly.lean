/-
  The law TextSingly: edits done at once are the same edits done one by one, from the last one to the first one.
-/
import Derived.Test.YteocdcknfhlfgaaRefApply
import Derived.Test.YteocdcknfhlfgaaSumEdits
namespace Go.Proofs.Yteocdcknfhlfgaa.buf
open Go.RowKit

theorem mk_data (s : ByteArray) : (⟨s.data.toList.toArray⟩ : ByteArray) = s := by
  cases s
  simp

/-- A block of yet other elements. -/
theorem other_ne {w : World} {B e n s g : Nat} {v : Value} {cs : Array Value} {l : List Value} {e' : TypeId} {f : Nat × Nat} (h : w.ownsRow B e s v n l) (hg : w.heap[g]? = some (.cells cs e' f)) (he : e ≠ e') : v.ownBlock ≠ some g := by
  rcases h.2 with ⟨rfl, _⟩ | ⟨k, cap, cur, rfl, _, hh, _⟩
  · simp [Value.ownBlock]
  · intro c
    simp only [Value.ownBlock, Option.some.injEq] at c
    subst c
    rw [hh] at hg
    simp only [Option.some.injEq, Obj.cells.injEq] at hg
    exact he hg.2.1
theorem BufAt.beside {w w' : World} {g h : Nat} {T : List UInt8} {s : ByteArray} (hb : BufAt w g T) (hs : Save w.heap.size h w w') (hr : RefAt w h s) : BufAt w' g T := by
  obtain ⟨v, l, d, p, h6, hv, hl, ht, hT, hk⟩ := hb
  have hne : g ≠ h := by
    rintro rfl
    unfold Six at h6
    unfold RefAt at hr
    rw [hr] at h6
    simp at h6
  refine ⟨v, l, d, p, ?_, row_kept hv hs.block (other_ne hv hr (by decide)), hl, ht, hT, ?_⟩
  · exact (hs.block g h6.lt hne).trans h6
  · rcases hk with hk | ⟨e, hk⟩
    · exact .inl hk
    · exact .inr ⟨e, row_kept hk hs.block (other_ne hk hr (by decide))⟩

/-- Every place ahead of the edits from k on is a place of S. -/
def Wide (T : List UInt8) (l : List Ed) (k : Nat) (S : List UInt8) : Prop := ∀ p : Nat, p ≤ T.length → orderB T.length p (l.drop k) = true → p ≤ S.length
theorem Wide.start (T : List UInt8) (l : List Ed) (k : Nat) : Wide T l k T := fun _ h _ => h
theorem Wide.at {T : List UInt8} {l : List Ed} {k : Nat} {S : List UInt8} (h : Wide T l (k + 1) S) (ho : orderB T.length 0 l = true) (hk : k < l.length) : 0 ≤ l[k].a ∧ l[k].a ≤ l[k].b ∧ l[k].b.toNat ≤ S.length := by
  obtain ⟨x1, _, x3, x4, x5⟩ := order_at ho (Int.le_refl 0) k hk
  exact ⟨x1, x3, h l[k].b.toNat (by omega) (by rw [Int.toNat_of_nonneg (by omega)]; exact x5)⟩
theorem Wide.keep {T : List UInt8} {l : List Ed} {k : Nat} {S : List UInt8} (h : Wide T l (k + 1) S) (ho : orderB T.length 0 l = true) (hk : k < l.length) : Wide T l k S := by
  intro p hp hpo
  obtain ⟨y1, y2, y3⟩ := h.at ho hk
  rw [drop_head hk] at hpo
  obtain ⟨_, _, _, g, _⟩ := order_cons hpo
  omega
theorem Wide.put {T : List UInt8} {l : List Ed} {k : Nat} {S : List UInt8} (h : Wide T l (k + 1) S) (ho : orderB T.length 0 l = true) (hk : k < l.length) (R : List UInt8) : Wide T l k (S.take l[k].a.toNat ++ R) := by
  intro p hp hpo
  obtain ⟨y1, y2, y3⟩ := h.at ho hk
  rw [drop_head hk] at hpo
  obtain ⟨_, _, _, g, _⟩ := order_cons hpo
  rw [List.length_append, List.length_take]
  omega

/-- One edit, that is in the text. -/
theorem one_order {n : Nat} {e : Ed} (h0 : 0 ≤ e.a) (h1 : e.a ≤ e.b) (h2 : e.b.toNat ≤ n) : orderB n 0 [e] = true := by
  have : inB n e.a e.b = true := decide_eq_true ⟨h0, h1, by omega⟩
  simp only [orderB, this, decide_eq_true h0, Bool.and_self]
theorem one_upd (S : List UInt8) (e : Ed) : upd S 0 [e] = S.take e.a.toNat ++ (e.s.data.toList ++ S.drop e.b.toNat) := by
  simp only [upd, List.drop_zero, Nat.sub_zero]

/-- How far the edits have been done one by one. -/
def Singly (T : List UInt8) (l : List Ed) (k : Nat) (gr : Bool) (S : List UInt8) : Prop := k ≤ l.length ∧ Wide T l k S ∧ (gr = false → Back T l k S)
theorem Singly.start (T : List UInt8) (l : List Ed) : Singly T l l.length false T := ⟨Nat.le_refl _, Wide.start _ _ _, fun _ => Back.start _ _⟩
/-- One more: it is done, or it is too long, and changes nothing. -/
theorem Singly.step {T : List UInt8} {l : List Ed} {k : Nat} {gr : Bool} {S : List UInt8} (h : Singly T l (k + 1) gr S) (ho : orderB T.length 0 l = true) (hk : k < l.length) :
    (codeOf S.length [l[k]] = 0 ∧ Singly T l k gr (textBy S [l[k]])) ∨ (codeOf S.length [l[k]] = 11 ∧ Singly T l k true (textBy S [l[k]])) := by
  obtain ⟨h1, h2, h3⟩ := h
  obtain ⟨y1, y2, y3⟩ := h2.at ho hk
  have hone := one_order y1 y2 y3
  cases hf : fitsB S.length [l[k]] with
  | true =>
    refine .inl ⟨code_ok hone hf, by omega, ?_, fun hg => ?_⟩
    · rw [text_ok hone hf, one_upd]
      exact h2.put ho hk _
    · rw [text_ok hone hf, one_upd]
      exact ((h3 hg).step ho hk).1
  | false =>
    refine .inr ⟨code_long hone hf, by omega, ?_, fun hg => by cases hg⟩
    rw [text_long hf]
    exact h2.keep ho hk

set_option maxRecDepth 100000 in
set_option maxHeartbeats 4000000 in
theorem singly_any (v : Value) (s : ByteArray) (l : List Ed) (w : World) (he : EdsAt w v l) :
    Calls Try.prog 6 #[.string s, v] w fun e w' => e = .returned (.bool true) ∧ Below w.heap.size w w' := by
  have HE := Lib.hid he
  obtain ⟨oa, cap, hv⟩ := he.slice
  subst hv
  clear he
  by_cases hs : 16384 < s.size
  · have hd : decide ((16384 : Int) < (s.size : Int)) = true := decide_eq_true (by omega)
    go_enter Try.func6, Try.ntmps6
    go_wp2_with fail
    go_ret
    exact ⟨rfl, Below.refl _ _⟩
  · have hd : decide ((16384 : Int) < (s.size : Int)) = false := decide_eq_false (by omega)
    go_enter Try.func6, Try.ntmps6
    go_wp2_with fail
    refine (sum_any _ l _ HE.out).mono ?_
    rintro e w' ⟨⟨z, rfl, hz⟩, rfl⟩
    by_cases hz2 : 16777216 < z
    · have hd2 : decide (16777216 < z) = true := decide_eq_true hz2
      go_wp2_with fail
      go_ret
      exact ⟨rfl, Below.refl _ _⟩
    · have hd2 : decide (16777216 < z) = false := decide_eq_false hz2
      have hl : l.length ≤ 16777216 := by omega
      clear hz hz2
      go_wp2_with fail
      refine (new_any s _ (by omega)).mono ?_
      rintro e w1 ⟨rfl, na, nb⟩
      have NA := Lib.hid na
      have NB := Lib.hid nb
      clear na nb
      go_wp2_with fail
      refine (new_any s _ (by omega)).mono ?_
      rintro e w2 ⟨rfl, ma, mb⟩
      have MA := Lib.hid ma
      have MB := Lib.hid mb
      clear ma mb
      go_wp2_with fail
      refine (refNew_any s _ (by omega)).mono ?_
      rintro e w3 ⟨rfl, ra, rb⟩
      have RA := Lib.hid ra
      have RB := Lib.hid rb
      clear ra rb
      have z1 := NA.out.lt
      have z2 := MA.out.lt
      have z3 := RA.out.lt
      have zz1 := NB.out.size
      have zz2 := MB.out.size
      have zz3 := RB.out.size
      have hB3 : Below w.heap.size w w3 := (NB.out.trans (MB.out.mono zz1)).trans (RB.out.mono (by omega))
      have A3 := Lib.hid ((NA.out.below MB.out).below RB.out)
      have B3 := Lib.hid (MA.out.below RB.out)
      have E3 := Lib.hid (HE.out.below hB3)
      have W3 := Lib.hid hB3
      obtain ⟨ga, hga⟩ : ∃ ga, w.heap.size = ga := ⟨_, rfl⟩
      obtain ⟨gb, hgb⟩ : ∃ gb, w1.heap.size = gb := ⟨_, rfl⟩
      obtain ⟨gd, hgd⟩ : ∃ gd, w2.heap.size = gd := ⟨_, rfl⟩
      rw [hga] at A3 z1 ⊢
      rw [hgb] at B3 z2 ⊢
      rw [hgd] at RA z3 ⊢
      have hab : ga < gb := by omega
      have hbd : gb < gd := by omega
      have HGA := Lib.hid hga
      clear hgb hgd NA NB MA MB RB hB3 zz1 zz2 zz3 z1 z2 hga
      have hsd := size_data s
      have hcase : (∃ c : Int, c ≠ 0 ∧ codeOf s.size l = c ∧ textBy s.data.toList l = s.data.toList) ∨ (codeOf s.size l = 0 ∧ textBy s.data.toList l = upd s.data.toList 0 l ∧ orderB s.data.toList.length 0 l = true) := by
        cases ho : orderB s.size 0 l with
        | false => exact .inl ⟨10, by omega, code_bad ho, text_bad (by rw [hsd]; exact ho)⟩
        | true =>
          cases hf : fitsB s.size l with
          | false => exact .inl ⟨11, by omega, code_long ho hf, text_long (by rw [hsd]; exact hf)⟩
          | true => exact .inr ⟨code_ok ho hf, text_ok (by rw [hsd]; exact ho) (by rw [hsd]; exact hf), by rw [hsd]; exact ho⟩
      have HSD := Lib.hid hsd
      clear hsd
      go_wp2_with fail
      refine (apply_any ga _ _ l _ A3.out E3.out (by omega)).mono ?_
      rintro e w4 ⟨rfl, aa, ab⟩
      rw [HSD.out]
      have z4 := ab.size
      have B4 := Lib.hid (B3.out.kept ab (by omega) A3.out.six)
      have R4 := Lib.hid (show RefAt w4 gd s from (ab.block gd z3 (by omega)).trans RA.out)
      have W4 := Lib.hid (W3.out.trans (ab.below W3.out.size (by rw [HGA.out]; omega)))
      have A4 := Lib.hid aa
      have S4 := Lib.hid A3.out.six
      clear aa ab
      rcases hcase with ⟨c, hc0, hc, ht⟩ | ⟨hc, ht, ho⟩
      · have hcn : (c != 0) = true := by rw [bne_iff_ne]; exact hc0
        have HT := Lib.hid ht
        have HC := Lib.hid hc
        rw [hc]
        clear hc ht hc0
        go_wp2_with fail
        refine (refApply_any gd _ s l _ R4.out (by omega) (HE.out.below W4.out) (by omega)).mono ?_
        rintro e w5 ⟨rfl, ra, rb⟩
        rw [HC.out]
        have hA5 : BufAt w5 ga s.data.toList := by
          have := A4.out.beside rb R4.out
          rw [HT.out] at this
          exact this
        have A5 := Lib.hid hA5
        have W5 := Lib.hid (W4.out.trans (rb.below W4.out.size (by rw [HGA.out]; omega)))
        clear ra rb hA5
        go_wp2_with fail
        refine (text_any ga _ _ A5.out).mono ?_
        rintro e w6 ⟨rfl, tb⟩
        rw [mk_data]
        have W6 := Lib.hid (W5.out.trans (tb.mono W5.out.size))
        clear tb
        go_wp2_with fail
        go_ret
        exact ⟨rfl, W6.out⟩
      · have HT := Lib.hid ht
        have HC := Lib.hid hc
        have HO := Lib.hid ho
        rw [hc]
        clear hc ht ho
        go_wp2_with fail
        refine (refApply_any gd _ s l _ R4.out (by omega) (HE.out.below W4.out) (by omega)).mono ?_
        rintro e w5 ⟨rfl, ra, rb⟩
        rw [HC.out]
        have hA5 : BufAt w5 ga (upd s.data.toList 0 l) := by
          have := A4.out.beside rb R4.out
          rw [HT.out] at this
          exact this
        have A5 := Lib.hid hA5
        have B5 := Lib.hid (B4.out.beside rb R4.out)
        have W5 := Lib.hid (W4.out.trans (rb.below W4.out.size (by rw [HGA.out]; omega)))
        clear ra rb hA5
        go_wp2_with fail
        go_loopw [12, 13] (fun gv i wr => ∃ (k : Nat) (gr : Bool) (S : List UInt8), i = .int .i64 ((k : Int) - 1) ∧ gv = .bool gr ∧ Singly s.data.toList l k gr S ∧ BufAt wr gb S ∧ BufAt wr ga (upd s.data.toList 0 l) ∧ Below w.heap.size w wr)
          (fun _ i _ => (intOf i + 1).toNat)
        case atStart => exact ⟨l.length, false, _, rfl, rfl, Singly.start _ _, B5.out, A5.out, W5.out⟩
        case round =>
          obtain ⟨k, gr, S, rfl, rfl, hS, hB, hA, hW⟩ := hrel
          have hk := hS.1
          have HS := Lib.hid hS
          have HB := Lib.hid hB
          have HA := Lib.hid hA
          have HW := Lib.hid hW
          clear hS hB hA hW A5 B5 W5
          cases k with
          | zero =>
            rw [show (((0 : Nat) : Int) - 1) = -1 from rfl]
            cases gr with
            | true =>
              go_wp2_with fail
              go_ret
              exact ⟨rfl, HW.out⟩
            | false =>
              have hfin := (HS.out.2.2 rfl).done HO.out
              subst hfin
              go_wp2_with fail
              refine (text_any ga _ _ HA.out).mono ?_
              rintro e w6 ⟨rfl, tb⟩
              have B6 := Lib.hid (HB.out.below tb)
              have W6 := Lib.hid (HW.out.trans (tb.mono HW.out.size))
              clear tb
              go_wp2_with fail
              refine (text_any gb _ _ B6.out).mono ?_
              rintro e w7 ⟨rfl, tb⟩
              have W7 := Lib.hid (W6.out.trans (tb.mono W6.out.size))
              clear tb
              go_wp2_with fail
              go_ret
              exact ⟨rfl, W7.out⟩
          | succ j =>
            rw [show (((j + 1 : Nat) : Int) - 1) = (j : Int) from by omega]
            have hj : j < l.length := by omega
            have hst := HS.out.step HO.out hj
            rcases HE.out.below HW.out with ⟨h0, _⟩ | ⟨b, o, cap', hv, hb, hcell⟩
            · rw [h0] at hj; simp at hj
            obtain ⟨rfl, rfl⟩ : oa = some ⟨b, o, none⟩ ∧ cap = cap' := by
              simp only [Value.slice.injEq] at hv
              exact ⟨hv.1, hv.2.2⟩
            obtain ⟨c0, c1, c2⟩ := hcell j hj
            obtain ⟨e, he⟩ : ∃ e, l[j] = e := ⟨_, rfl⟩
            rw [he] at c0 c1 c2 hst
            have HST := Lib.hid hst
            clear he hst hcell hv
            obtain ⟨a, b', x⟩ := e
            simp only at c0 c1 c2
            have hab' : Below wr.heap.size wr (wr.alloc (.cells #[.int .i64 a, .int .i64 b', .string x] 60)) := (Below.refl _ _).alloc (Nat.le_refl _) _
            have hone : EdsAt (wr.alloc (.cells #[.int .i64 a, .int .i64 b', .string x] 60)) (.slice (some ⟨wr.heap.size, 0, none⟩) 1 1) [⟨a, b', x⟩] := by
              refine .inr ⟨wr.heap.size, 0, 1, rfl, by simp, fun i hi => ?_⟩
              obtain rfl : i = 0 := by simp at hi; omega
              exact ⟨by simp, by simp, by simp⟩
            have AB := Lib.hid hab'
            have ON := Lib.hid hone
            have hzz := HW.out.size
            have hzw : w.heap.size ≤ gb := by have := HGA.out; omega
            clear hab' hone
            rcases HST.out with ⟨hc, hs'⟩ | ⟨hc, hs'⟩
            all_goals
              have HC2 := Lib.hid hc
              have HS2 := Lib.hid hs'
              clear hc hs' HST HS
              cases gr
            all_goals
              go_wp2_with fail
              refine (apply_any gb _ S [⟨a, b', x⟩] _ (HB.out.below AB.out) ON.out (by simp)).mono ?_
              rintro e w6 ⟨rfl, ba, bb⟩
              rw [HC2.out]
              have B6 := Lib.hid ba
              have A6 := Lib.hid ((HA.out.below AB.out).kept bb (by omega) (HB.out.below AB.out).six)
              have W6 := Lib.hid ((HW.out.trans (AB.out.mono hzz)).trans (bb.below (by simp; omega) hzw))
              clear ba bb HA HB HW AB ON
              go_wp2_with fail
              go_roundw
              case rel => exact ⟨j, _, _, rfl, rfl, HS2.out, B6.out, A6.out, W6.out⟩
              case measure => simp [intOf]
end Go.Proofs.Yteocdcknfhlfgaa.buf
