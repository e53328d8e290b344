/-
  Layer 8: Va, Vb, Uc, Vc, Qd, Ug, Vd, Ve, Vg, Vh, Tc, Td, Tw, Ud, Vi put together.
-/
import Derived.Test.YtnnffcfdokejbaaUf
import Derived.Test.YtnnffcfdokejbaaTv
import Derived.Test.YtnnffcfdokejbaaUb
import Derived.Test.YtnnffcfdokejbaaQa
import Derived.Test.YtnnffcfdokejbaaQe
import Derived.Test.YtnnffcfdokejbaaQf
import Derived.Test.YtnnffcfdokejbaaPd
import Derived.Test.YtnnffcfdokejbaaNk
import Derived.Test.YtnnffcfdokejbaaNi
import Derived.Test.YtnnffcfdokejbaaNn
import Derived.Test.YtnnffcfdokejbaaTu
import Derived.Maps.AppendAt
import Derived.Test.YtnnffcfdokejbaaNc
import Derived.Test.YtnnffcfdokejbaaNj
import Derived.Test.YtnnffcfdokejbaaTb
import Derived.Test.YtnnffcfdokejbaaTa
import Derived.Test.YtnnffcfdokejbaaQb
namespace Go.Proofs.Ytnnffcfdokejbaa.rd
open Go.RowKit

/-- What a number's tree is, written as shape does. -/
def shN (L : List Gr) : Nat → Nat → List UInt8
  | 0, _ => []
  | f + 1, id => match L[id]? with
    | none => []
    | some g => [40] ++ digI g.k ++ (if leafK g.k then [58] ++ digI (g.s.size : Int) ++ [58] ++ g.s.data.toList else []) ++ (g.l.flatMap fun x => shN L f x.toNat) ++ [41]
mutual
theorem is_shN {s : ByteArray} {L : List Gr} (hL : GoodL L) : ∀ (t : Tree) (id f : Nat), fitT s.size t = true → Is s L t id → id < f → shN L f id = shapeT s.data.toList t
  | .mk k i j l, id, 0, _, _, hf => by omega
  | .mk k i j l, id, f + 1, hfit, hi, hf => by
    rw [Is] at hi
    obtain ⟨ids, h1, h2⟩ := hi
    obtain ⟨_, h0, hij, hjN, hl⟩ := fitT_node hfit
    obtain ⟨hlt, hge⟩ := List.getElem?_eq_some_iff.1 h1
    have hg := hL.all id hlt
    rw [hge] at hg
    have hsz : ((B (sub s i j)).size : Int) = j - i := by rw [bsize]; exact sub_len s h0 hij hjN
    rw [shN, h1, shapeT]
    show [40] ++ digI k ++ (if leafK k then [58] ++ digI ((B (sub s i j)).size : Int) ++ [58] ++ sub s i j else []) ++ (ids.flatMap fun x => shN L f x.toNat) ++ [41] = _
    rw [hsz, iss_shN hL l ids f hl h2 (fun x hx => by have := (hg.low x hx).2; omega)]
    rfl
theorem iss_shN {s : ByteArray} {L : List Gr} (hL : GoodL L) : ∀ (l : List Tree) (ids : List Int) (f : Nat), (∀ t ∈ l, fitT s.size t = true) → Iss s L l ids → (∀ x ∈ ids, x < (f : Int)) → (ids.flatMap fun x => shN L f x.toNat) = shapeTs s.data.toList l
  | [], ids, f, _, hi, _ => by rw [Iss] at hi; rw [hi, shapeTs]; rfl
  | t :: l, ids, f, hl, hi, hlow => by
    rw [Iss] at hi
    obtain ⟨x, r, rfl, hx, hr⟩ := hi
    rw [shapeTs, List.flatMap_cons, iss_shN hL l r f (fun u hu => hl u (by simp [hu])) hr (fun y hy => hlow y (by simp [hy])), Int.toNat_natCast, is_shN hL t x f (hl t (by simp)) hx (by have := hlow (x : Int) (by simp); omega)]
end
theorem kids_snoc {L : List Gr} {f : Nat} {l : List Int} {q : Nat} (h : q < l.length) : ((l.take (q + 1)).flatMap fun x => shN L f x.toNat) = ((l.take q).flatMap fun x => shN L f x.toNat) ++ shN L f l[q].toNat := by
  rw [List.take_add_one, List.getElem?_eq_getElem h, List.flatMap_append]
  simp
theorem kids_few {L : List Gr} {f : Nat} (l : List Int) (q : Nat) : ((l.take q).flatMap fun x => shN L f x.toNat).length ≤ (l.flatMap fun x => shN L f x.toNat).length := by
  have : (l.flatMap fun x => shN L f x.toNat) = ((l.take q).flatMap fun x => shN L f x.toNat) ++ ((l.drop q).flatMap fun x => shN L f x.toNat) := by rw [← List.flatMap_append, List.take_append_drop]
  rw [this, List.length_append]
  exact Nat.le_add_right _ _
theorem Pl.below {w w' : World} {b : Nat} {D : Nat → Prop} {L : List Gr} (h : Pl w b D L) (hb : Below w.heap.size w w') : Pl w' b D L := pool_c.keep h hb.size (fun k hk => hb.block k (pool_c.dead h k hk))
/-- What like is held to. -/
def LikeC (id : Nat) : Prop := ∀ (w : World) (b f : Nat) (D : Nat → Prop) (L : List Gr) (_ : id < L.length), Pl w b D L → GoodL L → (∀ i (h : i < L.length), L[i].s.size ≤ 140737488355328) → id < f → (shN L f id).length ≤ 4611686018427387904 → Calls Try.prog 20 #[.pointer (some ⟨b, 0, none⟩), .int .i64 (id : Int)] w fun e w' => e = .returned (.string (B (shN L f id))) ∧ Below w.heap.size w w'
set_option maxRecDepth 100000 in
set_option maxHeartbeats 4000000 in
theorem like_step (id : Nat) (ih : ∀ x, x < id → LikeC x) : LikeC id := by
  intro w b f D L hid hp hL hsm hf hfew
  obtain ⟨f, rfl⟩ : ∃ g, f = g + 1 := ⟨f - 1, by omega⟩
  obtain ⟨g, hg⟩ : ∃ g, L[id] = g := ⟨_, rfl⟩
  have hgood := hL.all id hid
  have hgsz := hsm id hid
  rw [hg] at hgood hgsz
  have hge : L[id]? = some g := List.getElem?_eq_some_iff.2 ⟨hid, hg⟩
  obtain ⟨k, sx, ids⟩ := g
  have hgsz : sx.size ≤ 140737488355328 := hgsz
  have h0 : shN L (f + 1) id = [40] ++ digI k ++ (if leafK k then [58] ++ digI (sx.size : Int) ++ [58] ++ sx.data.toList else []) ++ (ids.flatMap fun x => shN L f x.toNat) ++ [41] := by rw [shN, hge]
  rw [h0] at hfew ⊢
  have HKD : Hid (∀ u, Below w.heap.size w u → Calls Try.prog 25 #[.pointer (some ⟨b, 0, none⟩), .int .i64 (id : Int)] u fun e w' => e = .returned (.tuple #[.int .i64 k, .int .i64 0]) ∧ Below w.heap.size w w') := Lib.hid (fun u hu => by
    obtain ⟨m, vN, h1, _⟩ := hp.below hu
    have h := kind_any h1 id hid
    rw [hg] at h
    exact h.mono fun e w' ⟨h1, h2⟩ => ⟨h1, hu.trans (h2.mono hu.size)⟩)
  have HTX : Hid (∀ u, Below w.heap.size w u → Calls Try.prog 28 #[.pointer (some ⟨b, 0, none⟩), .int .i64 (id : Int)] u fun e w' => e = .returned (.tuple #[.string sx, .int .i64 0]) ∧ Below w.heap.size w w') := Lib.hid (fun u hu => by
    obtain ⟨m, vN, h1, _⟩ := hp.below hu
    have h := text_any h1 id hid (by rw [hg]; exact hgsz)
    rw [hg] at h
    exact h.mono fun e w' ⟨h1, h2⟩ => ⟨h1, hu.trans (h2.mono hu.size)⟩)
  have HKS : Hid (∀ u, Below w.heap.size w u → Calls Try.prog 27 #[.pointer (some ⟨b, 0, none⟩), .int .i64 (id : Int)] u fun e w' => ∃ (g off : Nat) (ov : Option Addr) (cap : Nat), e = .returned (.tuple #[.slice ov ids.length cap, .int .i64 0]) ∧ Below w.heap.size w w' ∧ ids.length ≤ cap ∧ (ids ≠ [] → ov = some ⟨g, off, none⟩ ∧ g < w'.heap.size) ∧ Cells it w' g off ids) := Lib.hid (fun u hu => by
    obtain ⟨m, vN, h1, _⟩ := hp.below hu
    have h := kids_any h1 id hid
    rw [hg] at h
    exact h.mono fun e w' ⟨v, h1, h2, h3⟩ => by
      obtain ⟨g, off, ov, cap, hc, rfl, ho, hcl⟩ := h3.row.lt
      exact ⟨g, off, ov, cap, h1, hu.trans (h2.mono hu.size), hc, ho, hcl⟩)
  have HIH : Hid (∀ (q : Nat) (hq : q < ids.length) u, Below w.heap.size w u → Calls Try.prog 20 #[.pointer (some ⟨b, 0, none⟩), .int .i64 ids[q]] u fun e w' => e = .returned (.string (B (shN L f ids[q].toNat))) ∧ Below u.heap.size u w') := Lib.hid (fun q hq u hu => by
    have hl := hgood.low ids[q] (List.getElem_mem hq)
    simp only [List.length_append] at hfew
    have h1 := kids_few (L := L) (f := f) ids (q + 1)
    rw [kids_snoc hq, List.length_append] at h1
    have h := ih ids[q].toNat (by omega) u b f D L (by omega) (hp.below hu) hL hsm (by omega) (by omega)
    rw [Int.toNat_of_nonneg hl.1] at h
    exact h)
  obtain ⟨lk, hlk⟩ : ∃ x, leafK k = x := ⟨_, rfl⟩
  have HLF : Hid (∀ w, Calls Try.prog 44 #[.int .i64 k] w fun e w' => e = .returned (.bool lk) ∧ w = w') := Lib.hid (fun w => by rw [← hlk]; exact leaf_any k w)
  have HDK : Hid (∀ u, Below w.heap.size w u → Calls Try.prog 47 #[.int .i64 k] u fun e w' => e = .returned (.string (B (digI k))) ∧ Below w.heap.size w w' ∧ Below u.heap.size u w') := Lib.hid (fun u hu => (digits_any k u hgood.k64.2).mono fun e w' ⟨h1, h2⟩ => ⟨h1, hu.trans (h2.mono hu.size), h2⟩)
  have HDJ : Hid (∀ u, Below w.heap.size w u → Calls Try.prog 47 #[.int .i64 (sx.size : Int)] u fun e w' => e = .returned (.string (B (digI (sx.size : Int)))) ∧ Below w.heap.size w w' ∧ Below u.heap.size u w') := Lib.hid (fun u hu => (digits_any _ u (by omega)).mono fun e w' ⟨h1, h2⟩ => ⟨h1, hu.trans (h2.mono hu.size), h2⟩)
  have hdk := digI_few hgood.k64
  have hdj := digI_few (z := (sx.size : Int)) (by unfold In64; omega)
  have hlow : ∀ (q : Nat) (hq : q < ids.length), 0 ≤ ids[q] ∧ ids[q] < (id : Int) := fun q hq => hgood.low _ (List.getElem_mem hq)
  have hcap := hgood.kids
  rw [hlk] at hfew ⊢
  have hsx : B sx.data.toList = sx := by unfold B; simp
  have hsl : sx.data.toList.length = sx.size := sdata sx
  obtain ⟨S, hS⟩ : ∃ x, sx.data.toList = x := ⟨_, rfl⟩
  obtain ⟨DK, hDK⟩ : ∃ x, digI k = x := ⟨_, rfl⟩
  obtain ⟨DJ, hDJ⟩ : ∃ x, digI (sx.size : Int) = x := ⟨_, rfl⟩
  obtain ⟨L1, hL1⟩ : ∃ x, [40] ++ DK = x := ⟨_, rfl⟩
  obtain ⟨L2, hL2⟩ : ∃ x, [58] ++ DJ = x := ⟨_, rfl⟩
  obtain ⟨L3, hL3⟩ : ∃ x, L2 ++ [58] = x := ⟨_, rfl⟩
  obtain ⟨L4, hL4⟩ : ∃ x, L3 ++ S = x := ⟨_, rfl⟩
  obtain ⟨P, hP⟩ : ∃ x, L1 ++ (if lk = true then L4 else []) = x := ⟨_, rfl⟩
  obtain ⟨T, hT'⟩ : ∃ x, P ++ (ids.flatMap fun x => shN L f x.toNat) ++ [41] = x := ⟨_, rfl⟩
  rw [hS] at hsx hsl hfew ⊢
  rw [hDK] at HDK hdk hfew ⊢
  rw [hDJ] at HDJ hdj hfew ⊢
  rw [hL1, hL2, hL3, hL4, hP, hT'] at hfew ⊢
  have hcat1 : Op.stringOp .add ⟨#[40]⟩ (B DK) = pure (.string (B L1)) := by rw [← hL1]; exact cat_eq (x := [40]) (y := DK) (by simp; omega)
  have hcat2 : Op.stringOp .add ⟨#[58]⟩ (B DJ) = pure (.string (B L2)) := by rw [← hL2]; exact cat_eq (x := [58]) (y := DJ) (by simp; omega)
  have hl1 : L1.length ≤ 20 := by rw [← hL1]; simp; omega
  have hl2 : L2.length ≤ 20 := by rw [← hL2]; simp; omega
  have hcat3 : Op.stringOp .add (B L2) ⟨#[58]⟩ = pure (.string (B L3)) := by rw [← hL3]; exact cat_eq (x := L2) (y := [58]) (by simp; omega)
  have hl3 : L3.length ≤ 21 := by rw [← hL3]; simp; omega
  have hcat4 : Op.stringOp .add (B L3) sx = pure (.string (B L4)) := by
    rw [← hL4, ← hsx]
    exact cat_eq (x := L3) (y := S) (by omega)
  have hl4 : L4.length ≤ 140737488355328 + 21 := by rw [← hL4, List.length_append]; omega
  have hcat5 : Op.stringOp .add (B L1) (B L4) = pure (.string (B (L1 ++ L4))) := cat_eq (by omega)
  have hTl : P.length + (ids.flatMap fun x => shN L f x.toNat).length + 1 = T.length := by rw [← hT', List.length_append, List.length_append, List.length_singleton]
  have hcatT : Op.stringOp .add (B (P ++ (ids.flatMap fun x => shN L f x.toNat))) ⟨#[41]⟩ = pure (.string (B T)) := by
    rw [← hT']
    exact cat_eq (x := P ++ (ids.flatMap fun x => shN L f x.toNat)) (y := [41]) (by rw [List.length_append, List.length_singleton]; omega)
  have hloop : ∀ (q : Nat) (hq : q < ids.length), Op.stringOp .add (B (P ++ ((ids.take q).flatMap fun x => shN L f x.toNat))) (B (shN L f ids[q].toNat)) = pure (.string (B (P ++ ((ids.take (q + 1)).flatMap fun x => shN L f x.toNat)))) := fun q hq => by
    have h1 := kids_few (L := L) (f := f) ids (q + 1)
    rw [kids_snoc hq, ← List.append_assoc]
    refine cat_eq ?_
    rw [kids_snoc hq, List.length_append] at h1
    rw [List.length_append]
    omega
  have HPL := Lib.hid hP
  have HLOOP := Lib.hid hloop
  have HCT := Lib.hid hcatT
  have HLOW := Lib.hid hlow
  obtain ⟨len, hlen⟩ : ∃ len, ids.length = len := ⟨_, rfl⟩
  have HLN := Lib.hid (And.intro hlen hcap)
  rw [hlen] at HKS
  have HF0 := Lib.hid (Below.refl w.heap.size w)
  clear hp hL hsm hf hfew hg hge hgood hgsz h0 hlk hdk hdj hlow hcap hsx hsl hS hDK hDJ hL1 hL2 hL3 hL4 hP hT' hl1 hl2 hl3 hl4 hTl hcatT hloop hlen ih
  by_cases hlk : lk = true
  case neg =>
    have hlk' : lk = false := by cases lk with | true => exact absurd rfl hlk | false => rfl
    subst hlk'
    have hPP : L1 = P := by have := HPL.out; simpa using this
    subst hPP
    clear hcat2 hcat3 hcat4 hcat5 hlk HPL
    go_enter Try.func20, Try.ntmps20
    go_wp2_with (first
      | (go_at_call 25; (with_reducible refine (HKD.out _ HF0.out).mono ?_); rintro e w1 ⟨rfl, hb1⟩; have HB1 := Lib.hid hb1; clear hb1)
      | (go_at_call 28; (with_reducible refine (HTX.out _ HB1.out).mono ?_); rintro e w2 ⟨rfl, hb2⟩; have HB2 := Lib.hid hb2; clear hb2)
      | (go_at_call 27; (with_reducible refine (HKS.out _ HB2.out).mono ?_); rintro e w3 ⟨g, off, ov, cap, rfl, hb3, hcp, hov, hcl⟩; have HB3 := Lib.hid (And.intro hb3 (And.intro hcp (And.intro hov hcl))); clear hb3 hcp hov hcl)
      | (go_at_call 47; (with_reducible refine (HDK.out _ HB3.out.1).mono ?_); rintro e w4 ⟨rfl, hb4⟩; have HB4 := Lib.hid hb4; clear hb4)
      | (go_at_call 44; refine (HLF.out _).mono ?_; rintro e w' ⟨rfl, rfl⟩)
      | (go_at_call 47; (with_reducible refine (HDJ.out _ (by first | exact HB4.out.1 | exact HB4.out)).mono ?_); rintro e w5 ⟨rfl, hb5⟩; have HB5 := Lib.hid hb5; clear hb5))
    have hb34 := HB4.out.2
    have HBE : Hid (Below w.heap.size w w4) := Lib.hid HB4.out.1
    have HR : Hid (len ≤ cap ∧ (ids ≠ [] → ov = some ⟨g, off, none⟩ ∧ g < w4.heap.size) ∧ Cells it w4 g off ids) := Lib.hid ⟨HB3.out.2.1, fun e => ⟨(HB3.out.2.2.1 e).1, Nat.lt_of_lt_of_le (HB3.out.2.2.1 e).2 hb34.size⟩, fun j u hu => (hb34.cell (HB3.out.2.2.1 (by rintro rfl; simp [flat] at hu)).2).trans (HB3.out.2.2.2 j u hu)⟩
    clear hb34
    go_loopw [48, 11] (fun p a wr => ∃ q : Nat, q ≤ len ∧ p = .int .i64 (q : Int) ∧ a = .string (B (L1 ++ ((ids.take q).flatMap fun x => shN L f x.toNat))) ∧ Below w4.heap.size w4 wr) (fun p _ _ => len - (intOf p).toNat)
    case atStart => exact ⟨0, Nat.zero_le _, rfl, by rw [List.take_zero, List.flatMap_nil, List.append_nil], Below.refl _ _⟩
    case round =>
      obtain ⟨q, hql, rfl, rfl, hb⟩ := hrel
      have hbw : Below w.heap.size w wr := HBE.out.trans (hb.mono HBE.out.size)
      by_cases hlt : q < len
      · have hil : q < ids.length := by rw [HLN.out.1]; exact hlt
        have hcp := HR.out.1
        have hlL := HLN.out.2
        have hlen := HLN.out.1
        obtain ⟨rfl, hg⟩ := HR.out.2.1 (by intro e; rw [e] at hil; simp at hil)
        have a0 := cells_it HR.out.2.2 q hil
        have c0 := (hb.cell (p := ⟨g, off + q, none⟩) hg).trans a0
        have hgw : g < wr.heap.size := Nat.lt_of_lt_of_le hg hb.size
        obtain ⟨hk0, hk1⟩ := HLOW.out q hil
        have hcq := HLOOP.out q hil
        have HCALL : Hid (Calls Try.prog 20 #[.pointer (some ⟨b, 0, none⟩), .int .i64 ids[q]] wr fun e w' => e = .returned (.string (B (shN L f ids[q].toNat))) ∧ Below wr.heap.size wr w') := Lib.hid (HIH.out q hil wr hbw)
        obtain ⟨x, hx⟩ : ∃ x, ids[q] = x := ⟨_, rfl⟩
        rw [hx] at c0 hk0 hk1 hcq HCALL
        obtain ⟨K, hK⟩ : ∃ K, shN L f x.toNat = K := ⟨_, rfl⟩
        obtain ⟨Q, hQ⟩ : ∃ Q, L1 ++ ((ids.take q).flatMap fun x => shN L f x.toNat) = Q := ⟨_, rfl⟩
        obtain ⟨QK, hQK⟩ : ∃ Q, L1 ++ ((ids.take (q + 1)).flatMap fun x => shN L f x.toNat) = Q := ⟨_, rfl⟩
        rw [hK] at hcq HCALL
        rw [hQ, hQK] at hcq
        rw [hQ]
        have HQK := Lib.hid hQK
        have hd0 : decide (x < 0) = false := decide_eq_false (by omega)
        have hd1 : decide (x < (id : Int)) = true := decide_eq_true (by omega)
        have hd2 : decide ((id : Int) ≤ x) = false := decide_eq_false (by omega)
        have hq0 : (0 : Int) ≤ (q : Int) := by omega
        have hww : (q : Int) + 1 ≤ 2932031007318 := by omega
        have hd : decide ((q : Int) < (len : Int)) = true := decide_eq_true (by omega)
        have hd' : decide (q < len) = true := decide_eq_true hlt
        have HB := Lib.hid hb
        clear a0 hb hbw hx hK hQ hQK hg hlL hcp hlen hk0 hk1
        go_wp2_with (go_at_call 20; (with_reducible refine (HCALL.out).mono ?_); rintro e w9 ⟨rfl, hb9⟩; have HB9 := Lib.hid (HB.out.trans (hb9.mono HB.out.size)); clear hb9)
        go_roundw
        case rel => exact ⟨q + 1, by omega, by go_num, by rw [HQK.out], HB9.out⟩
        case measure => simp [intOf]; omega
      · obtain rfl : q = len := by omega
        have hd : decide ((q : Int) < (q : Int)) = false := decide_eq_false (by omega)
        rw [List.take_of_length_le (by rw [HLN.out.1]; exact Nat.le_refl _)]
        have hcq := HCT.out
        obtain ⟨Q, hQ⟩ : ∃ Q, L1 ++ (ids.flatMap fun x => shN L f x.toNat) = Q := ⟨_, rfl⟩
        rw [hQ] at hcq ⊢
        have HE := Lib.hid hbw
        clear hb hbw hQ
        go_wp2_with fail
        go_ret
        exact ⟨rfl, HE.out⟩
  case pos =>
    subst hlk
    have hPP : L1 ++ L4 = P := by have := HPL.out; simpa using this
    rw [hPP] at hcat5
    clear hPP HPL
    go_enter Try.func20, Try.ntmps20
    go_wp2_with (first
      | (go_at_call 25; (with_reducible refine (HKD.out _ HF0.out).mono ?_); rintro e w1 ⟨rfl, hb1⟩; have HB1 := Lib.hid hb1; clear hb1)
      | (go_at_call 28; (with_reducible refine (HTX.out _ HB1.out).mono ?_); rintro e w2 ⟨rfl, hb2⟩; have HB2 := Lib.hid hb2; clear hb2)
      | (go_at_call 27; (with_reducible refine (HKS.out _ HB2.out).mono ?_); rintro e w3 ⟨g, off, ov, cap, rfl, hb3, hcp, hov, hcl⟩; have HB3 := Lib.hid (And.intro hb3 (And.intro hcp (And.intro hov hcl))); clear hb3 hcp hov hcl)
      | (go_at_call 47; (with_reducible refine (HDK.out _ HB3.out.1).mono ?_); rintro e w4 ⟨rfl, hb4⟩; have HB4 := Lib.hid hb4; clear hb4)
      | (go_at_call 44; refine (HLF.out _).mono ?_; rintro e w' ⟨rfl, rfl⟩)
      | (go_at_call 47; (with_reducible refine (HDJ.out _ (by first | exact HB4.out.1 | exact HB4.out)).mono ?_); rintro e w5 ⟨rfl, hb5⟩; have HB5 := Lib.hid hb5; clear hb5))
    have hb34 := HB4.out.2.trans (HB5.out.2.mono HB4.out.2.size)
    have HBE : Hid (Below w.heap.size w w5) := Lib.hid HB5.out.1
    have HR : Hid (len ≤ cap ∧ (ids ≠ [] → ov = some ⟨g, off, none⟩ ∧ g < w5.heap.size) ∧ Cells it w5 g off ids) := Lib.hid ⟨HB3.out.2.1, fun e => ⟨(HB3.out.2.2.1 e).1, Nat.lt_of_lt_of_le (HB3.out.2.2.1 e).2 hb34.size⟩, fun j u hu => (hb34.cell (HB3.out.2.2.1 (by rintro rfl; simp [flat] at hu)).2).trans (HB3.out.2.2.2 j u hu)⟩
    clear hb34
    go_loopw [48, 11] (fun p a wr => ∃ q : Nat, q ≤ len ∧ p = .int .i64 (q : Int) ∧ a = .string (B (P ++ ((ids.take q).flatMap fun x => shN L f x.toNat))) ∧ Below w5.heap.size w5 wr) (fun p _ _ => len - (intOf p).toNat)
    case atStart => exact ⟨0, Nat.zero_le _, rfl, by rw [List.take_zero, List.flatMap_nil, List.append_nil], Below.refl _ _⟩
    case round =>
      obtain ⟨q, hql, rfl, rfl, hb⟩ := hrel
      have hbw : Below w.heap.size w wr := HBE.out.trans (hb.mono HBE.out.size)
      by_cases hlt : q < len
      · have hil : q < ids.length := by rw [HLN.out.1]; exact hlt
        have hcp := HR.out.1
        have hlL := HLN.out.2
        have hlen := HLN.out.1
        obtain ⟨rfl, hg⟩ := HR.out.2.1 (by intro e; rw [e] at hil; simp at hil)
        have a0 := cells_it HR.out.2.2 q hil
        have c0 := (hb.cell (p := ⟨g, off + q, none⟩) hg).trans a0
        have hgw : g < wr.heap.size := Nat.lt_of_lt_of_le hg hb.size
        obtain ⟨hk0, hk1⟩ := HLOW.out q hil
        have hcq := HLOOP.out q hil
        have HCALL : Hid (Calls Try.prog 20 #[.pointer (some ⟨b, 0, none⟩), .int .i64 ids[q]] wr fun e w' => e = .returned (.string (B (shN L f ids[q].toNat))) ∧ Below wr.heap.size wr w') := Lib.hid (HIH.out q hil wr hbw)
        obtain ⟨x, hx⟩ : ∃ x, ids[q] = x := ⟨_, rfl⟩
        rw [hx] at c0 hk0 hk1 hcq HCALL
        obtain ⟨K, hK⟩ : ∃ K, shN L f x.toNat = K := ⟨_, rfl⟩
        obtain ⟨Q, hQ⟩ : ∃ Q, P ++ ((ids.take q).flatMap fun x => shN L f x.toNat) = Q := ⟨_, rfl⟩
        obtain ⟨QK, hQK⟩ : ∃ Q, P ++ ((ids.take (q + 1)).flatMap fun x => shN L f x.toNat) = Q := ⟨_, rfl⟩
        rw [hK] at hcq HCALL
        rw [hQ, hQK] at hcq
        rw [hQ]
        have HQK := Lib.hid hQK
        have hd0 : decide (x < 0) = false := decide_eq_false (by omega)
        have hd1 : decide (x < (id : Int)) = true := decide_eq_true (by omega)
        have hd2 : decide ((id : Int) ≤ x) = false := decide_eq_false (by omega)
        have hq0 : (0 : Int) ≤ (q : Int) := by omega
        have hww : (q : Int) + 1 ≤ 2932031007318 := by omega
        have hd : decide ((q : Int) < (len : Int)) = true := decide_eq_true (by omega)
        have hd' : decide (q < len) = true := decide_eq_true hlt
        have HB := Lib.hid hb
        clear a0 hb hbw hx hK hQ hQK hg hlL hcp hlen hk0 hk1
        go_wp2_with (go_at_call 20; (with_reducible refine (HCALL.out).mono ?_); rintro e w9 ⟨rfl, hb9⟩; have HB9 := Lib.hid (HB.out.trans (hb9.mono HB.out.size)); clear hb9)
        go_roundw
        case rel => exact ⟨q + 1, by omega, by go_num, by rw [HQK.out], HB9.out⟩
        case measure => simp [intOf]; omega
      · obtain rfl : q = len := by omega
        have hd : decide ((q : Int) < (q : Int)) = false := decide_eq_false (by omega)
        rw [List.take_of_length_le (by rw [HLN.out.1]; exact Nat.le_refl _)]
        have hcq := HCT.out
        obtain ⟨Q, hQ⟩ : ∃ Q, P ++ (ids.flatMap fun x => shN L f x.toNat) = Q := ⟨_, rfl⟩
        rw [hQ] at hcq ⊢
        have HE := Lib.hid hbw
        clear hb hbw hQ
        go_wp2_with fail
        go_ret
        exact ⟨rfl, HE.out⟩
theorem glike_any (id : Nat) : LikeC id := by
  induction id using Nat.strongRecOn with
  | _ id ih => exact like_step id ih
end Go.Proofs.Ytnnffcfdokejbaa.rd
namespace Go.Proofs.Ytnnffcfdokejbaa.rd
open Go.RowKit

theorem catlen_snoc {L : List Gr} {l : List Int} {q : Nat} (h : q < l.length) {g : Gr} (hg : L[l[q].toNat]? = some g) : (cat L (l.take (q + 1))).length = (cat L (l.take q)).length + g.s.size := by
  rw [List.take_add_one, List.getElem?_eq_getElem h, cat_append, List.length_append]
  show _ + (cat L [l[q]]).length = _
  unfold cat
  simp [hg]
theorem cat_few (L : List Gr) (l : List Int) (q : Nat) : (cat L (l.take q)).length ≤ (cat L l).length := by
  have : cat L l = cat L (l.take q) ++ cat L (l.drop q) := by rw [← cat_append, List.take_append_drop]
  rw [this, List.length_append]
  exact Nat.le_add_right _ _
theorem nodeT_i {L : List Gr} {id f : Nat} (h : id < L.length) (hf : id < f) (a : Int) : (nodeT L f id a).i = a := by
  obtain ⟨f, rfl⟩ : ∃ g, f = g + 1 := ⟨f - 1, by omega⟩
  rw [nodeT, List.getElem?_eq_getElem h]
  rfl
/-- What told is held to. -/
def ToldC (id : Nat) : Prop := ∀ (w : World) (b f : Nat) (D : Nat → Prop) (L : List Gr) (a : Int) (n : Rn) (hid : id < L.length), Pl w b D L → GoodL L → L[id].s.size ≤ 140737488355328 → id < f → 0 ≤ a → a + (L[id].s.size : Int) ≤ 281474976710656 → Hid (TieB w (nodeT L f id a) n) → Calls Try.prog 30 #[.pointer (some ⟨b, 0, none⟩), .int .i64 (id : Int), n.v] w fun e w' => e = .returned (.bool true) ∧ Below w.heap.size w w'
set_option maxRecDepth 100000 in
set_option maxHeartbeats 4000000 in
theorem told_step (id : Nat) (ih : ∀ x, x < id → ToldC x) : ToldC id := by
  intro w b f D L a n hid hp hL hgsz hf ha haz ht
  obtain ⟨f, rfl⟩ : ∃ g, f = g + 1 := ⟨f - 1, by omega⟩
  obtain ⟨g, hg⟩ : ∃ g, L[id] = g := ⟨_, rfl⟩
  have hgood := hL.all id hid
  rw [hg] at hgood hgsz haz
  have hge : L[id]? = some g := List.getElem?_eq_some_iff.2 ⟨hid, hg⟩
  obtain ⟨k, sx, ids⟩ := g
  have hgsz : sx.size ≤ 140737488355328 := hgsz
  have haz : a + (sx.size : Int) ≤ 281474976710656 := haz
  have h0 : nodeT L (f + 1) id a = .mk k a (a + (sx.size : Int)) (kidsT L (nodeT L f) ids a) := by rw [nodeT, hge]
  rw [h0] at ht
  obtain ⟨o, c, g0, off0, R, rfl, hc0, hl0, hlR, ho0, HC, HT⟩ := TieB.out ht
  have hkl : (kidsT L (nodeT L f) ids a).length = ids.length := kidsT_len _ _ _ _
  rw [hkl] at hc0 hlR
  have hcat : (cat L ids).length ≤ sx.size ∧ (ids ≠ [] → (cat L ids).length = sx.size) := by
    have hn : ids ≠ [] → (cat L ids).length = sx.size := fun hne => by
      cases hlk : leafK k with
      | true => exact absurd (hgood.leaf hlk) hne
      | false =>
        have h1 : sx.data.toList = cat L ids := hgood.node hlk
        rw [← h1]
        exact sdata sx
    refine ⟨?_, hn⟩
    by_cases he : ids = []
    · rw [he]; exact Nat.zero_le _
    · rw [hn he]; exact Nat.le_refl _
  have hlow : ∀ (q : Nat) (hq : q < ids.length), 0 ≤ ids[q] ∧ ids[q] < (id : Int) := fun q hq => hgood.low _ (List.getElem_mem hq)
  have hcap := hgood.kids
  have hkid : ∀ (q : Nat) (hq : q < ids.length) (hqR : q < R.length), ∃ (z : Nat), (z : Int) ≤ 140737488355328 ∧ (cat L (ids.take (q + 1))).length = (cat L (ids.take q)).length + z ∧ R[q].i = a + ((cat L (ids.take q)).length : Int) ∧ (cat L (ids.take (q + 1))).length ≤ sx.size ∧ ∀ u, Below w.heap.size w u → Calls Try.prog 26 #[.pointer (some ⟨b, 0, none⟩), .int .i64 ids[q]] u (fun e w' => e = .returned (.tuple #[.int .i64 (z : Int), .int .i64 0]) ∧ Below u.heap.size u w') ∧ Calls Try.prog 30 #[.pointer (some ⟨b, 0, none⟩), .int .i64 ids[q], R[q].v] u (fun e w' => e = .returned (.bool true) ∧ Below u.heap.size u w') := fun q hq hqR => by
    obtain ⟨x0, x1⟩ := hlow q hq
    have hxl : ids[q].toNat < L.length := by omega
    have hsn := catlen_snoc hq (List.getElem?_eq_getElem hxl)
    have hfw := cat_few L ids (q + 1)
    have hq' : q < (kidsT L (nodeT L f) ids a).length := by rw [hkl]; exact hq
    have hkg := kidsT_get L (nodeT L f) ids a q hq
    have hc1 := hcat.1
    have hz : L[ids[q].toNat].s.size ≤ 140737488355328 := by omega
    have hTq : ∀ u, Below w.heap.size w u → Hid (TieB u (nodeT L f ids[q].toNat (a + ((cat L (ids.take q)).length : Int))) R[q]) := fun u hu => by
      have h := HT.out u hu q hq' hqR
      rw [hkg] at h
      exact h
    refine ⟨_, by omega, hsn, ?_, by omega, fun u hu => ⟨?_, ?_⟩⟩
    · obtain ⟨D1, hD1, _⟩ := (hTq w (Below.refl _ _)).out
      rw [hD1.i]
      exact nodeT_i hxl (by omega) _
    · obtain ⟨m, vN, h1, _⟩ := hp.below hu
      have h := width_any h1 ids[q].toNat hxl
      rw [Int.toNat_of_nonneg x0] at h
      exact h
    · have h := ih ids[q].toNat (by omega) u b f D L _ R[q] hxl (hp.below hu) hL hz (by omega) (by omega) (by omega) (hTq u hu)
      rw [Int.toNat_of_nonneg x0] at h
      exact h
  have HKD : Hid (∀ u, Below w.heap.size w u → Calls Try.prog 25 #[.pointer (some ⟨b, 0, none⟩), .int .i64 (id : Int)] u fun e w' => e = .returned (.tuple #[.int .i64 k, .int .i64 0]) ∧ Below u.heap.size u w') := Lib.hid (fun u hu => by
    obtain ⟨m, vN, h1, _⟩ := hp.below hu
    have h := kind_any h1 id hid
    rw [hg] at h
    exact h)
  have HWD : Hid (∀ u, Below w.heap.size w u → Calls Try.prog 26 #[.pointer (some ⟨b, 0, none⟩), .int .i64 (id : Int)] u fun e w' => e = .returned (.tuple #[.int .i64 (sx.size : Int), .int .i64 0]) ∧ Below u.heap.size u w') := Lib.hid (fun u hu => by
    obtain ⟨m, vN, h1, _⟩ := hp.below hu
    have h := width_any h1 id hid
    rw [hg] at h
    exact h)
  obtain ⟨len, hlen⟩ : ∃ len, ids.length = len := ⟨_, rfl⟩
  have HKS : Hid (∀ u, Below w.heap.size w u → Calls Try.prog 27 #[.pointer (some ⟨b, 0, none⟩), .int .i64 (id : Int)] u fun e w' => ∃ (g off : Nat) (ov : Option Addr) (cap : Nat), e = .returned (.tuple #[.slice ov len cap, .int .i64 0]) ∧ Below u.heap.size u w' ∧ len ≤ cap ∧ (ids ≠ [] → ov = some ⟨g, off, none⟩ ∧ g < w'.heap.size) ∧ Cells it w' g off ids) := Lib.hid (fun u hu => by
    obtain ⟨m, vN, h1, _⟩ := hp.below hu
    have h := kids_any h1 id hid
    rw [hg] at h
    rw [← hlen]
    exact h.mono fun e w' ⟨v, h1, h2, h3⟩ => by
      obtain ⟨g, off, ov, cap, hc, rfl, ho, hcl⟩ := h3.row.lt
      exact ⟨g, off, ov, cap, h1, h2, hc, ho, hcl⟩)
  obtain ⟨W1, hW1⟩ : ∃ W1, w.alloc (.cells #[.int .i64 k, .int .i64 a, .int .i64 (a + (sx.size : Int)), .slice o len c] 24) = W1 := ⟨_, rfl⟩
  have hb1 : Below w.heap.size w W1 := by rw [← hW1]; exact (Below.refl _ _).alloc (Nat.le_refl _) _
  have hbx : Box W1 w.heap.size ⟨k, a, a + (sx.size : Int), o, len, c⟩ := by rw [← hW1]; exact heap_alloc_last _ _
  obtain ⟨X, hX⟩ : ∃ X, w.heap.size = X := ⟨_, rfl⟩
  rw [hX] at hbx
  have HB1 := Lib.hid (And.intro hb1 hbx)
  have HK := Lib.hid hkid
  have HCAT := Lib.hid hcat
  have HO := Lib.hid (And.intro ho0 (And.intro hlR hkl))
  have HLN := Lib.hid (And.intro hlen hcap)
  have hsub : a + (sx.size : Int) - a = (sx.size : Int) := by omega
  have hsz0 : (0 : Int) ≤ (sx.size : Int) := by omega
  show Calls Try.prog 30 #[.pointer (some ⟨b, 0, none⟩), .int .i64 (id : Int), .agg #[.int .i64 k, .int .i64 a, .int .i64 (a + (sx.size : Int)), .slice o (kidsT L (nodeT L f) ids a).length c]] w _
  rw [hkl, hlen]
  obtain ⟨sz, hsz⟩ : ∃ sz : Int, (sx.size : Int) = sz := ⟨_, rfl⟩
  rw [hsz] at HB1 HWD hW1 hsub hsz0 haz ⊢
  have hsz1 : sz ≤ 140737488355328 := by omega
  have HSZ := Lib.hid hsz
  have HKC : Hid (len ≤ c) := Lib.hid (by rw [← hlen]; exact hc0)
  clear hp hL hgsz hf hg hge hgood h0 ht hc0 hl0 hlR ho0 hkl hcat hlow hcap hkid hlen hb1 hbx ih hsz
  go_enter Try.func30, Try.ntmps30
  go_wp2_with (first
    | (go_at_call 25; (with_reducible refine (HKD.out _ HB1.out.1).mono ?_); rintro e w2 ⟨rfl, hb2⟩; have HB2 := Lib.hid (And.intro (HB1.out.1.trans (hb2.mono HB1.out.1.size)) (HB1.out.2.below hb2)); clear hb2)
    | (go_at_call 26; (with_reducible refine (HWD.out _ HB2.out.1).mono ?_); rintro e w3 ⟨rfl, hb3⟩; have HB3 := Lib.hid (And.intro (HB2.out.1.trans (hb3.mono HB2.out.1.size)) (HB2.out.2.below hb3)); clear hb3)
    | (go_at_call 27; (with_reducible refine (HKS.out _ HB3.out.1).mono ?_); rintro e w4 ⟨g, off, ov, cap, rfl, hb4, hcp, hov, hcl⟩; have HB4 := Lib.hid (And.intro (HB3.out.1.trans (hb4.mono HB3.out.1.size)) (HB3.out.2.below hb4)); have HR := Lib.hid (And.intro hcp (And.intro hov hcl)); obtain ⟨⟨x0, x1, x2, x3⟩, xz⟩ := HB4.out.2.cells; clear hb4 hcp hov hcl))
  clear x0 x1 x2 x3 xz
  go_loopw [62, 13, 14] (fun p at' al wr => ∃ q : Nat, q ≤ len ∧ p = .int .i64 (q : Int) ∧ at' = .int .i64 (a + ((cat L (ids.take q)).length : Int)) ∧ al = .int .i64 ((cat L (ids.take q)).length : Int) ∧ Below w4.heap.size w4 wr) (fun p _ _ _ => len - (intOf p).toNat)
  case atStart =>
    have h00 : (cat L (ids.take 0)).length = 0 := by rw [List.take_zero]; rfl
    exact ⟨0, Nat.zero_le _, rfl, by rw [h00]; exact congrArg (Value.int .i64) (by omega), by rw [h00]; rfl, Below.refl _ _⟩
  case round =>
    obtain ⟨q, hql, rfl, rfl, rfl, hb⟩ := hrel
    have hbw : Below w.heap.size w wr := HB4.out.1.trans (hb.mono HB4.out.1.size)
    have hxb := HB4.out.2.below hb
    by_cases hlt : q < len
    · have hil : q < ids.length := by rw [HLN.out.1]; exact hlt
      have hiR : q < R.length := by rw [HO.out.2.1]; exact hil
      have hne : ids ≠ [] := by intro e; rw [e] at hil; simp at hil
      have hcp := HR.out.1
      have hlL := HLN.out.2
      have hlen := HLN.out.1
      obtain ⟨rfl, hg⟩ := HR.out.2.1 hne
      obtain ⟨rfl, hg0⟩ := HO.out.1 (by intro e; have h := HO.out.2.2; rw [e] at h; simp only [List.length_nil] at h; omega)
      have a0 := cells_it HR.out.2.2 q hil
      have c0 := (hb.cell (p := ⟨g, off + q, none⟩) hg).trans a0
      have hgw : g < wr.heap.size := Nat.lt_of_lt_of_le hg hb.size
      obtain ⟨e0, e1, e2, e3⟩ := cells_nd HC.out q hiR
      have d0 := (hbw.cell (p := ⟨g0, off0 + q * 4, none⟩) hg0).trans e0
      have d1 := (hbw.cell (p := ⟨g0, off0 + q * 4 + 1, none⟩) hg0).trans e1
      have d2 := (hbw.cell (p := ⟨g0, off0 + q * 4 + 2, none⟩) hg0).trans e2
      have d3 := (hbw.cell (p := ⟨g0, off0 + q * 4 + 3, none⟩) hg0).trans e3
      have hgw0 : g0 < wr.heap.size := Nat.lt_of_lt_of_le hg0 hbw.size
      obtain ⟨z, hz0, hsn, hri, hfew, hcall⟩ := HK.out q hil hiR
      obtain ⟨mm, hmm⟩ : ∃ m, (cat L (ids.take q)).length = m := ⟨_, rfl⟩
      rw [hmm] at hsn hri ⊢
      obtain ⟨x, hx⟩ : ∃ x, ids[q] = x := ⟨_, rfl⟩
      rw [hx] at c0 hcall
      obtain ⟨⟨rk, ri, rj, ro, rn, rc⟩, hr⟩ : ∃ r, R[q] = r := ⟨_, rfl⟩
      rw [hr] at d0 d1 d2 d3 hri hcall
      simp only [] at d0 d1 d2 d3 hri
      subst hri
      have hsz' : ((cat L (ids.take (q + 1))).length : Int) ≤ sz := by have := HSZ.out; omega
      have hm0 : (0 : Int) ≤ (mm : Int) ∧ (mm : Int) + (z : Int) ≤ 140737488355328 := by omega
      have hz1 : (0 : Int) ≤ (z : Int) := by omega
      have HWI : Hid (∀ u, Below wr.heap.size wr u → Calls Try.prog 26 #[.pointer (some ⟨b, 0, none⟩), .int .i64 x] u fun e w' => e = .returned (.tuple #[.int .i64 (z : Int), .int .i64 0]) ∧ Below u.heap.size u w') := Lib.hid (fun u hu => (hcall u (hbw.trans (hu.mono hbw.size))).1)
      have HTO : Hid (∀ u, Below wr.heap.size wr u → Calls Try.prog 30 #[.pointer (some ⟨b, 0, none⟩), .int .i64 x, .agg #[.int .i64 rk, .int .i64 (a + (mm : Int)), .int .i64 rj, .slice ro rn rc]] u fun e w' => e = .returned (.bool true) ∧ Below u.heap.size u w') := Lib.hid (fun u hu => (hcall u (hbw.trans (hu.mono hbw.size))).2)
      have hq0 : (0 : Int) ≤ (q : Int) := by omega
      have hww : (q : Int) + 1 ≤ 2932031007318 := by omega
      have hd : decide ((q : Int) < (len : Int)) = true := decide_eq_true (by omega)
      have hd' : decide (q < len) = true := decide_eq_true hlt
      have HB0 := Lib.hid (And.intro hb (And.intro (Below.refl wr.heap.size wr) hxb))
      have HX : Hid (∀ u, Below wr.heap.size wr u → (u.cell? ⟨g0, off0 + q * 4, none⟩ = some (.int .i64 rk) ∧ u.cell? ⟨g0, off0 + q * 4 + 1, none⟩ = some (.int .i64 (a + (mm : Int))) ∧ u.cell? ⟨g0, off0 + q * 4 + 2, none⟩ = some (.int .i64 rj) ∧ u.cell? ⟨g0, off0 + q * 4 + 3, none⟩ = some (.slice ro rn rc)) ∧ g0 < u.heap.size) := Lib.hid (fun u hu => ⟨⟨(hu.cell (p := ⟨g0, off0 + q * 4, none⟩) hgw0).trans d0, (hu.cell (p := ⟨g0, off0 + q * 4 + 1, none⟩) hgw0).trans d1, (hu.cell (p := ⟨g0, off0 + q * 4 + 2, none⟩) hgw0).trans d2, (hu.cell (p := ⟨g0, off0 + q * 4 + 3, none⟩) hgw0).trans d3⟩, Nat.lt_of_lt_of_le hgw0 hu.size⟩)
      have HSN := Lib.hid hsn
      have hhc : len ≤ c := by have := HKC.out; omega
      clear a0 e0 e1 e2 e3 d0 d1 d2 d3 hb hbw hxb hx hr hg hg0 hgw0 hlL hlen hcall hsn hmm hfew hsz' hz0 hne
      go_wp2_with (first
        | (go_at_call 26; (with_reducible refine (HWI.out _ HB0.out.2.1).mono ?_); rintro e w5 ⟨rfl, hb5⟩; obtain ⟨⟨x0, x1, x2, x3⟩, xz⟩ := (HB0.out.2.2.below hb5).cells; obtain ⟨⟨y0, y1, y2, y3⟩, yz⟩ := HX.out _ hb5; have HB5 := Lib.hid hb5; clear hb5)
        | (go_at_call 30; (with_reducible refine (HTO.out _ HB5.out).mono ?_); rintro e w6 ⟨rfl, hb6⟩; have HB6 := Lib.hid (HB0.out.1.trans ((HB5.out.trans (hb6.mono HB5.out.size)).mono HB0.out.1.size)); clear hb6))
      go_roundw
      case rel => exact ⟨q + 1, by omega, by go_num, by rw [HSN.out]; exact congrArg (Value.int .i64) (by omega), by rw [HSN.out]; exact congrArg (Value.int .i64) (by omega), HB6.out⟩
      case measure => simp [intOf]; omega
    · obtain rfl : q = len := by omega
      have hd : decide ((q : Int) < (q : Int)) = false := decide_eq_false (by omega)
      rw [List.take_of_length_le (by rw [HLN.out.1]; exact Nat.le_refl _)]
      have HE := Lib.hid hbw
      clear hb hbw hxb
      by_cases hq0 : q = 0
      · subst hq0
        go_wp2_with fail
        go_ret
        exact ⟨by simp, HE.out⟩
      · have hall : ((cat L ids).length : Int) = sz := by
          have h1 := HCAT.out.2 (by intro e; have := HLN.out.1; rw [e] at this; simp at this; omega)
          have := HSZ.out
          omega
        rw [hall]
        have hqq : decide ((q : Int) = 0) = false := decide_eq_false (by omega)
        go_wp2_with fail
        go_ret
        exact ⟨by simp, HE.out⟩
theorem told_any (id : Nat) : ToldC id := by
  induction id using Nat.strongRecOn with
  | _ id ih => exact told_step id ih
end Go.Proofs.Ytnnffcfdokejbaa.rd
namespace Go.Proofs.Ytnnffcfdokejbaa.rd
open Go.RowKit

/-- A tree and its text in a box. -/
def TBox (w : World) (X : Nat) (s : ByteArray) (n : Rn) : Prop := w.heap[X]? = some (.cells #[.string s, .int .i64 n.k, .int .i64 n.i, .int .i64 n.j, .slice n.o n.n n.c] 38 (0, 0))
theorem TBox.below {w w' : World} {X : Nat} {s : ByteArray} {n : Rn} (h : TBox w X s n) (hb : Below w.heap.size w w') : TBox w' X s n := (hb.block _ (Array.getElem?_eq_some_iff.1 h).1).trans h
theorem TBox.low {w w' : World} {X B : Nat} {s : ByteArray} {n : Rn} (h : TBox w X s n) (hb : Below B w w') (hX : X < B) : TBox w' X s n := (hb.block _ hX).trans h
theorem TBox.cells {w : World} {X : Nat} {s : ByteArray} {k i j : Int} {o : Option Addr} {n c : Nat} (h : TBox w X s ⟨k, i, j, o, n, c⟩) : (w.cell? ⟨X, 0, none⟩ = some (.string s) ∧ w.cell? ⟨X, 1, none⟩ = some (.int .i64 k) ∧ w.cell? ⟨X, 2, none⟩ = some (.int .i64 i) ∧ w.cell? ⟨X, 3, none⟩ = some (.int .i64 j) ∧ w.cell? ⟨X, 4, none⟩ = some (.slice o n c)) ∧ X < w.heap.size :=
  ⟨⟨by rw [cell_of_row w X 0 _ _ _ h]; rfl, by rw [cell_of_row w X 1 _ _ _ h]; rfl, by rw [cell_of_row w X 2 _ _ _ h]; rfl, by rw [cell_of_row w X 3 _ _ _ h]; rfl, by rw [cell_of_row w X 4 _ _ _ h]; rfl⟩, (Array.getElem?_eq_some_iff.1 h).1⟩
/-- Put, of a tree that fits, into a pool of one's own. -/
theorem PoolC.put_fit {Pl : World → Nat → (Nat → Prop) → List Gr → Prop} (HC : PoolC Pl) {w u : World} {b B : Nat} {D : Nat → Prop} {L : List Gr} {t : Tree} {n : Rn} {s : ByteArray} (ht : Hid (TieB w t n)) (hin : InR t) (hs : s.size ≤ 281474976710656) (hfit : fitT s.size t = true) (hl : (putT s t L).1.length ≤ 4294967296) (hu : Below w.heap.size w u) (hp : Pl u b D L) (hB : w.heap.size ≤ B) (hBu : B ≤ u.heap.size) (hd : ∀ k, D k → B ≤ k) :
    Calls Try.prog 18 #[.pointer (some ⟨b, 0, none⟩), .string s, n.v] u fun e w' => e = .returned (.tuple #[.int .i64 ((putT s t L).2 : Int), .int .i64 0]) ∧ Below B u w' ∧ ∃ D', Pl w' b D' (putT s t L).1 ∧ ∀ k, D' k → B ≤ k := by
  obtain ⟨T0, h3, h4⟩ := ht.out
  have h := HC.put (s := s) hp (Tie.keep (fun k hk => hu.block k (h4 k hk)) (fun _ h => h) _ _ h3) (fun k hk => ⟨Nat.lt_of_lt_of_le (h4 k hk) hu.size, fun e => by have := hd k e; have := h4 k hk; omega⟩) hin hs hl
  rw [hfit] at h
  exact h.mono fun e w' ⟨e1, D', e2, e3, e4⟩ => ⟨e1, e3.low hd hBu, D', e2, fun k hk => (e4 k hk).elim (hd k) (fun e => Nat.le_trans hBu e)⟩

set_option maxRecDepth 100000 in
set_option maxHeartbeats 4000000 in
theorem text_good {Pl : World → Nat → (Nat → Prop) → List Gr → Prop} (HPL : PoolC Pl) (HSH : ShownC) (HCK : ∀ t, CheckC 12 t) (t : Tree) (s : ByteArray) (w : World) (n : Rn) (ht : Hid (TieB w t n)) (hin : InR t) (hs : s.size ≤ 140737488351232) (hb : bulkT t ≤ 1048576) (hfit : fitT s.size t = true) :
    Calls Try.prog 7 #[.agg #[.string s, .int .i64 n.k, .int .i64 n.i, .int .i64 n.j, .slice n.o n.n n.c]] w fun e w' => e = .returned (.bool true) ∧ Below w.heap.size w w' := by
  obtain ⟨k, i, j, l⟩ := t
  obtain ⟨o, c, g0, off0, R0, rfl, _, _, _, _, _, _⟩ := TieB.out ht
  obtain ⟨_, hi0, hij, hjN, _⟩ := fitT_node hfit
  obtain ⟨t, htt⟩ : ∃ t, Tree.mk k i j l = t := ⟨_, rfl⟩
  have hti : t.i = i := by rw [← htt]; rfl
  have htj : t.j = j := by rw [← htt]; rfl
  obtain ⟨nn, hnn⟩ : ∃ nn, l.length = nn := ⟨_, rfl⟩
  rw [htt, hnn] at ht
  rw [htt] at hin hb hfit
  show Calls Try.prog 7 #[.agg #[.string s, .int .i64 k, .int .i64 i, .int .i64 j, .slice o l.length c]] w _
  rw [hnn]
  have hfew : FewT t := by obtain ⟨D0, h1, _⟩ := ht.out; exact tie_few _ _ h1
  have hlv : (leavesT t).length ≤ 1048576 := Nat.le_trans (leavesT_bulk t) hb
  obtain ⟨hsub, hrng⟩ := leavesT_sub s t hfit
  obtain ⟨hid, hget, hsz⟩ := put_tells hs hfit hin hfew hb
  have hpb := putT_bulk s t []
  simp only [List.length_nil] at hpb
  rw [hti, htj] at hsub hget hsz
  obtain ⟨P, hP⟩ : ∃ P, sub s i j = P := ⟨_, rfl⟩
  rw [hP] at hsub hget hsz
  have hplen : (P.length : Int) = j - i := by rw [← hP]; exact sub_len s hi0 hij hjN
  have hlast : ∀ u, (Instr.slice 9 (.string s) (some (.int .i64 i)) (some (.int .i64 j)) none).run Try.prog u = .ok (.string (B P)) u := by
    intro u
    rw [← hP]
    exact slice_mid s i.toNat j.toNat i j (by omega) (by omega) (by omega) (by omega) u
  have hcheck : ∀ u, Below w.heap.size w u → Calls Try.prog 12 #[.string s, .agg #[.int .i64 k, .int .i64 i, .int .i64 j, .slice o nn c]] u fun e w' => e = .returned (.int .i64 0) ∧ Below u.heap.size u w' := fun u hu => by
    have h := HCK t u ⟨k, i, j, o, nn, c⟩ s (TieB.below ht hu)
    rw [hfit] at h
    exact h
  have hnew : ∀ u, Below w.heap.size w u → Calls Try.prog 15 #[] u fun e w' => ∃ b D, e = .returned (.pointer (some ⟨b, 0, none⟩)) ∧ Below u.heap.size u w' ∧ Pl w' b D [] ∧ ∀ k, D k → u.heap.size ≤ k := fun u _ => HPL.new u
  have hput : ∀ (u : World) (b A : Nat) (D : Nat → Prop), Below w.heap.size w u → Pl u b D [] → w.heap.size ≤ A → A ≤ u.heap.size → (∀ k, D k → A ≤ k) → Calls Try.prog 18 #[.pointer (some ⟨b, 0, none⟩), .string s, .agg #[.int .i64 k, .int .i64 i, .int .i64 j, .slice o nn c]] u fun e w' => e = .returned (.tuple #[.int .i64 ((putT s t []).2 : Int), .int .i64 0]) ∧ Below A u w' ∧ ∃ D', Pl w' b D' (putT s t []).1 ∧ ∀ k, D' k → A ≤ k :=
    fun u b A D hu hp hA hAu hd => HPL.put_fit (n := ⟨k, i, j, o, nn, c⟩) ht hin (by omega) hfit (by omega) hu hp hA hAu hd
  have htext : ∀ (u : World) (b : Nat) (D : Nat → Prop), Pl u b D (putT s t []).1 → Calls Try.prog 28 #[.pointer (some ⟨b, 0, none⟩), .int .i64 ((putT s t []).2 : Int)] u fun e w' => e = .returned (.tuple #[.string (B P), .int .i64 0]) ∧ Below u.heap.size u w' := fun u b D hp => by
    have h := HPL.text hp _ hid (by rw [hget]; exact hsz)
    rw [hget] at h
    exact h
  have hleaves : ∀ u, Below w.heap.size w u → Calls Try.prog 33 #[.agg #[.int .i64 k, .int .i64 i, .int .i64 j, .slice o nn c]] u fun e w' => ∃ (g off : Nat) (ov : Option Addr) (cap : Nat), e = .returned (.slice ov (leavesT t).length cap) ∧ Below u.heap.size u w' ∧ (leavesT t).length ≤ cap ∧ (leavesT t ≠ [] → ov = some ⟨g, off, none⟩ ∧ g < w'.heap.size) ∧ Cells tk w' g off (leavesT t) := fun u hu =>
    (leaves_t t u ⟨k, i, j, o, nn, c⟩ (TieB.below ht hu) (by omega)).mono fun e w' ⟨v, h1, h2, h3⟩ => by
      obtain ⟨g, off, ov, cap, hc, rfl, ho, hcl⟩ := h3.row.lt
      exact ⟨g, off, ov, cap, h1, h2, hc, ho, hcl⟩
  obtain ⟨L, hL⟩ : ∃ L, (putT s t []).1 = L := ⟨_, rfl⟩
  obtain ⟨id, hidd⟩ : ∃ id, (putT s t []).2 = id := ⟨_, rfl⟩
  rw [hL] at hput htext
  rw [hidd] at hput htext
  obtain ⟨T, hT⟩ : ∃ T, leavesT t = T := ⟨_, rfl⟩
  rw [hT] at hleaves hsub hrng hlv
  obtain ⟨len, hlen⟩ : ∃ len, T.length = len := ⟨_, rfl⟩
  rw [hlen] at hleaves hlv
  have hcut : ∀ q (hq : q < T.length), (∀ u, (Instr.slice 9 (.string s) (some (.int .i64 T[q].i)) (some (.int .i64 T[q].j)) none).run Try.prog u = .ok (.string (B (sub s T[q].i T[q].j))) u) ∧ Op.stringOp .add (B (subs s (T.take q))) (B (sub s T[q].i T[q].j)) = pure (.string (B (subs s (T.take (q + 1))))) := fun q hq => by
    obtain ⟨a1, a2, a3⟩ := hrng _ (List.getElem_mem hq)
    refine ⟨fun u => slice_mid s T[q].i.toNat T[q].j.toNat T[q].i T[q].j (by omega) (by omega) (by omega) (by omega) u, ?_⟩
    rw [subs_snoc s hq]
    refine cat_eq ?_
    have h1 := subs_few s T (q + 1)
    rw [subs_snoc s hq, List.length_append, hsub] at h1
    omega
  have hbx : Below w.heap.size w (w.alloc (.cells #[.string s, .int .i64 k, .int .i64 i, .int .i64 j, .slice o nn c] 38)) := (Below.refl _ _).alloc (Nat.le_refl _) _
  have hxb : TBox (w.alloc (.cells #[.string s, .int .i64 k, .int .i64 i, .int .i64 j, .slice o nn c] 38)) w.heap.size s ⟨k, i, j, o, nn, c⟩ := heap_alloc_last w _
  obtain ⟨W1, hW1⟩ : ∃ W1, w.alloc (.cells #[.string s, .int .i64 k, .int .i64 i, .int .i64 j, .slice o nn c] 38) = W1 := ⟨_, rfl⟩
  rw [hW1] at hbx hxb
  obtain ⟨X, hX⟩ : ∃ X, w.heap.size = X := ⟨_, rfl⟩
  rw [hX] at hxb
  have HB := Lib.hid (And.intro hbx (And.intro hxb hW1))
  have HSN := Lib.hid HSH
  have HCH := Lib.hid hcheck
  have HNW := Lib.hid hnew
  have HPT := Lib.hid hput
  have HTX := Lib.hid htext
  have HLV := Lib.hid hleaves
  have HCT := Lib.hid hcut
  have HLN := Lib.hid (And.intro hlen hlv)
  have HSB := Lib.hid hsub
  have HKP := Lib.hid HPL
  clear ht hin hs hb hfit hi0 hij hjN htt hti htj hnn hfew hlv hsub hrng hid hget hsz hpb hP hplen hcheck hnew hput htext hleaves hL hidd hT hlen hcut hbx hxb hW1 HSH HPL HCK
  go_enter Try.func7, Try.ntmps7
  go_wp2_with (first
    | (go_at_call 10; rw [HB.out.2.2]; refine (HSN.out _).mono ?_; rintro e w1 ⟨rfl, hb1⟩; obtain ⟨⟨x0, x1, x2, x3, x4⟩, xz⟩ := (HB.out.2.1.below hb1).cells; have HB1 := Lib.hid (And.intro (HB.out.1.trans (hb1.mono HB.out.1.size)) (HB.out.2.1.below hb1)); clear hb1)
    | (go_at_call 12; (with_reducible refine (HCH.out _ HB1.out.1).mono ?_); rintro e w2 ⟨rfl, hb2⟩; obtain ⟨⟨y0, y1, y2, y3, y4⟩, yz⟩ := (HB1.out.2.below hb2).cells; have HB2 := Lib.hid (And.intro (HB1.out.1.trans (hb2.mono HB1.out.1.size)) (HB1.out.2.below hb2)); clear hb2 x0 x1 x2 x3 x4 xz)
    | (go_at_call 33; (with_reducible refine (HLV.out _ HB2.out.1).mono ?_); rintro e w3 ⟨g, off, ov, cap, rfl, hb3, hcap, hov, hcl⟩; have HB3 := Lib.hid (And.intro (HB2.out.1.trans (hb3.mono HB2.out.1.size)) (And.intro (HB2.out.2.below hb3) (And.intro hcap (And.intro hov hcl)))); clear hb3 hcap hov hcl y0 y1 y2 y3 y4 yz))
  go_loopw [29, 3] (fun p a wr => ∃ q : Nat, q ≤ len ∧ p = .int .i64 (q : Int) ∧ a = .string (B (subs s (T.take q))) ∧ Below w3.heap.size w3 wr) (fun p _ _ => len - (intOf p).toNat)
  case atStart => exact ⟨0, Nat.zero_le _, rfl, by rw [List.take_zero]; rfl, Below.refl _ _⟩
  case round =>
    obtain ⟨q, hql, rfl, rfl, hb⟩ := hrel
    have hXb := HB3.out.2.1.below hb
    by_cases hlt : q < len
    · have hil : q < T.length := by rw [HLN.out.1]; exact hlt
      have hcap := HB3.out.2.2.1
      have hlL := HLN.out.2
      obtain ⟨rfl, hg⟩ := HB3.out.2.2.2.1 (by intro e; rw [e] at hil; simp at hil)
      obtain ⟨a0, a1, a2⟩ := cells_tk HB3.out.2.2.2.2 q hil
      obtain ⟨hsl, hcq⟩ := HCT.out q hil
      have c0 := (hb.cell (p := ⟨g, off + q * 3, none⟩) hg).trans a0
      have c1 := (hb.cell (p := ⟨g, off + q * 3 + 1, none⟩) hg).trans a1
      have c2 := (hb.cell (p := ⟨g, off + q * 3 + 2, none⟩) hg).trans a2
      have hgw : g < wr.heap.size := Nat.lt_of_lt_of_le hg hb.size
      obtain ⟨⟨⟨tk, ti, tj⟩, hn1⟩⟩ : Nonempty { n // T[q] = n } := ⟨⟨_, rfl⟩⟩
      rw [hn1] at c0 c1 c2 hsl hcq
      simp only [] at c0 c1 c2 hsl hcq
      obtain ⟨Q, hQ⟩ : ∃ x, subs s (T.take q) = x := ⟨_, rfl⟩
      obtain ⟨K, hK⟩ : ∃ x, sub s ti tj = x := ⟨_, rfl⟩
      obtain ⟨QK, hQK⟩ : ∃ x, subs s (T.take (q + 1)) = x := ⟨_, rfl⟩
      rw [hQ, hK, hQK] at hcq
      rw [hK] at hsl
      rw [hQ]
      have HQK := Lib.hid hQK
      have hq0 : (0 : Int) ≤ (q : Int) := by omega
      have hww : (q : Int) + 1 ≤ 2932031007318 := by omega
      have hd : decide ((q : Int) < (len : Int)) = true := decide_eq_true (by omega)
      have hd' : decide (q < len) = true := decide_eq_true hlt
      have HZ : Hid (Below w3.heap.size w3 (wr.alloc (.cells #[.int .i64 tk, .int .i64 ti, .int .i64 tj] 68))) := Lib.hid (hb.alloc hb.size _)
      obtain ⟨⟨z0, z1, z2, z3, z4⟩, zz⟩ := hXb.cells
      clear a0 a1 a2 hn1 hb hXb hQ hK hQK hlL hcap hg
      go_wp2_with fail
      go_roundw
      case rel => exact ⟨q + 1, by omega, by go_num, by rw [HQK.out], HZ.out⟩
      case measure => simp [intOf]; omega
    · obtain rfl : q = len := by omega
      have hd : decide ((q : Int) < (q : Int)) = false := decide_eq_false (by omega)
      rw [List.take_of_length_le (by rw [HLN.out.1]; exact Nat.le_refl _), HSB.out]
      have HB4 := Lib.hid (And.intro (HB3.out.1.trans (hb.mono HB3.out.1.size)) hXb)
      clear hb hXb
      go_wp2_with (first
        | (go_at_call 15; (with_reducible refine (HNW.out _ HB4.out.1).mono ?_); rintro e w5 ⟨b, D, rfl, hb5, hp5, hd5⟩; obtain ⟨⟨y0, y1, y2, y3, y4⟩, yz⟩ := (HB4.out.2.below hb5).cells; have HB5 := Lib.hid (And.intro (HB4.out.1.trans (hb5.mono HB4.out.1.size)) (And.intro (HB4.out.2.below hb5) (And.intro hp5 (And.intro hd5 hb5.size)))); clear hb5 hp5 hd5)
        | (go_at_call 18; (with_reducible refine (HPT.out _ _ _ _ HB5.out.1 HB5.out.2.2.1 HB4.out.1.size HB5.out.2.2.2.2 HB5.out.2.2.2.1).mono ?_); rintro e w6 ⟨rfl, hb6, D6, hp6, hd6⟩; have HB6 := Lib.hid (And.intro (HB5.out.1.trans (hb6.mono HB4.out.1.size)) (And.intro (HB5.out.2.1.low hb6 (Array.getElem?_eq_some_iff.1 HB4.out.2).1) hp6)); clear hb6 hp6 hd6 y0 y1 y2 y3 y4 yz)
        | (go_at_call 28; (with_reducible refine (HTX.out _ _ _ HB6.out.2.2).mono ?_); rintro e w7 ⟨rfl, hb7⟩; obtain ⟨⟨z0, z1, z2, z3, z4⟩, zz⟩ := (HB6.out.2.1.below hb7).cells; have HB7 := Lib.hid (HB6.out.1.trans (hb7.mono HB6.out.1.size)); clear hb7))
      all_goals (try go_ret)
      all_goals exact ⟨rfl, HB7.out⟩
set_option maxRecDepth 100000 in
set_option maxHeartbeats 4000000 in
theorem text_bad (HSH : ShownC) (HCK : ∀ t, CheckC 12 t) (t : Tree) (s : ByteArray) (w : World) (n : Rn) (ht : Hid (TieB w t n)) (hfit : fitT s.size t = false) :
    Calls Try.prog 7 #[.agg #[.string s, .int .i64 n.k, .int .i64 n.i, .int .i64 n.j, .slice n.o n.n n.c]] w fun e w' => e = .returned (.bool true) ∧ Below w.heap.size w w' := by
  obtain ⟨k, i, j, o, nn, c⟩ := n
  have hcheck : ∀ u, Below w.heap.size w u → Calls Try.prog 12 #[.string s, .agg #[.int .i64 k, .int .i64 i, .int .i64 j, .slice o nn c]] u fun e w' => e = .returned (.int .i64 80) ∧ Below u.heap.size u w' := fun u hu => by
    have h := HCK t u ⟨k, i, j, o, nn, c⟩ s (TieB.below ht hu)
    rw [hfit] at h
    exact h
  have hcheck2 : ∀ u, Below w.heap.size w u → Calls Try.prog 13 #[.string s, .agg #[.int .i64 k, .int .i64 i, .int .i64 j, .slice o nn c]] u fun e w' => e = .returned (.int .i64 80) ∧ Below u.heap.size u w' := fun u hu => by
    have h := check_t t u ⟨k, i, j, o, nn, c⟩ s (TieB.below ht hu)
    rw [hfit] at h
    exact h
  show Calls Try.prog 7 #[.agg #[.string s, .int .i64 k, .int .i64 i, .int .i64 j, .slice o nn c]] w _
  have hbx : Below w.heap.size w (w.alloc (.cells #[.string s, .int .i64 k, .int .i64 i, .int .i64 j, .slice o nn c] 38)) := (Below.refl _ _).alloc (Nat.le_refl _) _
  have hxb : TBox (w.alloc (.cells #[.string s, .int .i64 k, .int .i64 i, .int .i64 j, .slice o nn c] 38)) w.heap.size s ⟨k, i, j, o, nn, c⟩ := heap_alloc_last w _
  obtain ⟨W1, hW1⟩ : ∃ W1, w.alloc (.cells #[.string s, .int .i64 k, .int .i64 i, .int .i64 j, .slice o nn c] 38) = W1 := ⟨_, rfl⟩
  rw [hW1] at hbx hxb
  obtain ⟨X, hX⟩ : ∃ X, w.heap.size = X := ⟨_, rfl⟩
  rw [hX] at hxb
  have HB := Lib.hid (And.intro hbx (And.intro hxb hW1))
  have HSN := Lib.hid HSH
  have HCH := Lib.hid hcheck
  have HC2 := Lib.hid hcheck2
  clear ht hfit hcheck hcheck2 hbx hxb hW1 HSH HCK
  go_enter Try.func7, Try.ntmps7
  go_wp2_with (first
    | (go_at_call 10; rw [HB.out.2.2]; refine (HSN.out _).mono ?_; rintro e w1 ⟨rfl, hb1⟩; obtain ⟨⟨x0, x1, x2, x3, x4⟩, xz⟩ := (HB.out.2.1.below hb1).cells; have HB1 := Lib.hid (And.intro (HB.out.1.trans (hb1.mono HB.out.1.size)) (HB.out.2.1.below hb1)); clear hb1)
    | (go_at_call 12; (with_reducible refine (HCH.out _ HB1.out.1).mono ?_); rintro e w2 ⟨rfl, hb2⟩; obtain ⟨⟨y0, y1, y2, y3, y4⟩, yz⟩ := (HB1.out.2.below hb2).cells; have HB2 := Lib.hid (HB1.out.1.trans (hb2.mono HB1.out.1.size)); clear hb2 x0 x1 x2 x3 x4 xz)
    | (go_at_call 13; (with_reducible refine (HC2.out _ HB2.out).mono ?_); rintro e w3 ⟨rfl, hb3⟩; have HB3 := Lib.hid (HB2.out.trans (hb3.mono HB2.out.size)); clear hb3))
  all_goals (try go_ret)
  all_goals exact ⟨rfl, HB3.out⟩
theorem text_law {Pl : World → Nat → (Nat → Prop) → List Gr → Prop} (HPL : PoolC Pl) (HSH : ShownC) (HCK : ∀ t, CheckC 12 t) (t : Tree) (s : ByteArray) (w : World) (n : Rn) (ht : Hid (TieB w t n)) (hin : InR t) (hs : s.size ≤ 140737488351232) (hb : bulkT t ≤ 1048576) :
    Calls Try.prog 7 #[.agg #[.string s, .int .i64 n.k, .int .i64 n.i, .int .i64 n.j, .slice n.o n.n n.c]] w fun e w' => e = .returned (.bool true) ∧ Below w.heap.size w w' := by
  cases hfit : fitT s.size t with
  | true => exact text_good HPL HSH HCK t s w n ht hin hs hb hfit
  | false => exact text_bad HSH HCK t s w n ht hfit
end Go.Proofs.Ytnnffcfdokejbaa.rd
namespace Go.Proofs.Ytnnffcfdokejbaa.rd
open Go.RowKit

set_option maxRecDepth 100000 in
set_option maxHeartbeats 4000000 in
theorem refHas_gn {w : World} {b : Nat} {D : Nat → Prop} {L : List Gr} {vL : Value} {R : List Gn} (h : PoolR w b D L vL R) (id : Int) : Calls Try.prog 24 #[.pointer (some ⟨b, 0, none⟩), .int .i64 id] w fun e w' => (∃ x : Gn, e = .returned (.tuple #[.agg #[.int .i64 x.k, .string x.s, .slice x.o x.n x.c], .int .i64 (if 0 ≤ id ∧ id < L.length then 0 else 100)])) ∧ Below w.heap.size w w' := by
  obtain ⟨gL, oL, cL, rfl, hoL, _⟩ := Mine.shape h.row
  have hlR := h.len
  obtain ⟨nL, hnL⟩ : ∃ n, L.length = n := ⟨_, rfl⟩
  have hc : w.cell? ⟨b, 0, none⟩ = some (.slice oL nL cL) := by rw [cell_of_row w b 0 _ _ _ h.cell, ← hnL, ← hlR]; rfl
  have hz := (Array.getElem?_eq_some_iff.1 h.cell).1
  rw [hnL]
  have HP := Lib.hid h
  have HL := Lib.hid (And.intro hlR (And.intro hnL hoL))
  have hbx : ∀ v, Below w.heap.size w (w.alloc v) := fun v => (Below.refl _ _).alloc (Nat.le_refl _) _
  have HBX := Lib.hid hbx
  clear h hlR hnL hoL hbx
  by_cases h0 : id < 0
  · have d0 : decide (id < 0) = true := decide_eq_true h0
    rw [if_neg (by omega)]
    go_enter Try.func24, Try.ntmps24
    go_wp2_with fail
    refine bodyPost_ret (results_cell_tmp rfl _ _ w.heap.size 46 _ (0, 0) _ rfl (heap_alloc_last w _) Try.underlying46 rfl (by as_aux_lemma => kernel_rfl)) rfl ⟨⟨⟨0, .empty, none, 0, 0⟩, rfl⟩, HBX.out _⟩
  · have d0 : decide (id < 0) = false := decide_eq_false h0
    by_cases h1 : id < (nL : Int)
    · have d1 : decide ((nL : Int) ≤ id) = false := decide_eq_false (by omega)
      rw [if_pos ⟨by omega, h1⟩]
      obtain ⟨z, rfl⟩ : ∃ z : Nat, id = (z : Int) := ⟨id.toNat, by omega⟩
      have hz2 : z < R.length := by rw [HL.out.1, HL.out.2.1]; omega
      obtain rfl := HL.out.2.2 (by intro e; rw [e] at hz2; simp at hz2)
      obtain ⟨a0, a1, a2⟩ := cells_gr HP.out.row.cells z hz2
      obtain ⟨⟨xk, xs, xo, xn, xc⟩, hn1⟩ : ∃ n, R[z] = n := ⟨_, rfl⟩
      rw [hn1] at a0 a1 a2
      simp only [Nat.zero_add] at a0 a1 a2
      have hgL : gL < w.heap.size := HP.out.row.lt gL rfl
      have hq0 : (0 : Int) ≤ (z : Int) := by omega
      clear hn1
      go_enter Try.func24, Try.ntmps24
      go_wp2_with fail
      refine bodyPost_ret (results_cell_tmp rfl _ _ w.heap.size 46 _ (0, 0) _ rfl (heap_alloc_last w _) Try.underlying46 rfl (by as_aux_lemma => kernel_rfl)) rfl ⟨⟨⟨xk, xs, xo, xn, xc⟩, rfl⟩, HBX.out _⟩
    · have d1 : decide ((nL : Int) ≤ id) = true := decide_eq_true (by omega)
      rw [if_neg (by omega)]
      go_enter Try.func24, Try.ntmps24
      go_wp2_with fail
      refine bodyPost_ret (results_cell_tmp rfl _ _ w.heap.size 46 _ (0, 0) _ rfl (heap_alloc_last w _) Try.underlying46 rfl (by as_aux_lemma => kernel_rfl)) rfl ⟨⟨⟨0, .empty, none, 0, 0⟩, rfl⟩, HBX.out _⟩
/-- The reference's pool, with the blocks that are its own. -/
def Pr (w : World) (b : Nat) (E : Nat → Prop) (L : List Gr) : Prop := ∃ D vL R, PoolR w b D L vL R ∧ E = fun k => k = b ∨ D k ∨ vL.ownBlock = some k
theorem Pr.keep {w w' : World} {b : Nat} {E : Nat → Prop} {L : List Gr} (h : Pr w b E L) (hz : w.heap.size ≤ w'.heap.size) (hs : ∀ k, E k → w'.heap[k]? = w.heap[k]?) : Pr w' b E L := by
  obtain ⟨D, vL, R, h1, rfl⟩ := h
  exact ⟨D, vL, R, h1.keep hz (hs b (.inl rfl)) (fun k hk => hs k (.inr (.inr hk))) (fun k hk => hs k (.inr (.inl hk))), rfl⟩
theorem Pr.dead {w : World} {b : Nat} {E : Nat → Prop} {L : List Gr} (h : Pr w b E L) : ∀ k, E k → k < w.heap.size := by
  obtain ⟨D, vL, R, h1, rfl⟩ := h
  rintro k (rfl | hk | hk)
  · exact (Array.getElem?_eq_some_iff.1 h1.cell).1
  · exact (h1.dead k hk).1
  · exact h1.row.lt k hk
theorem Pr.put {w : World} {b B0 : Nat} {E : Nat → Prop} {L : List Gr} (h : Pr w b E L) (t : Tree) {n : Rn} {s : ByteArray} (ht : TieU B0 w t n) (hE : ∀ k, E k → B0 ≤ k) (hl : (putT s t L).1.length ≤ 1099511627776) :
    Calls Try.prog 19 #[.pointer (some ⟨b, 0, none⟩), .string s, n.v] w fun e w' => e = .returned (.tuple #[.int .i64 (if fitT s.size t then ((putT s t L).2 : Int) else 0), .int .i64 (errOf (fitT s.size t))]) ∧ ∃ E', Pr w' b E' (if fitT s.size t then (putT s t L).1 else L) ∧ Marked E w w' ∧ ∀ k, E' k → E k ∨ w.heap.size ≤ k := by
  obtain ⟨D, vL, R, h1, rfl⟩ := h
  refine (refPut_any t h1 ht (hE b (.inl rfl)) (fun q hq => hE q (.inr (.inr hq))) hl).mono fun e w' ⟨e1, D', vL', R', e2, e3, e4, e5⟩ => ⟨e1, _, ⟨D', vL', R', e2, rfl⟩, ⟨e3.os, e3.tape, e3.output, e3.size, fun k hk hn => e3.keep k hk (fun hh => hn (hh.elim .inl (fun h => .inr (.inr h))))⟩, ?_⟩
  rintro k (rfl | hk | hk)
  · exact .inl (.inl rfl)
  · exact (e4 k hk).imp (fun h => .inr (.inl h)) id
  · exact (e5 k hk).imp (fun h => .inr (.inr h)) id
/-- The law's two pools. -/
structure Ps (w : World) (b br : Nat) (L : List Gr) (u : World) : Prop where
  below : Below w.heap.size w u
  two : ∃ D E, Pl u b D L ∧ Pr u br E L ∧ (∀ k, D k → w.heap.size ≤ k ∧ ¬ E k) ∧ ∀ k, E k → w.heap.size ≤ k
theorem Ps.more {w : World} {b br : Nat} {L : List Gr} {u u' : World} (h : Ps w b br L u) (hb : Below u.heap.size u u') : Ps w b br L u' := by
  obtain ⟨D, E, h1, h2, h3, h4⟩ := h.two
  exact ⟨h.below.trans (hb.mono h.below.size), D, E, h1.below hb, h2.keep hb.size (fun k hk => hb.block k (h2.dead k hk)), h3, h4⟩
/-- .. with a tree and its text in a box, its copy in another. -/
structure Rs (w : World) (b br X Y : Nat) (s : ByteArray) (n p : Rn) (t : Tree) (L L' : List Gr) (u : World) : Prop where
  below : Below w.heap.size w u
  lowX : w.heap.size ≤ X
  lowY : w.heap.size ≤ Y
  xa : TBox u X s n
  xb : Box u Y p
  all : ∃ D E T, Pl u b D L ∧ Pr u br E L' ∧ OTie u T t p ∧ (∀ k, D k → w.heap.size ≤ k ∧ ¬ E k ∧ ¬ T k ∧ k ≠ X ∧ k ≠ Y) ∧ (∀ k, E k → w.heap.size ≤ k ∧ ¬ T k ∧ k ≠ X ∧ k ≠ Y) ∧ ∀ k, T k → w.heap.size ≤ k ∧ k < u.heap.size
section
variable {w : World} {b br X Y : Nat} {s : ByteArray} {n p : Rn} {t : Tree} {L L' : List Gr} {u u' : World}
theorem Rs.more (h : Rs w b br X Y s n p t L L' u) (hb : Below u.heap.size u u') : Rs w b br X Y s n p t L L' u' := by
  obtain ⟨D, E, T, h1, h2, h3, h4, h5, h6⟩ := h.all
  exact ⟨h.below.trans (hb.mono h.below.size), h.lowX, h.lowY, h.xa.below hb, h.xb.below hb, D, E, T, h1.below hb, h2.keep hb.size (fun k hk => hb.block k (h2.dead k hk)), OTie.keep (fun g hg => hb.block g (h6 g hg).2) (fun _ h => h) _ _ h3, h4, h5, fun k hk => ⟨(h6 k hk).1, Nat.lt_of_lt_of_le (h6 k hk).2 hb.size⟩⟩
theorem Rs.own (h : Rs w b br X Y s n p t L L' u) : Hid (TieB u t p) := by
  obtain ⟨D, E, T, h1, h2, h3, h4, h5, h6⟩ := h.all
  exact Lib.hid ⟨T, OTie.tie _ _ h3, fun k hk => (h6 k hk).2⟩
theorem Ps.start (h : Ps w b br L u) {w6 : World} (hb : Below (u.alloc (.cells #[.string s, .int .i64 n.k, .int .i64 n.i, .int .i64 n.j, .slice n.o n.n n.c] 38)).heap.size (u.alloc (.cells #[.string s, .int .i64 n.k, .int .i64 n.i, .int .i64 n.j, .slice n.o n.n n.c] 38)) w6) (hf : Fresh (u.alloc (.cells #[.string s, .int .i64 n.k, .int .i64 n.i, .int .i64 n.j, .slice n.o n.n n.c] 38)).heap.size w6 t p) : Rs w b br u.heap.size w6.heap.size s n p t L L (w6.alloc (.cells #[.int .i64 p.k, .int .i64 p.i, .int .i64 p.j, .slice p.o p.n p.c] 24)) := by
  have b1 : Below u.heap.size u (u.alloc (.cells #[.string s, .int .i64 n.k, .int .i64 n.i, .int .i64 n.j, .slice n.o n.n n.c] 38)) := (Below.refl _ _).alloc (Nat.le_refl _) _
  have a1 : TBox (u.alloc (.cells #[.string s, .int .i64 n.k, .int .i64 n.i, .int .i64 n.j, .slice n.o n.n n.c] 38)) u.heap.size s n := heap_alloc_last u _
  have z1 : (u.alloc (.cells #[.string s, .int .i64 n.k, .int .i64 n.i, .int .i64 n.j, .slice n.o n.n n.c] 38)).heap.size = u.heap.size + 1 := World.size_alloc _ _
  generalize u.alloc (.cells #[.string s, .int .i64 n.k, .int .i64 n.i, .int .i64 n.j, .slice n.o n.n n.c] 38) = u1 at *
  have b2 : Below w6.heap.size w6 (w6.alloc (.cells #[.int .i64 p.k, .int .i64 p.i, .int .i64 p.j, .slice p.o p.n p.c] 24)) := (Below.refl _ _).alloc (Nat.le_refl _) _
  have z2 : (w6.alloc (.cells #[.int .i64 p.k, .int .i64 p.i, .int .i64 p.j, .slice p.o p.n p.c] 24)).heap.size = w6.heap.size + 1 := World.size_alloc _ _
  have a2 : Box (w6.alloc (.cells #[.int .i64 p.k, .int .i64 p.i, .int .i64 p.j, .slice p.o p.n p.c] 24)) w6.heap.size p := heap_alloc_last w6 _
  generalize w6.alloc (.cells #[.int .i64 p.k, .int .i64 p.i, .int .i64 p.j, .slice p.o p.n p.c] 24) = u2 at *
  have hs := hb.size
  have h0 := h.below.size
  have b3 : Below u.heap.size u u2 := b1.trans ((hb.trans (b2.mono hs)).mono b1.size)
  obtain ⟨D, E, h1, h2, h3, h4⟩ := h.two
  obtain ⟨T, t1, t2⟩ := hf.below b2
  have hd := pool_c.dead h1
  have he := h2.dead
  refine ⟨h.below.trans (b3.mono h0), h0, by omega, (a1.below hb).below b2, a2, D, E, T, h1.below b3, h2.keep b3.size (fun k hk => b3.block k (he k hk)), t1, fun k hk => ⟨(h3 k hk).1, (h3 k hk).2, fun e => ?_, ?_, ?_⟩, fun k hk => ⟨h4 k hk, fun e => ?_, ?_, ?_⟩, fun k hk => ⟨?_, (t2 k hk).2⟩⟩
  · have := hd k hk
    have := (t2 k e).1
    omega
  · have := hd k hk
    omega
  · have := hd k hk
    omega
  · have := he k hk
    have := (t2 k e).1
    omega
  · have := he k hk
    omega
  · have := he k hk
    omega
  · have := (t2 k hk).1
    omega
theorem Rs.gput (h : Rs w b br X Y s n p t L L' u) (hin : InR t) (hs : s.size ≤ 281474976710656) (hl : (putT s t L).1.length ≤ 4294967296) : Calls Try.prog 18 #[.pointer (some ⟨b, 0, none⟩), .string s, p.v] u fun e w' => e = .returned (.tuple #[.int .i64 (if fitT s.size t then ((putT s t L).2 : Int) else 0), .int .i64 (errOf (fitT s.size t))]) ∧ Rs w b br X Y s n p t (if fitT s.size t then (putT s t L).1 else L) L' w' := by
  obtain ⟨D, E, T, h1, h2, h3, h4, h5, h6⟩ := h.all
  have hX := (Array.getElem?_eq_some_iff.1 h.xa).1
  have hY := (Array.getElem?_eq_some_iff.1 h.xb).1
  have he := h2.dead
  refine (pool_c.put (s := s) h1 (OTie.tie _ _ h3) (fun k hk => ⟨(h6 k hk).2, fun e => (h4 k e).2.2.1 hk⟩) hin hs hl).mono fun e w' ⟨e1, D', e2, e3, e4⟩ => ⟨e1, ?_⟩
  have hk : ∀ k, k < u.heap.size → ¬ D k → w'.heap[k]? = u.heap[k]? := e3.keep
  have hz := e3.size
  have hbz := h.below.size
  have hlow : Below w.heap.size u w' := e3.low (fun k hk => (h4 k hk).1) hbz
  refine ⟨h.below.trans hlow, h.lowX, h.lowY, (hk X hX (fun e => (h4 X e).2.2.2.1 rfl)).trans h.xa, (hk Y hY (fun e => (h4 Y e).2.2.2.2 rfl)).trans h.xb, D', E, T, e2, h2.keep hz (fun k hkE => hk k (he k hkE) (fun e => (h4 k e).2.1 hkE)), OTie.keep (fun g hg => hk g (h6 g hg).2 (fun e => (h4 g e).2.2.1 hg)) (fun _ h => h) _ _ h3, fun k hkD => ?_, h5, fun k hkT => ⟨(h6 k hkT).1, Nat.lt_of_lt_of_le (h6 k hkT).2 hz⟩⟩
  rcases e4 k hkD with hkD | hkD
  · exact h4 k hkD
  · exact ⟨by omega, fun e => by have := he k e; omega, fun e => by have := (h6 k e).2; omega, by omega, by omega⟩
theorem Rs.rput (h : Rs w b br X Y s n p t L L' u) (ht : Hid (TieB w t n)) (hl : (putT s t L').1.length ≤ 1099511627776) : Calls Try.prog 19 #[.pointer (some ⟨br, 0, none⟩), .string s, n.v] u fun e w' => e = .returned (.tuple #[.int .i64 (if fitT s.size t then ((putT s t L').2 : Int) else 0), .int .i64 (errOf (fitT s.size t))]) ∧ Rs w b br X Y s n p t L (if fitT s.size t then (putT s t L').1 else L') w' := by
  obtain ⟨D, E, T, h1, h2, h3, h4, h5, h6⟩ := h.all
  have hX := (Array.getElem?_eq_some_iff.1 h.xa).1
  have hY := (Array.getElem?_eq_some_iff.1 h.xb).1
  have hd := pool_c.dead h1
  have htu : TieU w.heap.size u t n := by
    obtain ⟨T0, t1, t2⟩ := ht.out
    exact ⟨T0, Tie.keep (fun g hg => h.below.block g (t2 g hg)) (fun _ h => h) _ _ t1, t2⟩
  refine (h2.put t htu (fun k hk => (h5 k hk).1) hl).mono fun e w' ⟨e1, E', e2, e3, e4⟩ => ⟨e1, ?_⟩
  have hk : ∀ k, k < u.heap.size → ¬ E k → w'.heap[k]? = u.heap[k]? := e3.keep
  have hz := e3.size
  have hbz := h.below.size
  have hlow : Below w.heap.size u w' := e3.low (fun k hk => (h5 k hk).1) hbz
  have hn : ∀ k, E' k → k < u.heap.size → E k := fun k hkE hlt => (e4 k hkE).elim id (fun h => by omega)
  refine ⟨h.below.trans hlow, h.lowX, h.lowY, (hk X hX (fun e => (h5 X e).2.2.1 rfl)).trans h.xa, (hk Y hY (fun e => (h5 Y e).2.2.2 rfl)).trans h.xb, D, E', T, pool_c.keep h1 hz (fun k hkD => hk k (hd k hkD) (h4 k hkD).2.1), e2, OTie.keep (fun g hg => hk g (h6 g hg).2 (fun e => (h5 g e).2.1 hg)) (fun _ h => h) _ _ h3, fun k hkD => ⟨(h4 k hkD).1, fun e => (h4 k hkD).2.1 (hn k e (hd k hkD)), (h4 k hkD).2.2⟩, fun k hkE => ?_, fun k hkT => ⟨(h6 k hkT).1, Nat.lt_of_lt_of_le (h6 k hkT).2 hz⟩⟩
  rcases e4 k hkE with hkE | hkE
  · exact h5 k hkE
  · exact ⟨by omega, fun e => by have := (h6 k e).2; omega, by omega, by omega⟩
theorem Rs.mark (h : Rs w b br X Y s n p t L L u) : Calls Try.prog 23 #[p.v] u fun e w' => (∃ v, e = .returned v) ∧ Ps w b br L w' := by
  obtain ⟨D, E, T, h1, h2, h3, h4, h5, h6⟩ := h.all
  have hd := pool_c.dead h1
  have he := h2.dead
  refine (mark_t t u T p h3 (fun k hk => (h6 k hk).2)).mono fun e w' ⟨e1, e3⟩ => ⟨e1, h.below.trans (e3.low (fun k hk => (h6 k hk).1) h.below.size), D, E, pool_c.keep h1 e3.size (fun k hk => e3.keep k (hd k hk) (h4 k hk).2.2.1), h2.keep e3.size (fun k hk => e3.keep k (he k hk) (h5 k hk).2.1), fun k hk => ⟨(h4 k hk).1, (h4 k hk).2.1⟩, fun k hk => (h5 k hk).1⟩
theorem Rs.len (h : Rs w b br X Y s n p t L L' u) : Calls Try.prog 17 #[.pointer (some ⟨b, 0, none⟩)] u fun e w' => e = .returned (.int .i64 (L.length : Int)) ∧ Rs w b br X Y s n p t L L' w' := by
  obtain ⟨D, E, T, h1, _⟩ := h.all
  exact (pool_c.len h1).mono fun e w' ⟨e1, e2⟩ => ⟨e1, h.more e2⟩
theorem Rs.rlen (h : Rs w b br X Y s n p t L L' u) : Calls Try.prog 22 #[.pointer (some ⟨br, 0, none⟩)] u fun e w' => e = .returned (.int .i64 (L'.length : Int)) ∧ Rs w b br X Y s n p t L L' w' := by
  obtain ⟨D, E, T, _, ⟨D2, vL, R, h2, _⟩, _⟩ := h.all
  exact (refLen_any h2).mono fun e w' ⟨e1, e2⟩ => ⟨e1, by rw [← e2]; exact h⟩
theorem Rs.same (h : Rs w b br X Y s n p t L L' u) (ht : Hid (TieB w t n)) : Calls Try.prog 14 #[p.v, n.v] u fun e w' => e = .returned (.bool true) ∧ Rs w b br X Y s n p t L L' w' := by
  have hc := same_t t t u p n h.own (TieB.below ht h.below)
  rw [sameT_refl] at hc
  exact hc.mono fun e w' ⟨e1, e2⟩ => ⟨e1, h.more e2⟩
end
end Go.Proofs.Ytnnffcfdokejbaa.rd
namespace Go.Proofs.Ytnnffcfdokejbaa.rd
open Go.RowKit

set_option maxRecDepth 100000 in
set_option maxHeartbeats 4000000 in
theorem tells_law (HSH : ShownC) (HPA : PartsC 38) (HSI : ∀ t, ShiftC 40 t) (HSA : ∀ t, SameC 41 t) (t t2 : Tree) (w : World) (n n2 : Rn) (d : Int) (ht : Hid (TieB w t n)) (ht2 : Hid (TieB w t2 n2)) (hin : InR t) :
    Calls Try.prog 9 #[n.v, n2.v, .int .i64 d] w fun e w' => e = .returned (.bool true) ∧ Below w.heap.size w w' := by
  obtain ⟨nk, ni, nj, no, nn, nc⟩ := n
  obtain ⟨pk, pi, pj, po, pn, pc⟩ := n2
  have HSN := Lib.hid HSH
  have HASK := Lib.hid (fun (u : World) (X X2 Y : Nat) (m : Rn) (h : Tl w u X X2 Y ⟨nk, ni, nj, no, nn, nc⟩ ⟨pk, pi, pj, po, pn, pc⟩ m t t2) => h.asks HPA HSI HSA d)
  have hcp : ∀ u, Below w.heap.size w u → Calls Try.prog 11 #[.agg #[.int .i64 nk, .int .i64 ni, .int .i64 nj, .slice no nn nc]] u fun e w' => ∃ n', e = .returned n'.v ∧ Below u.heap.size u w' ∧ Fresh u.heap.size w' t n' := fun u hu => by
    have h := copy_any t u ⟨nk, ni, nj, no, nn, nc⟩ (TieB.below ht hu)
    rw [shiftT_zero t hin] at h
    exact h
  have HCP := Lib.hid hcp
  obtain ⟨W1, hW1, hx1, hy1, hbx⟩ := two_node_boxes w nk ni nj pk pi pj no po nn nc pn pc
  obtain ⟨X, hX⟩ : ∃ X, w.heap.size = X := ⟨_, rfl⟩
  obtain ⟨X2, hX2⟩ : ∃ X2, w.heap.size + 1 = X2 := ⟨_, rfl⟩
  rw [hX2] at hy1
  have HT := Lib.hid (And.intro ht ht2)
  have HB := Lib.hid (And.intro hW1 (And.intro hbx (And.intro (show Box W1 w.heap.size ⟨nk, ni, nj, no, nn, nc⟩ from hx1) (And.intro (show Box W1 X2 ⟨pk, pi, pj, po, pn, pc⟩ from hy1) (And.intro hX hX2)))))
  clear ht ht2 hin hcp hW1 hx1 hy1 hbx hX hX2 HSH HPA HSI HSA
  show Calls Try.prog 9 #[.agg #[.int .i64 nk, .int .i64 ni, .int .i64 nj, .slice no nn nc], .agg #[.int .i64 pk, .int .i64 pi, .int .i64 pj, .slice po pn pc], .int .i64 d] w _
  go_enter Try.func9, Try.ntmps9
  go_wp2_with (first
    | (go_at_call 10; rw [HB.out.1]; refine (HSN.out _).mono ?_; rintro e w1 ⟨rfl, hb1⟩; obtain ⟨⟨x0, x1, x2, x3⟩, xz⟩ := (HB.out.2.2.1.below hb1).cells; have HB1 := Lib.hid hb1; clear hb1)
    | (go_at_call 11; refine (HCP.out _ (HB.out.2.1.trans (HB1.out.mono HB.out.2.1.size))).mono ?_; rintro e w2 ⟨⟨mk, mi, mj, mo, mn, mc⟩, rfl, hb2, hf2⟩; have HF := Lib.hid (And.intro hb2 hf2); clear hb2 hf2; dsimp only [Rn.v]))
  have hw2 : Below w.heap.size w w2 := HB.out.2.1.trans ((HB1.out.trans (HF.out.1.mono HB1.out.size)).mono HB.out.2.1.size)
  have hb3 : Below w2.heap.size w2 (w2.alloc (.cells #[.int .i64 mk, .int .i64 mi, .int .i64 mj, .slice mo mn mc] 24)) := (Below.refl _ _).alloc (Nat.le_refl _) _
  have hy3 : Box (w2.alloc (.cells #[.int .i64 mk, .int .i64 mi, .int .i64 mj, .slice mo mn mc] 24)) w2.heap.size ⟨mk, mi, mj, mo, mn, mc⟩ := heap_alloc_last w2 _
  have hx3 := (HB.out.2.2.1.below (HB1.out.trans (HF.out.1.mono HB1.out.size))).below hb3
  have hz3 := (HB.out.2.2.2.1.below (HB1.out.trans (HF.out.1.mono HB1.out.size))).below hb3
  obtain ⟨W3, hW3⟩ : ∃ W3, w2.alloc (.cells #[.int .i64 mk, .int .i64 mi, .int .i64 mj, .slice mo mn mc] 24) = W3 := ⟨_, rfl⟩
  obtain ⟨Y, hY⟩ : ∃ Y, w2.heap.size = Y := ⟨_, rfl⟩
  have hfm := (HF.out.2.below hb3).tieB
  rw [hW3] at hb3 hy3 hx3 hz3 hfm
  have hw3 := hw2.trans (hb3.mono hw2.size)
  rw [hY] at hy3
  rw [HB.out.2.2.2.2.1] at hx3
  have HTL : Hid (Tl w W3 X X2 Y ⟨nk, ni, nj, no, nn, nc⟩ ⟨pk, pi, pj, po, pn, pc⟩ ⟨mk, mi, mj, mo, mn, mc⟩ t t2) := Lib.hid ⟨hw3, hx3, hz3, hy3, TieB.below HT.out.1 hw3, TieB.below HT.out.2 hw3, hfm⟩
  have HXX := Lib.hid HB.out.2.2.2.2
  rw [hW3, hY, HXX.out.2, HXX.out.1]
  clear hw2 hb3 hy3 hx3 hz3 hW3 hfm hw3 hY x0 x1 x2 x3 xz HF HB1 HB HT HCP HSN
  obtain ⟨Z3, hZ3⟩ : ∃ Z3, W3.heap.size = Z3 := ⟨_, rfl⟩
  have HZ3 := Lib.hid hZ3
  clear hZ3
  have HAT := Lib.hid (fun (u : World) (hu : Below W3.heap.size W3 u) => And.intro (HASK.out u X X2 Y ⟨mk, mi, mj, mo, mn, mc⟩ (HTL.out.below hu)) (And.intro (HTL.out.below hu).a.cells (And.intro (HTL.out.below hu).b.cells (HTL.out.below hu).o.cells)))
  go_cut [8, 9] (fun v u wx => (PR Z3 wx v (partsL t.l) ∧ PR Z3 wx u (partsL t.l)) ∧ Below W3.heap.size W3 wx)
  case first =>
    obtain ⟨_, ⟨⟨q0, q1, q2, q3⟩, qz⟩, _, ⟨⟨r0, r1, r2, r3⟩, rz⟩⟩ := HAT.out W3 (Below.refl _ _)
    obtain ⟨_, ⟨⟨s0, s1, s2, s3⟩, sz⟩, _, ⟨⟨t0, t1, t2, t3⟩, tz⟩⟩ := HAT.out W3.drew (Below.refl _ _).drew
    go_region_law (first
      | (go_simp; go_at_call 38; refine ((HAT.out _ ?_).1.pp).mono ?_; (first | exact (Below.refl _ _).drew | exact Below.refl _ _); rintro e w9 ⟨v9, rfl, hb9, hp9⟩; have HC : Hid (Below W3.heap.size W3 w9 ∧ PR Z3 w9 v9 (partsL t.l)) := Lib.hid (by rw [← HZ3.out]; first | exact ⟨(Below.refl _ _).drew.trans hb9, hp9⟩ | exact ⟨hb9, hp9⟩); obtain ⟨_, ⟨⟨_, _, _, _⟩, _⟩, _, ⟨⟨_, _, _, _⟩, _⟩⟩ := HAT.out _ HC.out.1; clear hb9 hp9; dsimp only)
      | (go_simp; go_at_call 39; refine ((HAT.out _ HC.out.1).1.pr).mono ?_; rintro e w8 ⟨v8, rfl, hb8, hp8⟩; have HD : Hid ((PR Z3 w8 v9 (partsL t.l) ∧ PR Z3 w8 v8 (partsL t.l)) ∧ Below W3.heap.size W3 w8) := Lib.hid ⟨⟨HC.out.2.below hb8, hp8.mono (by rw [← HZ3.out]; exact HC.out.1.size)⟩, HC.out.1.trans (hb8.mono HC.out.1.size)⟩; clear hb8 hp8; dsimp only))
    all_goals (go_simp; (try go_wp2_with fail); go_meet)
    all_goals exact HD.out
  case rest =>
  obtain ⟨wA, hwA⟩ : ∃ wA, wA = wc := ⟨_, rfl⟩
  subst hwA
  obtain ⟨⟨hp, hq⟩, hbc⟩ := hcut
  obtain ⟨po1, pc1, rfl⟩ := hp.shape
  obtain ⟨qo1, qc1, rfl⟩ := hq.shape
  obtain ⟨K, hK⟩ : ∃ K, (partsL t.l).length = K := ⟨_, rfl⟩
  rw [hK] at hp hq ⊢
  have HK := Lib.hid hK
  have HP := Lib.hid (And.intro (And.intro hp hq) hbc)
  obtain ⟨_, ⟨⟨q0, q1, q2, q3⟩, qz⟩, _, ⟨⟨r0, r1, r2, r3⟩, rz⟩⟩ := HAT.out wA hbc
  clear hp hq hbc hK
  go_wp2_with (go_at_call 40; refine ((HAT.out _ HP.out.2).1.sp).mono ?_; rintro e w4 ⟨⟨sk, si, sj, so, sn, sc⟩, rfl, hb4, hf4⟩; have HS := Lib.hid (And.intro hb4 hf4); clear hb4 hf4; dsimp only [Rn.v])
  have hwc4 : Below wA.heap.size wA w4 := HS.out.1
  have hZA := hwc4.size
  have hb5 : Below w4.heap.size w4 (w4.alloc (.cells #[.int .i64 sk, .int .i64 si, .int .i64 sj, .slice so sn sc] 24)) := (Below.refl _ _).alloc (Nat.le_refl _) _
  have hs5 : Box (w4.alloc (.cells #[.int .i64 sk, .int .i64 si, .int .i64 sj, .slice so sn sc] 24)) w4.heap.size ⟨sk, si, sj, so, sn, sc⟩ := heap_alloc_last w4 _
  have hf5 := HS.out.2.below hb5
  obtain ⟨W4, hW4⟩ : ∃ W4, w4.alloc (.cells #[.int .i64 sk, .int .i64 si, .int .i64 sj, .slice so sn sc] 24) = W4 := ⟨_, rfl⟩
  obtain ⟨Z, hZ⟩ : ∃ Z, w4.heap.size = Z := ⟨_, rfl⟩
  rw [hW4] at hb5 hs5 hf5
  have hwc5 := hwc4.trans (hb5.mono hwc4.size)
  have h35 := HP.out.2.trans (hwc5.mono HP.out.2.size)
  rw [hZ] at hs5 hZA
  rw [hW4, hZ]
  have hall : ∀ u, Below W4.heap.size W4 u → Below W4.heap.size W4 u ∧ u.cell? ⟨X, 0, none⟩ = some (.int .i64 nk) ∧ u.cell? ⟨X, 1, none⟩ = some (.int .i64 ni) ∧ u.cell? ⟨X, 2, none⟩ = some (.int .i64 nj) ∧ u.cell? ⟨X, 3, none⟩ = some (.slice no nn nc) ∧ u.cell? ⟨X2, 0, none⟩ = some (.int .i64 pk) ∧ u.cell? ⟨X2, 1, none⟩ = some (.int .i64 pi) ∧ u.cell? ⟨X2, 2, none⟩ = some (.int .i64 pj) ∧ u.cell? ⟨X2, 3, none⟩ = some (.slice po pn pc) ∧ u.cell? ⟨Y, 0, none⟩ = some (.int .i64 mk) ∧ u.cell? ⟨Y, 1, none⟩ = some (.int .i64 mi) ∧ u.cell? ⟨Y, 2, none⟩ = some (.int .i64 mj) ∧ u.cell? ⟨Y, 3, none⟩ = some (.slice mo mn mc) ∧ u.cell? ⟨Z, 0, none⟩ = some (.int .i64 sk) ∧ u.cell? ⟨Z, 1, none⟩ = some (.int .i64 si) ∧ u.cell? ⟨Z, 2, none⟩ = some (.int .i64 sj) ∧ u.cell? ⟨Z, 3, none⟩ = some (.slice so sn sc) := fun u hu => by
    have h := HTL.out.below (h35.trans (hu.mono h35.size))
    exact ⟨hu, h.a.cells.1.1, h.a.cells.1.2.1, h.a.cells.1.2.2.1, h.a.cells.1.2.2.2, h.b.cells.1.1, h.b.cells.1.2.1, h.b.cells.1.2.2.1, h.b.cells.1.2.2.2, h.o.cells.1.1, h.o.cells.1.2.1, h.o.cells.1.2.2.1, h.o.cells.1.2.2.2, (hs5.below hu).cells.1.1, (hs5.below hu).cells.1.2.1, (hs5.below hu).cells.1.2.2.1, (hs5.below hu).cells.1.2.2.2⟩
  have hask : ∀ u, Below W4.heap.size W4 u → Asks u ⟨nk, ni, nj, no, nn, nc⟩ ⟨pk, pi, pj, po, pn, pc⟩ ⟨mk, mi, mj, mo, mn, mc⟩ t t2 d := fun u hu => (HAT.out u (h35.trans (hu.mono h35.size))).1
  obtain ⟨bb, hbb⟩ : ∃ bb, sameT t t2 = bb := ⟨_, rfl⟩
  have HSR : Hid (∀ u, (Below W4.heap.size W4 u ∧ u.cell? ⟨X, 0, none⟩ = some (.int .i64 nk) ∧ u.cell? ⟨X, 1, none⟩ = some (.int .i64 ni) ∧ u.cell? ⟨X, 2, none⟩ = some (.int .i64 nj) ∧ u.cell? ⟨X, 3, none⟩ = some (.slice no nn nc) ∧ u.cell? ⟨X2, 0, none⟩ = some (.int .i64 pk) ∧ u.cell? ⟨X2, 1, none⟩ = some (.int .i64 pi) ∧ u.cell? ⟨X2, 2, none⟩ = some (.int .i64 pj) ∧ u.cell? ⟨X2, 3, none⟩ = some (.slice po pn pc) ∧ u.cell? ⟨Y, 0, none⟩ = some (.int .i64 mk) ∧ u.cell? ⟨Y, 1, none⟩ = some (.int .i64 mi) ∧ u.cell? ⟨Y, 2, none⟩ = some (.int .i64 mj) ∧ u.cell? ⟨Y, 3, none⟩ = some (.slice mo mn mc) ∧ u.cell? ⟨Z, 0, none⟩ = some (.int .i64 sk) ∧ u.cell? ⟨Z, 1, none⟩ = some (.int .i64 si) ∧ u.cell? ⟨Z, 2, none⟩ = some (.int .i64 sj) ∧ u.cell? ⟨Z, 3, none⟩ = some (.slice so sn sc)) → Calls Try.prog 31 #[.agg #[.int .i64 nk, .int .i64 ni, .int .i64 nj, .slice no nn nc], .int .i64 d] u fun e w' => ∃ n', e = .returned n'.v ∧ (Below W4.heap.size W4 w' ∧ w'.cell? ⟨X, 0, none⟩ = some (.int .i64 nk) ∧ w'.cell? ⟨X, 1, none⟩ = some (.int .i64 ni) ∧ w'.cell? ⟨X, 2, none⟩ = some (.int .i64 nj) ∧ w'.cell? ⟨X, 3, none⟩ = some (.slice no nn nc) ∧ w'.cell? ⟨X2, 0, none⟩ = some (.int .i64 pk) ∧ w'.cell? ⟨X2, 1, none⟩ = some (.int .i64 pi) ∧ w'.cell? ⟨X2, 2, none⟩ = some (.int .i64 pj) ∧ w'.cell? ⟨X2, 3, none⟩ = some (.slice po pn pc) ∧ w'.cell? ⟨Y, 0, none⟩ = some (.int .i64 mk) ∧ w'.cell? ⟨Y, 1, none⟩ = some (.int .i64 mi) ∧ w'.cell? ⟨Y, 2, none⟩ = some (.int .i64 mj) ∧ w'.cell? ⟨Y, 3, none⟩ = some (.slice mo mn mc) ∧ w'.cell? ⟨Z, 0, none⟩ = some (.int .i64 sk) ∧ w'.cell? ⟨Z, 1, none⟩ = some (.int .i64 si) ∧ w'.cell? ⟨Z, 2, none⟩ = some (.int .i64 sj) ∧ w'.cell? ⟨Z, 3, none⟩ = some (.slice so sn sc)) ∧ Hid (TieB w' (shiftT d t) n')) := Lib.hid (fun u hu => (hask u hu.1).sr.mono fun e w' ⟨n', h1, h2, h3⟩ => ⟨n', h1, hall w' (hu.1.trans (h2.mono hu.1.size)), h3.tieB⟩)
  have HSS : Hid (∀ u (zk zi zj : Int) (zo : Option Addr) (zn zc : Nat), (Below W4.heap.size W4 u ∧ u.cell? ⟨X, 0, none⟩ = some (.int .i64 nk) ∧ u.cell? ⟨X, 1, none⟩ = some (.int .i64 ni) ∧ u.cell? ⟨X, 2, none⟩ = some (.int .i64 nj) ∧ u.cell? ⟨X, 3, none⟩ = some (.slice no nn nc) ∧ u.cell? ⟨X2, 0, none⟩ = some (.int .i64 pk) ∧ u.cell? ⟨X2, 1, none⟩ = some (.int .i64 pi) ∧ u.cell? ⟨X2, 2, none⟩ = some (.int .i64 pj) ∧ u.cell? ⟨X2, 3, none⟩ = some (.slice po pn pc) ∧ u.cell? ⟨Y, 0, none⟩ = some (.int .i64 mk) ∧ u.cell? ⟨Y, 1, none⟩ = some (.int .i64 mi) ∧ u.cell? ⟨Y, 2, none⟩ = some (.int .i64 mj) ∧ u.cell? ⟨Y, 3, none⟩ = some (.slice mo mn mc) ∧ u.cell? ⟨Z, 0, none⟩ = some (.int .i64 sk) ∧ u.cell? ⟨Z, 1, none⟩ = some (.int .i64 si) ∧ u.cell? ⟨Z, 2, none⟩ = some (.int .i64 sj) ∧ u.cell? ⟨Z, 3, none⟩ = some (.slice so sn sc)) → Hid (TieB u (shiftT d t) ⟨zk, zi, zj, zo, zn, zc⟩) → Calls Try.prog 14 #[.agg #[.int .i64 sk, .int .i64 si, .int .i64 sj, .slice so sn sc], .agg #[.int .i64 zk, .int .i64 zi, .int .i64 zj, .slice zo zn zc]] u fun e w' => e = .returned (.bool true) ∧ (Below W4.heap.size W4 w' ∧ w'.cell? ⟨X, 0, none⟩ = some (.int .i64 nk) ∧ w'.cell? ⟨X, 1, none⟩ = some (.int .i64 ni) ∧ w'.cell? ⟨X, 2, none⟩ = some (.int .i64 nj) ∧ w'.cell? ⟨X, 3, none⟩ = some (.slice no nn nc) ∧ w'.cell? ⟨X2, 0, none⟩ = some (.int .i64 pk) ∧ w'.cell? ⟨X2, 1, none⟩ = some (.int .i64 pi) ∧ w'.cell? ⟨X2, 2, none⟩ = some (.int .i64 pj) ∧ w'.cell? ⟨X2, 3, none⟩ = some (.slice po pn pc) ∧ w'.cell? ⟨Y, 0, none⟩ = some (.int .i64 mk) ∧ w'.cell? ⟨Y, 1, none⟩ = some (.int .i64 mi) ∧ w'.cell? ⟨Y, 2, none⟩ = some (.int .i64 mj) ∧ w'.cell? ⟨Y, 3, none⟩ = some (.slice mo mn mc) ∧ w'.cell? ⟨Z, 0, none⟩ = some (.int .i64 sk) ∧ w'.cell? ⟨Z, 1, none⟩ = some (.int .i64 si) ∧ w'.cell? ⟨Z, 2, none⟩ = some (.int .i64 sj) ∧ w'.cell? ⟨Z, 3, none⟩ = some (.slice so sn sc))) := Lib.hid (fun u zk zi zj zo zn zc hu hz => by
    have h := same_t (shiftT d t) (shiftT d t) u ⟨sk, si, sj, so, sn, sc⟩ ⟨zk, zi, zj, zo, zn, zc⟩ (TieB.below hf5.tieB hu.1) hz
    rw [sameT_refl] at h
    exact h.mono fun e w' ⟨h1, h2⟩ => ⟨h1, hall w' (hu.1.trans (h2.mono hu.1.size))⟩)
  have HGB : Hid (∀ u, (Below W4.heap.size W4 u ∧ u.cell? ⟨X, 0, none⟩ = some (.int .i64 nk) ∧ u.cell? ⟨X, 1, none⟩ = some (.int .i64 ni) ∧ u.cell? ⟨X, 2, none⟩ = some (.int .i64 nj) ∧ u.cell? ⟨X, 3, none⟩ = some (.slice no nn nc) ∧ u.cell? ⟨X2, 0, none⟩ = some (.int .i64 pk) ∧ u.cell? ⟨X2, 1, none⟩ = some (.int .i64 pi) ∧ u.cell? ⟨X2, 2, none⟩ = some (.int .i64 pj) ∧ u.cell? ⟨X2, 3, none⟩ = some (.slice po pn pc) ∧ u.cell? ⟨Y, 0, none⟩ = some (.int .i64 mk) ∧ u.cell? ⟨Y, 1, none⟩ = some (.int .i64 mi) ∧ u.cell? ⟨Y, 2, none⟩ = some (.int .i64 mj) ∧ u.cell? ⟨Y, 3, none⟩ = some (.slice mo mn mc) ∧ u.cell? ⟨Z, 0, none⟩ = some (.int .i64 sk) ∧ u.cell? ⟨Z, 1, none⟩ = some (.int .i64 si) ∧ u.cell? ⟨Z, 2, none⟩ = some (.int .i64 sj) ∧ u.cell? ⟨Z, 3, none⟩ = some (.slice so sn sc)) → Calls Try.prog 41 #[.agg #[.int .i64 mk, .int .i64 mi, .int .i64 mj, .slice mo mn mc], .agg #[.int .i64 pk, .int .i64 pi, .int .i64 pj, .slice po pn pc]] u fun e w' => e = .returned (.bool bb) ∧ (Below W4.heap.size W4 w' ∧ w'.cell? ⟨X, 0, none⟩ = some (.int .i64 nk) ∧ w'.cell? ⟨X, 1, none⟩ = some (.int .i64 ni) ∧ w'.cell? ⟨X, 2, none⟩ = some (.int .i64 nj) ∧ w'.cell? ⟨X, 3, none⟩ = some (.slice no nn nc) ∧ w'.cell? ⟨X2, 0, none⟩ = some (.int .i64 pk) ∧ w'.cell? ⟨X2, 1, none⟩ = some (.int .i64 pi) ∧ w'.cell? ⟨X2, 2, none⟩ = some (.int .i64 pj) ∧ w'.cell? ⟨X2, 3, none⟩ = some (.slice po pn pc) ∧ w'.cell? ⟨Y, 0, none⟩ = some (.int .i64 mk) ∧ w'.cell? ⟨Y, 1, none⟩ = some (.int .i64 mi) ∧ w'.cell? ⟨Y, 2, none⟩ = some (.int .i64 mj) ∧ w'.cell? ⟨Y, 3, none⟩ = some (.slice mo mn mc) ∧ w'.cell? ⟨Z, 0, none⟩ = some (.int .i64 sk) ∧ w'.cell? ⟨Z, 1, none⟩ = some (.int .i64 si) ∧ w'.cell? ⟨Z, 2, none⟩ = some (.int .i64 sj) ∧ w'.cell? ⟨Z, 3, none⟩ = some (.slice so sn sc))) := Lib.hid (fun u hu => (hask u hu.1).gb.mono fun e w' ⟨h1, h2⟩ => ⟨by rw [← hbb]; exact h1, hall w' (hu.1.trans (h2.mono hu.1.size))⟩)
  have HRB : Hid (∀ u, (Below W4.heap.size W4 u ∧ u.cell? ⟨X, 0, none⟩ = some (.int .i64 nk) ∧ u.cell? ⟨X, 1, none⟩ = some (.int .i64 ni) ∧ u.cell? ⟨X, 2, none⟩ = some (.int .i64 nj) ∧ u.cell? ⟨X, 3, none⟩ = some (.slice no nn nc) ∧ u.cell? ⟨X2, 0, none⟩ = some (.int .i64 pk) ∧ u.cell? ⟨X2, 1, none⟩ = some (.int .i64 pi) ∧ u.cell? ⟨X2, 2, none⟩ = some (.int .i64 pj) ∧ u.cell? ⟨X2, 3, none⟩ = some (.slice po pn pc) ∧ u.cell? ⟨Y, 0, none⟩ = some (.int .i64 mk) ∧ u.cell? ⟨Y, 1, none⟩ = some (.int .i64 mi) ∧ u.cell? ⟨Y, 2, none⟩ = some (.int .i64 mj) ∧ u.cell? ⟨Y, 3, none⟩ = some (.slice mo mn mc) ∧ u.cell? ⟨Z, 0, none⟩ = some (.int .i64 sk) ∧ u.cell? ⟨Z, 1, none⟩ = some (.int .i64 si) ∧ u.cell? ⟨Z, 2, none⟩ = some (.int .i64 sj) ∧ u.cell? ⟨Z, 3, none⟩ = some (.slice so sn sc)) → Calls Try.prog 14 #[.agg #[.int .i64 nk, .int .i64 ni, .int .i64 nj, .slice no nn nc], .agg #[.int .i64 pk, .int .i64 pi, .int .i64 pj, .slice po pn pc]] u fun e w' => e = .returned (.bool bb) ∧ (Below W4.heap.size W4 w' ∧ w'.cell? ⟨X, 0, none⟩ = some (.int .i64 nk) ∧ w'.cell? ⟨X, 1, none⟩ = some (.int .i64 ni) ∧ w'.cell? ⟨X, 2, none⟩ = some (.int .i64 nj) ∧ w'.cell? ⟨X, 3, none⟩ = some (.slice no nn nc) ∧ w'.cell? ⟨X2, 0, none⟩ = some (.int .i64 pk) ∧ w'.cell? ⟨X2, 1, none⟩ = some (.int .i64 pi) ∧ w'.cell? ⟨X2, 2, none⟩ = some (.int .i64 pj) ∧ w'.cell? ⟨X2, 3, none⟩ = some (.slice po pn pc) ∧ w'.cell? ⟨Y, 0, none⟩ = some (.int .i64 mk) ∧ w'.cell? ⟨Y, 1, none⟩ = some (.int .i64 mi) ∧ w'.cell? ⟨Y, 2, none⟩ = some (.int .i64 mj) ∧ w'.cell? ⟨Y, 3, none⟩ = some (.slice mo mn mc) ∧ w'.cell? ⟨Z, 0, none⟩ = some (.int .i64 sk) ∧ w'.cell? ⟨Z, 1, none⟩ = some (.int .i64 si) ∧ w'.cell? ⟨Z, 2, none⟩ = some (.int .i64 sj) ∧ w'.cell? ⟨Z, 3, none⟩ = some (.slice so sn sc))) := Lib.hid (fun u hu => (hask u hu.1).rb.mono fun e w' ⟨h1, h2⟩ => ⟨by rw [← hbb]; exact h1, hall w' (hu.1.trans (h2.mono hu.1.size))⟩)
  have HGA : Hid (∀ u, (Below W4.heap.size W4 u ∧ u.cell? ⟨X, 0, none⟩ = some (.int .i64 nk) ∧ u.cell? ⟨X, 1, none⟩ = some (.int .i64 ni) ∧ u.cell? ⟨X, 2, none⟩ = some (.int .i64 nj) ∧ u.cell? ⟨X, 3, none⟩ = some (.slice no nn nc) ∧ u.cell? ⟨X2, 0, none⟩ = some (.int .i64 pk) ∧ u.cell? ⟨X2, 1, none⟩ = some (.int .i64 pi) ∧ u.cell? ⟨X2, 2, none⟩ = some (.int .i64 pj) ∧ u.cell? ⟨X2, 3, none⟩ = some (.slice po pn pc) ∧ u.cell? ⟨Y, 0, none⟩ = some (.int .i64 mk) ∧ u.cell? ⟨Y, 1, none⟩ = some (.int .i64 mi) ∧ u.cell? ⟨Y, 2, none⟩ = some (.int .i64 mj) ∧ u.cell? ⟨Y, 3, none⟩ = some (.slice mo mn mc) ∧ u.cell? ⟨Z, 0, none⟩ = some (.int .i64 sk) ∧ u.cell? ⟨Z, 1, none⟩ = some (.int .i64 si) ∧ u.cell? ⟨Z, 2, none⟩ = some (.int .i64 sj) ∧ u.cell? ⟨Z, 3, none⟩ = some (.slice so sn sc)) → Calls Try.prog 41 #[.agg #[.int .i64 mk, .int .i64 mi, .int .i64 mj, .slice mo mn mc], .agg #[.int .i64 nk, .int .i64 ni, .int .i64 nj, .slice no nn nc]] u fun e w' => e = .returned (.bool true) ∧ (Below W4.heap.size W4 w' ∧ w'.cell? ⟨X, 0, none⟩ = some (.int .i64 nk) ∧ w'.cell? ⟨X, 1, none⟩ = some (.int .i64 ni) ∧ w'.cell? ⟨X, 2, none⟩ = some (.int .i64 nj) ∧ w'.cell? ⟨X, 3, none⟩ = some (.slice no nn nc) ∧ w'.cell? ⟨X2, 0, none⟩ = some (.int .i64 pk) ∧ w'.cell? ⟨X2, 1, none⟩ = some (.int .i64 pi) ∧ w'.cell? ⟨X2, 2, none⟩ = some (.int .i64 pj) ∧ w'.cell? ⟨X2, 3, none⟩ = some (.slice po pn pc) ∧ w'.cell? ⟨Y, 0, none⟩ = some (.int .i64 mk) ∧ w'.cell? ⟨Y, 1, none⟩ = some (.int .i64 mi) ∧ w'.cell? ⟨Y, 2, none⟩ = some (.int .i64 mj) ∧ w'.cell? ⟨Y, 3, none⟩ = some (.slice mo mn mc) ∧ w'.cell? ⟨Z, 0, none⟩ = some (.int .i64 sk) ∧ w'.cell? ⟨Z, 1, none⟩ = some (.int .i64 si) ∧ w'.cell? ⟨Z, 2, none⟩ = some (.int .i64 sj) ∧ w'.cell? ⟨Z, 3, none⟩ = some (.slice so sn sc))) := Lib.hid (fun u hu => (hask u hu.1).ga.mono fun e w' ⟨h1, h2⟩ => ⟨h1, hall w' (hu.1.trans (h2.mono hu.1.size))⟩)
  have HRA : Hid (∀ u, (Below W4.heap.size W4 u ∧ u.cell? ⟨X, 0, none⟩ = some (.int .i64 nk) ∧ u.cell? ⟨X, 1, none⟩ = some (.int .i64 ni) ∧ u.cell? ⟨X, 2, none⟩ = some (.int .i64 nj) ∧ u.cell? ⟨X, 3, none⟩ = some (.slice no nn nc) ∧ u.cell? ⟨X2, 0, none⟩ = some (.int .i64 pk) ∧ u.cell? ⟨X2, 1, none⟩ = some (.int .i64 pi) ∧ u.cell? ⟨X2, 2, none⟩ = some (.int .i64 pj) ∧ u.cell? ⟨X2, 3, none⟩ = some (.slice po pn pc) ∧ u.cell? ⟨Y, 0, none⟩ = some (.int .i64 mk) ∧ u.cell? ⟨Y, 1, none⟩ = some (.int .i64 mi) ∧ u.cell? ⟨Y, 2, none⟩ = some (.int .i64 mj) ∧ u.cell? ⟨Y, 3, none⟩ = some (.slice mo mn mc) ∧ u.cell? ⟨Z, 0, none⟩ = some (.int .i64 sk) ∧ u.cell? ⟨Z, 1, none⟩ = some (.int .i64 si) ∧ u.cell? ⟨Z, 2, none⟩ = some (.int .i64 sj) ∧ u.cell? ⟨Z, 3, none⟩ = some (.slice so sn sc)) → Calls Try.prog 14 #[.agg #[.int .i64 mk, .int .i64 mi, .int .i64 mj, .slice mo mn mc], .agg #[.int .i64 nk, .int .i64 ni, .int .i64 nj, .slice no nn nc]] u fun e w' => e = .returned (.bool true) ∧ (Below W4.heap.size W4 w' ∧ w'.cell? ⟨X, 0, none⟩ = some (.int .i64 nk) ∧ w'.cell? ⟨X, 1, none⟩ = some (.int .i64 ni) ∧ w'.cell? ⟨X, 2, none⟩ = some (.int .i64 nj) ∧ w'.cell? ⟨X, 3, none⟩ = some (.slice no nn nc) ∧ w'.cell? ⟨X2, 0, none⟩ = some (.int .i64 pk) ∧ w'.cell? ⟨X2, 1, none⟩ = some (.int .i64 pi) ∧ w'.cell? ⟨X2, 2, none⟩ = some (.int .i64 pj) ∧ w'.cell? ⟨X2, 3, none⟩ = some (.slice po pn pc) ∧ w'.cell? ⟨Y, 0, none⟩ = some (.int .i64 mk) ∧ w'.cell? ⟨Y, 1, none⟩ = some (.int .i64 mi) ∧ w'.cell? ⟨Y, 2, none⟩ = some (.int .i64 mj) ∧ w'.cell? ⟨Y, 3, none⟩ = some (.slice mo mn mc) ∧ w'.cell? ⟨Z, 0, none⟩ = some (.int .i64 sk) ∧ w'.cell? ⟨Z, 1, none⟩ = some (.int .i64 si) ∧ w'.cell? ⟨Z, 2, none⟩ = some (.int .i64 sj) ∧ w'.cell? ⟨Z, 3, none⟩ = some (.slice so sn sc))) := Lib.hid (fun u hu => (hask u hu.1).ra.mono fun e w' ⟨h1, h2⟩ => ⟨h1, hall w' (hu.1.trans (h2.mono hu.1.size))⟩)
  have hs0 := hall W4.drew (Below.refl _ _).drew
  have H45 := Lib.hid (And.intro hwc5 (And.intro h35 (And.intro hs5 (And.intro hf5 hZA))))
  have HALL := Lib.hid hall
  clear hZA hwc4 hb5 hs5 hf5 hW4 hZ hwc5 h35 hall hask hbb q0 q1 q2 q3 qz r0 r1 r2 r3 rz
  go_cut [11] (fun u wx => u = .bool true ∧ Below W4.heap.size W4 wx)
  case first =>
    go_region_held3 (fun W' => Below W4.heap.size W4 W' ∧ W'.cell? ⟨X, 0, none⟩ = some (.int .i64 nk) ∧ W'.cell? ⟨X, 1, none⟩ = some (.int .i64 ni) ∧ W'.cell? ⟨X, 2, none⟩ = some (.int .i64 nj) ∧ W'.cell? ⟨X, 3, none⟩ = some (.slice no nn nc) ∧ W'.cell? ⟨X2, 0, none⟩ = some (.int .i64 pk) ∧ W'.cell? ⟨X2, 1, none⟩ = some (.int .i64 pi) ∧ W'.cell? ⟨X2, 2, none⟩ = some (.int .i64 pj) ∧ W'.cell? ⟨X2, 3, none⟩ = some (.slice po pn pc) ∧ W'.cell? ⟨Y, 0, none⟩ = some (.int .i64 mk) ∧ W'.cell? ⟨Y, 1, none⟩ = some (.int .i64 mi) ∧ W'.cell? ⟨Y, 2, none⟩ = some (.int .i64 mj) ∧ W'.cell? ⟨Y, 3, none⟩ = some (.slice mo mn mc) ∧ W'.cell? ⟨Z, 0, none⟩ = some (.int .i64 sk) ∧ W'.cell? ⟨Z, 1, none⟩ = some (.int .i64 si) ∧ W'.cell? ⟨Z, 2, none⟩ = some (.int .i64 sj) ∧ W'.cell? ⟨Z, 3, none⟩ = some (.slice so sn sc))
      (first | exact hs0 | exact hs | assumption)
      (first
      | (go_at_call 31; (with_reducible refine (HSR.out _ (by first | exact hs0 | assumption)).mono ?_); rintro e w5 ⟨⟨zk, zi, zj, zo, zn, zc⟩, rfl, hs, hz⟩; have HZ5 := Lib.hid hz; clear hz; dsimp only [Rn.v])
      | (go_at_call 14; (with_reducible refine (HSS.out _ zk zi zj zo zn zc (by first | exact hs | assumption) HZ5.out).mono ?_); rintro e w6 ⟨rfl, hs⟩)
      | (go_at_call 41; (with_reducible refine (HGB.out _ (by first | exact hs | assumption)).mono ?_); rintro e w6 ⟨rfl, hs⟩)
      | (go_at_call 14; (with_reducible refine (HRB.out _ (by first | exact hs | assumption)).mono ?_); rintro e w6 ⟨rfl, hs⟩)
      | (go_at_call 41; (with_reducible refine (HGA.out _ (by first | exact hs | assumption)).mono ?_); rintro e w6 ⟨rfl, hs⟩)
      | (go_at_call 14; (with_reducible refine (HRA.out _ (by first | exact hs | assumption)).mono ?_); rintro e w6 ⟨rfl, hs⟩))
    all_goals (try go_wp2_with fail)
    all_goals go_meet
    all_goals exact ⟨by simp, hs.1⟩
  case rest =>
  obtain ⟨rfl, hbB⟩ := hcut
  obtain ⟨wB, hwB⟩ : ∃ wB, wB = wc := ⟨_, rfl⟩
  subst hwB
  have HBB := Lib.hid hbB
  clear hbB hs0 HSR HSS HGB HRB HGA HRA HALL
  have hAB : Below wA.heap.size wA wB := H45.out.1.trans (HBB.out.mono H45.out.1.size)
  have h3B : Below W3.heap.size W3 wB := H45.out.2.1.trans (HBB.out.mono H45.out.2.1.size)
  have HPB := Lib.hid (And.intro (HP.out.1.1.below hAB) (HP.out.1.2.below hAB))
  have hKl : K ≤ 2932031007317 := by
    obtain ⟨tk, ti, tj, tl⟩ := t
    have h := HTL.out.ta.out
    obtain ⟨D, h, _⟩ := h
    rw [Tie] at h
    obtain ⟨_, _, _, _, _, _, _, ⟨_, h5⟩, _⟩ := h
    have h6 := partsL_few tl tl.length
    rw [List.take_length] at h6
    have h7 := HK.out
    simp only [Tree.l] at h7
    omega
  have HAB := Lib.hid (And.intro hAB h3B)
  clear hAB h3B
  go_wp2_with fail
  go_loopw [11, 12] (fun o p wr => ∃ q : Nat, q ≤ K ∧ o = .bool true ∧ p = .int .i64 (q : Int) ∧ Below wB.heap.size wB wr) (fun _ p _ => K - (intOf p).toNat)
  case atStart => exact ⟨0, Nat.zero_le _, rfl, rfl, Below.refl _ _⟩
  case round =>
    obtain ⟨q, hql, rfl, rfl, hb⟩ := hrel
    by_cases hlt : q < K
    · obtain ⟨g, gk, gi, gj, go', gn, gc, rfl, hg, c0, c1, c2, c3, htg⟩ := (HPB.out.1.below hb).at HK.out q hlt
      obtain ⟨h, hk, hi, hj, ho, hn, hc, rfl, hh, d0, d1, d2, d3, hth⟩ := (HPB.out.2.below hb).at HK.out q hlt
      have hall : ∀ u, Below wr.heap.size wr u → Below wr.heap.size wr u ∧ u.cell? ⟨g, q * 4, none⟩ = some (.int .i64 gk) ∧ u.cell? ⟨g, q * 4 + 1, none⟩ = some (.int .i64 gi) ∧ u.cell? ⟨g, q * 4 + 2, none⟩ = some (.int .i64 gj) ∧ u.cell? ⟨g, q * 4 + 3, none⟩ = some (.slice go' gn gc) ∧ u.cell? ⟨h, q * 4, none⟩ = some (.int .i64 hk) ∧ u.cell? ⟨h, q * 4 + 1, none⟩ = some (.int .i64 hi) ∧ u.cell? ⟨h, q * 4 + 2, none⟩ = some (.int .i64 hj) ∧ u.cell? ⟨h, q * 4 + 3, none⟩ = some (.slice ho hn hc) := fun u hu => ⟨hu, (hu.cell (p := ⟨g, q * 4, none⟩) hg).trans c0, (hu.cell (p := ⟨g, q * 4 + 1, none⟩) hg).trans c1, (hu.cell (p := ⟨g, q * 4 + 2, none⟩) hg).trans c2, (hu.cell (p := ⟨g, q * 4 + 3, none⟩) hg).trans c3, (hu.cell (p := ⟨h, q * 4, none⟩) hh).trans d0, (hu.cell (p := ⟨h, q * 4 + 1, none⟩) hh).trans d1, (hu.cell (p := ⟨h, q * 4 + 2, none⟩) hh).trans d2, (hu.cell (p := ⟨h, q * 4 + 3, none⟩) hh).trans d3⟩
      have HSM : Hid (∀ u, (Below wr.heap.size wr u ∧ u.cell? ⟨g, q * 4, none⟩ = some (.int .i64 gk) ∧ u.cell? ⟨g, q * 4 + 1, none⟩ = some (.int .i64 gi) ∧ u.cell? ⟨g, q * 4 + 2, none⟩ = some (.int .i64 gj) ∧ u.cell? ⟨g, q * 4 + 3, none⟩ = some (.slice go' gn gc) ∧ u.cell? ⟨h, q * 4, none⟩ = some (.int .i64 hk) ∧ u.cell? ⟨h, q * 4 + 1, none⟩ = some (.int .i64 hi) ∧ u.cell? ⟨h, q * 4 + 2, none⟩ = some (.int .i64 hj) ∧ u.cell? ⟨h, q * 4 + 3, none⟩ = some (.slice ho hn hc)) → Calls Try.prog 14 #[.agg #[.int .i64 gk, .int .i64 gi, .int .i64 gj, .slice go' gn gc], .agg #[.int .i64 hk, .int .i64 hi, .int .i64 hj, .slice ho hn hc]] u fun e w' => e = .returned (.bool true) ∧ (Below wr.heap.size wr w' ∧ w'.cell? ⟨g, q * 4, none⟩ = some (.int .i64 gk) ∧ w'.cell? ⟨g, q * 4 + 1, none⟩ = some (.int .i64 gi) ∧ w'.cell? ⟨g, q * 4 + 2, none⟩ = some (.int .i64 gj) ∧ w'.cell? ⟨g, q * 4 + 3, none⟩ = some (.slice go' gn gc) ∧ w'.cell? ⟨h, q * 4, none⟩ = some (.int .i64 hk) ∧ w'.cell? ⟨h, q * 4 + 1, none⟩ = some (.int .i64 hi) ∧ w'.cell? ⟨h, q * 4 + 2, none⟩ = some (.int .i64 hj) ∧ w'.cell? ⟨h, q * 4 + 3, none⟩ = some (.slice ho hn hc))) := Lib.hid (fun u hu => by
        have h := same_t _ _ u ⟨gk, gi, gj, go', gn, gc⟩ ⟨hk, hi, hj, ho, hn, hc⟩ (TieB.below htg hu.1) (TieB.below hth hu.1)
        rw [sameT_refl] at h
        exact h.mono fun e w' ⟨h1, h2⟩ => ⟨h1, hall w' (hu.1.trans (h2.mono hu.1.size))⟩)
      have HB := Lib.hid hb
      have hs0 := hall wr.drew (Below.refl _ _).drew
      have hq0 : (0 : Int) ≤ (q : Int) := by omega
      have hww : (q : Int) + 1 ≤ 2932031007318 := by omega
      have hdd : decide ((q : Int) < (K : Int)) = true := decide_eq_true (by omega)
      have hdd' : decide (q < K) = true := decide_eq_true hlt
      clear hb htg hth hall
      go_wp2_with fail
      go_region_held3 (fun W' => Below wr.heap.size wr W' ∧ W'.cell? ⟨g, q * 4, none⟩ = some (.int .i64 gk) ∧ W'.cell? ⟨g, q * 4 + 1, none⟩ = some (.int .i64 gi) ∧ W'.cell? ⟨g, q * 4 + 2, none⟩ = some (.int .i64 gj) ∧ W'.cell? ⟨g, q * 4 + 3, none⟩ = some (.slice go' gn gc) ∧ W'.cell? ⟨h, q * 4, none⟩ = some (.int .i64 hk) ∧ W'.cell? ⟨h, q * 4 + 1, none⟩ = some (.int .i64 hi) ∧ W'.cell? ⟨h, q * 4 + 2, none⟩ = some (.int .i64 hj) ∧ W'.cell? ⟨h, q * 4 + 3, none⟩ = some (.slice ho hn hc))
        (first | exact hs0 | exact hs | assumption)
        (first
        | (go_at_call 14; (with_reducible refine (HSM.out _ (by first | exact hs0 | assumption)).mono ?_); rintro e w6 ⟨rfl, hs⟩))
      all_goals (try go_wp2_with fail)
      all_goals (
        go_roundw
        case rel => exact ⟨q + 1, by omega, rfl, by go_num, HB.out.trans (hs.1.mono HB.out.size)⟩
        case measure => simp [intOf]; omega)
    · obtain rfl : q = K := by omega
      have hdd : decide ((q : Int) < (q : Int)) = false := decide_eq_false (by omega)
      have HB := Lib.hid hb
      clear hb
      go_wp2_with fail
      obtain ⟨wC, hwC⟩ : ∃ wC, wC = wr := ⟨_, rfl⟩
      subst hwC
      obtain ⟨R, E, hm, hot, hE⟩ := HP.out.1.1
      have hRq : R.length = q := by rw [hot.length]; exact HK.out
      have hAC := HAB.out.1.trans (HB.out.mono HAB.out.1.size)
      have hAz := hAC.size
      have h3A := HP.out.2.size
      have hst : Mk2 Z3 wC wC E (.slice po1 q pc1) (partsL t.l) R 0 := ⟨Marked.of_below (Below.refl _ _), hm.below hAC, E, OTies.keep (fun g hg => hAC.block g (hE g hg).2.1) (fun _ h => h) _ _ hot, fun _ h => h⟩
      have HST := Lib.hid hst
      have HE : Hid ((∀ g, E g → g < wC.heap.size ∧ (Value.slice po1 q pc1).ownBlock ≠ some g) ∧ (∀ g, E g → Z3 ≤ g ∧ g < wA.heap.size) ∧ R.length = q) := Lib.hid ⟨fun g hg => ⟨Nat.lt_of_lt_of_le (hE g hg).2.1 hAz, (hE g hg).2.2⟩, fun g hg => ⟨(hE g hg).1, (hE g hg).2.1⟩, hRq⟩
      have HOW : Hid (∀ g, (Value.slice po1 q pc1).ownBlock = some g → g < wA.heap.size) := Lib.hid (fun g hg => hm.lt g hg)
      clear hst hm hot hE hRq hAC hAz h3A
      go_loopw [77] (fun p wr => ∃ j : Nat, j ≤ q ∧ p = .int .i64 (j : Int) ∧ Mk2 Z3 wC wr E (.slice po1 q pc1) (partsL t.l) R j) (fun p _ => q - (intOf p).toNat)
      case atStart => exact ⟨0, Nat.zero_le _, rfl, HST.out⟩
      case round =>
        obtain ⟨j, hjl, rfl, hs⟩ := hrel
        by_cases hlt : j < q
        · obtain ⟨g, gk, gi, gj, go', gn, gc, rfl, hg, c0, c1, c2, c3, hcall⟩ := hs.go HK.out HE.out.2.2 HE.out.1 hlt
          have HC := Lib.hid hcall
          have HZ : Hid (Below wr.heap.size wr (wr.alloc (.cells #[.int .i64 gk, .int .i64 gi, .int .i64 gj, .slice go' gn gc] 24))) := Lib.hid ((Below.refl _ _).alloc (Nat.le_refl _) _)
          have hq0 : (0 : Int) ≤ (j : Int) := by omega
          have hww : (j : Int) + 1 ≤ 2932031007318 := by omega
          have hd : decide ((j : Int) < (q : Int)) = true := decide_eq_true (by omega)
          have hd' : decide (j < q) = true := decide_eq_true hlt
          clear hs hcall
          go_wp2_with (go_at_call 23; (with_reducible refine (HC.out _ HZ.out).mono ?_); rintro e w9 ⟨⟨v, rfl⟩, hm9⟩; have HMK := Lib.hid hm9; clear hm9)
          go_roundw
          case rel => exact ⟨j + 1, by omega, by go_num, HMK.out⟩
          case measure => simp [intOf]; omega
        · obtain rfl : j = q := by omega
          have hd : decide ((j : Int) < (j : Int)) = false := decide_eq_false (by omega)
          -- what stands behind the marks
          have hzA := H45.out.2.2.2.2
          have hAC := HAB.out.1.trans (HB.out.mono HAB.out.1.size)
          have h3C := HAB.out.2.trans (HB.out.mono HAB.out.2.size)
          have h4C : Below W4.heap.size W4 wC := HBB.out.trans (HB.out.mono HBB.out.size)
          have h3A := HP.out.2.size
          have hZz := HZ3.out
          have hAz := hAC.size
          have h3r : Below W3.heap.size W3 wr := h3C.trans ((hs.m.low (B := W3.heap.size) (fun g hg => by have := (HE.out.2.1 g hg).1; omega) (by omega)))
          have hbx : Box wr Z ⟨sk, si, sj, so, sn, sc⟩ := by
            have h := H45.out.2.2.1.below h4C
            exact (hs.m.keep Z (Array.getElem?_eq_some_iff.1 h).1 (fun e => by have := (HE.out.2.1 Z e).2; omega)).trans h
          obtain ⟨Ds, hds, hdb⟩ := H45.out.2.2.2.1
          have hdr : OTie wr Ds (shiftT d t) ⟨sk, si, sj, so, sn, sc⟩ := OTie.keep (fun g hg => (hs.m.keep g (Nat.lt_of_lt_of_le (hdb g hg).2 h4C.size) (fun e => by have := (HE.out.2.1 g e).2; have := (hdb g hg).1; omega)).trans (h4C.block g (hdb g hg).2)) (fun _ h => h) _ _ hds
          have hrz : W4.heap.size ≤ wr.heap.size := Nat.le_trans h4C.size hs.m.size
          have hms : Calls Try.prog 23 #[.agg #[.int .i64 sk, .int .i64 si, .int .i64 sj, .slice so sn sc]] wr fun e w' => (∃ v, e = .returned v) ∧ Below W3.heap.size W3 w' ∧ Mine nd w' Z3 (.slice po1 j pc1) R :=
            (mark_t (shiftT d t) wr Ds ⟨sk, si, sj, so, sn, sc⟩ hdr (fun g hg => Nat.lt_of_lt_of_le (hdb g hg).2 hrz)).mono fun e w' ⟨h1, h2⟩ => ⟨h1, h3r.trans (h2.low (fun g hg => by have := (hdb g hg).1; omega) (by have := h3r.size; omega)), hs.row.keep (fun k hk hlt => h2.keep k hlt (fun e => by have := HOW.out k hk; have := (hdb k e).1; omega))⟩
          obtain ⟨⟨z0, z1, z2, z3⟩, zz⟩ := hbx.cells
          have HMS := Lib.hid hms
          have HPE := Lib.hid (fun (w6 : World) (h1 : Below W3.heap.size W3 w6) (h2 : Mine nd w6 Z3 (.slice po1 j pc1) R) => push_end HZ3.out h1 h2 HE.out.2.2 hKl ⟨-3, 0, 0, none, 0, 0⟩)
          clear hs hzA hAC h3C h4C h3A hZz hAz h3r hbx hds hdb hdr hrz hms
          go_wp2_with (first
            | (go_at_call 23; (with_reducible refine HMS.out.mono ?_); rintro e w6 ⟨⟨v, rfl⟩, h6, hm6⟩; have H6 := Lib.hid (And.intro h6 hm6); clear h6 hm6)
            | (at_builtin; obtain ⟨g', cap', w7, hrun, hb7⟩ := HPE.out w6 H6.out.1 H6.out.2 _ ((Below.refl _ _).alloc (Nat.le_refl _) _) _ (heap_alloc_last w6 _); have HB7 := Lib.hid hb7; obtain ⟨hask7, ⟨⟨b0, b1, b2, b3⟩, bz⟩, _, ⟨⟨e0, e1, e2, e3⟩, ez⟩⟩ := HAT.out w7 hb7; have HRA7 : Hid (Calls Try.prog 14 #[.agg #[.int .i64 mk, .int .i64 mi, .int .i64 mj, .slice mo mn mc], .agg #[.int .i64 nk, .int .i64 ni, .int .i64 nj, .slice no nn nc]] w7 fun e w' => e = .returned (.bool true) ∧ Below w7.heap.size w7 w') := Lib.hid hask7.ra; clear hb7 hask7; refine Lib.wpList_append_run _ rfl _ _ _ _ rfl _ _ rfl rfl _ _ (hrun _) ?_; clear hrun)
            | (go_at_call 14; (with_reducible refine HRA7.out.mono ?_); rintro e w8 ⟨rfl, hb8⟩; have HB8 := Lib.hid (HTL.out.bl.trans ((HB7.out.trans (hb8.mono HB7.out.size)).mono HTL.out.bl.size)); clear hb8))
          all_goals (try (first | go_ret | go_end0))
          all_goals (first | exact ⟨rfl, HB8.out⟩ | exact ⟨by simp; omega, HB8.out⟩)
end Go.Proofs.Ytnnffcfdokejbaa.rd
namespace Go.Proofs.Ytnnffcfdokejbaa.rd
open Go.RowKit

mutual
theorem shapeT_len {s : ByteArray} : ∀ t : Tree, fitT s.size t = true → InR t → (shapeT s.data.toList t).length ≤ (64 + s.size) * bulkT t
  | .mk k i j l, hf, hi => by
    obtain ⟨hk, h0, hij, hjN, hl⟩ := fitT_node hf
    rw [InR] at hi
    have h1 := shapeTs_len (s := s) l hl hi.2.2.2
    have h2 := digI_few hi.1
    have h3 := digI_few (z := j - i) (by have := hi.2.2.1; unfold In64 at *; omega)
    have h4 : ((s.data.toList.drop i.toNat).take (j.toNat - i.toNat)).length ≤ s.size := by rw [List.length_take, List.length_drop, sdata]; omega
    rw [shapeT, bulkT, Nat.mul_add, Nat.mul_one]
    simp only [List.length_append, List.length_cons, List.length_nil]
    split
    · simp only [List.length_append, List.length_cons, List.length_nil]
      omega
    · simp only [List.length_nil]
      omega
theorem shapeTs_len {s : ByteArray} : ∀ l : List Tree, (∀ t ∈ l, fitT s.size t = true) → InRs l → (shapeTs s.data.toList l).length ≤ (64 + s.size) * bulkTs l
  | [], _, _ => by rw [shapeTs]; exact Nat.zero_le _
  | t :: l, h1, h2 => by
    rw [InRs] at h2
    rw [shapeTs, bulkTs, List.length_append, Nat.mul_add]
    exact Nat.add_le_add (shapeT_len t (h1 t (by simp)) h2.1) (shapeTs_len l (fun u hu => h1 u (by simp [hu])) h2.2)
end
/-- The law's own world: its two trees in boxes, a pool of one's own. -/
structure Ow (Pl : World → Nat → (Nat → Prop) → List Gr → Prop) (w : World) (X Y : Nat) (s s' : ByteArray) (n m : Rn) (A b : Nat) (L : List Gr) (u : World) : Prop where
  below : Below w.heap.size w u
  xa : TBox u X s n
  xb : TBox u Y s' m
  lowX : X < A
  lowY : Y < A
  wa : w.heap.size ≤ A
  au : A ≤ u.heap.size
  pool : ∃ D, Pl u b D L ∧ ∀ k, D k → A ≤ k
theorem Ow.more {Pl : World → Nat → (Nat → Prop) → List Gr → Prop} (HC : PoolC Pl) {w : World} {X Y : Nat} {s s' : ByteArray} {n m : Rn} {A b : Nat} {L : List Gr} {u u' : World} (h : Ow Pl w X Y s s' n m A b L u) (hb : Below u.heap.size u u') : Ow Pl w X Y s s' n m A b L u' := by
  obtain ⟨D, h1, h2⟩ := h.pool
  exact ⟨h.below.trans (hb.mono h.below.size), h.xa.below hb, h.xb.below hb, h.lowX, h.lowY, h.wa, Nat.le_trans h.au hb.size, D, HC.keep h1 hb.size (fun k hk => hb.block k (HC.dead h1 k hk)), h2⟩
theorem Ow.low {Pl : World → Nat → (Nat → Prop) → List Gr → Prop} {w : World} {X Y : Nat} {s s' : ByteArray} {n m : Rn} {A b : Nat} {L L' : List Gr} {u u' : World} (h : Ow Pl w X Y s s' n m A b L u) (hb : Below A u u') (hp : ∃ D, Pl u' b D L' ∧ ∀ k, D k → A ≤ k) : Ow Pl w X Y s s' n m A b L' u' :=
  ⟨h.below.trans (hb.mono h.wa), h.xa.low hb h.lowX, h.xb.low hb h.lowY, h.lowX, h.lowY, h.wa, Nat.le_trans h.au hb.size, hp⟩
/-- A moved tree, apart from the pool. -/
def Sf (Pl : World → Nat → (Nat → Prop) → List Gr → Prop) (A b : Nat) (L : List Gr) (t : Tree) (u : World) (n : Rn) : Prop := ∃ T D, Tie u T t n ∧ Pl u b D L ∧ (∀ k, D k → A ≤ k) ∧ ∀ k, T k → k < u.heap.size ∧ ¬ D k
section
variable {Pl : World → Nat → (Nat → Prop) → List Gr → Prop} {w : World} {X Y : Nat} {s s' : ByteArray} {n m : Rn} {A b : Nat} {L : List Gr} {u : World}
theorem Ow.put (HC : PoolC Pl) (h : Ow Pl w X Y s s' n m A b L u) {t : Tree} {p : Rn} {z : ByteArray} (ht : Hid (TieB w t p)) (hin : InR t) (hs : z.size ≤ 281474976710656) (hfit : fitT z.size t = true) (hl : (putT z t L).1.length ≤ 4294967296) : Calls Try.prog 18 #[.pointer (some ⟨b, 0, none⟩), .string z, p.v] u fun e w' => e = .returned (.tuple #[.int .i64 ((putT z t L).2 : Int), .int .i64 0]) ∧ Ow Pl w X Y s s' n m A b (putT z t L).1 w' := by
  obtain ⟨D, h1, h2⟩ := h.pool
  exact (HC.put_fit ht hin hs hfit hl h.below h1 h.wa h.au h2).mono fun e w' ⟨e1, e2, D', e3, e4⟩ => ⟨e1, h.low e2 ⟨D', e3, e4⟩⟩
theorem Ow.len (HC : PoolC Pl) (h : Ow Pl w X Y s s' n m A b L u) : Calls Try.prog 17 #[.pointer (some ⟨b, 0, none⟩)] u fun e w' => e = .returned (.int .i64 (L.length : Int)) ∧ Below u.heap.size u w' := by
  obtain ⟨D, h1, h2⟩ := h.pool
  exact HC.len h1
theorem Ow.shift (HC : PoolC Pl) (h : Ow Pl w X Y s s' n m A b L u) {t : Tree} {p : Rn} (ht : Hid (TieB w t p)) (d : Int) : Calls Try.prog 31 #[p.v, .int .i64 d] u fun e w' => ∃ n' : Rn, e = .returned n'.v ∧ Ow Pl w X Y s s' n m A b L w' ∧ Sf Pl A b L (shiftT d t) w' n' := by
  obtain ⟨D, h1, h2⟩ := h.pool
  refine (shift_t t u p d (TieB.below ht h.below)).mono fun e w' ⟨n', e1, e2, T, e3, e4⟩ => ⟨n', e1, h.more HC e2, T, D, OTie.tie _ _ e3, HC.keep h1 e2.size (fun k hk => e2.block k (HC.dead h1 k hk)), h2, fun k hk => ⟨(e4 k hk).2, fun hd => ?_⟩⟩
  have := HC.dead h1 k hd
  have := (e4 k hk).1
  omega
theorem Ow.again (HC : PoolC Pl) (h : Ow Pl w X Y s s' n m A b L u) {t : Tree} {p : Rn} {z : ByteArray} {x : Nat} (hf : Sf Pl A b L t u p) (hin : InR t) (hs : z.size ≤ 281474976710656) (hfit : fitT z.size t = true) (hp : putT z t L = (L, x)) (hl : L.length ≤ 4294967296) : Calls Try.prog 18 #[.pointer (some ⟨b, 0, none⟩), .string z, p.v] u fun e w' => e = .returned (.tuple #[.int .i64 (x : Int), .int .i64 0]) ∧ Ow Pl w X Y s s' n m A b L w' := by
  obtain ⟨T, D, h1, h2, h3, h4⟩ := hf
  have hc := HC.put (s := z) h2 h1 h4 hin hs (by rw [hp]; exact hl)
  rw [hfit, hp] at hc
  exact hc.mono fun e w' ⟨e1, D', e2, e3, e4⟩ => ⟨e1, h.low (e3.low h3 h.au) ⟨D', e2, fun k hk => (e4 k hk).elim (h3 k) (fun e => Nat.le_trans h.au e)⟩⟩
theorem Ow.node (HC : PoolC Pl) (h : Ow Pl w X Y s s' n m A b L u) {t : Tree} {x : Nat} (hx : x < L.length) (h0 : 0 ≤ t.i) (h1 : t.i ≤ 2147483647) (hn : nodeT L (x + 1) x t.i = t) : Calls Try.prog 29 #[.pointer (some ⟨b, 0, none⟩), .int .i64 (x : Int), .int .i64 t.i] u fun e w' => ∃ n' : Rn, e = .returned (.tuple #[n'.v, .int .i64 0]) ∧ Below u.heap.size u w' ∧ Hid (TieB w' t n') := by
  obtain ⟨D, p1, p2⟩ := h.pool
  have hc := HC.node p1 x t.i hx h0 h1
  rw [hn] at hc
  exact hc.mono fun e w' ⟨n', e1, e2, e3⟩ => ⟨n', e1, e2, e3.tieB⟩
end
/-- What the two trees' numbers are. -/
theorem once_facts {s s' ah : ByteArray} {t t' : Tree} (hs : s.size + bulkT t + (s'.size + bulkT t') ≤ 1048576) (hah : ah.size ≤ 268435456) (hf : fitT s.size t = true) (hf' : fitT s'.size t' = true) (hi : InR t) (hi' : InR t') (hw : FewT t) (hw' : FewT t') : ∃ (x y : Nat) (L1 L2 : List Gr), putT s t [] = (L1, x) ∧ putT s' t' L1 = (L2, y) ∧ L2.length ≤ 4294967296 ∧ x < L2.length ∧ y < L2.length ∧ putT (ah ++ s) (shiftT ah.size t) L2 = (L2, x) ∧ nodeT L2 (x + 1) x t.i = t ∧ nodeT L2 (y + 1) y t'.i = t' ∧ (x = y ↔ shapeT s.data.toList t = shapeT s'.data.toList t') := by
  have b1 := putT_bulk s t []
  have b2 := putT_bulk s' t' (putT s t []).1
  simp only [List.length_nil] at b1
  have g0 : GoodL [] := ⟨by show 0 ≤ _; omega, fun i h => by cases h⟩
  have ok1 := putT_ok s (by omega) t [] g0 hf hi hw (by omega)
  have ok2 := putT_ok s' (by omega) t' _ ok1.good hf' hi' hw' (by omega)
  have o2 : Once (putT s' t' (putT s t []).1).1 := putT_once s' t' _ (putT_once s t [] (fun i j g h => by simp at h))
  have i1 := is_mono ok2.pre t _ (putT_is s t [])
  have i2 := putT_is s' t' (putT s t []).1
  refine ⟨(putT s t []).2, (putT s' t' (putT s t []).1).2, (putT s t []).1, (putT s' t' (putT s t []).1).1, rfl, rfl, by omega, ?_, ?_, ?_, node_back ok2.good t _ _ hf i1 (Nat.lt_succ_self _), node_back ok2.good t' _ _ hf' i2 (Nat.lt_succ_self _), ?_, ?_⟩
  · obtain ⟨g, h1, _⟩ := is_get i1
    exact (List.getElem?_eq_some_iff.1 h1).1
  · obtain ⟨g, h1, _⟩ := is_get i2
    exact (List.getElem?_eq_some_iff.1 h1).1
  · rw [putT_shift ah s (by omega) t _ hf]
    exact is_put o2 t _ i1
  · intro e
    rw [← e] at i2
    exact is_shape t t' _ hf hf' i1 i2
  · intro e
    exact (shape_is ok2.good o2 t t' _ _ [] [] hf hf' i1 i2 (by rw [e])).1
end Go.Proofs.Ytnnffcfdokejbaa.rd
namespace Go.Proofs.Ytnnffcfdokejbaa.rd
open Go.RowKit

/-- A tree and its text, in memory. -/
structure Sr where
  (s : ByteArray) (n : Rn)
def sr : Kd Sr where
  c t := [.string t.s, .int .i64 t.n.k, .int .i64 t.n.i, .int .i64 t.n.j, .slice t.n.o t.n.n t.n.c]
  k := 5
  e := 38
  t := 31
  z := .agg #[.string .empty, .int .i64 0, .int .i64 0, .int .i64 0, .slice none 0 0]
  bytes := 64
  len _ := rfl
  one x u hu := by simp only [List.mem_cons, List.not_mem_nil, or_false] at hu; rcases hu with rfl | rfl | rfl | rfl | rfl <;> rfl
  ht := Try.underlying31
  hi := by kernel_rfl
  hz := rfl
  hk := by decide
  ht' := by kernel_rfl
  hs _ := by kernel_rfl
theorem cells_sr {w : World} {g off : Nat} {T : List Sr} (h : Cells sr w g off T) (n : Nat) (hn : n < T.length) : w.cell? ⟨g, off + n * 5, none⟩ = some (.string T[n].s) ∧ w.cell? ⟨g, off + n * 5 + 1, none⟩ = some (.int .i64 T[n].n.k) ∧ w.cell? ⟨g, off + n * 5 + 2, none⟩ = some (.int .i64 T[n].n.i) ∧ w.cell? ⟨g, off + n * 5 + 3, none⟩ = some (.int .i64 T[n].n.j) ∧ w.cell? ⟨g, off + n * 5 + 4, none⟩ = some (.slice T[n].n.o T[n].n.n T[n].n.c) :=
  ⟨h _ _ (flat_at sr T n hn 0 (by decide)), h _ _ (flat_at sr T n hn 1 (by decide)), h _ _ (flat_at sr T n hn 2 (by decide)), h _ _ (flat_at sr T n hn 3 (by decide)), h _ _ (flat_at sr T n hn 4 (by decide))⟩
/-- One more tree. -/
def stepL (L : List Gr) (z : ByteArray × Tree) : List Gr := if fitT z.1.size z.2 then (putT z.1 z.2 L).1 else L
/-- The pool behind many trees. -/
def putsL (Z : List (ByteArray × Tree)) : List Gr := Z.foldl stepL []
theorem putsL_snoc {Z : List (ByteArray × Tree)} {q : Nat} (h : q < Z.length) : putsL (Z.take (q + 1)) = stepL (putsL (Z.take q)) Z[q] := by
  unfold putsL
  rw [List.take_add_one, List.getElem?_eq_getElem h, List.foldl_append]
  rfl
def bulkZ : List (ByteArray × Tree) → Nat
  | [] => 0
  | z :: Z => z.1.size + bulkT z.2 + bulkZ Z
theorem bulkZ_append : ∀ (A C : List (ByteArray × Tree)), bulkZ (A ++ C) = bulkZ A + bulkZ C
  | [], C => by show bulkZ C = 0 + bulkZ C; omega
  | z :: A, C => by
    show z.1.size + bulkT z.2 + bulkZ (A ++ C) = z.1.size + bulkT z.2 + bulkZ A + bulkZ C
    rw [bulkZ_append A C]
    omega
theorem bulkZ_snoc {Z : List (ByteArray × Tree)} {q : Nat} (h : q < Z.length) : bulkZ (Z.take (q + 1)) = bulkZ (Z.take q) + (Z[q].1.size + bulkT Z[q].2) := by
  rw [List.take_add_one, List.getElem?_eq_getElem h, bulkZ_append]
  rfl
theorem bulkZ_take (Z : List (ByteArray × Tree)) (q : Nat) : bulkZ (Z.take q) ≤ bulkZ Z := by
  have : bulkZ Z = bulkZ (Z.take q) + bulkZ (Z.drop q) := by rw [← bulkZ_append, List.take_append_drop]
  omega
/-- What holds of the law's pool. -/
structure Gd (N : Nat) (L : List Gr) : Prop where
  good : GoodL L
  once : Once L
  small : ∀ g ∈ L, g.s.size ≤ 1048576
  few : L.length ≤ N
theorem endPut_small {M : Nat} {L : List Gr} {g : Gr} (h : ∀ x ∈ L, x.s.size ≤ M) (hg : g.s.size ≤ M) : ∀ x ∈ (endPut L g).1, x.s.size ≤ M := by
  unfold endPut
  split
  · exact h
  · intro x hx
    rcases List.mem_append.1 hx with hx | hx
    · exact h x hx
    · obtain rfl := List.mem_singleton.1 hx
      exact hg
mutual
theorem putT_small {M : Nat} {s : ByteArray} (hs : s.size ≤ M) : ∀ (t : Tree) (L : List Gr), (∀ x ∈ L, x.s.size ≤ M) → ∀ x ∈ (putT s t L).1, x.s.size ≤ M
  | .mk k i j l, L, h => by
    rw [putT]
    refine endPut_small (putTs_small hs l L h) ?_
    show (B _).size ≤ M
    rw [bsize, List.length_take, List.length_drop, sdata]
    omega
theorem putTs_small {M : Nat} {s : ByteArray} (hs : s.size ≤ M) : ∀ (l : List Tree) (L : List Gr), (∀ x ∈ L, x.s.size ≤ M) → ∀ x ∈ (putTs s l L).1, x.s.size ≤ M
  | [], L, h => by rw [putTs]; exact h
  | t :: l, L, h => by
    rw [putTs]
    exact putTs_small hs l _ (putT_small hs t L h)
end
theorem Gd.nil : Gd 0 [] := ⟨⟨by show 0 ≤ _; omega, fun i h => by cases h⟩, (fun i j g h => by simp at h), (fun g h => by cases h), Nat.le_refl _⟩
theorem Gd.step {N : Nat} {L : List Gr} (h : Gd N L) {s : ByteArray} {t : Tree} (hs : s.size ≤ 1048576) (hi : InR t) (hw : FewT t) (hN : N + bulkT t ≤ 4294967296) : (putT s t L).1.length ≤ 4294967296 ∧ Gd (N + bulkT t) (stepL L (s, t)) := by
  have h1 := putT_bulk s t L
  have h2 := h.few
  refine ⟨by omega, ?_⟩
  unfold stepL
  cases hf : fitT s.size t with
  | false =>
    simp only [Bool.false_eq_true, if_false]
    exact ⟨h.good, h.once, h.small, by omega⟩
  | true =>
    simp only [if_true]
    exact ⟨(putT_ok s (by omega) t L h.good hf hi hw (by omega)).good, putT_once s t L h.once, putT_small hs t L h.small, by omega⟩
/-- What is asked of a tree that has been put. -/
theorem Gd.told {N : Nat} {L : List Gr} (h : Gd N L) {s : ByteArray} {t : Tree} (hs : s.size ≤ 1048576) (hi : InR t) (hw : FewT t) (hN : N + bulkT t ≤ 4294967296) (hf : fitT s.size t = true) : (putT s t L).2 < (putT s t L).1.length ∧ shN (putT s t L).1 ((putT s t L).2 + 1) (putT s t L).2 = shapeT s.data.toList t := by
  have h1 := putT_bulk s t L
  have h2 := h.few
  have hg := (putT_ok s (by omega) t L h.good hf hi hw (by omega)).good
  have hI := putT_is s t L
  obtain ⟨g, h3, _⟩ := is_get hI
  exact ⟨(List.getElem?_eq_some_iff.1 h3).1, is_shN hg t _ _ hf hI (Nat.lt_succ_self _)⟩
end Go.Proofs.Ytnnffcfdokejbaa.rd
namespace Go.Proofs.Ytnnffcfdokejbaa.rd
open Go.RowKit

/-- What is asked in one round. -/
structure Rd (w : World) (b br X Y : Nat) (s : ByteArray) (k i j : Int) (o : Option Addr) (nn c : Nat) (pk pi pj : Int) (po : Option Addr) (pn pc : Nat) (t : Tree) (L L1 : List Gr) (id er : Int) (SH : List UInt8) : Prop where
  len0 : ∀ u, Rs w b br X Y s ⟨k, i, j, o, nn, c⟩ ⟨pk, pi, pj, po, pn, pc⟩ t L L u → Calls Try.prog 17 #[.pointer (some ⟨b, 0, none⟩)] u fun e w' => e = .returned (.int .i64 (L.length : Int)) ∧ Rs w b br X Y s ⟨k, i, j, o, nn, c⟩ ⟨pk, pi, pj, po, pn, pc⟩ t L L w'
  put : ∀ u, Rs w b br X Y s ⟨k, i, j, o, nn, c⟩ ⟨pk, pi, pj, po, pn, pc⟩ t L L u → Calls Try.prog 18 #[.pointer (some ⟨b, 0, none⟩), .string s, .agg #[.int .i64 pk, .int .i64 pi, .int .i64 pj, .slice po pn pc]] u fun e w' => e = .returned (.tuple #[.int .i64 id, .int .i64 er]) ∧ Rs w b br X Y s ⟨k, i, j, o, nn, c⟩ ⟨pk, pi, pj, po, pn, pc⟩ t L1 L w'
  rput : ∀ u, Rs w b br X Y s ⟨k, i, j, o, nn, c⟩ ⟨pk, pi, pj, po, pn, pc⟩ t L1 L u → Calls Try.prog 19 #[.pointer (some ⟨br, 0, none⟩), .string s, .agg #[.int .i64 k, .int .i64 i, .int .i64 j, .slice o nn c]] u fun e w' => e = .returned (.tuple #[.int .i64 id, .int .i64 er]) ∧ Rs w b br X Y s ⟨k, i, j, o, nn, c⟩ ⟨pk, pi, pj, po, pn, pc⟩ t L1 L1 w'
  same : ∀ u, Rs w b br X Y s ⟨k, i, j, o, nn, c⟩ ⟨pk, pi, pj, po, pn, pc⟩ t L1 L1 u → Calls Try.prog 14 #[.agg #[.int .i64 pk, .int .i64 pi, .int .i64 pj, .slice po pn pc], .agg #[.int .i64 k, .int .i64 i, .int .i64 j, .slice o nn c]] u fun e w' => e = .returned (.bool true) ∧ Rs w b br X Y s ⟨k, i, j, o, nn, c⟩ ⟨pk, pi, pj, po, pn, pc⟩ t L1 L1 w'
  len : ∀ u, Rs w b br X Y s ⟨k, i, j, o, nn, c⟩ ⟨pk, pi, pj, po, pn, pc⟩ t L1 L1 u → Calls Try.prog 17 #[.pointer (some ⟨b, 0, none⟩)] u fun e w' => e = .returned (.int .i64 (L1.length : Int)) ∧ Rs w b br X Y s ⟨k, i, j, o, nn, c⟩ ⟨pk, pi, pj, po, pn, pc⟩ t L1 L1 w'
  rlen : ∀ u, Rs w b br X Y s ⟨k, i, j, o, nn, c⟩ ⟨pk, pi, pj, po, pn, pc⟩ t L1 L1 u → Calls Try.prog 22 #[.pointer (some ⟨br, 0, none⟩)] u fun e w' => e = .returned (.int .i64 (L1.length : Int)) ∧ Rs w b br X Y s ⟨k, i, j, o, nn, c⟩ ⟨pk, pi, pj, po, pn, pc⟩ t L1 L1 w'
  like : er = 0 → ∀ u, Rs w b br X Y s ⟨k, i, j, o, nn, c⟩ ⟨pk, pi, pj, po, pn, pc⟩ t L1 L1 u → Calls Try.prog 20 #[.pointer (some ⟨b, 0, none⟩), .int .i64 id] u fun e w' => e = .returned (.string (B SH)) ∧ Rs w b br X Y s ⟨k, i, j, o, nn, c⟩ ⟨pk, pi, pj, po, pn, pc⟩ t L1 L1 w'
  shape : er = 0 → ∀ u, Rs w b br X Y s ⟨k, i, j, o, nn, c⟩ ⟨pk, pi, pj, po, pn, pc⟩ t L1 L1 u → Calls Try.prog 21 #[.string s, .agg #[.int .i64 k, .int .i64 i, .int .i64 j, .slice o nn c]] u fun e w' => e = .returned (.string (B SH)) ∧ Rs w b br X Y s ⟨k, i, j, o, nn, c⟩ ⟨pk, pi, pj, po, pn, pc⟩ t L1 L1 w'
  mark : ∀ u, Rs w b br X Y s ⟨k, i, j, o, nn, c⟩ ⟨pk, pi, pj, po, pn, pc⟩ t L1 L1 u → Calls Try.prog 23 #[.agg #[.int .i64 pk, .int .i64 pi, .int .i64 pj, .slice po pn pc]] u fun e w' => (∃ v, e = .returned v) ∧ Ps w b br L1 w'

theorem rd_of {w : World} {b br M : Nat} {s : ByteArray} {k i j : Int} {o : Option Addr} {nn c : Nat} {t : Tree} {L : List Gr} (ht : Hid (TieB w t ⟨k, i, j, o, nn, c⟩)) (hin : InR t) (hL : Gd M L) (hM : M + bulkT t ≤ 2097152) (hs : s.size ≤ 1048576) :
    ∃ (L1 : List Gr) (id er : Int) (SH : List UInt8), L1 = stepL L (s, t) ∧ Gd (M + bulkT t) L1 ∧ ((er = 0 ∧ 0 ≤ id ∧ id < (L1.length : Int)) ∨ (er = 80 ∧ id = 0 ∧ L1 = L)) ∧ ∀ (X Y : Nat) (pk pi pj : Int) (po : Option Addr) (pn pc : Nat), Rd w b br X Y s k i j o nn c pk pi pj po pn pc t L L1 id er SH := by
  have hw : FewT t := by obtain ⟨D0, h1, _⟩ := ht.out; exact tie_few _ _ h1
  obtain ⟨hl, hg⟩ := hL.step hs hin hw (by omega)
  have hfew := hL.few
  have hfew1 := hg.few
  have hst : stepL L (s, t) = if fitT s.size t then (putT s t L).1 else L := rfl
  refine ⟨stepL L (s, t), if fitT s.size t then ((putT s t L).2 : Int) else 0, errOf (fitT s.size t), shapeT s.data.toList t, rfl, hg, ?_, fun X Y pk pi pj po pn pc => ⟨fun u hu => hu.len, fun u hu => ?_, fun u hu => ?_, fun u hu => hu.same ht, fun u hu => hu.len, fun u hu => hu.rlen, fun he u hu => ?_, fun he u hu => ?_, fun u hu => hu.mark⟩⟩
  · cases hf : fitT s.size t with
    | false =>
      rw [hst, hf]
      exact .inr ⟨rfl, rfl, rfl⟩
    | true =>
      obtain ⟨h1, _⟩ := hL.told hs hin hw (by omega) hf
      rw [hst, hf, if_pos rfl, if_pos rfl]
      exact .inl ⟨rfl, by omega, by omega⟩
  · rw [hst]
    exact hu.gput hin (by omega) hl
  · rw [hst] at hu ⊢
    exact hu.rput ht (by omega)
  · cases hf : fitT s.size t with
    | false => rw [hf] at he; cases he
    | true =>
      obtain ⟨h1, h2⟩ := hL.told hs hin hw (by omega) hf
      rw [hst, hf, if_pos rfl] at hu hg
      rw [hst, hf, if_pos rfl, if_pos rfl]
      have hsh := shapeT_len t hf hin
      have hm : (64 + s.size) * bulkT t ≤ 1048640 * 2097152 := Nat.mul_le_mul (by omega) (by omega)
      obtain ⟨D, E, T, p1, _⟩ := hu.all
      have h := glike_any _ u b _ D _ h1 p1 hg.good (fun i h => by have := hg.small _ (List.getElem_mem h); omega) (Nat.lt_succ_self _) (by rw [h2]; omega)
      rw [h2] at h
      exact h.mono fun e w' ⟨e1, e2⟩ => ⟨e1, hu.more e2⟩
  · cases hf : fitT s.size t with
    | false => rw [hf] at he; cases he
    | true =>
      have hsh := shapeT_len t hf hin
      have hm : (64 + s.size) * bulkT t ≤ 1048640 * 2097152 := Nat.mul_le_mul (by omega) (by omega)
      exact (shape_t t u ⟨k, i, j, o, nn, c⟩ s (TieB.below ht hu.below) hin hf (by omega)).mono fun e w' ⟨e1, e2⟩ => ⟨e1, hu.more e2⟩
end Go.Proofs.Ytnnffcfdokejbaa.rd
namespace Go.Proofs.Ytnnffcfdokejbaa.rd
open Go.RowKit

section
variable {w : World} {b br : Nat} {L : List Gr} {u : World}

theorem Ps.plen (h : Ps w b br L u) : Calls Try.prog 17 #[.pointer (some ⟨b, 0, none⟩)] u fun e w' => e = .returned (.int .i64 (L.length : Int)) ∧ Ps w b br L w' := by
  obtain ⟨D, E, h1, _⟩ := h.two
  exact (pool_c.len h1).mono fun e w' ⟨e1, e2⟩ => ⟨e1, h.more e2⟩
structure Qs (w : World) (b br : Nat) (L : List Gr) (v u : World) : Prop where
  ps : Ps w b br L u
  bel : Below v.heap.size v u
variable {v : World}
theorem Qs.more {u' : World} (h : Qs w b br L v u) (hb : Below u.heap.size u u') : Qs w b br L v u' := ⟨h.ps.more hb, h.bel.trans (hb.mono h.bel.size)⟩
theorem Qs.has (h : Qs w b br L v u) (x : Int) : Calls Try.prog 24 #[.pointer (some ⟨br, 0, none⟩), .int .i64 x] u fun e w' => (∃ (xk : Int) (xs : ByteArray) (xo : Option Addr) (xn xc : Nat), e = .returned (.tuple #[.agg #[.int .i64 xk, .string xs, .slice xo xn xc], .int .i64 (if 0 ≤ x ∧ x < L.length then 0 else 100)])) ∧ Qs w b br L v w' := by
  obtain ⟨D, E, _, ⟨D2, vL, R, h2, _⟩, _⟩ := h.ps.two
  exact (refHas_gn h2 x).mono fun e w' ⟨⟨y, e1⟩, e2⟩ => ⟨⟨y.k, y.s, y.o, y.n, y.c, e1⟩, h.more e2⟩
theorem Qs.kind0 (h : Qs w b br L v u) (x : Int) (hx : ¬ (0 ≤ x ∧ x < (L.length : Int))) : Calls Try.prog 25 #[.pointer (some ⟨b, 0, none⟩), .int .i64 x] u fun e w' => e = .returned (.tuple #[.int .i64 0, .int .i64 100]) ∧ Qs w b br L v w' := by
  obtain ⟨D, E, ⟨m, vN, h1, _⟩, _⟩ := h.ps.two
  exact (kind_none h1 x hx).mono fun e w' ⟨e1, e2⟩ => ⟨e1, h.more e2⟩
theorem Qs.width0 (h : Qs w b br L v u) (x : Int) (hx : ¬ (0 ≤ x ∧ x < (L.length : Int))) : Calls Try.prog 26 #[.pointer (some ⟨b, 0, none⟩), .int .i64 x] u fun e w' => e = .returned (.tuple #[.int .i64 0, .int .i64 100]) ∧ Qs w b br L v w' := by
  obtain ⟨D, E, ⟨m, vN, h1, _⟩, _⟩ := h.ps.two
  exact (width_none h1 x hx).mono fun e w' ⟨e1, e2⟩ => ⟨e1, h.more e2⟩
theorem Qs.kids0 (h : Qs w b br L v u) (x : Int) (hx : ¬ (0 ≤ x ∧ x < (L.length : Int))) : Calls Try.prog 27 #[.pointer (some ⟨b, 0, none⟩), .int .i64 x] u fun e w' => e = .returned (.tuple #[.slice none 0 0, .int .i64 100]) ∧ Qs w b br L v w' := by
  obtain ⟨D, E, ⟨m, vN, h1, _⟩, _⟩ := h.ps.two
  exact (kids_none h1 x hx).mono fun e w' ⟨e1, e2⟩ => ⟨e1, h.more e2⟩
theorem Qs.text0 (h : Qs w b br L v u) (x : Int) (hx : ¬ (0 ≤ x ∧ x < (L.length : Int))) : Calls Try.prog 28 #[.pointer (some ⟨b, 0, none⟩), .int .i64 x] u fun e w' => e = .returned (.tuple #[.string { data := #[] }, .int .i64 100]) ∧ Qs w b br L v w' := by
  obtain ⟨D, E, ⟨m, vN, h1, _⟩, _⟩ := h.ps.two
  exact (text_none h1 x hx).mono fun e w' ⟨e1, e2⟩ => ⟨e1, h.more e2⟩
theorem Qs.node0 (h : Qs w b br L v u) (x a : Int) (hx : ¬ (0 ≤ x ∧ x < (L.length : Int))) : Calls Try.prog 29 #[.pointer (some ⟨b, 0, none⟩), .int .i64 x, .int .i64 a] u fun e w' => (∃ (nk ni nj : Int) (no : Option Addr) (nn nc : Nat), e = .returned (.tuple #[.agg #[.int .i64 nk, .int .i64 ni, .int .i64 nj, .slice no nn nc], .int .i64 100])) ∧ Qs w b br L v w' := by
  obtain ⟨D, E, ⟨m, vN, h1, _⟩, _⟩ := h.ps.two
  exact (node_none h1 x a hx).mono fun e w' ⟨⟨nk, ni, nj, no, nn, nc⟩, e1, e2⟩ => ⟨⟨nk, ni, nj, no, nn, nc, e1⟩, h.more e2⟩
theorem Qs.node1 (h : Qs w b br L v u) (x : Nat) (a : Int) (hx : x < L.length) (ha : a < 0 ∨ 2147483647 < a) : Calls Try.prog 29 #[.pointer (some ⟨b, 0, none⟩), .int .i64 (x : Int), .int .i64 a] u fun e w' => (∃ (nk ni nj : Int) (no : Option Addr) (nn nc : Nat), e = .returned (.tuple #[.agg #[.int .i64 nk, .int .i64 ni, .int .i64 nj, .slice no nn nc], .int .i64 1])) ∧ Qs w b br L v w' := by
  obtain ⟨D, E, ⟨m, vN, h1, _⟩, _⟩ := h.ps.two
  exact (node_arg h1 x a hx ha).mono fun e w' ⟨⟨nk, ni, nj, no, nn, nc⟩, e1, e2⟩ => ⟨⟨nk, ni, nj, no, nn, nc, e1⟩, h.more e2⟩
theorem Qs.node (h : Qs w b br L v u) (x : Nat) (a : Int) (hx : x < L.length) (ha : 0 ≤ a) (hA : a ≤ 2147483647) : Calls Try.prog 29 #[.pointer (some ⟨b, 0, none⟩), .int .i64 (x : Int), .int .i64 a] u fun e w' => ∃ (nk nj : Int) (no : Option Addr) (nn nc : Nat), e = .returned (.tuple #[.agg #[.int .i64 nk, .int .i64 a, .int .i64 nj, .slice no nn nc], .int .i64 0]) ∧ Qs w b br L v w' ∧ Hid (TieB w' (nodeT L (x + 1) x a) ⟨nk, a, nj, no, nn, nc⟩) := by
  obtain ⟨D, E, ⟨m, vN, h1, _⟩, _⟩ := h.ps.two
  refine (node_any h1 x a hx ha hA).mono fun e w' ⟨⟨nk, ni, nj, no, nn, nc⟩, e1, e2, e3⟩ => ?_
  have ht := e3.tieB
  obtain ⟨D1, h2, _⟩ := ht.out
  obtain rfl : ni = a := h2.i.trans (nodeT_i hx (by omega) a)
  exact ⟨nk, nj, no, nn, nc, e1, h.more e2, ht⟩
theorem Qs.told (h : Qs w b br L v u) (x : Nat) (a : Int) (hx : x < L.length) (ha : 0 ≤ a) (hA : a ≤ 2147483647) (hL : GoodL L) (hs : ∀ g ∈ L, g.s.size ≤ 1048576) {nk nj : Int} {no : Option Addr} {nn nc : Nat} (ht : Hid (TieB u (nodeT L (x + 1) x a) ⟨nk, a, nj, no, nn, nc⟩)) : Calls Try.prog 30 #[.pointer (some ⟨b, 0, none⟩), .int .i64 (x : Int), .agg #[.int .i64 nk, .int .i64 a, .int .i64 nj, .slice no nn nc]] u fun e w' => e = .returned (.bool true) ∧ Qs w b br L v w' := by
  obtain ⟨D, E, h1, _⟩ := h.ps.two
  have h2 := hs _ (List.getElem_mem hx)
  exact (told_any x u b (x + 1) D L a _ hx h1 hL (by omega) (Nat.lt_succ_self _) ha (by omega) ht).mono fun e w' ⟨e1, e2⟩ => ⟨e1, h.more e2⟩
end
/-- Four numbers, behind a slice without room. -/
theorem four_more {w u : World} {io : Option Addr} {il ig ioff : Nat} {Is : List Int} (hl : Is.length = il) (hc : Cells it w ig ioff Is) (ho : Is ≠ [] → io = some ⟨ig, ioff, none⟩ ∧ ig < w.heap.size) (hb : Below w.heap.size w u) (hm : il ≤ 1048576) (x0 x1 x2 x3 : Int) (X : Nat)
    (hX : u.heap[X]? = some (.cells #[.int .i64 x0, .int .i64 x1, .int .i64 x2, .int .i64 x3] 3 (0, 0))) :
    ∃ v' w', (∀ ty, (Builtin.append_ #[32, 32] ty #[.slice io il il, .slice (some ⟨X, 0, none⟩) 4 4]).run Try.prog u = .ok v' w') ∧ ∃ (g cap : Nat), v' = .slice (some ⟨g, 0, none⟩) (il + 4) cap ∧ il + 4 ≤ cap ∧ Below u.heap.size u w' ∧ Cells it w' g 0 (Is ++ [x0, x1, x2, x3]) ∧ g < w'.heap.size := by
  obtain ⟨i0, hi, hz0, hz1, hz2⟩ := info_parts it.hi
  have hn : ∀ j v, (flat it [x0, x1, x2, x3])[j]? = some v → u.cell? ((⟨X, 0, none⟩ : Addr).add j) = some v := fun j v hj => by
    rw [Addr.add_lit]
    rw [cell_of_row u X (0 + j) _ _ _ hX, Nat.zero_add]
    simpa [flat, it] using hj
  have hbb : (il + 4) * 8 ≤ 140737488355328 := by omega
  have hmm : il + 4 ≤ maxLen := by simp [maxLen]; omega
  have fin : ∀ v' w', (∀ ty, (Builtin.append_ #[32, 32] ty #[.slice io il il, .slice (some ⟨X, 0, none⟩) 4 4]).run Try.prog u = .ok v' w') → Mine it w' u.heap.size v' (Is ++ [x0, x1, x2, x3]) → u.grownBy w' none → ∃ v' w', (∀ ty, (Builtin.append_ #[32, 32] ty #[.slice io il il, .slice (some ⟨X, 0, none⟩) 4 4]).run Try.prog u = .ok v' w') ∧ ∃ (g cap : Nat), v' = .slice (some ⟨g, 0, none⟩) (il + 4) cap ∧ il + 4 ≤ cap ∧ Below u.heap.size u w' ∧ Cells it w' g 0 (Is ++ [x0, x1, x2, x3]) ∧ g < w'.heap.size := fun v' w' hr hM hg => by
    have hbel : Below u.heap.size u w' := ⟨hg.os, hg.tape, hg.output, hg.size, fun k hk => hg.block k hk (by simp)⟩
    obtain ⟨g, off, o, cap, h1, h2, h3, h4⟩ := hM.row.lt
    obtain ⟨rfl, h5⟩ := h3 (by simp)
    have hll : (Is ++ [x0, x1, x2, x3]).length = il + 4 := by simp [hl]
    obtain ⟨g2, o2, c2, e1, e2, _⟩ := hM.shape
    rw [h2] at e1
    have e3 := e2 (by simp)
    rw [e3] at e1
    simp only [Value.slice.injEq, Option.some.injEq, Addr.mk.injEq, and_true, true_and] at e1
    obtain ⟨⟨rfl, rfl⟩, rfl⟩ := e1
    rw [hll] at h1 h2
    exact ⟨v', w', hr, g, cap, h2, h1, hbel, h4, h5⟩
  cases io with
  | none =>
    have hI : Is = [] := by
      by_cases h : Is = []
      · exact h
      · exact absurd (ho h).1 (by simp)
    subst hI
    obtain rfl : il = 0 := by simpa using hl.symm
    obtain ⟨v', w', h1, h2, h3, _⟩ := run_append_own (P := Try.prog) u u.heap.size it.t 0 it.e i0 it.z it.k it.bytes it.ht hi hz0 hz1 hz2 it.hz it.hk (.slice none 0 0) 0 [] (World.ownsRow_nil u _ it.e it.k) ⟨X, 0, none⟩ 4 4 (flat it [x0, x1, x2, x3]) (flat_length it _) hn (flat_one it _) hmm hbb (Nat.le_refl _)
    exact fin v' w' (fun ty => h1) h2 h3
  | some ad =>
    have ho' : ∀ j v, (flat it Is)[j]? = some v → u.cell? (ad.add j) = some v := fun j v hj => by
      by_cases hI : Is = []
      · rw [hI] at hj; simp [flat] at hj
      · obtain ⟨h1, h2⟩ := ho hI
        obtain rfl : ad = ⟨ig, ioff, none⟩ := Option.some.inj h1
        rw [Addr.add_lit]
        exact (hb.cell (p := ⟨ig, ioff + j, none⟩) h2).trans (hc j v hj)
    obtain ⟨v', w', h1, h2, h3⟩ := run_append_arg_grows (P := Try.prog) u it.t 0 it.e i0 it.z it.k it.bytes it.ht hi hz0 hz1 hz2 it.hz it.hk ad il il (flat it Is) (by rw [flat_length, hl]) ho' ⟨X, 0, none⟩ 4 4 (flat it [x0, x1, x2, x3]) (flat_length it _) hn (by omega) hmm hbb
    refine fin v' w' (fun ty => h1) ?_ h3
    unfold Mine
    rw [List.length_append, hl, flat_append]
    exact h2
theorem four_get {Is : List Int} {il q : Nat} {n : Int} (hl : Is.length = il) (hq : q < il + 4) : q < (Is ++ [0, n - 1, n, -1]).length := by simp [hl]; omega
end Go.Proofs.Ytnnffcfdokejbaa.rd
namespace Go.Proofs.Ytnnffcfdokejbaa.rd
open Go.RowKit

set_option maxRecDepth 100000 in
set_option maxHeartbeats 8000000 in
theorem puts_first (HSH : ShownC) (Z : List (ByteArray × Tree)) (R : List Sr) (w : World) (lo : Option Addr) (len lc lg loff : Nat) (io : Option Addr) (il ic ig ioff : Nat) (Is : List Int) (at0 : Int) (hIl : Is.length = il) (hIc : il ≤ ic) (hIm : il ≤ 1048576) (hIo : Is ≠ [] → io = some ⟨ig, ioff, none⟩ ∧ ig < w.heap.size) (hI : Cells it w ig ioff Is) (hlen : Z.length = len) (hlR : R.length = Z.length) (hlc : len ≤ lc) (hlm : len ≤ 1048576) (ho : Z ≠ [] → lo = some ⟨lg, loff, none⟩ ∧ lg < w.heap.size) (HC : Cells sr w lg loff R)
    (hz : ∀ q (h : q < Z.length) (h2 : q < R.length), R[q].s = Z[q].1 ∧ Hid (TieB w Z[q].2 R[q].n) ∧ InR Z[q].2) (hbz : bulkZ Z ≤ 1048576) :
    Calls Try.prog 4 #[.slice lo len lc, .slice io il ic, .int .i64 at0] w fun e w' => e = .returned (.bool true) ∧ Below w.heap.size w w' := by
  have HNW : Hid (∀ u, Below w.heap.size w u → Calls Try.prog 15 #[] u fun e w' => ∃ b D, e = .returned (.pointer (some ⟨b, 0, none⟩)) ∧ Below w.heap.size w w' ∧ Pl w' b D [] ∧ ∀ k, D k → w.heap.size ≤ k) := Lib.hid (fun u hu => (pool_c.new u).mono fun e w' ⟨b, D, h1, h2, h3, h4⟩ => ⟨b, D, h1, hu.trans (h2.mono hu.size), h3, fun k hk => Nat.le_trans hu.size (h4 k hk)⟩)
  have HRN : Hid (∀ (u : World) (b : Nat) (D : Nat → Prop), Below w.heap.size w u → Pl u b D [] → (∀ k, D k → w.heap.size ≤ k) → Calls Try.prog 16 #[] u fun e w' => ∃ br, e = .returned (.pointer (some ⟨br, 0, none⟩)) ∧ Ps w b br [] w') := Lib.hid (fun u b D hu hp hd => (refNew_any u).mono fun e w' ⟨h1, h2, h3, h4⟩ => ⟨u.heap.size, h1, hu.trans (h2.mono hu.size), D, _, hp.below h2, ⟨_, _, _, h4, rfl⟩, fun k hk => ⟨hd k hk, by
      have := pool_c.dead hp k hk
      rintro (rfl | hh | hh)
      · omega
      · exact hh
      · cases hh⟩, by
      rintro k (rfl | hh | hh)
      · exact hu.size
      · exact hh.elim
      · cases hh⟩)
  have hgd : ∀ q, q ≤ Z.length → Gd (bulkZ (Z.take q)) (putsL (Z.take q)) := by
    intro q
    induction q with
    | zero => intro _; exact Gd.nil
    | succ q ih =>
      intro hq
      have h1 := ih (by omega)
      have hq' : q < Z.length := by omega
      obtain ⟨_, h3, h4⟩ := hz q hq' (by omega)
      have hb := bulkZ_take Z (q + 1)
      rw [bulkZ_snoc hq'] at hb
      rw [bulkZ_snoc hq', putsL_snoc hq']
      obtain ⟨D0, t1, _⟩ := h3.out
      have h5 := (h1.step (s := Z[q].1) (by omega) h4 (tie_few _ _ t1) (by omega)).2
      exact ⟨h5.good, h5.once, h5.small, Nat.le_trans h5.few (by omega)⟩
  have HROUND : Hid (∀ q (h : q < Z.length) (h2 : q < R.length), ∃ (s : ByteArray) (t : Tree) (k i j : Int) (o : Option Addr) (nn c : Nat), R[q] = ⟨s, ⟨k, i, j, o, nn, c⟩⟩ ∧ stepL (putsL (Z.take q)) (s, t) = stepL (putsL (Z.take q)) Z[q] ∧ (∀ u, Below w.heap.size w u → Calls Try.prog 11 #[.agg #[.int .i64 k, .int .i64 i, .int .i64 j, .slice o nn c]] u fun e w' => ∃ (pk pi pj : Int) (po : Option Addr) (pn pc : Nat), e = .returned (.agg #[.int .i64 pk, .int .i64 pi, .int .i64 pj, .slice po pn pc]) ∧ Below u.heap.size u w' ∧ Fresh u.heap.size w' t ⟨pk, pi, pj, po, pn, pc⟩) ∧ ∀ (b br : Nat), ∃ (L1 : List Gr) (id er : Int) (SH : List UInt8), L1 = stepL (putsL (Z.take q)) (s, t) ∧ ((er = 0 ∧ 0 ≤ id ∧ id < (L1.length : Int)) ∨ (er = 80 ∧ id = 0 ∧ L1 = putsL (Z.take q))) ∧ ∀ (X Y : Nat) (pk pi pj : Int) (po : Option Addr) (pn pc : Nat), Rd w b br X Y s k i j o nn c pk pi pj po pn pc t (putsL (Z.take q)) L1 id er SH) := Lib.hid (fun q h h2 => by
    obtain ⟨e1, h3, h4⟩ := hz q h h2
    have hb := bulkZ_take Z (q + 1)
    rw [bulkZ_snoc h] at hb
    obtain ⟨⟨s, ⟨k, i, j, o, nn, c⟩⟩, hr⟩ : ∃ r, R[q] = r := ⟨_, rfl⟩
    rw [hr] at e1 h3
    have e1 : s = Z[q].1 := e1
    subst e1
    refine ⟨_, Z[q].2, k, i, j, o, nn, c, hr, rfl, fun u hu => ?_, fun b br => ?_⟩
    · have h := copy_any Z[q].2 u ⟨k, i, j, o, nn, c⟩ (TieB.below h3 hu)
      rw [shiftT_zero _ h4] at h
      exact h.mono fun e w' ⟨⟨pk, pi, pj, po, pn, pc⟩, a1, a2, a3⟩ => ⟨pk, pi, pj, po, pn, pc, a1, a2, a3⟩
    · obtain ⟨L1, id, er, SH, r1, _, r2, r3⟩ := rd_of (b := b) (br := br) (s := Z[q].1) h3 h4 (hgd q (by omega)) (by omega) (by omega)
      exact ⟨L1, id, er, SH, r1, r2, r3⟩)
  have HII := Lib.hid (And.intro hIl (And.intro hIo hI))
  have HGD := Lib.hid (hgd Z.length (Nat.le_refl _))
  have HBZ : Hid (bulkZ Z ≤ 1048576) := Lib.hid hbz
  have HSN := Lib.hid HSH
  have HCL := Lib.hid (And.intro HC ho)
  have HLN := Lib.hid (And.intro hlen (And.intro hlR hlm))
  have HF0 := Lib.hid (Below.refl w.heap.size w)
  clear HC ho hlen hlR hz hbz hgd HSH hIl hIo hI
  go_enter Try.func4, Try.ntmps4
  go_wp2_with (first
    | (go_at_call 10; refine (HSN.out _).mono ?_; rintro e w1 ⟨rfl, hb1⟩; have HB1 := Lib.hid hb1; clear hb1)
    | (go_at_call 15; (with_reducible refine (HNW.out _ HB1.out).mono ?_); rintro e w2 ⟨b, D, rfl, hb2, hp2, hd2⟩; have HB2 := Lib.hid (And.intro hb2 (And.intro hp2 hd2)); clear hb2 hp2 hd2)
    | (go_at_call 16; (with_reducible refine (HRN.out _ _ _ HB2.out.1 HB2.out.2.1 HB2.out.2.2).mono ?_); rintro e w3 ⟨br, rfl, hps⟩; have HP3 := Lib.hid hps; clear hps))
  go_loopw [39] (fun p wr => ∃ q : Nat, q ≤ len ∧ p = .int .i64 (q : Int) ∧ Ps w b br (putsL (Z.take q)) wr) (fun p _ => len - (intOf p).toNat)
  case atStart => exact ⟨0, Nat.zero_le _, rfl, by rw [List.take_zero]; exact HP3.out⟩
  case round =>
    obtain ⟨q, hql, rfl, hps⟩ := hrel
    by_cases hlt : q < len
    · have hil : q < Z.length := by rw [HLN.out.1]; exact hlt
      have hiR : q < R.length := by rw [HLN.out.2.1]; exact hil
      have hlm' := HLN.out.2.2
      obtain ⟨rfl, hg⟩ := HCL.out.2 (by intro e; rw [e] at hil; simp at hil)
      obtain ⟨a0, a1, a2, a3, a4⟩ := cells_sr HCL.out.1 q hiR
      obtain ⟨s, t, k, i, j, o, nn, c, hr, hzq, hcp, hrd⟩ := HROUND.out q hil hiR
      obtain ⟨L1, id, er, SH, hL1, hnum, hrd⟩ := hrd b br
      rw [hr] at a0 a1 a2 a3 a4
      simp only [] at a0 a1 a2 a3 a4
      have hbw := hps.below
      have c0 := (hbw.cell (p := ⟨lg, loff + q * 5, none⟩) hg).trans a0
      have c1 := (hbw.cell (p := ⟨lg, loff + q * 5 + 1, none⟩) hg).trans a1
      have c2 := (hbw.cell (p := ⟨lg, loff + q * 5 + 2, none⟩) hg).trans a2
      have c3 := (hbw.cell (p := ⟨lg, loff + q * 5 + 3, none⟩) hg).trans a3
      have c4 := (hbw.cell (p := ⟨lg, loff + q * 5 + 4, none⟩) hg).trans a4
      have hgw : lg < wr.heap.size := Nat.lt_of_lt_of_le hg hbw.size
      have HZQ := Lib.hid (And.intro hil (hL1.trans hzq))
      obtain ⟨L, hL⟩ : ∃ L, putsL (Z.take q) = L := ⟨_, rfl⟩
      rw [hL] at hps hnum hrd
      have HW5 : Hid (Below w.heap.size w (wr.alloc (.cells #[.string s, .int .i64 k, .int .i64 i, .int .i64 j, .slice o nn c] 38))) := Lib.hid (hbw.alloc hbw.size _)
      have HPS := Lib.hid hps
      have HCP := Lib.hid hcp
      have HRD0 := Lib.hid hrd
      have hq0 : (0 : Int) ≤ (q : Int) := by omega
      have hww : (q : Int) + 1 ≤ 2932031007318 := by omega
      have hd : decide ((q : Int) < (len : Int)) = true := decide_eq_true (by omega)
      have hd' : decide (q < len) = true := decide_eq_true hlt
      clear a0 a1 a2 a3 a4 hr hzq hL1 hbw hps hcp hrd hg hlm' hL
      rcases hnum with ⟨rfl, hi0, hi1⟩ | ⟨rfl, rfl, rfl⟩
      · have hn0 : decide (id < 0) = false := decide_eq_false (by omega)
        have hn1 : decide ((L1.length : Int) ≤ id) = false := decide_eq_false (by omega)
        clear hi0 hi1
        go_wp2_with (first
          | (go_at_call 11; (with_reducible refine (HCP.out _ HW5.out).mono ?_); rintro e w6 ⟨pk, pi, pj, po, pn, pc, rfl, hb6, hf6⟩; have HRD := Lib.hid (HRD0.out wr.heap.size w6.heap.size pk pi pj po pn pc); have H6 : Hid (Rs w b br wr.heap.size w6.heap.size s ⟨k, i, j, o, nn, c⟩ ⟨pk, pi, pj, po, pn, pc⟩ t L L (w6.alloc (.cells #[.int .i64 pk, .int .i64 pi, .int .i64 pj, .slice po pn pc] 24))) := Lib.hid (Ps.start (n := ⟨k, i, j, o, nn, c⟩) (p := ⟨pk, pi, pj, po, pn, pc⟩) (s := s) HPS.out hb6 hf6); obtain ⟨⟨x0, x1, x2, x3, x4⟩, xz⟩ := H6.out.xa.cells; obtain ⟨⟨y0, y1, y2, y3⟩, yz⟩ := H6.out.xb.cells; clear hb6 hf6)
          | (go_at_call 17; (with_reducible refine (HRD.out.len0 _ H6.out).mono ?_); rintro e w7 ⟨rfl, hh⟩; clear x0 x1 x2 x3 x4 xz y0 y1 y2 y3 yz; have H7 : Hid (Rs w b br wr.heap.size w6.heap.size s ⟨k, i, j, o, nn, c⟩ ⟨pk, pi, pj, po, pn, pc⟩ t L L w7) := Lib.hid hh; obtain ⟨⟨x0, x1, x2, x3, x4⟩, xz⟩ := H7.out.xa.cells; obtain ⟨⟨y0, y1, y2, y3⟩, yz⟩ := H7.out.xb.cells; clear hh)
          | (go_at_call 18; (with_reducible refine (HRD.out.put _ H7.out).mono ?_); rintro e w8 ⟨rfl, hh⟩; clear x0 x1 x2 x3 x4 xz y0 y1 y2 y3 yz; have H8 : Hid (Rs w b br wr.heap.size w6.heap.size s ⟨k, i, j, o, nn, c⟩ ⟨pk, pi, pj, po, pn, pc⟩ t L1 L w8) := Lib.hid hh; obtain ⟨⟨x0, x1, x2, x3, x4⟩, xz⟩ := H8.out.xa.cells; obtain ⟨⟨y0, y1, y2, y3⟩, yz⟩ := H8.out.xb.cells; clear hh)
          | (go_at_call 19; (with_reducible refine (HRD.out.rput _ H8.out).mono ?_); rintro e w9 ⟨rfl, hh⟩; clear x0 x1 x2 x3 x4 xz y0 y1 y2 y3 yz; have H9 : Hid (Rs w b br wr.heap.size w6.heap.size s ⟨k, i, j, o, nn, c⟩ ⟨pk, pi, pj, po, pn, pc⟩ t L1 L1 w9) := Lib.hid hh; obtain ⟨⟨x0, x1, x2, x3, x4⟩, xz⟩ := H9.out.xa.cells; obtain ⟨⟨y0, y1, y2, y3⟩, yz⟩ := H9.out.xb.cells; clear hh)
          | (go_at_call 14; (with_reducible refine (HRD.out.same _ H9.out).mono ?_); rintro e w10 ⟨rfl, hh⟩; clear x0 x1 x2 x3 x4 xz y0 y1 y2 y3 yz; have H10 : Hid (Rs w b br wr.heap.size w6.heap.size s ⟨k, i, j, o, nn, c⟩ ⟨pk, pi, pj, po, pn, pc⟩ t L1 L1 w10) := Lib.hid hh; obtain ⟨⟨x0, x1, x2, x3, x4⟩, xz⟩ := H10.out.xa.cells; obtain ⟨⟨y0, y1, y2, y3⟩, yz⟩ := H10.out.xb.cells; clear hh))
        clear x0 x1 x2 x3 x4 xz y0 y1 y2 y3 yz
        have hall : ∀ u, Rs w b br wr.heap.size w6.heap.size s ⟨k, i, j, o, nn, c⟩ ⟨pk, pi, pj, po, pn, pc⟩ t L1 L1 u → (Rs w b br wr.heap.size w6.heap.size s ⟨k, i, j, o, nn, c⟩ ⟨pk, pi, pj, po, pn, pc⟩ t L1 L1 u ∧ u.cell? ⟨wr.heap.size, 0, none⟩ = some (.string s) ∧ u.cell? ⟨wr.heap.size, 1, none⟩ = some (.int .i64 k) ∧ u.cell? ⟨wr.heap.size, 2, none⟩ = some (.int .i64 i) ∧ u.cell? ⟨wr.heap.size, 3, none⟩ = some (.int .i64 j) ∧ u.cell? ⟨wr.heap.size, 4, none⟩ = some (.slice o nn c) ∧ wr.heap.size < u.heap.size) := fun u hu => by
          obtain ⟨⟨a0, a1, a2, a3, a4⟩, az⟩ := hu.xa.cells
          exact ⟨hu, a0, a1, a2, a3, a4, az⟩
        have HLN1 : Hid (∀ u, (Rs w b br wr.heap.size w6.heap.size s ⟨k, i, j, o, nn, c⟩ ⟨pk, pi, pj, po, pn, pc⟩ t L1 L1 u ∧ u.cell? ⟨wr.heap.size, 0, none⟩ = some (.string s) ∧ u.cell? ⟨wr.heap.size, 1, none⟩ = some (.int .i64 k) ∧ u.cell? ⟨wr.heap.size, 2, none⟩ = some (.int .i64 i) ∧ u.cell? ⟨wr.heap.size, 3, none⟩ = some (.int .i64 j) ∧ u.cell? ⟨wr.heap.size, 4, none⟩ = some (.slice o nn c) ∧ wr.heap.size < u.heap.size) → Calls Try.prog 17 #[.pointer (some ⟨b, 0, none⟩)] u fun e w' => e = .returned (.int .i64 (L1.length : Int)) ∧ (Rs w b br wr.heap.size w6.heap.size s ⟨k, i, j, o, nn, c⟩ ⟨pk, pi, pj, po, pn, pc⟩ t L1 L1 w' ∧ w'.cell? ⟨wr.heap.size, 0, none⟩ = some (.string s) ∧ w'.cell? ⟨wr.heap.size, 1, none⟩ = some (.int .i64 k) ∧ w'.cell? ⟨wr.heap.size, 2, none⟩ = some (.int .i64 i) ∧ w'.cell? ⟨wr.heap.size, 3, none⟩ = some (.int .i64 j) ∧ w'.cell? ⟨wr.heap.size, 4, none⟩ = some (.slice o nn c) ∧ wr.heap.size < w'.heap.size)) := Lib.hid (fun u hu => (HRD.out.len u hu.1).mono fun e w' ⟨e1, e2⟩ => ⟨e1, hall w' e2⟩)
        have HRL1 : Hid (∀ u, (Rs w b br wr.heap.size w6.heap.size s ⟨k, i, j, o, nn, c⟩ ⟨pk, pi, pj, po, pn, pc⟩ t L1 L1 u ∧ u.cell? ⟨wr.heap.size, 0, none⟩ = some (.string s) ∧ u.cell? ⟨wr.heap.size, 1, none⟩ = some (.int .i64 k) ∧ u.cell? ⟨wr.heap.size, 2, none⟩ = some (.int .i64 i) ∧ u.cell? ⟨wr.heap.size, 3, none⟩ = some (.int .i64 j) ∧ u.cell? ⟨wr.heap.size, 4, none⟩ = some (.slice o nn c) ∧ wr.heap.size < u.heap.size) → Calls Try.prog 22 #[.pointer (some ⟨br, 0, none⟩)] u fun e w' => e = .returned (.int .i64 (L1.length : Int)) ∧ (Rs w b br wr.heap.size w6.heap.size s ⟨k, i, j, o, nn, c⟩ ⟨pk, pi, pj, po, pn, pc⟩ t L1 L1 w' ∧ w'.cell? ⟨wr.heap.size, 0, none⟩ = some (.string s) ∧ w'.cell? ⟨wr.heap.size, 1, none⟩ = some (.int .i64 k) ∧ w'.cell? ⟨wr.heap.size, 2, none⟩ = some (.int .i64 i) ∧ w'.cell? ⟨wr.heap.size, 3, none⟩ = some (.int .i64 j) ∧ w'.cell? ⟨wr.heap.size, 4, none⟩ = some (.slice o nn c) ∧ wr.heap.size < w'.heap.size)) := Lib.hid (fun u hu => (HRD.out.rlen u hu.1).mono fun e w' ⟨e1, e2⟩ => ⟨e1, hall w' e2⟩)
        have HLK1 : Hid (∀ u, (Rs w b br wr.heap.size w6.heap.size s ⟨k, i, j, o, nn, c⟩ ⟨pk, pi, pj, po, pn, pc⟩ t L1 L1 u ∧ u.cell? ⟨wr.heap.size, 0, none⟩ = some (.string s) ∧ u.cell? ⟨wr.heap.size, 1, none⟩ = some (.int .i64 k) ∧ u.cell? ⟨wr.heap.size, 2, none⟩ = some (.int .i64 i) ∧ u.cell? ⟨wr.heap.size, 3, none⟩ = some (.int .i64 j) ∧ u.cell? ⟨wr.heap.size, 4, none⟩ = some (.slice o nn c) ∧ wr.heap.size < u.heap.size) → Calls Try.prog 20 #[.pointer (some ⟨b, 0, none⟩), .int .i64 id] u fun e w' => e = .returned (.string (B SH)) ∧ (Rs w b br wr.heap.size w6.heap.size s ⟨k, i, j, o, nn, c⟩ ⟨pk, pi, pj, po, pn, pc⟩ t L1 L1 w' ∧ w'.cell? ⟨wr.heap.size, 0, none⟩ = some (.string s) ∧ w'.cell? ⟨wr.heap.size, 1, none⟩ = some (.int .i64 k) ∧ w'.cell? ⟨wr.heap.size, 2, none⟩ = some (.int .i64 i) ∧ w'.cell? ⟨wr.heap.size, 3, none⟩ = some (.int .i64 j) ∧ w'.cell? ⟨wr.heap.size, 4, none⟩ = some (.slice o nn c) ∧ wr.heap.size < w'.heap.size)) := Lib.hid (fun u hu => (HRD.out.like rfl u hu.1).mono fun e w' ⟨e1, e2⟩ => ⟨e1, hall w' e2⟩)
        have HSP1 : Hid (∀ u, (Rs w b br wr.heap.size w6.heap.size s ⟨k, i, j, o, nn, c⟩ ⟨pk, pi, pj, po, pn, pc⟩ t L1 L1 u ∧ u.cell? ⟨wr.heap.size, 0, none⟩ = some (.string s) ∧ u.cell? ⟨wr.heap.size, 1, none⟩ = some (.int .i64 k) ∧ u.cell? ⟨wr.heap.size, 2, none⟩ = some (.int .i64 i) ∧ u.cell? ⟨wr.heap.size, 3, none⟩ = some (.int .i64 j) ∧ u.cell? ⟨wr.heap.size, 4, none⟩ = some (.slice o nn c) ∧ wr.heap.size < u.heap.size) → Calls Try.prog 21 #[.string s, .agg #[.int .i64 k, .int .i64 i, .int .i64 j, .slice o nn c]] u fun e w' => e = .returned (.string (B SH)) ∧ (Rs w b br wr.heap.size w6.heap.size s ⟨k, i, j, o, nn, c⟩ ⟨pk, pi, pj, po, pn, pc⟩ t L1 L1 w' ∧ w'.cell? ⟨wr.heap.size, 0, none⟩ = some (.string s) ∧ w'.cell? ⟨wr.heap.size, 1, none⟩ = some (.int .i64 k) ∧ w'.cell? ⟨wr.heap.size, 2, none⟩ = some (.int .i64 i) ∧ w'.cell? ⟨wr.heap.size, 3, none⟩ = some (.int .i64 j) ∧ w'.cell? ⟨wr.heap.size, 4, none⟩ = some (.slice o nn c) ∧ wr.heap.size < w'.heap.size)) := Lib.hid (fun u hu => (HRD.out.shape rfl u hu.1).mono fun e w' ⟨e1, e2⟩ => ⟨e1, hall w' e2⟩)
        have hs0 := hall w10.drew (H10.out.more (Below.refl _ _).drew)
        clear hall
        refine wp_region_held_drew (S := fun W' => (Rs w b br wr.heap.size w6.heap.size s ⟨k, i, j, o, nn, c⟩ ⟨pk, pi, pj, po, pn, pc⟩ t L1 L1 W' ∧ W'.cell? ⟨wr.heap.size, 0, none⟩ = some (.string s) ∧ W'.cell? ⟨wr.heap.size, 1, none⟩ = some (.int .i64 k) ∧ W'.cell? ⟨wr.heap.size, 2, none⟩ = some (.int .i64 i) ∧ W'.cell? ⟨wr.heap.size, 3, none⟩ = some (.int .i64 j) ∧ W'.cell? ⟨wr.heap.size, 4, none⟩ = some (.slice o nn c) ∧ wr.heap.size < W'.heap.size)) (by kernel_rfl) hs0 (fun hs => ?_)
        refine wpAnyH_take (i := 0) (oi := { dst := some 90, op := Op.move (.tmp 14), type := 27, pos := "law.go:84", after := #[], guard := none }) (v := ?_) rfl (by kernel_rfl) (by kernel_rfl) (by kernel_rfl) (fun _ _ _ h => h) (Or.inl ⟨by rfl, ?_⟩) (by assumption) ?_; (case refine_2 => (intro w hSw; (try dsimp only at hSw); go_simp; all_goals (with_reducible rfl))); (try simp only [Act.put, List.setIfInBounds_toArray, List.set_cons_zero, List.set_cons_succ])
        refine wpAnyH_take (i := 1) (oi := { dst := some 91, op := Op.binOp BinOp.eql 27 (.tmp 90) (.const (Value.int IntKind.i64 0)) 27, type := 4, pos := "law.go:84", after := #[{ on := 0, ground := Ground.data }], guard := none }) (v := ?_) rfl (by kernel_rfl) (by kernel_rfl) (by kernel_rfl) (fun _ _ _ h => h) (Or.inl ⟨by rfl, ?_⟩) (by assumption) ?_; (case refine_2 => (intro w hSw; (try dsimp only at hSw); go_simp; all_goals (with_reducible rfl))); (try simp only [Act.put, List.setIfInBounds_toArray, List.set_cons_zero, List.set_cons_succ])
        refine wpAnyH_take (i := 2) (oi := { dst := some 92, op := Op.move (.tmp 91), type := 4, pos := "law.go:84", after := #[{ on := 1, ground := Ground.data }], guard := none }) (v := ?_) rfl (by kernel_rfl) (by kernel_rfl) (by kernel_rfl) (fun _ _ _ h => h) (Or.inl ⟨by rfl, ?_⟩) (by assumption) ?_; (case refine_2 => (intro w hSw; (try dsimp only at hSw); go_simp; all_goals (with_reducible rfl))); (try simp only [Act.put, List.setIfInBounds_toArray, List.set_cons_zero, List.set_cons_succ])
        refine wpAnyH_take (i := 3) (oi := { dst := some 93, op := Op.move (.tmp 7), type := 33, pos := "law.go:84", after := #[{ on := 2, ground := Ground.guard }], guard := some (2, true) }) (v := ?_) rfl (by kernel_rfl) (by kernel_rfl) (by kernel_rfl) (fun _ _ _ h => h) (Or.inl ⟨by rfl, ?_⟩) (by assumption) ?_; (case refine_2 => (intro w hSw; (try dsimp only at hSw); go_simp; all_goals (with_reducible rfl))); (try simp only [Act.put, List.setIfInBounds_toArray, List.set_cons_zero, List.set_cons_succ])
        refine wpAnyH_take (i := 4) (oi := { dst := some 94, op := Op.move (.tmp 13), type := 3, pos := "law.go:84", after := #[{ on := 2, ground := Ground.guard }], guard := some (2, true) }) (v := ?_) rfl (by kernel_rfl) (by kernel_rfl) (by kernel_rfl) (fun _ _ _ h => h) (Or.inl ⟨by rfl, ?_⟩) (by assumption) ?_; (case refine_2 => (intro w hSw; (try dsimp only at hSw); go_simp; all_goals (with_reducible rfl))); (try simp only [Act.put, List.setIfInBounds_toArray, List.set_cons_zero, List.set_cons_succ])
        refine wpAnyH_take (i := 6) (oi := { dst := some 96, op := Op.fieldAddr 38 (.tmp 10) 0, type := 0, pos := "law.go:84", after := #[{ on := 2, ground := Ground.guard }], guard := some (2, true) }) (v := ?_) rfl (by kernel_rfl) (by kernel_rfl) (by kernel_rfl) (fun _ _ _ h => h) (Or.inl ⟨by rfl, ?_⟩) (by assumption) ?_; (case refine_2 => (intro w hSw; (try dsimp only at hSw); go_simp; all_goals (with_reducible rfl))); (try simp only [Act.put, List.setIfInBounds_toArray, List.set_cons_zero, List.set_cons_succ])
        refine wpAnyH_take (i := 8) (oi := { dst := some 98, op := Op.fieldAddr 38 (.tmp 10) 1, type := 0, pos := "law.go:84", after := #[{ on := 2, ground := Ground.guard }], guard := some (2, true) }) (v := ?_) rfl (by kernel_rfl) (by kernel_rfl) (by kernel_rfl) (fun _ _ _ h => h) (Or.inl ⟨by rfl, ?_⟩) (by assumption) ?_; (case refine_2 => (intro w hSw; (try dsimp only at hSw); go_simp; all_goals (with_reducible rfl))); (try simp only [Act.put, List.setIfInBounds_toArray, List.set_cons_zero, List.set_cons_succ])
        refine wpAnyH_take (i := 7) (oi := { dst := some 97, op := Op.load 9 (.tmp 96), type := 9, pos := "law.go:84", after := #[{ on := 6, ground := Ground.data }, { on := 2, ground := Ground.guard }], guard := some (2, true) }) (v := ?_) rfl (by kernel_rfl) (by kernel_rfl) (by kernel_rfl) (fun _ _ _ h => h) (Or.inl ⟨by rfl, ?_⟩) (by assumption) ?_; (case refine_2 => (intro w hSw; (try dsimp only at hSw); go_simp; all_goals (with_reducible rfl))); (try simp only [Act.put, List.setIfInBounds_toArray, List.set_cons_zero, List.set_cons_succ])
        refine wpAnyH_take (i := 9) (oi := { dst := some 99, op := Op.load 24 (.tmp 98), type := 24, pos := "law.go:84", after := #[{ on := 8, ground := Ground.data }, { on := 2, ground := Ground.guard }], guard := some (2, true) }) (v := ?_) rfl (by kernel_rfl) (by kernel_rfl) (by kernel_rfl) (fun _ _ _ h => h) (Or.inl ⟨by rfl, ?_⟩) (by assumption) ?_; (case refine_2 => (intro w hSw; (try dsimp only at hSw); go_simp; all_goals (with_reducible rfl))); (try simp only [Act.put, List.setIfInBounds_toArray, List.set_cons_zero, List.set_cons_succ])
        refine wpAnyH_ready (rs := [5]) (by kernel_rfl) (by simp) (AllReadyH.cons (o := { dst := some 95, op := Op.call { callee := Callee.value (Operand.func 20), args := #[.tmp 93, .tmp 94], argTypes := #[33, 3] }, type := 9, pos := "law.go:84", after := #[{ on := 3, ground := Ground.data }, { on := 4, ground := Ground.data }, { on := 2, ground := Ground.chain }, { on := 2, ground := Ground.guard }], guard := some (2, true) }) rfl (fun K hK => ?_) AllReadyH.nil)
        go_simp; go_at_call 20; (with_reducible refine (HLK1.out _ (by assumption)).mono ?_); rintro e w25 ⟨rfl, hs'⟩; clear hs; go_simp; refine hK.out _ _ hs' (fun hs => ?_); clear hK K hs'; (try simp only [Act.put, List.setIfInBounds_toArray, List.set_cons_zero, List.set_cons_succ])
        refine wpAnyH_ready (rs := [10]) (by kernel_rfl) (by simp) (AllReadyH.cons (o := { dst := some 100, op := Op.call { callee := Callee.value (Operand.func 21), args := #[.tmp 97, .tmp 99], argTypes := #[9, 24] }, type := 9, pos := "law.go:84", after := #[{ on := 7, ground := Ground.data }, { on := 9, ground := Ground.data }, { on := 5, ground := Ground.chain }, { on := 2, ground := Ground.guard }], guard := some (2, true) }) rfl (fun K hK => ?_) AllReadyH.nil)
        go_simp; go_at_call 21; (with_reducible refine (HSP1.out _ (by assumption)).mono ?_); rintro e w30 ⟨rfl, hs'⟩; clear hs; go_simp; refine hK.out _ _ hs' (fun hs => ?_); clear hK K hs'; (try simp only [Act.put, List.setIfInBounds_toArray, List.set_cons_zero, List.set_cons_succ])
        refine wpAnyH_take (i := 11) (oi := { dst := some 101, op := Op.binOp BinOp.neq 9 (.tmp 95) (.tmp 100) 9, type := 4, pos := "law.go:84", after := #[{ on := 5, ground := Ground.data }, { on := 10, ground := Ground.data }, { on := 2, ground := Ground.guard }], guard := some (2, true) }) (v := ?_) rfl (by kernel_rfl) (by kernel_rfl) (by kernel_rfl) (fun _ _ _ h => h) (Or.inl ⟨by rfl, ?_⟩) (by assumption) ?_; (case refine_2 => (intro w hSw; (try dsimp only at hSw); go_simp; all_goals (with_reducible rfl))); (try simp only [Act.put, List.setIfInBounds_toArray, List.set_cons_zero, List.set_cons_succ])
        refine wpAnyH_take (i := 12) (oi := { dst := some 102, op := Op.pick (.tmp 92) (.tmp 101) (.const (Value.bool false)), type := 4, pos := "law.go:84", after := #[{ on := 2, ground := Ground.data }, { on := 11, ground := Ground.data }], guard := none }) (v := ?_) rfl (by kernel_rfl) (by kernel_rfl) (by kernel_rfl) (fun _ _ _ h => h) (Or.inl ⟨by rfl, ?_⟩) (by assumption) ?_; (case refine_2 => (intro w hSw; (try dsimp only at hSw); go_simp; all_goals (with_reducible rfl))); (try simp only [Act.put, List.setIfInBounds_toArray, List.set_cons_zero, List.set_cons_succ])
        refine wpAnyH_take (i := 13) (oi := { dst := some 103, op := Op.move (.tmp 102), type := 4, pos := "law.go:84", after := #[{ on := 12, ground := Ground.data }, { on := 10, ground := Ground.chain }], guard := none }) (v := ?_) rfl (by kernel_rfl) (by kernel_rfl) (by kernel_rfl) (fun _ _ _ h => h) (Or.inl ⟨by rfl, ?_⟩) (by assumption) ?_; (case refine_2 => (intro w hSw; (try dsimp only at hSw); go_simp; all_goals (with_reducible rfl))); (try simp only [Act.put, List.setIfInBounds_toArray, List.set_cons_zero, List.set_cons_succ])
        refine wpAnyH_take (i := 14) (oi := { dst := some 104, op := Op.move (.tmp 14), type := 27, pos := "law.go:84", after := #[{ on := 13, ground := Ground.guard }], guard := some (13, false) }) (v := ?_) rfl (by kernel_rfl) (by kernel_rfl) (by kernel_rfl) (fun _ _ _ h => h) (Or.inl ⟨by rfl, ?_⟩) (by assumption) ?_; (case refine_2 => (intro w hSw; (try dsimp only at hSw); go_simp; all_goals (with_reducible rfl))); (try simp only [Act.put, List.setIfInBounds_toArray, List.set_cons_zero, List.set_cons_succ])
        refine wpAnyH_take (i := 15) (oi := { dst := some 105, op := Op.binOp BinOp.neq 27 (.tmp 104) (.const (Value.int IntKind.i64 0)) 27, type := 4, pos := "law.go:84", after := #[{ on := 14, ground := Ground.data }, { on := 13, ground := Ground.guard }], guard := some (13, false) }) (v := ?_) rfl (by kernel_rfl) (by kernel_rfl) (by kernel_rfl) (fun _ _ _ h => h) (Or.inl ⟨by rfl, ?_⟩) (by assumption) ?_; (case refine_2 => (intro w hSw; (try dsimp only at hSw); go_simp; all_goals (with_reducible rfl))); (try simp only [Act.put, List.setIfInBounds_toArray, List.set_cons_zero, List.set_cons_succ])
        refine wpAnyH_take (i := 16) (oi := { dst := some 106, op := Op.move (.tmp 105), type := 4, pos := "law.go:84", after := #[{ on := 15, ground := Ground.data }, { on := 13, ground := Ground.chain }, { on := 13, ground := Ground.guard }], guard := some (13, false) }) (v := ?_) rfl (by kernel_rfl) (by kernel_rfl) (by kernel_rfl) (fun _ _ _ h => h) (Or.inl ⟨by rfl, ?_⟩) (by assumption) ?_; (case refine_2 => (intro w hSw; (try dsimp only at hSw); go_simp; all_goals (with_reducible rfl))); (try simp only [Act.put, List.setIfInBounds_toArray, List.set_cons_zero, List.set_cons_succ])
        refine wpAnyH_take (i := 17) (oi := { dst := some 107, op := Op.move (.tmp 13), type := 3, pos := "law.go:84", after := #[{ on := 16, ground := Ground.guard }], guard := some (16, true) }) (v := undef) rfl (by kernel_rfl) (by kernel_rfl) (by kernel_rfl) (fun _ _ _ h => h) (Or.inr ⟨by rfl, rfl⟩) (by assumption) ?_; (try simp only [Act.put, List.setIfInBounds_toArray, List.set_cons_zero, List.set_cons_succ])
        refine wpAnyH_take (i := 18) (oi := { dst := some 108, op := Op.binOp BinOp.neq 3 (.tmp 107) (.const (Value.int IntKind.i64 0)) 3, type := 4, pos := "law.go:84", after := #[{ on := 17, ground := Ground.data }, { on := 16, ground := Ground.guard }], guard := some (16, true) }) (v := undef) rfl (by kernel_rfl) (by kernel_rfl) (by kernel_rfl) (fun _ _ _ h => h) (Or.inr ⟨by rfl, rfl⟩) (by assumption) ?_; (try simp only [Act.put, List.setIfInBounds_toArray, List.set_cons_zero, List.set_cons_succ])
        refine wpAnyH_take (i := 19) (oi := { dst := some 109, op := Op.pick (.tmp 106) (.tmp 108) (.const (Value.bool false)), type := 4, pos := "law.go:84", after := #[{ on := 16, ground := Ground.data }, { on := 18, ground := Ground.data }, { on := 13, ground := Ground.guard }], guard := some (13, false) }) (v := ?_) rfl (by kernel_rfl) (by kernel_rfl) (by kernel_rfl) (fun _ _ _ h => h) (Or.inl ⟨by rfl, ?_⟩) (by assumption) ?_; (case refine_2 => (intro w hSw; (try dsimp only at hSw); go_simp; all_goals (with_reducible rfl))); (try simp only [Act.put, List.setIfInBounds_toArray, List.set_cons_zero, List.set_cons_succ])
        refine wpAnyH_take (i := 20) (oi := { dst := some 110, op := Op.pick (.tmp 103) (.const (Value.bool true)) (.tmp 109), type := 4, pos := "law.go:84", after := #[{ on := 13, ground := Ground.data }, { on := 19, ground := Ground.data }], guard := none }) (v := ?_) rfl (by kernel_rfl) (by kernel_rfl) (by kernel_rfl) (fun _ _ _ h => h) (Or.inl ⟨by rfl, ?_⟩) (by assumption) ?_; (case refine_2 => (intro w hSw; (try dsimp only at hSw); go_simp; all_goals (with_reducible rfl))); (try simp only [Act.put, List.setIfInBounds_toArray, List.set_cons_zero, List.set_cons_succ])
        refine wpAnyH_take (i := 21) (oi := { dst := some 111, op := Op.move (.tmp 110), type := 4, pos := "law.go:84", after := #[{ on := 20, ground := Ground.data }, { on := 16, ground := Ground.chain }], guard := none }) (v := ?_) rfl (by kernel_rfl) (by kernel_rfl) (by kernel_rfl) (fun _ _ _ h => h) (Or.inl ⟨by rfl, ?_⟩) (by assumption) ?_; (case refine_2 => (intro w hSw; (try dsimp only at hSw); go_simp; all_goals (with_reducible rfl))); (try simp only [Act.put, List.setIfInBounds_toArray, List.set_cons_zero, List.set_cons_succ])
        refine wpAnyH_take (i := 22) (oi := { dst := some 112, op := Op.move (.tmp 7), type := 33, pos := "law.go:84", after := #[{ on := 21, ground := Ground.guard }], guard := some (21, false) }) (v := ?_) rfl (by kernel_rfl) (by kernel_rfl) (by kernel_rfl) (fun _ _ _ h => h) (Or.inl ⟨by rfl, ?_⟩) (by assumption) ?_; (case refine_2 => (intro w hSw; (try dsimp only at hSw); go_simp; all_goals (with_reducible rfl))); (try simp only [Act.put, List.setIfInBounds_toArray, List.set_cons_zero, List.set_cons_succ])
        refine wpAnyH_take (i := 24) (oi := { dst := some 114, op := Op.move (.tmp 8), type := 35, pos := "law.go:84", after := #[{ on := 21, ground := Ground.guard }], guard := some (21, false) }) (v := ?_) rfl (by kernel_rfl) (by kernel_rfl) (by kernel_rfl) (fun _ _ _ h => h) (Or.inl ⟨by rfl, ?_⟩) (by assumption) ?_; (case refine_2 => (intro w hSw; (try dsimp only at hSw); go_simp; all_goals (with_reducible rfl))); (try simp only [Act.put, List.setIfInBounds_toArray, List.set_cons_zero, List.set_cons_succ])
        refine wpAnyH_ready (rs := [23]) (by kernel_rfl) (by simp) (AllReadyH.cons (o := { dst := some 113, op := Op.call { callee := Callee.value (Operand.func 17), args := #[.tmp 112], argTypes := #[33] }, type := 3, pos := "law.go:84", after := #[{ on := 22, ground := Ground.data }, { on := 21, ground := Ground.chain }, { on := 21, ground := Ground.guard }], guard := some (21, false) }) rfl (fun K hK => ?_) AllReadyH.nil)
        go_simp; go_at_call 17; (with_reducible refine (HLN1.out _ (by assumption)).mono ?_); rintro e w43 ⟨rfl, hs'⟩; clear hs; go_simp; refine hK.out _ _ hs' (fun hs => ?_); clear hK K hs'; (try simp only [Act.put, List.setIfInBounds_toArray, List.set_cons_zero, List.set_cons_succ])
        refine wpAnyH_ready (rs := [25]) (by kernel_rfl) (by simp) (AllReadyH.cons (o := { dst := some 115, op := Op.call { callee := Callee.value (Operand.func 22), args := #[.tmp 114], argTypes := #[35] }, type := 3, pos := "law.go:84", after := #[{ on := 24, ground := Ground.data }, { on := 23, ground := Ground.chain }, { on := 21, ground := Ground.guard }], guard := some (21, false) }) rfl (fun K hK => ?_) AllReadyH.nil)
        go_simp; go_at_call 22; (with_reducible refine (HRL1.out _ (by assumption)).mono ?_); rintro e w45 ⟨rfl, hs'⟩; clear hs; go_simp; refine hK.out _ _ hs' (fun hs => ?_); clear hK K hs'; (try simp only [Act.put, List.setIfInBounds_toArray, List.set_cons_zero, List.set_cons_succ])
        refine wpAnyH_take (i := 26) (oi := { dst := some 116, op := Op.binOp BinOp.neq 3 (.tmp 113) (.tmp 115) 3, type := 4, pos := "law.go:84", after := #[{ on := 23, ground := Ground.data }, { on := 25, ground := Ground.data }, { on := 21, ground := Ground.guard }], guard := some (21, false) }) (v := ?_) rfl (by kernel_rfl) (by kernel_rfl) (by kernel_rfl) (fun _ _ _ h => h) (Or.inl ⟨by rfl, ?_⟩) (by assumption) ?_; (case refine_2 => (intro w hSw; (try dsimp only at hSw); go_simp; all_goals (with_reducible rfl))); (try simp only [Act.put, List.setIfInBounds_toArray, List.set_cons_zero, List.set_cons_succ])
        refine wpAnyH_take (i := 27) (oi := { dst := some 117, op := Op.pick (.tmp 111) (.const (Value.bool true)) (.tmp 116), type := 4, pos := "law.go:84", after := #[{ on := 21, ground := Ground.data }, { on := 26, ground := Ground.data }], guard := none }) (v := ?_) rfl (by kernel_rfl) (by kernel_rfl) (by kernel_rfl) (fun _ _ _ h => h) (Or.inl ⟨by rfl, ?_⟩) (by assumption) ?_; (case refine_2 => (intro w hSw; (try dsimp only at hSw); go_simp; all_goals (with_reducible rfl))); (try simp only [Act.put, List.setIfInBounds_toArray, List.set_cons_zero, List.set_cons_succ])
        refine wpAnyH_take (i := 28) (oi := { dst := some 118, op := Op.move (.tmp 117), type := 4, pos := "law.go:84", after := #[{ on := 27, ground := Ground.data }, { on := 25, ground := Ground.chain }], guard := none }) (v := ?_) rfl (by kernel_rfl) (by kernel_rfl) (by kernel_rfl) (fun _ _ _ h => h) (Or.inl ⟨by rfl, ?_⟩) (by assumption) ?_; (case refine_2 => (intro w hSw; (try dsimp only at hSw); go_simp; all_goals (with_reducible rfl))); (try simp only [Act.put, List.setIfInBounds_toArray, List.set_cons_zero, List.set_cons_succ])
        refine wpAnyH_take (i := 29) (oi := { dst := some 119, op := Op.move (.tmp 14), type := 27, pos := "law.go:84", after := #[{ on := 28, ground := Ground.guard }], guard := some (28, false) }) (v := ?_) rfl (by kernel_rfl) (by kernel_rfl) (by kernel_rfl) (fun _ _ _ h => h) (Or.inl ⟨by rfl, ?_⟩) (by assumption) ?_; (case refine_2 => (intro w hSw; (try dsimp only at hSw); go_simp; all_goals (with_reducible rfl))); (try simp only [Act.put, List.setIfInBounds_toArray, List.set_cons_zero, List.set_cons_succ])
        refine wpAnyH_take (i := 30) (oi := { dst := some 120, op := Op.binOp BinOp.eql 27 (.tmp 119) (.const (Value.int IntKind.i64 0)) 27, type := 4, pos := "law.go:84", after := #[{ on := 29, ground := Ground.data }, { on := 28, ground := Ground.guard }], guard := some (28, false) }) (v := ?_) rfl (by kernel_rfl) (by kernel_rfl) (by kernel_rfl) (fun _ _ _ h => h) (Or.inl ⟨by rfl, ?_⟩) (by assumption) ?_; (case refine_2 => (intro w hSw; (try dsimp only at hSw); go_simp; all_goals (with_reducible rfl))); (try simp only [Act.put, List.setIfInBounds_toArray, List.set_cons_zero, List.set_cons_succ])
        refine wpAnyH_take (i := 31) (oi := { dst := some 121, op := Op.move (.tmp 120), type := 4, pos := "law.go:84", after := #[{ on := 30, ground := Ground.data }, { on := 28, ground := Ground.chain }, { on := 28, ground := Ground.guard }], guard := some (28, false) }) (v := ?_) rfl (by kernel_rfl) (by kernel_rfl) (by kernel_rfl) (fun _ _ _ h => h) (Or.inl ⟨by rfl, ?_⟩) (by assumption) ?_; (case refine_2 => (intro w hSw; (try dsimp only at hSw); go_simp; all_goals (with_reducible rfl))); (try simp only [Act.put, List.setIfInBounds_toArray, List.set_cons_zero, List.set_cons_succ])
        refine wpAnyH_take (i := 32) (oi := { dst := some 122, op := Op.move (.tmp 13), type := 3, pos := "law.go:84", after := #[{ on := 31, ground := Ground.guard }], guard := some (31, true) }) (v := ?_) rfl (by kernel_rfl) (by kernel_rfl) (by kernel_rfl) (fun _ _ _ h => h) (Or.inl ⟨by rfl, ?_⟩) (by assumption) ?_; (case refine_2 => (intro w hSw; (try dsimp only at hSw); go_simp; all_goals (with_reducible rfl))); (try simp only [Act.put, List.setIfInBounds_toArray, List.set_cons_zero, List.set_cons_succ])
        refine wpAnyH_take (i := 33) (oi := { dst := some 123, op := Op.binOp BinOp.lss 3 (.tmp 122) (.const (Value.int IntKind.i64 0)) 3, type := 4, pos := "law.go:84", after := #[{ on := 32, ground := Ground.data }, { on := 31, ground := Ground.guard }], guard := some (31, true) }) (v := ?_) rfl (by kernel_rfl) (by kernel_rfl) (by kernel_rfl) (fun _ _ _ h => h) (Or.inl ⟨by rfl, ?_⟩) (by assumption) ?_; (case refine_2 => (intro w hSw; (try dsimp only at hSw); go_simp; all_goals (with_reducible rfl))); (try simp only [Act.put, List.setIfInBounds_toArray, List.set_cons_zero, List.set_cons_succ])
        refine wpAnyH_take (i := 34) (oi := { dst := some 124, op := Op.move (.tmp 123), type := 4, pos := "law.go:84", after := #[{ on := 33, ground := Ground.data }, { on := 31, ground := Ground.chain }, { on := 31, ground := Ground.guard }], guard := some (31, true) }) (v := ?_) rfl (by kernel_rfl) (by kernel_rfl) (by kernel_rfl) (fun _ _ _ h => h) (Or.inl ⟨by rfl, ?_⟩) (by assumption) ?_; (case refine_2 => (intro w hSw; (try dsimp only at hSw); go_simp; all_goals (with_reducible rfl))); (try simp only [Act.put, List.setIfInBounds_toArray, List.set_cons_zero, List.set_cons_succ])
        refine wpAnyH_take (i := 35) (oi := { dst := some 125, op := Op.move (.tmp 13), type := 3, pos := "law.go:84", after := #[{ on := 34, ground := Ground.guard }], guard := some (34, false) }) (v := ?_) rfl (by kernel_rfl) (by kernel_rfl) (by kernel_rfl) (fun _ _ _ h => h) (Or.inl ⟨by rfl, ?_⟩) (by assumption) ?_; (case refine_2 => (intro w hSw; (try dsimp only at hSw); go_simp; all_goals (with_reducible rfl))); (try simp only [Act.put, List.setIfInBounds_toArray, List.set_cons_zero, List.set_cons_succ])
        refine wpAnyH_take (i := 36) (oi := { dst := some 126, op := Op.move (.tmp 7), type := 33, pos := "law.go:84", after := #[{ on := 34, ground := Ground.guard }], guard := some (34, false) }) (v := ?_) rfl (by kernel_rfl) (by kernel_rfl) (by kernel_rfl) (fun _ _ _ h => h) (Or.inl ⟨by rfl, ?_⟩) (by assumption) ?_; (case refine_2 => (intro w hSw; (try dsimp only at hSw); go_simp; all_goals (with_reducible rfl))); (try simp only [Act.put, List.setIfInBounds_toArray, List.set_cons_zero, List.set_cons_succ])
        refine wpAnyH_ready (rs := [37]) (by kernel_rfl) (by simp) (AllReadyH.cons (o := { dst := some 127, op := Op.call { callee := Callee.value (Operand.func 17), args := #[.tmp 126], argTypes := #[33] }, type := 3, pos := "law.go:84", after := #[{ on := 36, ground := Ground.data }, { on := 34, ground := Ground.chain }, { on := 34, ground := Ground.guard }], guard := some (34, false) }) rfl (fun K hK => ?_) AllReadyH.nil)
        go_simp; go_at_call 17; (with_reducible refine (HLN1.out _ (by assumption)).mono ?_); rintro e w57 ⟨rfl, hs'⟩; clear hs; go_simp; refine hK.out _ _ hs' (fun hs => ?_); clear hK K hs'; (try simp only [Act.put, List.setIfInBounds_toArray, List.set_cons_zero, List.set_cons_succ])
        refine wpAnyH_take (i := 38) (oi := { dst := some 128, op := Op.binOp BinOp.geq 3 (.tmp 125) (.tmp 127) 3, type := 4, pos := "law.go:84", after := #[{ on := 35, ground := Ground.data }, { on := 37, ground := Ground.data }, { on := 34, ground := Ground.guard }], guard := some (34, false) }) (v := ?_) rfl (by kernel_rfl) (by kernel_rfl) (by kernel_rfl) (fun _ _ _ h => h) (Or.inl ⟨by rfl, ?_⟩) (by assumption) ?_; (case refine_2 => (intro w hSw; (try dsimp only at hSw); go_simp; all_goals (with_reducible rfl))); (try simp only [Act.put, List.setIfInBounds_toArray, List.set_cons_zero, List.set_cons_succ])
        refine wpAnyH_take (i := 39) (oi := { dst := some 129, op := Op.pick (.tmp 124) (.const (Value.bool true)) (.tmp 128), type := 4, pos := "law.go:84", after := #[{ on := 34, ground := Ground.data }, { on := 38, ground := Ground.data }, { on := 31, ground := Ground.guard }], guard := some (31, true) }) (v := ?_) rfl (by kernel_rfl) (by kernel_rfl) (by kernel_rfl) (fun _ _ _ h => h) (Or.inl ⟨by rfl, ?_⟩) (by assumption) ?_; (case refine_2 => (intro w hSw; (try dsimp only at hSw); go_simp; all_goals (with_reducible rfl))); (try simp only [Act.put, List.setIfInBounds_toArray, List.set_cons_zero, List.set_cons_succ])
        refine wpAnyH_take (i := 40) (oi := { dst := some 130, op := Op.pick (.tmp 121) (.tmp 129) (.const (Value.bool false)), type := 4, pos := "law.go:84", after := #[{ on := 31, ground := Ground.data }, { on := 39, ground := Ground.data }, { on := 28, ground := Ground.guard }], guard := some (28, false) }) (v := ?_) rfl (by kernel_rfl) (by kernel_rfl) (by kernel_rfl) (fun _ _ _ h => h) (Or.inl ⟨by rfl, ?_⟩) (by assumption) ?_; (case refine_2 => (intro w hSw; (try dsimp only at hSw); go_simp; all_goals (with_reducible rfl))); (try simp only [Act.put, List.setIfInBounds_toArray, List.set_cons_zero, List.set_cons_succ])
        refine wpAnyH_take (i := 41) (oi := { dst := some 131, op := Op.pick (.tmp 118) (.const (Value.bool true)) (.tmp 130), type := 4, pos := "law.go:84", after := #[{ on := 28, ground := Ground.data }, { on := 40, ground := Ground.data }], guard := none }) (v := ?_) rfl (by kernel_rfl) (by kernel_rfl) (by kernel_rfl) (fun _ _ _ h => h) (Or.inl ⟨by rfl, ?_⟩) (by assumption) ?_; (case refine_2 => (intro w hSw; (try dsimp only at hSw); go_simp; all_goals (with_reducible rfl))); (try simp only [Act.put, List.setIfInBounds_toArray, List.set_cons_zero, List.set_cons_succ])
        refine wpAnyH_done (by kernel_rfl) ?_ _
        all_goals (
          obtain ⟨⟨y0, y1, y2, y3⟩, yz⟩ := hs.1.xb.cells
          have HSS := Lib.hid hs.1
          clear hs hs0
          go_wp2_with (go_at_call 23; (with_reducible refine (HRD.out.mark _ HSS.out).mono ?_); rintro e w16 ⟨⟨v16, rfl⟩, hh⟩; have HP16 := Lib.hid hh; clear hh)
          go_roundw)
        all_goals try (case rel => exact ⟨q + 1, by omega, by go_num, by rw [putsL_snoc (HZQ.out.1), ← HZQ.out.2]; exact HP16.out⟩)
        all_goals (simp [intOf]; omega)
      · go_wp2_with (first
          | (go_at_call 11; (with_reducible refine (HCP.out _ HW5.out).mono ?_); rintro e w6 ⟨pk, pi, pj, po, pn, pc, rfl, hb6, hf6⟩; have HRD := Lib.hid (HRD0.out wr.heap.size w6.heap.size pk pi pj po pn pc); have H6 : Hid (Rs w b br wr.heap.size w6.heap.size s ⟨k, i, j, o, nn, c⟩ ⟨pk, pi, pj, po, pn, pc⟩ t L1 L1 (w6.alloc (.cells #[.int .i64 pk, .int .i64 pi, .int .i64 pj, .slice po pn pc] 24))) := Lib.hid (Ps.start (n := ⟨k, i, j, o, nn, c⟩) (p := ⟨pk, pi, pj, po, pn, pc⟩) (s := s) HPS.out hb6 hf6); obtain ⟨⟨x0, x1, x2, x3, x4⟩, xz⟩ := H6.out.xa.cells; obtain ⟨⟨y0, y1, y2, y3⟩, yz⟩ := H6.out.xb.cells; clear hb6 hf6)
          | (go_at_call 17; (with_reducible refine (HRD.out.len0 _ H6.out).mono ?_); rintro e w7 ⟨rfl, hh⟩; clear x0 x1 x2 x3 x4 xz y0 y1 y2 y3 yz; have H7 : Hid (Rs w b br wr.heap.size w6.heap.size s ⟨k, i, j, o, nn, c⟩ ⟨pk, pi, pj, po, pn, pc⟩ t L1 L1 w7) := Lib.hid hh; obtain ⟨⟨x0, x1, x2, x3, x4⟩, xz⟩ := H7.out.xa.cells; obtain ⟨⟨y0, y1, y2, y3⟩, yz⟩ := H7.out.xb.cells; clear hh)
          | (go_at_call 18; (with_reducible refine (HRD.out.put _ H7.out).mono ?_); rintro e w8 ⟨rfl, hh⟩; clear x0 x1 x2 x3 x4 xz y0 y1 y2 y3 yz; have H8 : Hid (Rs w b br wr.heap.size w6.heap.size s ⟨k, i, j, o, nn, c⟩ ⟨pk, pi, pj, po, pn, pc⟩ t L1 L1 w8) := Lib.hid hh; obtain ⟨⟨x0, x1, x2, x3, x4⟩, xz⟩ := H8.out.xa.cells; obtain ⟨⟨y0, y1, y2, y3⟩, yz⟩ := H8.out.xb.cells; clear hh)
          | (go_at_call 19; (with_reducible refine (HRD.out.rput _ H8.out).mono ?_); rintro e w9 ⟨rfl, hh⟩; clear x0 x1 x2 x3 x4 xz y0 y1 y2 y3 yz; have H9 : Hid (Rs w b br wr.heap.size w6.heap.size s ⟨k, i, j, o, nn, c⟩ ⟨pk, pi, pj, po, pn, pc⟩ t L1 L1 w9) := Lib.hid hh; obtain ⟨⟨x0, x1, x2, x3, x4⟩, xz⟩ := H9.out.xa.cells; obtain ⟨⟨y0, y1, y2, y3⟩, yz⟩ := H9.out.xb.cells; clear hh)
          | (go_at_call 14; (with_reducible refine (HRD.out.same _ H9.out).mono ?_); rintro e w10 ⟨rfl, hh⟩; clear x0 x1 x2 x3 x4 xz y0 y1 y2 y3 yz; have H10 : Hid (Rs w b br wr.heap.size w6.heap.size s ⟨k, i, j, o, nn, c⟩ ⟨pk, pi, pj, po, pn, pc⟩ t L1 L1 w10) := Lib.hid hh; obtain ⟨⟨x0, x1, x2, x3, x4⟩, xz⟩ := H10.out.xa.cells; obtain ⟨⟨y0, y1, y2, y3⟩, yz⟩ := H10.out.xb.cells; clear hh)
          | (go_at_call 17; (with_reducible refine (HRD.out.len _ H10.out).mono ?_); rintro e w11 ⟨rfl, hh⟩; clear x0 x1 x2 x3 x4 xz y0 y1 y2 y3 yz; have H11 : Hid (Rs w b br wr.heap.size w6.heap.size s ⟨k, i, j, o, nn, c⟩ ⟨pk, pi, pj, po, pn, pc⟩ t L1 L1 w11) := Lib.hid hh; obtain ⟨⟨x0, x1, x2, x3, x4⟩, xz⟩ := H11.out.xa.cells; obtain ⟨⟨y0, y1, y2, y3⟩, yz⟩ := H11.out.xb.cells; clear hh))
        clear x0 x1 x2 x3 x4 xz y0 y1 y2 y3 yz
        have hall : ∀ u, Rs w b br wr.heap.size w6.heap.size s ⟨k, i, j, o, nn, c⟩ ⟨pk, pi, pj, po, pn, pc⟩ t L1 L1 u → (Rs w b br wr.heap.size w6.heap.size s ⟨k, i, j, o, nn, c⟩ ⟨pk, pi, pj, po, pn, pc⟩ t L1 L1 u ∧ u.cell? ⟨wr.heap.size, 0, none⟩ = some (.string s) ∧ u.cell? ⟨wr.heap.size, 1, none⟩ = some (.int .i64 k) ∧ u.cell? ⟨wr.heap.size, 2, none⟩ = some (.int .i64 i) ∧ u.cell? ⟨wr.heap.size, 3, none⟩ = some (.int .i64 j) ∧ u.cell? ⟨wr.heap.size, 4, none⟩ = some (.slice o nn c) ∧ wr.heap.size < u.heap.size) := fun u hu => by
          obtain ⟨⟨a0, a1, a2, a3, a4⟩, az⟩ := hu.xa.cells
          exact ⟨hu, a0, a1, a2, a3, a4, az⟩
        have HLN1 : Hid (∀ u, (Rs w b br wr.heap.size w6.heap.size s ⟨k, i, j, o, nn, c⟩ ⟨pk, pi, pj, po, pn, pc⟩ t L1 L1 u ∧ u.cell? ⟨wr.heap.size, 0, none⟩ = some (.string s) ∧ u.cell? ⟨wr.heap.size, 1, none⟩ = some (.int .i64 k) ∧ u.cell? ⟨wr.heap.size, 2, none⟩ = some (.int .i64 i) ∧ u.cell? ⟨wr.heap.size, 3, none⟩ = some (.int .i64 j) ∧ u.cell? ⟨wr.heap.size, 4, none⟩ = some (.slice o nn c) ∧ wr.heap.size < u.heap.size) → Calls Try.prog 17 #[.pointer (some ⟨b, 0, none⟩)] u fun e w' => e = .returned (.int .i64 (L1.length : Int)) ∧ (Rs w b br wr.heap.size w6.heap.size s ⟨k, i, j, o, nn, c⟩ ⟨pk, pi, pj, po, pn, pc⟩ t L1 L1 w' ∧ w'.cell? ⟨wr.heap.size, 0, none⟩ = some (.string s) ∧ w'.cell? ⟨wr.heap.size, 1, none⟩ = some (.int .i64 k) ∧ w'.cell? ⟨wr.heap.size, 2, none⟩ = some (.int .i64 i) ∧ w'.cell? ⟨wr.heap.size, 3, none⟩ = some (.int .i64 j) ∧ w'.cell? ⟨wr.heap.size, 4, none⟩ = some (.slice o nn c) ∧ wr.heap.size < w'.heap.size)) := Lib.hid (fun u hu => (HRD.out.len u hu.1).mono fun e w' ⟨e1, e2⟩ => ⟨e1, hall w' e2⟩)
        have HRL1 : Hid (∀ u, (Rs w b br wr.heap.size w6.heap.size s ⟨k, i, j, o, nn, c⟩ ⟨pk, pi, pj, po, pn, pc⟩ t L1 L1 u ∧ u.cell? ⟨wr.heap.size, 0, none⟩ = some (.string s) ∧ u.cell? ⟨wr.heap.size, 1, none⟩ = some (.int .i64 k) ∧ u.cell? ⟨wr.heap.size, 2, none⟩ = some (.int .i64 i) ∧ u.cell? ⟨wr.heap.size, 3, none⟩ = some (.int .i64 j) ∧ u.cell? ⟨wr.heap.size, 4, none⟩ = some (.slice o nn c) ∧ wr.heap.size < u.heap.size) → Calls Try.prog 22 #[.pointer (some ⟨br, 0, none⟩)] u fun e w' => e = .returned (.int .i64 (L1.length : Int)) ∧ (Rs w b br wr.heap.size w6.heap.size s ⟨k, i, j, o, nn, c⟩ ⟨pk, pi, pj, po, pn, pc⟩ t L1 L1 w' ∧ w'.cell? ⟨wr.heap.size, 0, none⟩ = some (.string s) ∧ w'.cell? ⟨wr.heap.size, 1, none⟩ = some (.int .i64 k) ∧ w'.cell? ⟨wr.heap.size, 2, none⟩ = some (.int .i64 i) ∧ w'.cell? ⟨wr.heap.size, 3, none⟩ = some (.int .i64 j) ∧ w'.cell? ⟨wr.heap.size, 4, none⟩ = some (.slice o nn c) ∧ wr.heap.size < w'.heap.size)) := Lib.hid (fun u hu => (HRD.out.rlen u hu.1).mono fun e w' ⟨e1, e2⟩ => ⟨e1, hall w' e2⟩)
        have hs0 := hall w11.drew (H11.out.more (Below.refl _ _).drew)
        clear hall
        refine wp_region_held_drew (S := fun W' => (Rs w b br wr.heap.size w6.heap.size s ⟨k, i, j, o, nn, c⟩ ⟨pk, pi, pj, po, pn, pc⟩ t L1 L1 W' ∧ W'.cell? ⟨wr.heap.size, 0, none⟩ = some (.string s) ∧ W'.cell? ⟨wr.heap.size, 1, none⟩ = some (.int .i64 k) ∧ W'.cell? ⟨wr.heap.size, 2, none⟩ = some (.int .i64 i) ∧ W'.cell? ⟨wr.heap.size, 3, none⟩ = some (.int .i64 j) ∧ W'.cell? ⟨wr.heap.size, 4, none⟩ = some (.slice o nn c) ∧ wr.heap.size < W'.heap.size)) (by kernel_rfl) hs0 (fun hs => ?_)
        refine wpAnyH_take (i := 0) (oi := { dst := some 90, op := Op.move (.tmp 14), type := 27, pos := "law.go:84", after := #[], guard := none }) (v := ?_) rfl (by kernel_rfl) (by kernel_rfl) (by kernel_rfl) (fun _ _ _ h => h) (Or.inl ⟨by rfl, ?_⟩) (by assumption) ?_; (case refine_2 => (intro w hSw; (try dsimp only at hSw); go_simp; all_goals (with_reducible rfl))); (try simp only [Act.put, List.setIfInBounds_toArray, List.set_cons_zero, List.set_cons_succ])
        refine wpAnyH_take (i := 1) (oi := { dst := some 91, op := Op.binOp BinOp.eql 27 (.tmp 90) (.const (Value.int IntKind.i64 0)) 27, type := 4, pos := "law.go:84", after := #[{ on := 0, ground := Ground.data }], guard := none }) (v := ?_) rfl (by kernel_rfl) (by kernel_rfl) (by kernel_rfl) (fun _ _ _ h => h) (Or.inl ⟨by rfl, ?_⟩) (by assumption) ?_; (case refine_2 => (intro w hSw; (try dsimp only at hSw); go_simp; all_goals (with_reducible rfl))); (try simp only [Act.put, List.setIfInBounds_toArray, List.set_cons_zero, List.set_cons_succ])
        refine wpAnyH_take (i := 2) (oi := { dst := some 92, op := Op.move (.tmp 91), type := 4, pos := "law.go:84", after := #[{ on := 1, ground := Ground.data }], guard := none }) (v := ?_) rfl (by kernel_rfl) (by kernel_rfl) (by kernel_rfl) (fun _ _ _ h => h) (Or.inl ⟨by rfl, ?_⟩) (by assumption) ?_; (case refine_2 => (intro w hSw; (try dsimp only at hSw); go_simp; all_goals (with_reducible rfl))); (try simp only [Act.put, List.setIfInBounds_toArray, List.set_cons_zero, List.set_cons_succ])
        refine wpAnyH_take (i := 3) (oi := { dst := some 93, op := Op.move (.tmp 7), type := 33, pos := "law.go:84", after := #[{ on := 2, ground := Ground.guard }], guard := some (2, true) }) (v := undef) rfl (by kernel_rfl) (by kernel_rfl) (by kernel_rfl) (fun _ _ _ h => h) (Or.inr ⟨by rfl, rfl⟩) (by assumption) ?_; (try simp only [Act.put, List.setIfInBounds_toArray, List.set_cons_zero, List.set_cons_succ])
        refine wpAnyH_take (i := 4) (oi := { dst := some 94, op := Op.move (.tmp 13), type := 3, pos := "law.go:84", after := #[{ on := 2, ground := Ground.guard }], guard := some (2, true) }) (v := undef) rfl (by kernel_rfl) (by kernel_rfl) (by kernel_rfl) (fun _ _ _ h => h) (Or.inr ⟨by rfl, rfl⟩) (by assumption) ?_; (try simp only [Act.put, List.setIfInBounds_toArray, List.set_cons_zero, List.set_cons_succ])
        refine wpAnyH_take (i := 5) (oi := { dst := some 95, op := Op.call { callee := Callee.value (Operand.func 20), args := #[.tmp 93, .tmp 94], argTypes := #[33, 3] }, type := 9, pos := "law.go:84", after := #[{ on := 3, ground := Ground.data }, { on := 4, ground := Ground.data }, { on := 2, ground := Ground.chain }, { on := 2, ground := Ground.guard }], guard := some (2, true) }) (v := undef) rfl (by kernel_rfl) (by kernel_rfl) (by kernel_rfl) (fun _ _ _ h => h) (Or.inr ⟨by rfl, rfl⟩) (by assumption) ?_; (try simp only [Act.put, List.setIfInBounds_toArray, List.set_cons_zero, List.set_cons_succ])
        refine wpAnyH_take (i := 6) (oi := { dst := some 96, op := Op.fieldAddr 38 (.tmp 10) 0, type := 0, pos := "law.go:84", after := #[{ on := 2, ground := Ground.guard }], guard := some (2, true) }) (v := undef) rfl (by kernel_rfl) (by kernel_rfl) (by kernel_rfl) (fun _ _ _ h => h) (Or.inr ⟨by rfl, rfl⟩) (by assumption) ?_; (try simp only [Act.put, List.setIfInBounds_toArray, List.set_cons_zero, List.set_cons_succ])
        refine wpAnyH_take (i := 7) (oi := { dst := some 97, op := Op.load 9 (.tmp 96), type := 9, pos := "law.go:84", after := #[{ on := 6, ground := Ground.data }, { on := 2, ground := Ground.guard }], guard := some (2, true) }) (v := undef) rfl (by kernel_rfl) (by kernel_rfl) (by kernel_rfl) (fun _ _ _ h => h) (Or.inr ⟨by rfl, rfl⟩) (by assumption) ?_; (try simp only [Act.put, List.setIfInBounds_toArray, List.set_cons_zero, List.set_cons_succ])
        refine wpAnyH_take (i := 8) (oi := { dst := some 98, op := Op.fieldAddr 38 (.tmp 10) 1, type := 0, pos := "law.go:84", after := #[{ on := 2, ground := Ground.guard }], guard := some (2, true) }) (v := undef) rfl (by kernel_rfl) (by kernel_rfl) (by kernel_rfl) (fun _ _ _ h => h) (Or.inr ⟨by rfl, rfl⟩) (by assumption) ?_; (try simp only [Act.put, List.setIfInBounds_toArray, List.set_cons_zero, List.set_cons_succ])
        refine wpAnyH_take (i := 9) (oi := { dst := some 99, op := Op.load 24 (.tmp 98), type := 24, pos := "law.go:84", after := #[{ on := 8, ground := Ground.data }, { on := 2, ground := Ground.guard }], guard := some (2, true) }) (v := undef) rfl (by kernel_rfl) (by kernel_rfl) (by kernel_rfl) (fun _ _ _ h => h) (Or.inr ⟨by rfl, rfl⟩) (by assumption) ?_; (try simp only [Act.put, List.setIfInBounds_toArray, List.set_cons_zero, List.set_cons_succ])
        refine wpAnyH_take (i := 10) (oi := { dst := some 100, op := Op.call { callee := Callee.value (Operand.func 21), args := #[.tmp 97, .tmp 99], argTypes := #[9, 24] }, type := 9, pos := "law.go:84", after := #[{ on := 7, ground := Ground.data }, { on := 9, ground := Ground.data }, { on := 5, ground := Ground.chain }, { on := 2, ground := Ground.guard }], guard := some (2, true) }) (v := undef) rfl (by kernel_rfl) (by kernel_rfl) (by kernel_rfl) (fun _ _ _ h => h) (Or.inr ⟨by rfl, rfl⟩) (by assumption) ?_; (try simp only [Act.put, List.setIfInBounds_toArray, List.set_cons_zero, List.set_cons_succ])
        refine wpAnyH_take (i := 11) (oi := { dst := some 101, op := Op.binOp BinOp.neq 9 (.tmp 95) (.tmp 100) 9, type := 4, pos := "law.go:84", after := #[{ on := 5, ground := Ground.data }, { on := 10, ground := Ground.data }, { on := 2, ground := Ground.guard }], guard := some (2, true) }) (v := undef) rfl (by kernel_rfl) (by kernel_rfl) (by kernel_rfl) (fun _ _ _ h => h) (Or.inr ⟨by rfl, rfl⟩) (by assumption) ?_; (try simp only [Act.put, List.setIfInBounds_toArray, List.set_cons_zero, List.set_cons_succ])
        refine wpAnyH_take (i := 12) (oi := { dst := some 102, op := Op.pick (.tmp 92) (.tmp 101) (.const (Value.bool false)), type := 4, pos := "law.go:84", after := #[{ on := 2, ground := Ground.data }, { on := 11, ground := Ground.data }], guard := none }) (v := ?_) rfl (by kernel_rfl) (by kernel_rfl) (by kernel_rfl) (fun _ _ _ h => h) (Or.inl ⟨by rfl, ?_⟩) (by assumption) ?_; (case refine_2 => (intro w hSw; (try dsimp only at hSw); go_simp; all_goals (with_reducible rfl))); (try simp only [Act.put, List.setIfInBounds_toArray, List.set_cons_zero, List.set_cons_succ])
        refine wpAnyH_take (i := 13) (oi := { dst := some 103, op := Op.move (.tmp 102), type := 4, pos := "law.go:84", after := #[{ on := 12, ground := Ground.data }, { on := 10, ground := Ground.chain }], guard := none }) (v := ?_) rfl (by kernel_rfl) (by kernel_rfl) (by kernel_rfl) (fun _ _ _ h => h) (Or.inl ⟨by rfl, ?_⟩) (by assumption) ?_; (case refine_2 => (intro w hSw; (try dsimp only at hSw); go_simp; all_goals (with_reducible rfl))); (try simp only [Act.put, List.setIfInBounds_toArray, List.set_cons_zero, List.set_cons_succ])
        refine wpAnyH_take (i := 14) (oi := { dst := some 104, op := Op.move (.tmp 14), type := 27, pos := "law.go:84", after := #[{ on := 13, ground := Ground.guard }], guard := some (13, false) }) (v := ?_) rfl (by kernel_rfl) (by kernel_rfl) (by kernel_rfl) (fun _ _ _ h => h) (Or.inl ⟨by rfl, ?_⟩) (by assumption) ?_; (case refine_2 => (intro w hSw; (try dsimp only at hSw); go_simp; all_goals (with_reducible rfl))); (try simp only [Act.put, List.setIfInBounds_toArray, List.set_cons_zero, List.set_cons_succ])
        refine wpAnyH_take (i := 15) (oi := { dst := some 105, op := Op.binOp BinOp.neq 27 (.tmp 104) (.const (Value.int IntKind.i64 0)) 27, type := 4, pos := "law.go:84", after := #[{ on := 14, ground := Ground.data }, { on := 13, ground := Ground.guard }], guard := some (13, false) }) (v := ?_) rfl (by kernel_rfl) (by kernel_rfl) (by kernel_rfl) (fun _ _ _ h => h) (Or.inl ⟨by rfl, ?_⟩) (by assumption) ?_; (case refine_2 => (intro w hSw; (try dsimp only at hSw); go_simp; all_goals (with_reducible rfl))); (try simp only [Act.put, List.setIfInBounds_toArray, List.set_cons_zero, List.set_cons_succ])
        refine wpAnyH_take (i := 16) (oi := { dst := some 106, op := Op.move (.tmp 105), type := 4, pos := "law.go:84", after := #[{ on := 15, ground := Ground.data }, { on := 13, ground := Ground.chain }, { on := 13, ground := Ground.guard }], guard := some (13, false) }) (v := ?_) rfl (by kernel_rfl) (by kernel_rfl) (by kernel_rfl) (fun _ _ _ h => h) (Or.inl ⟨by rfl, ?_⟩) (by assumption) ?_; (case refine_2 => (intro w hSw; (try dsimp only at hSw); go_simp; all_goals (with_reducible rfl))); (try simp only [Act.put, List.setIfInBounds_toArray, List.set_cons_zero, List.set_cons_succ])
        refine wpAnyH_take (i := 17) (oi := { dst := some 107, op := Op.move (.tmp 13), type := 3, pos := "law.go:84", after := #[{ on := 16, ground := Ground.guard }], guard := some (16, true) }) (v := ?_) rfl (by kernel_rfl) (by kernel_rfl) (by kernel_rfl) (fun _ _ _ h => h) (Or.inl ⟨by rfl, ?_⟩) (by assumption) ?_; (case refine_2 => (intro w hSw; (try dsimp only at hSw); go_simp; all_goals (with_reducible rfl))); (try simp only [Act.put, List.setIfInBounds_toArray, List.set_cons_zero, List.set_cons_succ])
        refine wpAnyH_take (i := 18) (oi := { dst := some 108, op := Op.binOp BinOp.neq 3 (.tmp 107) (.const (Value.int IntKind.i64 0)) 3, type := 4, pos := "law.go:84", after := #[{ on := 17, ground := Ground.data }, { on := 16, ground := Ground.guard }], guard := some (16, true) }) (v := ?_) rfl (by kernel_rfl) (by kernel_rfl) (by kernel_rfl) (fun _ _ _ h => h) (Or.inl ⟨by rfl, ?_⟩) (by assumption) ?_; (case refine_2 => (intro w hSw; (try dsimp only at hSw); go_simp; all_goals (with_reducible rfl))); (try simp only [Act.put, List.setIfInBounds_toArray, List.set_cons_zero, List.set_cons_succ])
        refine wpAnyH_take (i := 19) (oi := { dst := some 109, op := Op.pick (.tmp 106) (.tmp 108) (.const (Value.bool false)), type := 4, pos := "law.go:84", after := #[{ on := 16, ground := Ground.data }, { on := 18, ground := Ground.data }, { on := 13, ground := Ground.guard }], guard := some (13, false) }) (v := ?_) rfl (by kernel_rfl) (by kernel_rfl) (by kernel_rfl) (fun _ _ _ h => h) (Or.inl ⟨by rfl, ?_⟩) (by assumption) ?_; (case refine_2 => (intro w hSw; (try dsimp only at hSw); go_simp; all_goals (with_reducible rfl))); (try simp only [Act.put, List.setIfInBounds_toArray, List.set_cons_zero, List.set_cons_succ])
        refine wpAnyH_take (i := 20) (oi := { dst := some 110, op := Op.pick (.tmp 103) (.const (Value.bool true)) (.tmp 109), type := 4, pos := "law.go:84", after := #[{ on := 13, ground := Ground.data }, { on := 19, ground := Ground.data }], guard := none }) (v := ?_) rfl (by kernel_rfl) (by kernel_rfl) (by kernel_rfl) (fun _ _ _ h => h) (Or.inl ⟨by rfl, ?_⟩) (by assumption) ?_; (case refine_2 => (intro w hSw; (try dsimp only at hSw); go_simp; all_goals (with_reducible rfl))); (try simp only [Act.put, List.setIfInBounds_toArray, List.set_cons_zero, List.set_cons_succ])
        refine wpAnyH_take (i := 21) (oi := { dst := some 111, op := Op.move (.tmp 110), type := 4, pos := "law.go:84", after := #[{ on := 20, ground := Ground.data }, { on := 16, ground := Ground.chain }], guard := none }) (v := ?_) rfl (by kernel_rfl) (by kernel_rfl) (by kernel_rfl) (fun _ _ _ h => h) (Or.inl ⟨by rfl, ?_⟩) (by assumption) ?_; (case refine_2 => (intro w hSw; (try dsimp only at hSw); go_simp; all_goals (with_reducible rfl))); (try simp only [Act.put, List.setIfInBounds_toArray, List.set_cons_zero, List.set_cons_succ])
        refine wpAnyH_take (i := 22) (oi := { dst := some 112, op := Op.move (.tmp 7), type := 33, pos := "law.go:84", after := #[{ on := 21, ground := Ground.guard }], guard := some (21, false) }) (v := ?_) rfl (by kernel_rfl) (by kernel_rfl) (by kernel_rfl) (fun _ _ _ h => h) (Or.inl ⟨by rfl, ?_⟩) (by assumption) ?_; (case refine_2 => (intro w hSw; (try dsimp only at hSw); go_simp; all_goals (with_reducible rfl))); (try simp only [Act.put, List.setIfInBounds_toArray, List.set_cons_zero, List.set_cons_succ])
        refine wpAnyH_take (i := 24) (oi := { dst := some 114, op := Op.move (.tmp 8), type := 35, pos := "law.go:84", after := #[{ on := 21, ground := Ground.guard }], guard := some (21, false) }) (v := ?_) rfl (by kernel_rfl) (by kernel_rfl) (by kernel_rfl) (fun _ _ _ h => h) (Or.inl ⟨by rfl, ?_⟩) (by assumption) ?_; (case refine_2 => (intro w hSw; (try dsimp only at hSw); go_simp; all_goals (with_reducible rfl))); (try simp only [Act.put, List.setIfInBounds_toArray, List.set_cons_zero, List.set_cons_succ])
        refine wpAnyH_ready (rs := [23]) (by kernel_rfl) (by simp) (AllReadyH.cons (o := { dst := some 113, op := Op.call { callee := Callee.value (Operand.func 17), args := #[.tmp 112], argTypes := #[33] }, type := 3, pos := "law.go:84", after := #[{ on := 22, ground := Ground.data }, { on := 21, ground := Ground.chain }, { on := 21, ground := Ground.guard }], guard := some (21, false) }) rfl (fun K hK => ?_) AllReadyH.nil)
        go_simp; go_at_call 17; (with_reducible refine (HLN1.out _ (by assumption)).mono ?_); rintro e w43 ⟨rfl, hs'⟩; clear hs; go_simp; refine hK.out _ _ hs' (fun hs => ?_); clear hK K hs'; (try simp only [Act.put, List.setIfInBounds_toArray, List.set_cons_zero, List.set_cons_succ])
        refine wpAnyH_ready (rs := [25]) (by kernel_rfl) (by simp) (AllReadyH.cons (o := { dst := some 115, op := Op.call { callee := Callee.value (Operand.func 22), args := #[.tmp 114], argTypes := #[35] }, type := 3, pos := "law.go:84", after := #[{ on := 24, ground := Ground.data }, { on := 23, ground := Ground.chain }, { on := 21, ground := Ground.guard }], guard := some (21, false) }) rfl (fun K hK => ?_) AllReadyH.nil)
        go_simp; go_at_call 22; (with_reducible refine (HRL1.out _ (by assumption)).mono ?_); rintro e w45 ⟨rfl, hs'⟩; clear hs; go_simp; refine hK.out _ _ hs' (fun hs => ?_); clear hK K hs'; (try simp only [Act.put, List.setIfInBounds_toArray, List.set_cons_zero, List.set_cons_succ])
        refine wpAnyH_take (i := 26) (oi := { dst := some 116, op := Op.binOp BinOp.neq 3 (.tmp 113) (.tmp 115) 3, type := 4, pos := "law.go:84", after := #[{ on := 23, ground := Ground.data }, { on := 25, ground := Ground.data }, { on := 21, ground := Ground.guard }], guard := some (21, false) }) (v := ?_) rfl (by kernel_rfl) (by kernel_rfl) (by kernel_rfl) (fun _ _ _ h => h) (Or.inl ⟨by rfl, ?_⟩) (by assumption) ?_; (case refine_2 => (intro w hSw; (try dsimp only at hSw); go_simp; all_goals (with_reducible rfl))); (try simp only [Act.put, List.setIfInBounds_toArray, List.set_cons_zero, List.set_cons_succ])
        refine wpAnyH_take (i := 27) (oi := { dst := some 117, op := Op.pick (.tmp 111) (.const (Value.bool true)) (.tmp 116), type := 4, pos := "law.go:84", after := #[{ on := 21, ground := Ground.data }, { on := 26, ground := Ground.data }], guard := none }) (v := ?_) rfl (by kernel_rfl) (by kernel_rfl) (by kernel_rfl) (fun _ _ _ h => h) (Or.inl ⟨by rfl, ?_⟩) (by assumption) ?_; (case refine_2 => (intro w hSw; (try dsimp only at hSw); go_simp; all_goals (with_reducible rfl))); (try simp only [Act.put, List.setIfInBounds_toArray, List.set_cons_zero, List.set_cons_succ])
        refine wpAnyH_take (i := 28) (oi := { dst := some 118, op := Op.move (.tmp 117), type := 4, pos := "law.go:84", after := #[{ on := 27, ground := Ground.data }, { on := 25, ground := Ground.chain }], guard := none }) (v := ?_) rfl (by kernel_rfl) (by kernel_rfl) (by kernel_rfl) (fun _ _ _ h => h) (Or.inl ⟨by rfl, ?_⟩) (by assumption) ?_; (case refine_2 => (intro w hSw; (try dsimp only at hSw); go_simp; all_goals (with_reducible rfl))); (try simp only [Act.put, List.setIfInBounds_toArray, List.set_cons_zero, List.set_cons_succ])
        refine wpAnyH_take (i := 29) (oi := { dst := some 119, op := Op.move (.tmp 14), type := 27, pos := "law.go:84", after := #[{ on := 28, ground := Ground.guard }], guard := some (28, false) }) (v := ?_) rfl (by kernel_rfl) (by kernel_rfl) (by kernel_rfl) (fun _ _ _ h => h) (Or.inl ⟨by rfl, ?_⟩) (by assumption) ?_; (case refine_2 => (intro w hSw; (try dsimp only at hSw); go_simp; all_goals (with_reducible rfl))); (try simp only [Act.put, List.setIfInBounds_toArray, List.set_cons_zero, List.set_cons_succ])
        refine wpAnyH_take (i := 30) (oi := { dst := some 120, op := Op.binOp BinOp.eql 27 (.tmp 119) (.const (Value.int IntKind.i64 0)) 27, type := 4, pos := "law.go:84", after := #[{ on := 29, ground := Ground.data }, { on := 28, ground := Ground.guard }], guard := some (28, false) }) (v := ?_) rfl (by kernel_rfl) (by kernel_rfl) (by kernel_rfl) (fun _ _ _ h => h) (Or.inl ⟨by rfl, ?_⟩) (by assumption) ?_; (case refine_2 => (intro w hSw; (try dsimp only at hSw); go_simp; all_goals (with_reducible rfl))); (try simp only [Act.put, List.setIfInBounds_toArray, List.set_cons_zero, List.set_cons_succ])
        refine wpAnyH_take (i := 31) (oi := { dst := some 121, op := Op.move (.tmp 120), type := 4, pos := "law.go:84", after := #[{ on := 30, ground := Ground.data }, { on := 28, ground := Ground.chain }, { on := 28, ground := Ground.guard }], guard := some (28, false) }) (v := ?_) rfl (by kernel_rfl) (by kernel_rfl) (by kernel_rfl) (fun _ _ _ h => h) (Or.inl ⟨by rfl, ?_⟩) (by assumption) ?_; (case refine_2 => (intro w hSw; (try dsimp only at hSw); go_simp; all_goals (with_reducible rfl))); (try simp only [Act.put, List.setIfInBounds_toArray, List.set_cons_zero, List.set_cons_succ])
        refine wpAnyH_take (i := 32) (oi := { dst := some 122, op := Op.move (.tmp 13), type := 3, pos := "law.go:84", after := #[{ on := 31, ground := Ground.guard }], guard := some (31, true) }) (v := undef) rfl (by kernel_rfl) (by kernel_rfl) (by kernel_rfl) (fun _ _ _ h => h) (Or.inr ⟨by rfl, rfl⟩) (by assumption) ?_; (try simp only [Act.put, List.setIfInBounds_toArray, List.set_cons_zero, List.set_cons_succ])
        refine wpAnyH_take (i := 33) (oi := { dst := some 123, op := Op.binOp BinOp.lss 3 (.tmp 122) (.const (Value.int IntKind.i64 0)) 3, type := 4, pos := "law.go:84", after := #[{ on := 32, ground := Ground.data }, { on := 31, ground := Ground.guard }], guard := some (31, true) }) (v := undef) rfl (by kernel_rfl) (by kernel_rfl) (by kernel_rfl) (fun _ _ _ h => h) (Or.inr ⟨by rfl, rfl⟩) (by assumption) ?_; (try simp only [Act.put, List.setIfInBounds_toArray, List.set_cons_zero, List.set_cons_succ])
        refine wpAnyH_take (i := 34) (oi := { dst := some 124, op := Op.move (.tmp 123), type := 4, pos := "law.go:84", after := #[{ on := 33, ground := Ground.data }, { on := 31, ground := Ground.chain }, { on := 31, ground := Ground.guard }], guard := some (31, true) }) (v := undef) rfl (by kernel_rfl) (by kernel_rfl) (by kernel_rfl) (fun _ _ _ h => h) (Or.inr ⟨by rfl, rfl⟩) (by assumption) ?_; (try simp only [Act.put, List.setIfInBounds_toArray, List.set_cons_zero, List.set_cons_succ])
        refine wpAnyH_take (i := 35) (oi := { dst := some 125, op := Op.move (.tmp 13), type := 3, pos := "law.go:84", after := #[{ on := 34, ground := Ground.guard }], guard := some (34, false) }) (v := undef) rfl (by kernel_rfl) (by kernel_rfl) (by kernel_rfl) (fun _ _ _ h => h) (Or.inr ⟨by rfl, rfl⟩) (by assumption) ?_; (try simp only [Act.put, List.setIfInBounds_toArray, List.set_cons_zero, List.set_cons_succ])
        refine wpAnyH_take (i := 36) (oi := { dst := some 126, op := Op.move (.tmp 7), type := 33, pos := "law.go:84", after := #[{ on := 34, ground := Ground.guard }], guard := some (34, false) }) (v := undef) rfl (by kernel_rfl) (by kernel_rfl) (by kernel_rfl) (fun _ _ _ h => h) (Or.inr ⟨by rfl, rfl⟩) (by assumption) ?_; (try simp only [Act.put, List.setIfInBounds_toArray, List.set_cons_zero, List.set_cons_succ])
        refine wpAnyH_take (i := 37) (oi := { dst := some 127, op := Op.call { callee := Callee.value (Operand.func 17), args := #[.tmp 126], argTypes := #[33] }, type := 3, pos := "law.go:84", after := #[{ on := 36, ground := Ground.data }, { on := 34, ground := Ground.chain }, { on := 34, ground := Ground.guard }], guard := some (34, false) }) (v := undef) rfl (by kernel_rfl) (by kernel_rfl) (by kernel_rfl) (fun _ _ _ h => h) (Or.inr ⟨by rfl, rfl⟩) (by assumption) ?_; (try simp only [Act.put, List.setIfInBounds_toArray, List.set_cons_zero, List.set_cons_succ])
        refine wpAnyH_take (i := 38) (oi := { dst := some 128, op := Op.binOp BinOp.geq 3 (.tmp 125) (.tmp 127) 3, type := 4, pos := "law.go:84", after := #[{ on := 35, ground := Ground.data }, { on := 37, ground := Ground.data }, { on := 34, ground := Ground.guard }], guard := some (34, false) }) (v := undef) rfl (by kernel_rfl) (by kernel_rfl) (by kernel_rfl) (fun _ _ _ h => h) (Or.inr ⟨by rfl, rfl⟩) (by assumption) ?_; (try simp only [Act.put, List.setIfInBounds_toArray, List.set_cons_zero, List.set_cons_succ])
        refine wpAnyH_take (i := 39) (oi := { dst := some 129, op := Op.pick (.tmp 124) (.const (Value.bool true)) (.tmp 128), type := 4, pos := "law.go:84", after := #[{ on := 34, ground := Ground.data }, { on := 38, ground := Ground.data }, { on := 31, ground := Ground.guard }], guard := some (31, true) }) (v := undef) rfl (by kernel_rfl) (by kernel_rfl) (by kernel_rfl) (fun _ _ _ h => h) (Or.inr ⟨by rfl, rfl⟩) (by assumption) ?_; (try simp only [Act.put, List.setIfInBounds_toArray, List.set_cons_zero, List.set_cons_succ])
        refine wpAnyH_take (i := 40) (oi := { dst := some 130, op := Op.pick (.tmp 121) (.tmp 129) (.const (Value.bool false)), type := 4, pos := "law.go:84", after := #[{ on := 31, ground := Ground.data }, { on := 39, ground := Ground.data }, { on := 28, ground := Ground.guard }], guard := some (28, false) }) (v := ?_) rfl (by kernel_rfl) (by kernel_rfl) (by kernel_rfl) (fun _ _ _ h => h) (Or.inl ⟨by rfl, ?_⟩) (by assumption) ?_; (case refine_2 => (intro w hSw; (try dsimp only at hSw); go_simp; all_goals (with_reducible rfl))); (try simp only [Act.put, List.setIfInBounds_toArray, List.set_cons_zero, List.set_cons_succ])
        refine wpAnyH_take (i := 41) (oi := { dst := some 131, op := Op.pick (.tmp 118) (.const (Value.bool true)) (.tmp 130), type := 4, pos := "law.go:84", after := #[{ on := 28, ground := Ground.data }, { on := 40, ground := Ground.data }], guard := none }) (v := ?_) rfl (by kernel_rfl) (by kernel_rfl) (by kernel_rfl) (fun _ _ _ h => h) (Or.inl ⟨by rfl, ?_⟩) (by assumption) ?_; (case refine_2 => (intro w hSw; (try dsimp only at hSw); go_simp; all_goals (with_reducible rfl))); (try simp only [Act.put, List.setIfInBounds_toArray, List.set_cons_zero, List.set_cons_succ])
        refine wpAnyH_done (by kernel_rfl) ?_ _
        all_goals (
          obtain ⟨⟨y0, y1, y2, y3⟩, yz⟩ := hs.1.xb.cells
          have HSS := Lib.hid hs.1
          clear hs hs0
          go_wp2_with (go_at_call 23; (with_reducible refine (HRD.out.mark _ HSS.out).mono ?_); rintro e w16 ⟨⟨v16, rfl⟩, hh⟩; have HP16 := Lib.hid hh; clear hh)
          go_roundw)
        all_goals try (case rel => exact ⟨q + 1, by omega, by go_num, by rw [putsL_snoc (HZQ.out.1), ← HZQ.out.2]; exact HP16.out⟩)
        all_goals (simp [intOf]; omega)
    · obtain rfl : q = len := by omega
      have hZl := HLN.out.1
      rw [List.take_of_length_le (by rw [hZl]; exact Nat.le_refl _)] at hps
      have HG : Hid (Gd (bulkZ (Z.take Z.length)) (putsL Z)) := by have h := HGD.out; rw [List.take_length] at h; rw [List.take_length]; exact Lib.hid h
      have HGF : Hid ((putsL Z).length ≤ 1048576) := Lib.hid (Nat.le_trans HG.out.few (Nat.le_trans (bulkZ_take Z _) HBZ.out))
      obtain ⟨L, hL⟩ : ∃ L, putsL Z = L := ⟨_, rfl⟩
      rw [hL] at hps HG HGF
      obtain ⟨ln, hln⟩ : ∃ ln, L.length = ln := ⟨_, rfl⟩
      have HLL := Lib.hid hln
      have hlm2 : ln ≤ 1048576 := by have := HGF.out; omega
      have HPS := Lib.hid hps
      have HLEN : Hid (∀ u, Ps w b br L u → Calls Try.prog 17 #[.pointer (some ⟨b, 0, none⟩)] u fun e w' => e = .returned (.int .i64 (ln : Int)) ∧ Ps w b br L w') := Lib.hid (fun u hu => by have h := hu.plen; rw [HLL.out] at h; exact h)
      have hd : decide ((q : Int) < (q : Int)) = false := decide_eq_false (by omega)
      have hd' : decide (q < q) = false := decide_eq_false (by omega)
      have hsub : IntKind.i64.wrap ((ln : Int) - 1) = (ln : Int) - 1 := IntWalk.i64_in _ (by omega)
      clear hZl hL hln hps
      go_wp2_with fail
      refine wp_region_held_drew (S := fun u => Ps w b br L u) (by kernel_rfl) (HPS.out.more (Below.refl _ _).drew) (fun hs => ?_)
      refine wpAnyH_take (i := 0) (oi := { dst := some 135, op := Op.move (.tmp 1), type := 32, pos := "law.go:89", after := #[], guard := none }) (v := ?_) rfl (by kernel_rfl) (by kernel_rfl) (by kernel_rfl) (fun _ _ _ h => h) (Or.inl ⟨by rfl, ?_⟩) (by assumption) ?_; (case refine_2 => (intro w hSw; (try dsimp only at hSw); go_simp; all_goals (with_reducible rfl))); (try simp only [Act.put, List.setIfInBounds_toArray, List.set_cons_zero, List.set_cons_succ])
      refine wpAnyH_take (i := 1) (oi := { dst := some 136, op := Op.move (.tmp 1), type := 32, pos := "law.go:89", after := #[], guard := none }) (v := ?_) rfl (by kernel_rfl) (by kernel_rfl) (by kernel_rfl) (fun _ _ _ h => h) (Or.inl ⟨by rfl, ?_⟩) (by assumption) ?_; (case refine_2 => (intro w hSw; (try dsimp only at hSw); go_simp; all_goals (with_reducible rfl))); (try simp only [Act.put, List.setIfInBounds_toArray, List.set_cons_zero, List.set_cons_succ])
      refine wpAnyH_take (i := 2) (oi := { dst := some 137, op := Op.call { callee := Callee.builtin Builtin.len, args := #[.tmp 136], argTypes := #[32] }, type := 3, pos := "law.go:89", after := #[{ on := 1, ground := Ground.data }], guard := none }) (v := ?_) rfl (by kernel_rfl) (by kernel_rfl) (by kernel_rfl) (fun _ _ _ h => h) (Or.inl ⟨by rfl, ?_⟩) (by assumption) ?_; (case refine_2 => (intro w hSw; (try dsimp only at hSw); go_simp; all_goals (with_reducible rfl))); (try simp only [Act.put, List.setIfInBounds_toArray, List.set_cons_zero, List.set_cons_succ])
      refine wpAnyH_take (i := 3) (oi := { dst := some 138, op := Op.move (.tmp 1), type := 32, pos := "law.go:89", after := #[], guard := none }) (v := ?_) rfl (by kernel_rfl) (by kernel_rfl) (by kernel_rfl) (fun _ _ _ h => h) (Or.inl ⟨by rfl, ?_⟩) (by assumption) ?_; (case refine_2 => (intro w hSw; (try dsimp only at hSw); go_simp; all_goals (with_reducible rfl))); (try simp only [Act.put, List.setIfInBounds_toArray, List.set_cons_zero, List.set_cons_succ])
      refine wpAnyH_take (i := 4) (oi := { dst := some 139, op := Op.call { callee := Callee.builtin Builtin.len, args := #[.tmp 138], argTypes := #[32] }, type := 3, pos := "law.go:89", after := #[{ on := 3, ground := Ground.data }], guard := none }) (v := ?_) rfl (by kernel_rfl) (by kernel_rfl) (by kernel_rfl) (fun _ _ _ h => h) (Or.inl ⟨by rfl, ?_⟩) (by assumption) ?_; (case refine_2 => (intro w hSw; (try dsimp only at hSw); go_simp; all_goals (with_reducible rfl))); (try simp only [Act.put, List.setIfInBounds_toArray, List.set_cons_zero, List.set_cons_succ])
      refine wpAnyH_take (i := 5) (oi := { dst := some 140, op := Op.slice 32 (.tmp 135) none (some (.tmp 137)) (some (.tmp 139)), type := 32, pos := "law.go:89", after := #[{ on := 0, ground := Ground.data }, { on := 2, ground := Ground.data }, { on := 4, ground := Ground.data }], guard := none }) (v := ?_) rfl (by kernel_rfl) (by kernel_rfl) (by kernel_rfl) (fun _ _ _ h => h) (Or.inl ⟨by rfl, ?_⟩) (by assumption) ?_; (case refine_2 => (intro w hSw; (try dsimp only at hSw); go_simp; all_goals (with_reducible rfl))); (try simp only [Act.put, List.setIfInBounds_toArray, List.set_cons_zero, List.set_cons_succ])
      refine wpAnyH_take (i := 6) (oi := { dst := some 141, op := Op.move (.tmp 7), type := 33, pos := "law.go:89", after := #[], guard := none }) (v := ?_) rfl (by kernel_rfl) (by kernel_rfl) (by kernel_rfl) (fun _ _ _ h => h) (Or.inl ⟨by rfl, ?_⟩) (by assumption) ?_; (case refine_2 => (intro w hSw; (try dsimp only at hSw); go_simp; all_goals (with_reducible rfl))); (try simp only [Act.put, List.setIfInBounds_toArray, List.set_cons_zero, List.set_cons_succ])
      refine wpAnyH_take (i := 9) (oi := { dst := some 144, op := Op.move (.tmp 7), type := 33, pos := "law.go:89", after := #[], guard := none }) (v := ?_) rfl (by kernel_rfl) (by kernel_rfl) (by kernel_rfl) (fun _ _ _ h => h) (Or.inl ⟨by rfl, ?_⟩) (by assumption) ?_; (case refine_2 => (intro w hSw; (try dsimp only at hSw); go_simp; all_goals (with_reducible rfl))); (try simp only [Act.put, List.setIfInBounds_toArray, List.set_cons_zero, List.set_cons_succ])
      refine wpAnyH_take (i := 14) (oi := { dst := some 149, op := Op.move (.const (Value.int IntKind.i64 0)), type := 3, pos := "law.go:89", after := #[], guard := none }) (v := ?_) rfl (by kernel_rfl) (by kernel_rfl) (by kernel_rfl) (fun _ _ _ h => h) (Or.inl ⟨by rfl, ?_⟩) (by assumption) ?_; (case refine_2 => (intro w hSw; (try dsimp only at hSw); go_simp; all_goals (with_reducible rfl))); (try simp only [Act.put, List.setIfInBounds_toArray, List.set_cons_zero, List.set_cons_succ])
      refine wpAnyH_ready (rs := [7]) (by kernel_rfl) (by simp) (AllReadyH.cons (o := { dst := some 142, op := Op.call { callee := Callee.value (Operand.func 17), args := #[.tmp 141], argTypes := #[33] }, type := 3, pos := "law.go:89", after := #[{ on := 6, ground := Ground.data }], guard := none }) rfl (fun K hK => ?_) AllReadyH.nil)
      go_simp; go_at_call 17; (with_reducible refine (HLEN.out _ (by assumption)).mono ?_); rintro e w20 ⟨rfl, hs'⟩; clear hs; go_simp; refine hK.out _ _ hs' (fun hs => ?_); clear hK K hs'; (try simp only [Act.put, List.setIfInBounds_toArray, List.set_cons_zero, List.set_cons_succ])
      refine wpAnyH_take (i := 8) (oi := { dst := some 143, op := Op.binOp BinOp.sub 3 (.tmp 142) (.const (Value.int IntKind.i64 1)) 3, type := 3, pos := "law.go:89", after := #[{ on := 7, ground := Ground.data }], guard := none }) (v := ?_) rfl (by kernel_rfl) (by kernel_rfl) (by kernel_rfl) (fun _ _ _ h => h) (Or.inl ⟨by rfl, ?_⟩) (by assumption) ?_; (case refine_2 => (intro w hSw; (try dsimp only at hSw); go_simp; all_goals (with_reducible rfl))); (try simp only [Act.put, List.setIfInBounds_toArray, List.set_cons_zero, List.set_cons_succ])
      refine wpAnyH_ready (rs := [10]) (by kernel_rfl) (by simp) (AllReadyH.cons (o := { dst := some 145, op := Op.call { callee := Callee.value (Operand.func 17), args := #[.tmp 144], argTypes := #[33] }, type := 3, pos := "law.go:89", after := #[{ on := 9, ground := Ground.data }, { on := 7, ground := Ground.chain }], guard := none }) rfl (fun K hK => ?_) AllReadyH.nil)
      go_simp; go_at_call 17; (with_reducible refine (HLEN.out _ (by assumption)).mono ?_); rintro e w21 ⟨rfl, hs'⟩; clear hs; go_simp; refine hK.out _ _ hs' (fun hs => ?_); clear hK K hs'; (try simp only [Act.put, List.setIfInBounds_toArray, List.set_cons_zero, List.set_cons_succ])
      refine wpAnyH_ready (rs := [11]) (by kernel_rfl) (by simp) (AllReadyH.cons (o := { dst := some 146, op := Op.buildSlice 32 4 #[(0, .const (Value.int IntKind.i64 0)), (1, .tmp 143), (2, .tmp 145), (3, .const (Value.int IntKind.i64 (-1)))], type := 32, pos := "law.go:89", after := #[{ on := 8, ground := Ground.data }, { on := 10, ground := Ground.data }], guard := none }) rfl (fun K hK => ?_) AllReadyH.nil)
      go_simp; refine hK.out _ _ (hs.more ((Below.refl _ _).alloc (Nat.le_refl _) _)) (fun hs => ?_); clear hK K; (try simp only [Act.put, List.setIfInBounds_toArray, List.set_cons_zero, List.set_cons_succ])
      refine wpAnyH_ready (rs := [12]) (by kernel_rfl) (by simp) (AllReadyH.cons (o := { dst := some 147, op := Op.call { callee := Callee.builtin Builtin.append, args := #[.tmp 140, .tmp 146], argTypes := #[32, 32] }, type := 32, pos := "law.go:89", after := #[{ on := 5, ground := Ground.data }, { on := 11, ground := Ground.data }, { on := 10, ground := Ground.chain }], guard := none }) rfl (fun K hK => ?_) AllReadyH.nil)
      refine step_append_ex rfl _ _ _ _ rfl _ _ rfl rfl (four_more HII.out.1 HII.out.2.2 HII.out.2.1 hs.below hIm _ _ _ _ _ (heap_alloc_last _ _)) ?_; rintro v' w22 ⟨g, cap, rfl, hcap, hbw, hcl, hg⟩; have HCX := Lib.hid (And.intro hcl hg); have HPX := Lib.hid (hs.more hbw); clear hs hcl hg hbw; refine hK.out _ _ HPX.out (fun hs => ?_); clear hK K; (try simp only [Act.put, List.setIfInBounds_toArray, List.set_cons_zero, List.set_cons_succ])
      refine wpAnyH_take (i := 13) (oi := { dst := some 148, op := Op.call { callee := Callee.builtin Builtin.len, args := #[.tmp 147], argTypes := #[32] }, type := 3, pos := "law.go:89", after := #[{ on := 12, ground := Ground.data }], guard := none }) (v := ?_) rfl (by kernel_rfl) (by kernel_rfl) (by kernel_rfl) (fun _ _ _ h => h) (Or.inl ⟨by rfl, ?_⟩) (by assumption) ?_; (case refine_2 => (intro w hSw; (try dsimp only at hSw); go_simp; all_goals (with_reducible rfl))); (try simp only [Act.put, List.setIfInBounds_toArray, List.set_cons_zero, List.set_cons_succ])
      refine wpAnyH_done (by kernel_rfl) ?_ _
      go_wp2_with fail
      go_loopw [149] (fun p wr => ∃ q2 : Nat, q2 ≤ il + 4 ∧ p = .int .i64 (q2 : Int) ∧ Qs w b br L w22 wr) (fun p _ => il + 4 - (intOf p).toNat)
      case atStart => exact ⟨0, Nat.zero_le _, rfl, HPX.out, Below.refl _ _⟩
      case round =>
        obtain ⟨q2, hq2, rfl, hps2⟩ := hrel
        by_cases hlt2 : q2 < il + 4
        · have hqx := four_get (n := (ln : Int)) HII.out.1 hlt2
          have c0 := (hps2.bel.cell (p := ⟨g, 0 + q2, none⟩) HCX.out.2).trans (cells_it HCX.out.1 q2 hqx)
          rw [Nat.zero_add] at c0
          obtain ⟨x, hx⟩ : ∃ x, (Is ++ [0, (ln : Int) - 1, (ln : Int), -1])[q2] = x := ⟨_, rfl⟩
          rw [hx] at c0
          have hgw : g < wr.heap.size := Nat.lt_of_lt_of_le HCX.out.2 hps2.bel.size
          have hq20 : (0 : Int) ≤ (q2 : Int) := by omega
          have hww2 : (q2 : Int) + 1 ≤ 2932031007318 := by omega
          have hdd : decide ((q2 : Int) < (il : Int) + 4) = true := decide_eq_true (by omega)
          have hdd' : decide (q2 < il + 4) = true := decide_eq_true hlt2
          have HQ0 := Lib.hid hps2
          clear hqx hx hps2 hcap
          by_cases hin : 0 ≤ x ∧ x < (ln : Int)
          · obtain ⟨z, rfl⟩ : ∃ z : Nat, x = (z : Int) := ⟨x.toNat, by omega⟩
            have hz : z < L.length := by have := HLL.out; omega
            have HHAS : Hid (∀ u, Qs w b br L w22 u → Calls Try.prog 24 #[.pointer (some ⟨br, 0, none⟩), .int .i64 (z : Int)] u fun e w' => (∃ (xk : Int) (xs : ByteArray) (xo : Option Addr) (xn xc : Nat), e = .returned (.tuple #[.agg #[.int .i64 xk, .string xs, .slice xo xn xc], .int .i64 0])) ∧ Qs w b br L w22 w') := Lib.hid (fun u hu => by have h := hu.has (z : Int); rw [if_pos ⟨hin.1, by omega⟩] at h; exact h)
            by_cases hat : at0 < 0 ∨ 2147483647 < at0
            · have HNO : Hid (∀ u, Qs w b br L w22 u → Calls Try.prog 29 #[.pointer (some ⟨b, 0, none⟩), .int .i64 (z : Int), .int .i64 at0] u fun e w' => (∃ (nk ni nj : Int) (no : Option Addr) (nn nc : Nat), e = .returned (.tuple #[.agg #[.int .i64 nk, .int .i64 ni, .int .i64 nj, .slice no nn nc], .int .i64 1])) ∧ Qs w b br L w22 w') := Lib.hid (fun u hu => hu.node1 z at0 hz hat)
              by_cases ha0 : at0 < 0
              · have da : decide (at0 < 0) = true := decide_eq_true ha0
                clear hin hz hat ha0
                go_wp2_with (first
                  | (go_at_call 24; (with_reducible refine (HHAS.out _ HQ0.out).mono ?_); rintro e w30 ⟨⟨xk, xs, xo, xn, xc, rfl⟩, hh⟩; have H30 : Hid (Qs w b br L w22 (w30.alloc (.cells #[.int .i64 xk, .string xs, .slice xo xn xc] 46))) := Lib.hid (hh.more ((Below.refl _ _).alloc (Nat.le_refl _) _)); clear hh)
                  | (go_at_call 29; (with_reducible refine (HNO.out _ H30.out).mono ?_); rintro e w31 ⟨⟨nk, ni, nj, no, nn, nc, rfl⟩, hh⟩; have H31 : Hid (Qs w b br L w22 (w31.alloc (.cells #[.int .i64 nk, .int .i64 ni, .int .i64 nj, .slice no nn nc] 24))) := Lib.hid (hh.more ((Below.refl _ _).alloc (Nat.le_refl _) _)); clear hh))
                go_roundw
                case rel => exact ⟨q2 + 1, by omega, by go_num, H31.out⟩
                case measure => simp [intOf]; omega
              · have da : decide (at0 < 0) = false := decide_eq_false ha0
                have db : decide (2147483647 < at0) = true := decide_eq_true (by omega)
                clear hin hz hat ha0
                go_wp2_with (first
                  | (go_at_call 24; (with_reducible refine (HHAS.out _ HQ0.out).mono ?_); rintro e w30 ⟨⟨xk, xs, xo, xn, xc, rfl⟩, hh⟩; have H30 : Hid (Qs w b br L w22 (w30.alloc (.cells #[.int .i64 xk, .string xs, .slice xo xn xc] 46))) := Lib.hid (hh.more ((Below.refl _ _).alloc (Nat.le_refl _) _)); clear hh)
                  | (go_at_call 29; (with_reducible refine (HNO.out _ H30.out).mono ?_); rintro e w31 ⟨⟨nk, ni, nj, no, nn, nc, rfl⟩, hh⟩; have H31 : Hid (Qs w b br L w22 (w31.alloc (.cells #[.int .i64 nk, .int .i64 ni, .int .i64 nj, .slice no nn nc] 24))) := Lib.hid (hh.more ((Below.refl _ _).alloc (Nat.le_refl _) _)); clear hh))
                go_roundw
                case rel => exact ⟨q2 + 1, by omega, by go_num, H31.out⟩
                case measure => simp [intOf]; omega
            · have HNO : Hid (∀ u, Qs w b br L w22 u → Calls Try.prog 29 #[.pointer (some ⟨b, 0, none⟩), .int .i64 (z : Int), .int .i64 at0] u fun e w' => ∃ (nk nj : Int) (no : Option Addr) (nn nc : Nat), e = .returned (.tuple #[.agg #[.int .i64 nk, .int .i64 at0, .int .i64 nj, .slice no nn nc], .int .i64 0]) ∧ Qs w b br L w22 w' ∧ Hid (TieB w' (nodeT L (z + 1) z at0) ⟨nk, at0, nj, no, nn, nc⟩)) := Lib.hid (fun u hu => hu.node z at0 hz (by omega) (by omega))
              have HTO : Hid (∀ u (nk nj : Int) (no : Option Addr) (nn nc : Nat), Qs w b br L w22 u → Hid (TieB u (nodeT L (z + 1) z at0) ⟨nk, at0, nj, no, nn, nc⟩) → Calls Try.prog 30 #[.pointer (some ⟨b, 0, none⟩), .int .i64 (z : Int), .agg #[.int .i64 nk, .int .i64 at0, .int .i64 nj, .slice no nn nc]] u fun e w' => e = .returned (.bool true) ∧ Qs w b br L w22 w') := Lib.hid (fun u nk nj no nn nc hu ht => hu.told z at0 hz (by omega) (by omega) HG.out.good HG.out.small ht)
              have da : decide (at0 < 0) = false := decide_eq_false (by omega)
              have db : decide (2147483647 < at0) = false := decide_eq_false (by omega)
              clear hin hz hat
              go_wp2_with (first
                | (go_at_call 24; (with_reducible refine (HHAS.out _ HQ0.out).mono ?_); rintro e w30 ⟨⟨xk, xs, xo, xn, xc, rfl⟩, hh⟩; have H30 : Hid (Qs w b br L w22 (w30.alloc (.cells #[.int .i64 xk, .string xs, .slice xo xn xc] 46))) := Lib.hid (hh.more ((Below.refl _ _).alloc (Nat.le_refl _) _)); clear hh)
                | (go_at_call 29; (with_reducible refine (HNO.out _ H30.out).mono ?_); rintro e w31 ⟨nk, nj, no, nn, nc, rfl, hh, ht⟩; have H31 : Hid (Qs w b br L w22 (w31.alloc (.cells #[.int .i64 nk, .int .i64 at0, .int .i64 nj, .slice no nn nc] 24))) := Lib.hid (hh.more ((Below.refl _ _).alloc (Nat.le_refl _) _)); have HT : Hid (TieB (w31.alloc (.cells #[.int .i64 nk, .int .i64 at0, .int .i64 nj, .slice no nn nc] 24)) (nodeT L (z + 1) z at0) ⟨nk, at0, nj, no, nn, nc⟩) := TieB.below ht ((Below.refl _ _).alloc (Nat.le_refl _) _); clear hh ht)
                | (go_at_call 30; (with_reducible refine (HTO.out _ _ _ _ _ _ H31.out HT).mono ?_); rintro e w32 ⟨rfl, hh⟩; have H32 := Lib.hid hh; clear hh))
              go_roundw
              case rel => exact ⟨q2 + 1, by omega, by go_num, H32.out⟩
              case measure => simp [intOf]; omega
          · have hin' : ¬ (0 ≤ x ∧ x < (L.length : Int)) := by have := HLL.out; omega
            have HHAS : Hid (∀ u, Qs w b br L w22 u → Calls Try.prog 24 #[.pointer (some ⟨br, 0, none⟩), .int .i64 x] u fun e w' => (∃ (xk : Int) (xs : ByteArray) (xo : Option Addr) (xn xc : Nat), e = .returned (.tuple #[.agg #[.int .i64 xk, .string xs, .slice xo xn xc], .int .i64 100])) ∧ Qs w b br L w22 w') := Lib.hid (fun u hu => by have h := hu.has x; rw [if_neg hin'] at h; exact h)
            have HKind : Hid (∀ u, Qs w b br L w22 u → Calls Try.prog 25 #[.pointer (some ⟨b, 0, none⟩), .int .i64 x] u fun e w' => e = .returned (.tuple #[.int .i64 0, .int .i64 100]) ∧ Qs w b br L w22 w') := Lib.hid (fun u hu => hu.kind0 x hin')
            have HWidth : Hid (∀ u, Qs w b br L w22 u → Calls Try.prog 26 #[.pointer (some ⟨b, 0, none⟩), .int .i64 x] u fun e w' => e = .returned (.tuple #[.int .i64 0, .int .i64 100]) ∧ Qs w b br L w22 w') := Lib.hid (fun u hu => hu.width0 x hin')
            have HKids : Hid (∀ u, Qs w b br L w22 u → Calls Try.prog 27 #[.pointer (some ⟨b, 0, none⟩), .int .i64 x] u fun e w' => e = .returned (.tuple #[.slice none 0 0, .int .i64 100]) ∧ Qs w b br L w22 w') := Lib.hid (fun u hu => hu.kids0 x hin')
            have HText : Hid (∀ u, Qs w b br L w22 u → Calls Try.prog 28 #[.pointer (some ⟨b, 0, none⟩), .int .i64 x] u fun e w' => e = .returned (.tuple #[.string { data := #[] }, .int .i64 100]) ∧ Qs w b br L w22 w') := Lib.hid (fun u hu => hu.text0 x hin')
            have HNO : Hid (∀ u, Qs w b br L w22 u → Calls Try.prog 29 #[.pointer (some ⟨b, 0, none⟩), .int .i64 x, .int .i64 at0] u fun e w' => (∃ (nk ni nj : Int) (no : Option Addr) (nn nc : Nat), e = .returned (.tuple #[.agg #[.int .i64 nk, .int .i64 ni, .int .i64 nj, .slice no nn nc], .int .i64 100])) ∧ Qs w b br L w22 w') := Lib.hid (fun u hu => hu.node0 x at0 hin')
            clear hin hin'
            go_wp2_with (first
              | (go_at_call 24; (with_reducible refine (HHAS.out _ HQ0.out).mono ?_); rintro e w30 ⟨⟨xk, xs, xo, xn, xc, rfl⟩, hh⟩; have H30 : Hid (Qs w b br L w22 (w30.alloc (.cells #[.int .i64 xk, .string xs, .slice xo xn xc] 46))) := Lib.hid (hh.more ((Below.refl _ _).alloc (Nat.le_refl _) _)); clear hh)
              | (go_at_call 25; (with_reducible refine (HKind.out _ H30.out).mono ?_); rintro e w31 ⟨rfl, hh⟩; have H31 := Lib.hid hh; clear hh)
              | (go_at_call 26; (with_reducible refine (HWidth.out _ H31.out).mono ?_); rintro e w32 ⟨rfl, hh⟩; have H32 := Lib.hid hh; clear hh)
              | (go_at_call 27; (with_reducible refine (HKids.out _ H32.out).mono ?_); rintro e w33 ⟨rfl, hh⟩; have H33 := Lib.hid hh; clear hh)
              | (go_at_call 28; (with_reducible refine (HText.out _ H33.out).mono ?_); rintro e w34 ⟨rfl, hh⟩; have H34 := Lib.hid hh; clear hh)
              | (go_at_call 29; (with_reducible refine (HNO.out _ H34.out).mono ?_); rintro e w35 ⟨⟨nk, ni, nj, no, nn, nc, rfl⟩, hh⟩; have H35 : Hid (Qs w b br L w22 (w35.alloc (.cells #[.int .i64 nk, .int .i64 ni, .int .i64 nj, .slice no nn nc] 24))) := Lib.hid (hh.more ((Below.refl _ _).alloc (Nat.le_refl _) _)); clear hh))
            go_roundw
            case rel => exact ⟨q2 + 1, by omega, by go_num, H35.out⟩
            case measure => simp [intOf]; omega
        · obtain rfl : q2 = il + 4 := by omega
          have hdd : decide (((il + 4 : Nat) : Int) < (il : Int) + 4) = false := decide_eq_false (by omega)
          have hdd' : decide (il + 4 < il + 4) = false := decide_eq_false (by omega)
          have HE := Lib.hid hps2.ps.below
          clear hps2
          go_wp2_with fail
          go_ret
          exact ⟨by simp, HE.out⟩
end Go.Proofs.Ytnnffcfdokejbaa.rd
namespace Go.Proofs.Ytnnffcfdokejbaa.rd
open Go.RowKit

set_option maxRecDepth 100000 in
set_option maxHeartbeats 4000000 in
theorem equal_kids (k i j : Int) (l : List Tree) (ih : ∀ t ∈ l, SameC 41 t) (u : Tree) (w : World) (n n2 : Rn) (hT : Hid (TieB w (.mk k i j l) n)) (hT2 : Hid (TieB w u n2)) :
    Calls Try.prog 60 #[.slice n.o n.n n.c, .slice n2.o n2.n n2.c, .func (.func 41) #[] #[]] w fun e w' => e = .returned (.bool (sameTs l u.l)) ∧ Below w.heap.size w w' := by
  obtain ⟨k2, i2, j2, l2⟩ := u
  obtain ⟨o, c, g, off, R, rfl, hc, hl, hlR, ho, HC, HT⟩ := TieB.out hT
  obtain ⟨o2, c2, g2, off2, R2, rfl, hc2, hl2, hlR2, ho2, HC2, HT2⟩ := TieB.out hT2
  have HIH := Lib.hid ih
  have HOO := Lib.hid (And.intro ho ho2)
  obtain ⟨len, hlen⟩ : ∃ len, l.length = len := ⟨_, rfl⟩
  obtain ⟨len2, hlen2⟩ : ∃ len, l2.length = len := ⟨_, rfl⟩
  have HLN := Lib.hid (And.intro (And.intro hlen hlen2) (And.intro hlR hlR2))
  rw [hlen] at hl
  rw [hlen2] at hl2
  show Calls Try.prog 60 #[.slice o l.length c, .slice o2 l2.length c2, .func (.func 41) #[] #[]] w fun e w' => e = .returned (.bool (sameTs l l2)) ∧ Below w.heap.size w w'
  rw [hlen, hlen2]
  clear hT hT2 hlen hlen2 ih ho ho2 hc hc2 hlR hlR2
  by_cases hle : len = len2
  case neg =>
    have hs : sameTs l l2 = false := sameTs_len l l2 (by rw [HLN.out.1.1, HLN.out.1.2]; exact hle)
    rw [hs]
    clear hs
    have hle' : (len : Int) ≠ (len2 : Int) := by omega
    go_enter Try.func60, Try.ntmps60
    go_wp2_with fail
    go_ret
    exact ⟨rfl, Below.refl _ _⟩
  case pos =>
  subst hle
  go_enter Try.func60, Try.ntmps60
  go_wp2_with fail
  go_loopw [17] (fun p wr => ∃ i : Nat, i ≤ len ∧ p = .int .i64 (i : Int) ∧ Below w.heap.size w wr ∧ sameTs (l.drop i) (l2.drop i) = sameTs l l2) (fun p _ => len - (intOf p).toNat)
  case atStart => exact ⟨0, Nat.zero_le _, rfl, Below.refl _ _, rfl⟩
  case round =>
    obtain ⟨q, hil, rfl, hb, hsd⟩ := hrel
    have HB := Lib.hid hb
    have HSD := Lib.hid hsd
    clear hsd
    by_cases hlt : q < len
    · have hil1 : q < l.length := by rw [HLN.out.1.1]; exact hlt
      have hil2 : q < l2.length := by rw [HLN.out.1.2]; exact hlt
      have hiR : q < R.length := by rw [HLN.out.2.1]; exact hil1
      have hiR2 : q < R2.length := by rw [HLN.out.2.2]; exact hil2
      obtain ⟨ho, hg0⟩ := HOO.out.1 (by intro e; rw [e] at hil1; simp at hil1)
      obtain ⟨ho2, hg2⟩ := HOO.out.2 (by intro e; rw [e] at hil2; simp at hil2)
      subst ho ho2
      obtain ⟨a0, a1, a2, a3⟩ := cells_nd HC.out q hiR
      obtain ⟨s0, s1, s2, s3⟩ := cells_nd HC2.out q hiR2
      have HS := Lib.hid (sameTs_drop hil1 hil2)
      have HCALL : Hid (∀ u, Below wr.heap.size wr u → Calls Try.prog 41 #[R[q].v, R2[q].v] u fun e w' => e = .returned (.bool (sameT l[q] l2[q])) ∧ Below u.heap.size u w') := Lib.hid (fun u hu => by
        have hbu := hb.trans (hu.mono hb.size)
        exact HIH.out l[q] (List.getElem_mem hil1) l2[q] u R[q] R2[q] (HT.out u hbu q hil1 hiR) (HT2.out u hbu q hil2 hiR2))
      obtain ⟨b, hbq⟩ : ∃ b, sameT l[q] l2[q] = b := ⟨_, rfl⟩
      rw [hbq] at HCALL HS
      obtain ⟨⟨nk, ni, nj, no, nn, nc⟩, hn1⟩ : ∃ n, R[q] = n := ⟨_, rfl⟩
      obtain ⟨⟨mk, mi, mj, mo, mn, mc⟩, hn2⟩ : ∃ n, R2[q] = n := ⟨_, rfl⟩
      rw [hn1] at a0 a1 a2 a3 HCALL
      rw [hn2] at s0 s1 s2 s3 HCALL
      rw [show (Rn.mk nk ni nj no nn nc).v = .agg #[.int .i64 nk, .int .i64 ni, .int .i64 nj, .slice no nn nc] from rfl, show (Rn.mk mk mi mj mo mn mc).v = .agg #[.int .i64 mk, .int .i64 mi, .int .i64 mj, .slice mo mn mc] from rfl] at HCALL
      have c0 := (hb.cell (p := ⟨g, off + q * 4, none⟩) hg0).trans a0
      have c1 := (hb.cell (p := ⟨g, off + q * 4 + 1, none⟩) hg0).trans a1
      have c2' := (hb.cell (p := ⟨g, off + q * 4 + 2, none⟩) hg0).trans a2
      have c3 := (hb.cell (p := ⟨g, off + q * 4 + 3, none⟩) hg0).trans a3
      have d0 := (hb.cell (p := ⟨g2, off2 + q * 4, none⟩) hg2).trans s0
      have d1 := (hb.cell (p := ⟨g2, off2 + q * 4 + 1, none⟩) hg2).trans s1
      have d2 := (hb.cell (p := ⟨g2, off2 + q * 4 + 2, none⟩) hg2).trans s2
      have d3 := (hb.cell (p := ⟨g2, off2 + q * 4 + 3, none⟩) hg2).trans s3
      have hgw := Nat.lt_of_lt_of_le hg0 hb.size
      have hgw2 := Nat.lt_of_lt_of_le hg2 hb.size
      have hq0 : (0 : Int) ≤ (q : Int) := by omega
      have hww : (q : Int) + 1 ≤ 2932031007318 := by omega
      have hd : decide ((q : Int) < (len : Int)) = true := decide_eq_true (by omega)
      have hd' : decide (q < len) = true := decide_eq_true hlt
      simp only [] at c0 c1 c2' c3 d0 d1 d2 d3
      obtain ⟨W2, hW2, hy1, hy2, hb2⟩ := two_node_boxes wr nk ni nj mk mi mj no mo nn nc mn mc
      have HW2 : Hid (Below wr.heap.size wr ((wr.alloc (.cells #[.int .i64 nk, .int .i64 ni, .int .i64 nj, .slice no nn nc] 24)).alloc (.cells #[.int .i64 mk, .int .i64 mi, .int .i64 mj, .slice mo mn mc] 24))) := Lib.hid (by rw [hW2]; exact hb2)
      clear a0 a1 a2 a3 s0 s1 s2 s3 hn1 hn2 hb hbq hW2 hy1 hy2 hb2
      cases b with
      | true =>
        have hsn : sameTs (l.drop (q + 1)) (l2.drop (q + 1)) = sameTs l l2 := by rw [← HSD.out, HS.out, Bool.true_and]
        have HSN := Lib.hid hsn
        clear hsn
        go_wp2_with (go_at_call 41; (with_reducible refine (HCALL.out _ HW2.out).mono ?_); rintro e w9 ⟨rfl, hb9⟩; have HBB := Lib.hid (HW2.out.trans (hb9.mono HW2.out.size)); clear hb9)
        go_roundw
        case rel => exact ⟨q + 1, by omega, by go_num, HB.out.trans (HBB.out.mono HB.out.size), HSN.out⟩
        case measure => simp [intOf]; omega
      | false =>
        have hsn : sameTs l l2 = false := by rw [← HSD.out, HS.out, Bool.false_and]
        have HSN := Lib.hid hsn
        clear hsn
        go_wp2_with (go_at_call 41; (with_reducible refine (HCALL.out _ HW2.out).mono ?_); rintro e w9 ⟨rfl, hb9⟩; have HBB := Lib.hid (HW2.out.trans (hb9.mono HW2.out.size)); clear hb9)
        all_goals (first | go_ret | go_end0)
        all_goals exact ⟨by rw [HSN.out]; rfl, HB.out.trans (HBB.out.mono HB.out.size)⟩
    · have hd : decide ((q : Int) < (len : Int)) = false := decide_eq_false (by omega)
      have hd' : decide (q < len) = false := decide_eq_false hlt
      have hs : sameTs l l2 = true := by
        rw [← HSD.out, List.drop_of_length_le (by rw [HLN.out.1.1]; omega), List.drop_of_length_le (by rw [HLN.out.1.2]; omega), sameTs]
      have HSN := Lib.hid hs
      clear hb hs
      go_wp2_with fail
      go_ret
      exact ⟨by rw [HSN.out]; rfl, HB.out⟩
set_option maxRecDepth 100000 in
set_option maxHeartbeats 4000000 in
theorem gsame_node (k i j : Int) (l : List Tree) (ih : ∀ t ∈ l, SameC 41 t) : SameC 41 (.mk k i j l) := by
  intro u w n n2 hT hT2
  have HE := Lib.hid (fun (W : World) (hW : Below w.heap.size w W) => equal_kids k i j l ih u W n n2 (TieB.below hT hW) (TieB.below hT2 hW))
  obtain ⟨k2, i2, j2, l2⟩ := u
  obtain ⟨o, c, g, off, R, rfl, hc, hl, hlR, ho, HC, HT⟩ := TieB.out hT
  obtain ⟨o2, c2, g2, off2, R2, rfl, hc2, hl2, hlR2, ho2, HC2, HT2⟩ := TieB.out hT2
  obtain ⟨W2, hW2, hx, hy, hb2⟩ := two_node_boxes w k i j k2 i2 j2 o o2 l.length c l2.length c2
  obtain ⟨⟨x0, x1, x2, x3⟩, _⟩ := four_cells0 hx
  obtain ⟨⟨y0, y1, y2, y3⟩, _⟩ := four_cells0 hy
  have xz := (Array.getElem?_eq_some_iff.1 hx).1
  have yz := (Array.getElem?_eq_some_iff.1 hy).1
  obtain ⟨X, hX⟩ : ∃ X, w.heap.size = X := ⟨_, rfl⟩
  obtain ⟨len, hlen⟩ : ∃ len, l.length = len := ⟨_, rfl⟩
  obtain ⟨len2, hlen2⟩ : ∃ len, l2.length = len := ⟨_, rfl⟩
  obtain ⟨be, hbe⟩ : ∃ b, sameTs l l2 = b := ⟨_, rfl⟩
  have hs : sameT (.mk k i j l) (.mk k2 i2 j2 l2) = (k == k2 && i == i2 && j == j2 && be) := by rw [sameT, hbe]
  show Calls Try.prog 41 #[.agg #[.int .i64 k, .int .i64 i, .int .i64 j, .slice o l.length c], .agg #[.int .i64 k2, .int .i64 i2, .int .i64 j2, .slice o2 l2.length c2]] w fun e w' => e = .returned (.bool (sameT (.mk k i j l) (.mk k2 i2 j2 l2))) ∧ Below w.heap.size w w'
  rw [hs]
  have HE' : Hid (∀ W, Below w.heap.size w W → Calls Try.prog 60 #[.slice o len c, .slice o2 len2 c2, .func (.func 41) #[] #[]] W fun e w' => e = .returned (.bool be) ∧ Below W.heap.size W w') := Lib.hid (fun W hW => by
    have := HE.out W hW
    rw [← hbe, ← hlen, ← hlen2]
    exact this)
  rw [hlen, hlen2]
  rw [hlen, hlen2] at hW2
  rw [hlen] at x3
  rw [hlen2] at y3
  have HBB := Lib.hid hb2
  rw [hX] at x0 x1 x2 x3 y0 y1 y2 y3 xz yz
  clear hT hT2 HE HC HT HC2 HT2 hc hl hlR ho hc2 hl2 hlR2 ho2 hx hy hlen hlen2 hbe hs hb2
  by_cases hk : k = k2
  case neg =>
    have hkd : (k == k2) = false := beq_eq_false_iff_ne.2 hk
    rw [hkd]
    clear hkd
    go_enter Try.func41, Try.ntmps41
    go_wp2_with fail
    go_ret
    exact ⟨rfl, HBB.out⟩
  case pos =>
  subst hk
  rw [beq_self_eq_true, Bool.true_and]
  by_cases hi : i = i2
  case neg =>
    have hkd : (i == i2) = false := beq_eq_false_iff_ne.2 hi
    rw [hkd]
    clear hkd
    go_enter Try.func41, Try.ntmps41
    go_wp2_with fail
    go_ret
    exact ⟨rfl, HBB.out⟩
  case pos =>
  subst hi
  rw [beq_self_eq_true, Bool.true_and]
  by_cases hj : j = j2
  case neg =>
    have hkd : (j == j2) = false := beq_eq_false_iff_ne.2 hj
    rw [hkd]
    clear hkd
    go_enter Try.func41, Try.ntmps41
    go_wp2_with fail
    go_ret
    exact ⟨rfl, HBB.out⟩
  case pos =>
  subst hj
  rw [beq_self_eq_true, Bool.true_and]
  go_enter Try.func41, Try.ntmps41
  go_wp2_with (go_at_call 60; (with_reducible refine (HE'.out _ HBB.out).mono ?_); rintro e w9 ⟨rfl, hb9⟩; have HB9 := Lib.hid (HBB.out.trans (hb9.mono HBB.out.size)); clear hb9)
  go_ret
  exact ⟨rfl, HB9.out⟩
mutual
theorem gsame_t : ∀ t : Tree, SameC 41 t
  | .mk k i j l => gsame_node k i j l (gsame_l l)
theorem gsame_l : ∀ (l : List Tree), ∀ t ∈ l, SameC 41 t
  | [], t, h => by cases h
  | u :: l, t, h => by
    rcases List.mem_cons.1 h with h | h
    · rw [h]; exact gsame_t u
    · exact gsame_l l t h
end
end Go.Proofs.Ytnnffcfdokejbaa.rd
namespace Go.Proofs.Ytnnffcfdokejbaa.rd
open Go.RowKit

set_option maxRecDepth 100000 in
set_option maxHeartbeats 4000000 in
/-- The program's Parts, of any tree. -/
theorem gparts_any (t : Tree) (w : World) (n : Rn) (h : Hid (TieB w t n)) : Calls Try.prog 38 #[n.v] w fun e w' => ∃ v R E, e = .returned v ∧ Below w.heap.size w w' ∧ Mine nd w' w.heap.size v R ∧ OTies w' E (partsL t.l) R ∧ ∀ h, E h → w.heap.size ≤ h ∧ h < w'.heap.size ∧ v.ownBlock ≠ some h := by
  obtain ⟨k, i, j, l⟩ := t
  obtain ⟨o, c, g, off, R, rfl, hc, hl, hlR, ho, HC, HT⟩ := TieB.out h
  obtain ⟨len, hlen⟩ : ∃ len, l.length = len := ⟨_, rfl⟩
  have HLN := Lib.hid (And.intro hlen hlR)
  have HO := Lib.hid ho
  show Calls Try.prog 38 #[.agg #[.int .i64 k, .int .i64 i, .int .i64 j, .slice o l.length c]] w _
  rw [hlen] at hl ⊢
  have HB1 : Hid (Below w.heap.size w (w.alloc (.cells #[.int .i64 k, .int .i64 i, .int .i64 j, .slice o len c] 24))) := Lib.hid ((Below.refl _ _).alloc (Nat.le_refl _) _)
  clear h hlen hlR ho hc
  go_enter Try.func38, Try.ntmps38
  go_wp2_with fail
  go_loopw [9, 3] (fun p a wr => ∃ (q : Nat) (v : Value) (R' : List Rn) (E : Nat → Prop), q ≤ len ∧ p = .int .i64 (q : Int) ∧ v = a ∧ Below w.heap.size w wr ∧ Mine nd wr w.heap.size v R' ∧ OTies wr E (partsL (l.take q)) R' ∧ ∀ h, E h → w.heap.size ≤ h ∧ h < wr.heap.size ∧ v.ownBlock ≠ some h) (fun p _ _ => len - (intOf p).toNat)
  case atStart => exact ⟨0, _, [], fun _ => False, Nat.zero_le _, rfl, rfl, HB1.out, Mine.nil _ _, OTies.nil, fun h hh => hh.elim⟩
  case round =>
    obtain ⟨q, vo, R', E, hql, rfl, rfl, hb, hm, hot, hd⟩ := hrel
    by_cases hlt : q < len
    · have hil : q < l.length := by rw [HLN.out.1]; exact hlt
      have hiR : q < R.length := by rw [HLN.out.2]; exact hil
      obtain ⟨ho, hg⟩ := HO.out (by intro e; rw [e] at hil; simp at hil)
      subst ho
      obtain ⟨a0, a1, a2, a3⟩ := cells_nd HC.out q hiR
      have hkk : R[q].k = l[q].k := by
        obtain ⟨D, h, _⟩ := (HT.out wr hb q hil hiR).out
        exact h.k
      have hsn := partsL_snoc hil
      have HFW := Lib.hid (partsL_few l q)
      have hlR' := hot.length
      have HCALL : Hid (∀ u, Below wr.heap.size wr u → Calls Try.prog 40 #[R[q].v, .int .i64 0] u fun e w' => ∃ n', e = .returned n'.v ∧ Below u.heap.size u w' ∧ Fresh wr.heap.size w' (shiftT 0 l[q]) n') := Lib.hid (fun u hu => (gshift_t l[q] u R[q] 0 (HT.out u (hb.trans (hu.mono hb.size)) q hil hiR)).mono fun e w' ⟨n', h1, h2, h3⟩ => ⟨n', h1, h2, h3.mono hu.size⟩)
      have HPUSH := Lib.hid (fun (w9 : World) (n : Rn) (h1 : Below wr.heap.size wr w9) (h2 : Fresh wr.heap.size w9 (shiftT 0 l[q]) n) => own_push (t := shiftT 0 l[q]) (w9 := w9) (n := n) hb (Nat.le_refl _) hm hot hd hb.size (by have := HFW.out; omega) h1 h2)
      obtain ⟨⟨nk, ni, nj, no, nn, nc⟩, hn1⟩ : ∃ n, R[q] = n := ⟨_, rfl⟩
      rw [hn1] at a0 a1 a2 a3 HCALL hkk
      simp only [] at hkk
      rw [show (Rn.mk nk ni nj no nn nc).v = .agg #[.int .i64 nk, .int .i64 ni, .int .i64 nj, .slice no nn nc] from rfl] at HCALL
      have c0 := (hb.cell (p := ⟨g, off + q * 4, none⟩) hg).trans a0
      have c1 := (hb.cell (p := ⟨g, off + q * 4 + 1, none⟩) hg).trans a1
      have c2 := (hb.cell (p := ⟨g, off + q * 4 + 2, none⟩) hg).trans a2
      have c3 := (hb.cell (p := ⟨g, off + q * 4 + 3, none⟩) hg).trans a3
      have hgw : g < wr.heap.size := Nat.lt_of_lt_of_le hg hb.size
      have hq0 : (0 : Int) ≤ (q : Int) := by omega
      have hww : (q : Int) + 1 ≤ 2932031007318 := by omega
      have hdd : decide ((q : Int) < (len : Int)) = true := decide_eq_true (by omega)
      have hdd' : decide (q < len) = true := decide_eq_true hlt
      have HZ : Hid (Below wr.heap.size wr (wr.alloc (.cells #[.int .i64 nk, .int .i64 ni, .int .i64 nj, .slice no nn nc] 24))) := Lib.hid ((Below.refl _ _).alloc (Nat.le_refl _) _)
      simp only [] at c0 c1 c2 c3
      by_cases hp : 200 ≤ nk
      · have dp : decide (200 ≤ nk) = true := decide_eq_true hp
        have hip : isPart l[q] = true := by unfold isPart; rw [← hkk]; exact dp
        rw [hip, if_pos rfl] at hsn
        have HSN := Lib.hid hsn
        clear a0 a1 a2 a3 hn1 hb hm hot hd hsn hip hkk hlR'
        go_wp2_with (first
          | (go_at_call 40; refine (HCALL.out _ HZ.out).mono ?_; rintro e w9 ⟨⟨mk, mi, mj, mo, mn, mc⟩, rfl, hb9, hf9⟩; obtain ⟨v', w', hrun, hB', _, hM', E', hO', hd'⟩ := HPUSH.out w9 ⟨mk, mi, mj, mo, mn, mc⟩ (HZ.out.trans (hb9.mono HZ.out.size)) hf9 _ ((Below.refl _ _).alloc (Nat.le_refl _) _) _ (heap_alloc_last w9 _); have HRUN := Lib.hid hrun; have HE := Lib.hid (And.intro hB' (And.intro hM' (And.intro hO' hd'))); clear hb9 hf9 hrun hB' hM' hO' hd'; dsimp only [Rn.v])
          | (at_builtin; refine Lib.wpList_append_run _ rfl _ _ _ _ rfl _ _ rfl rfl _ _ (HRUN.out _) ?_))
        go_roundw
        case rel => exact ⟨q + 1, _, _, _, by omega, by go_num, rfl, HE.out.1, HE.out.2.1, by rw [HSN.out]; exact HE.out.2.2.1, HE.out.2.2.2⟩
        case measure => simp [intOf]; omega
      · have dp : decide (200 ≤ nk) = false := decide_eq_false hp
        have hip : isPart l[q] = false := by unfold isPart; rw [← hkk]; exact dp
        rw [hip] at hsn
        simp only [Bool.false_eq_true, if_false, List.append_nil] at hsn
        have HE := Lib.hid (And.intro (hb.trans (HZ.out.mono hb.size)) (And.intro (hm.below HZ.out) (And.intro (OTies.keep (fun g hg => HZ.out.block g (hd g hg).2.1) (fun _ h => h) _ _ hot) (fun h hh => And.intro (hd h hh).1 (And.intro (Nat.lt_of_lt_of_le (hd h hh).2.1 HZ.out.size) (hd h hh).2.2)))))
        rw [← hsn] at HE
        clear a0 a1 a2 a3 hn1 hb hm hot hd hsn hip hkk hlR'
        go_wp2_with fail
        go_roundw
        case rel => exact ⟨q + 1, _, _, _, by omega, by go_num, rfl, HE.out.1, HE.out.2.1, HE.out.2.2.1, HE.out.2.2.2⟩
        case measure => simp [intOf]; omega
    · obtain rfl : q = len := by omega
      have hdd : decide ((q : Int) < (q : Int)) = false := decide_eq_false (by omega)
      rw [List.take_of_length_le (by rw [HLN.out.1]; exact Nat.le_refl _)] at hot
      have HE := Lib.hid (And.intro hb (And.intro hm (And.intro hot hd)))
      clear hb hm hot hd
      go_wp2_with fail
      go_ret
      exact ⟨_, _, _, rfl, HE.out.1, HE.out.2.1, HE.out.2.2.1, HE.out.2.2.2⟩
end Go.Proofs.Ytnnffcfdokejbaa.rd
namespace Go.Proofs.Ytnnffcfdokejbaa.rd
open Go.RowKit

theorem string_light {H : Type} {s : ByteArray} (h : Light (H := H) 9 (.lit (.string s.data.toList))) : s.size ≤ 140737488351232 := by
  unfold Light at h
  have h2 : s.data.toList.length ≤ reachBytes := by simpa [DataW.weights] using h
  have e : s.data.toList.length = s.size := rfl
  rw [e] at h2
  exact h2
theorem gparts_c : PartsC 38 := fun t w n h => (gparts_any t w n h).mono fun _ _ ⟨v, R, E, h1, h2, h3, h4, h5⟩ => ⟨v, h1, h2, R, E, h3, h4, h5⟩
theorem tie_lt {w : World} {t : Tree} {n : Rn} (h : Tie w (· < w.heap.size) t n) : Hid (TieB w t n) := Lib.hid ⟨_, h, fun _ hk => hk⟩
end Go.Proofs.Ytnnffcfdokejbaa.rd
namespace Go.Proofs.Ytnnffcfdokejbaa.rd
open Go.ChangeShapes Go.WideShapes Go.ChangeAt Go.RowKit

theorem stree_of_trod {H : Type} {enc : TypeId × Value → H} {W : World} {sp : Nat → Bool} {held : Bool} (fuel : Nat) (cs : List Value) (x : DataW H × List MemPlace) (h : DataW.trod enc Try.prog W 0 sp held fuel 38 cs = some x) (hb : Light 38 x.1) : ∃ (s : ByteArray) (t : Tree) (n : Rn), cs = [.string s, .int .i64 n.k, .int .i64 n.i, .int .i64 n.j, .slice n.o n.n n.c] ∧ Tie W (· < W.heap.size) t n ∧ InR t ∧ s.size ≤ 140737488351232 ∧ s.size + bulkT t ≤ Rows.uptoBulk x.1 := by
  obtain ⟨ys, n', hfu, hx, hcl, hyl, hf⟩ := DataW.trod_struct Try.underlying38 h
  rw [show Try.prog.cellsOf 38 = 5 from by kernel_rfl] at hcl
  have hyl2 : ys.length = 2 := hyl
  have f0 := hf 0 _ rfl
  have f1 := hf 1 _ rfl
  change DataW.trod _ _ _ _ _ _ _ 9 ((cs.drop 0).take (Try.prog.cellsOf 9)) = _ at f0
  change DataW.trod _ _ _ _ _ _ _ 24 ((cs.drop 1).take (Try.prog.cellsOf 24)) = _ at f1
  rw [cellsStr] at f0
  rw [cellsN] at f1
  clear hf hyl h
  match cs, hcl with
  | [c0, c1, c2, c3, c4], _ =>
  match ys, hyl2 with
  | [y0, y1], _ =>
  obtain ⟨s, hs, hy, _⟩ := DataW.trod_string Try.underlying9 (x := y0) f0
  simp only [List.drop_zero, List.take_succ_cons, List.take_zero, List.cons.injEq, and_true] at hs
  subst hs
  have f1' : DataW.trod enc Try.prog W 0 sp held n' 24 [c1, c2, c3, c4] = some y1 := f1
  rw [hx] at hb
  unfold Light at hb
  simp only [DataW.weights, Try.underlying38, List.map_cons, List.map_nil, DataW.weightsEach, List.all_append, Bool.and_eq_true] at hb
  have hl0 : Light 9 y0.1 := by unfold Light; exact hb.1
  have hl1 : Light 24 y1.1 := by unfold Light; exact hb.2.1
  obtain ⟨t, n, hn, hT, hin, hu⟩ := tree_bulk_of_trod n' [c1, c2, c3, c4] y1 f1' hl1
  rw [hy] at hl0
  have hsz := string_light hl0
  refine ⟨s, t, n, by rw [hn], hT, hin, hsz, ?_⟩
  rw [hx, hy]
  have hd : s.data.toList.length = s.size := sdata s
  simp only [List.map_cons, List.map_nil, Rows.uptoBulk, Rows.uptoBulkAll]
  omega
end Go.Proofs.Ytnnffcfdokejbaa.rd
namespace Go.Proofs.Ytnnffcfdokejbaa.rd
open Go.ChangeShapes Go.WideShapes Go.ChangeAt Go.RowKit

theorem bulkAll_len {H : Type} : ∀ E : List (DataW H), E.length ≤ Rows.uptoBulkAll E
  | [] => Nat.zero_le _
  | d :: E => by
    have h1 := uptoBulk_pos d
    have h2 := bulkAll_len E
    rw [List.length_cons, Rows.uptoBulkAll]
    omega
theorem bulkZ_le {H : Type} : ∀ (Z : List (ByteArray × Tree)) (E : List (DataW H)), Z.length = E.length → (∀ i (h1 : i < Z.length) (h2 : i < E.length), Z[i].1.size + bulkT Z[i].2 ≤ Rows.uptoBulk E[i]) → bulkZ Z ≤ Rows.uptoBulkAll E
  | [], [], _, _ => Nat.zero_le _
  | [], _ :: _, h, _ => by cases h
  | _ :: _, [], h, _ => by cases h
  | z :: Z, d :: E, hl, h => by
    have h0 := h 0 (by simp) (by simp)
    have h1 := bulkZ_le Z E (by simpa using hl) (fun i k1 k2 => h (i + 1) (by simpa using k1) (by simpa using k2))
    rw [Rows.uptoBulkAll]
    show z.1.size + bulkT z.2 + bulkZ Z ≤ _
    exact Nat.add_le_add h0 h1
/-- Ints, in memory. -/
def IntsRead (W : World) (oa : Option Addr) (len cap N : Nat) : Prop := ∃ (g off : Nat) (Is : List Int), Is.length = len ∧ len ≤ cap ∧ (Is ≠ [] → oa = some ⟨g, off, none⟩ ∧ g < W.heap.size) ∧ Cells it W g off Is ∧ len ≤ N
theorem ints_of_trod {H : Type} {enc : TypeId × Value → H} {W : World} {sp : Nat → Bool} {held : Bool} {fuel : Nat} {oa : Option Addr} {len cap : Nat} {x : DataW H × List MemPlace} (h : DataW.trod enc Try.prog W 0 sp held fuel 32 [.slice oa len cap] = some x) : IntsRead W oa len cap (Rows.uptoBulk x.1) := by
  rcases DataW.trod_slice Try.underlying32 h with ⟨hv, _⟩ | ⟨a, len', cap', elems, rest, n2, _, hv, hy3, _, hl, _, hlen, hel, _, _⟩
  · simp only [List.cons.injEq, and_true, Value.slice.injEq] at hv
    obtain ⟨rfl, rfl, rfl⟩ := hv
    exact ⟨0, 0, [], rfl, Nat.le_refl _, fun e => absurd rfl e, fun j u h => by simp [flat] at h, Nat.zero_le _⟩
  · simp only [List.cons.injEq, and_true, Value.slice.injEq] at hv
    obtain ⟨rfl, rfl, rfl⟩ := hv
    obtain ⟨Is, hR, hRl⟩ := row_of_reads (F := it) (W := W) (a := a) (len := len) (cap := cap) hl (fun i hil => by
      have h1 := hel i hil
      rw [cellsI, List.getElem?_eq_getElem (by omega)] at h1
      obtain ⟨cs', hc, ht⟩ := Option.bind_eq_some_iff.1 h1
      obtain ⟨_, hcl', hat⟩ := World.cells?_some hc
      obtain ⟨z, hz, _, _⟩ := DataW.trod_int Try.underlying3 ht
      refine ⟨z, fun m u hu => ?_⟩
      have hm1 : m < 1 := (List.getElem?_eq_some_iff.1 hu).1
      have := hat m hm1
      rw [show it.k = 1 from rfl, this, hz]
      exact hu)
    obtain ⟨g, off, o, cp, hcp, hv, ho, hcell⟩ := hR.lt
    rw [hRl] at hv hcp
    simp only [Value.slice.injEq, true_and] at hv
    obtain ⟨rfl, rfl⟩ := hv
    refine ⟨g, off, Is, hRl, hl, ho, hcell, ?_⟩
    have h2 := bulkAll_len (elems.map (·.1))
    rw [List.length_map] at h2
    rw [hy3]
    simp only [Rows.uptoBulk]
    omega
/-- Trees with their texts, in memory. -/
def TreesRead (W : World) (oa : Option Addr) (len cap N : Nat) : Prop := ∃ (g off : Nat) (Z : List (ByteArray × Tree)) (R : List Sr), Z.length = len ∧ R.length = Z.length ∧ len ≤ cap ∧ (Z ≠ [] → oa = some ⟨g, off, none⟩ ∧ g < W.heap.size) ∧ Cells sr W g off R ∧ (∀ q (h : q < Z.length) (h2 : q < R.length), R[q].s = Z[q].1 ∧ Hid (TieB W Z[q].2 R[q].n) ∧ InR Z[q].2) ∧ bulkZ Z ≤ N ∧ len ≤ N
theorem cellsS : Try.prog.cellsOf 38 = 5 := by kernel_rfl
theorem bytesS : Try.prog.bytesOf 38 = 64 := by kernel_rfl
theorem strees_of_trod {H : Type} {enc : TypeId × Value → H} {W : World} {sp : Nat → Bool} {held : Bool} {fuel : Nat} {oa : Option Addr} {len cap : Nat} {x : DataW H × List MemPlace} (h : DataW.trod enc Try.prog W 0 sp held fuel 31 [.slice oa len cap] = some x) (hl3 : Light 31 x.1) : TreesRead W oa len cap (Rows.uptoBulk x.1) := by
  rcases DataW.trod_slice Try.underlying31 h with ⟨hv, _⟩ | ⟨a, len', cap', elems, rest, n2, _, hv, hy3, _, hl, _, hlen, hel, _, _⟩
  · simp only [List.cons.injEq, and_true, Value.slice.injEq] at hv
    obtain ⟨rfl, rfl, rfl⟩ := hv
    exact ⟨0, 0, [], [], rfl, rfl, Nat.le_refl _, fun e => absurd rfl e, fun j u h => by simp [flat] at h, fun q h _ => (by cases h), Nat.zero_le _, Nat.zero_le _⟩
  · simp only [List.cons.injEq, and_true, Value.slice.injEq] at hv
    obtain ⟨rfl, rfl, rfl⟩ := hv
    rw [hy3] at hl3 ⊢
    unfold Light at hl3
    simp only [DataW.weights, Try.underlying31, bytesS, List.all_cons, List.all_append, Bool.and_eq_true, decide_eq_true_eq, List.length_map] at hl3
    obtain ⟨_, hall, _⟩ := hl3
    have hlight : ∀ i (hi : i < elems.length), Light 38 elems[i].1 := fun i hi => light_mem hall (List.mem_map.2 ⟨elems[i], List.getElem_mem hi, rfl⟩)
    have hN : Rows.uptoBulkAll (elems.map (·.1)) ≤ Rows.uptoBulk (DataW.slice (elems.map (·.1)) (rest.map (·.1))) := by
      simp only [Rows.uptoBulk]
      omega
    have hlN := bulkAll_len (elems.map (·.1))
    rw [List.length_map] at hlN
    have key : ∀ i, i < len → ∃ e : Sr × Tree, (∀ m u, (sr.c e.1)[m]? = some u → W.cell? ((a.add (i * sr.k)).add m) = some u) ∧ Tie W (· < W.heap.size) e.2 e.1.n ∧ InR e.2 ∧ ∀ h : i < elems.length, e.1.s.size + bulkT e.2 ≤ Rows.uptoBulk elems[i].1 := by
      intro i hil
      have h1 := hel i hil
      rw [cellsS, List.getElem?_eq_getElem (by omega)] at h1
      obtain ⟨cs', hc, ht⟩ := Option.bind_eq_some_iff.1 h1
      obtain ⟨_, hcl', hat⟩ := World.cells?_some hc
      obtain ⟨s, t, n, hcs, h2, h3, _, h4⟩ := stree_of_trod n2 cs' elems[i] ht (hlight i (by omega))
      refine ⟨⟨⟨s, n⟩, t⟩, fun m u hu => ?_, h2, h3, fun _ => h4⟩
      have hm5 : m < 5 := (List.getElem?_eq_some_iff.1 hu).1
      have := hat m hm5
      rw [show sr.k = 5 from rfl, this, hcs]
      exact hu
    by_cases hz : len = 0
    · subst hz
      exact ⟨0, 0, [], [], rfl, rfl, hl, fun e => absurd rfl e, fun j u h => by simp [flat] at h, fun q h _ => (by cases h), Nat.zero_le _, Nat.zero_le _⟩
    · obtain ⟨b, o, spt⟩ := a
      obtain ⟨e0, k0, _⟩ := key 0 (by omega)
      have hc := k0 0 (.string e0.1.s) rfl
      have hsp := spot_none hc
      obtain rfl : spt = none := by
        have : ((Addr.add ⟨b, o, spt⟩ (0 * sr.k)).add 0).spot = spt := by unfold Addr.add; split <;> simp_all
        rw [← this]; exact hsp
      haveI : Inhabited (Sr × Tree) := ⟨⟨⟨.empty, noNode⟩, .mk 0 0 0 []⟩⟩
      obtain ⟨E, hE⟩ := Deep.choose_lt (α := Sr × Tree) (n := len) (p := fun i e => (∀ m u, (sr.c e.1)[m]? = some u → W.cell? (((⟨b, o, none⟩ : Addr).add (i * sr.k)).add m) = some u) ∧ Tie W (· < W.heap.size) e.2 e.1.n ∧ InR e.2 ∧ ∀ h : i < elems.length, e.1.s.size + bulkT e.2 ≤ Rows.uptoBulk elems[i].1) key
      have hR : Row sr W (.slice (some ⟨b, o, none⟩) len cap) ((List.range len).map fun i => (E i).1) := ⟨b, o, _, cap, by simpa using hl, by simp, fun _ => rfl, cells_of (fun n hn m u hu => by
        simp only [List.length_map, List.length_range] at hn
        have := (hE n hn).1 m u (by simpa using hu)
        simp only [Addr.add_lit] at this
        exact this)⟩
      obtain ⟨g, off, o2, cp, hcp, hv, ho, hcell⟩ := hR.lt
      simp only [List.length_map, List.length_range, Value.slice.injEq, true_and] at hv
      obtain ⟨hv, rfl⟩ := hv
      subst hv
      have hZ : ((List.range len).map fun i => ((E i).1.s, (E i).2)).length = len := by simp
      refine ⟨g, off, (List.range len).map fun i => ((E i).1.s, (E i).2), _, hZ, by simp, hl, fun hne => ho (fun e => hz (by have := congrArg List.length e; simpa using this)), hcell, fun q h h2 => ?_, Nat.le_trans (bulkZ_le _ (elems.map (·.1)) (by rw [hZ, List.length_map]; omega) fun i k1 k2 => ?_) hN, Nat.le_trans (by omega) (Nat.le_trans hlN hN)⟩
      · have hq : q < len := by rw [hZ] at h; exact h
        obtain ⟨_, k1, k2, _⟩ := hE q hq
        simp only [List.getElem_map, List.getElem_range]
        exact ⟨trivial, Lib.hid ⟨_, k1, fun k hk => hk⟩, k2⟩
      · have hq : i < len := by rw [hZ] at k1; exact k1
        obtain ⟨_, _, _, k3⟩ := hE i hq
        have := k3 (by simpa using k2)
        simpa using this
theorem puts_law {w : World} {oa ob : Option Addr} {la ca lb cb N1 N2 : Nat} {at0 : Int} (h1 : TreesRead w oa la ca N1) (h2 : IntsRead w ob lb cb N2) (b1 : N1 ≤ 1048576) (b2 : N2 ≤ 1048576) : Calls Try.prog 4 #[.slice oa la ca, .slice ob lb cb, .int .i64 at0] w fun e w' => e = .returned (.bool true) ∧ Below w.heap.size w w' := by
  obtain ⟨lg, loff, Z, R, e1, e2, e3, e4, e5, e6, e7, e8⟩ := h1
  obtain ⟨ig, ioff, Is, i1, i2, i3, i4, i5⟩ := h2
  exact puts_first shown_c Z R w oa la ca lg loff ob lb cb ig ioff Is at0 i1 i2 (by omega) i3 i4 e1 e2 e3 (by omega) e4 e5 e6 (by omega)
end Go.Proofs.Ytnnffcfdokejbaa.rd
