/-
  Texts put together: Unq, Raw, Rune, Decode, Small, Diags, Lc, Ld, Own, Check, Lf, Lg.
-/
import Derived.Test.YtjbamlmdeopcaaaGreatDoorPa3
import Derived.Lib.LaidU8
import Derived.BigQuiet
import Derived.Deep.QuietTactic
import Derived.Lib.DecodeNEq
import Derived.Lib.TrimU
import Derived.WalkKit
import Derived.Test.YtjbamlmdeopcaaaGreatDoorRows
import Derived.Handy
import Derived.Deep.DeepFit
import Derived.Lib.RuneCountTail
import Derived.Shelf.Unicode.DecodeSlow
import Derived.Test.YtjbamlmdeopcaaaGreatDoorPa1
import Derived.Test.YtjbamlmdeopcaaaGreatDoorPa2
import Derived.Lib.Hide
import Derived.WalkMore
section
/-
  token.unquoteText.
-/
namespace Go.Proofs.YtjbamlmdeopcaaaGreatDoor.tok
open Go.RowKit

theorem esc0_ok : EscOk (0, false, 0) := ⟨fun h => (by cases h), fun _ => ⟨by decide, by decide⟩⟩
theorem escB_le (v : Esc) : (escB v).length ≤ 4 ∧ (v.2.1 = false → (escB v).length = 1) := by
  unfold escB
  split
  · next h => exact ⟨by rw [← Lib.runeCells_length]; exact (Lib.runeCells_le _).2, fun g => by rw [g] at h; cases h⟩
  · exact ⟨by simp, fun _ => by simp⟩
/-- What is known of an escape. -/
def EscFit (l : List UInt8) (i : Nat) (v : Esc) : Prop := EscOk v ∧ (v.2.2 ≠ 0 → i + v.2.2 ≤ l.length ∧ 2 ≤ v.2.2 ∧ (escB v).length ≤ v.2.2)
theorem esc0_fit (l : List UInt8) (i : Nat) : EscFit l i (0, false, 0) := ⟨esc0_ok, fun h => absurd rfl h⟩
theorem byteE_fit {l : List UInt8} {i ahead count : Nat} {base : Int} (hb0 : 0 ≤ base) (hb : base ≤ 16) (hw : 2 ≤ ahead + count) : EscFit l i (byteE l i ahead count base) := by
  unfold byteE
  cases h : numAt l (i + ahead) count base with
  | none => exact esc0_fit l i
  | some n =>
    obtain ⟨h1, h2, _⟩ := numAt_bound hb0 hb h
    simp only []
    by_cases g : 255 < n
    · rw [if_pos g]; exact esc0_fit l i
    · rw [if_neg g]
      refine ⟨⟨fun h => (by cases h), fun _ => ⟨h2, by simp only []; omega⟩⟩, fun _ => ⟨by simp only []; omega, hw, ?_⟩⟩
      rw [(escB_le _).2 rfl]
      simp only []; omega
theorem runeE_fit {l : List UInt8} {i count : Nat} (hw : 4 ≤ count) : EscFit l i (runeE l i count) := by
  unfold runeE
  cases h : numAt l (i + 2) count 16 with
  | none => exact esc0_fit l i
  | some n =>
    obtain ⟨h1, h2, _⟩ := numAt_bound (by omega) (by omega) h
    simp only []
    by_cases g : 1114111 < n
    · rw [if_pos g]; exact esc0_fit l i
    · rw [if_neg g]
      cases hv : Lib.validRune n with
      | false => exact esc0_fit l i
      | true =>
        refine ⟨⟨fun _ => ⟨h2, by show n ≤ _; omega⟩, fun h => (by cases h)⟩, fun _ => ⟨by show i + (2 + count) ≤ _; omega, by show 2 ≤ 2 + count; omega, ?_⟩⟩
        have := (escB_le (n, true, 2 + count)).1
        show _ ≤ 2 + count
        exact Nat.le_trans this (by omega)
theorem signE_fit {l : List UInt8} {i : Nat} {c q : UInt8} (h : i + 2 ≤ l.length) : EscFit l i (signE c q) := by
  have two : ∀ n : Int, 0 ≤ n → n ≤ 255 → EscFit l i (n, false, 2) := fun n h0 h1 =>
    ⟨⟨fun h => (by cases h), fun _ => ⟨h0, h1⟩⟩, fun _ => ⟨h, Nat.le_refl _, by rw [(escB_le _).2 rfl]; simp⟩⟩
  unfold signE
  repeat' split
  all_goals first
    | exact two _ (by omega) (by have := UInt8.toNat_lt c; omega)
    | exact esc0_fit l i
theorem escV_fit (l : List UInt8) (i : Nat) (q : UInt8) : EscFit l i (escV l i q) := by
  cases h : l[i + 1]? with
  | none => rw [escV_none (by simpa using h)]; exact esc0_fit l i
  | some c =>
    have hl : i + 1 < l.length := (List.getElem?_eq_some_iff.1 h).1
    rw [escV_some h]
    repeat' split
    · exact byteE_fit (by omega) (by omega) (by omega)
    · exact runeE_fit (by omega)
    · exact runeE_fit (by omega)
    · exact byteE_fit (by omega) (by omega) (by omega)
    · exact signE_fit (by omega)

/-- What a text says from a place on, behind what was said ahead of it. -/
def uq (l : List UInt8) : Nat → Nat → List UInt8 → List UInt8 × Int × Nat
  | 0, _, _ => ([], 106, 0)
  | f + 1, p, acc => match l[p]? with
    | none => ([], 106, 0)
    | some c =>
      if c = 92 then (if (escV l p 34).2.2 = 0 then ([], 108, p) else uq l f (p + (escV l p 34).2.2) (acc ++ escB (escV l p 34)))
      else if c = 34 then (if p + 1 = l.length then (acc, 0, 0) else ([], 106, 0))
      else if c = 10 then ([], 106, 0) else uq l f (p + 1) (acc ++ [c])
theorem uq_past {l : List UInt8} {f p : Nat} {acc : List UInt8} (h : l.length ≤ p) : uq l f p acc = ([], 106, 0) := by
  cases f with
  | zero => rfl
  | succ f => rw [uq, List.getElem?_eq_none h]
theorem uq_fuel {l : List UInt8} : ∀ (f g p : Nat) (acc : List UInt8), l.length - p ≤ f → l.length - p ≤ g → uq l f p acc = uq l g p acc := by
  intro f
  induction f with
  | zero =>
    intro g p acc h _
    rw [uq_past (f := 0) (by omega), uq_past (by omega)]
  | succ f ih =>
    intro g p acc hf hg
    by_cases hp : l.length ≤ p
    · rw [uq_past hp, uq_past hp]
    · obtain ⟨g, rfl⟩ : ∃ k, g = k + 1 := ⟨g - 1, by omega⟩
      rw [uq, uq, List.getElem?_eq_getElem (by omega)]
      simp only []
      split
      · split
        · rfl
        · next h0 =>
          have := (escV_fit l p 34).2 h0
          exact ih g _ _ (by omega) (by omega)
      · split
        · rfl
        · split
          · rfl
          · exact ih g _ _ (by omega) (by omega)
def uqAt (l : List UInt8) (p : Nat) (acc : List UInt8) : List UInt8 × Int × Nat := uq l (l.length - p) p acc
theorem uqAt_past {l : List UInt8} {p : Nat} {acc : List UInt8} (h : l.length ≤ p) : uqAt l p acc = ([], 106, 0) := uq_past h
theorem uqAt_step {l : List UInt8} {p : Nat} {acc : List UInt8} (h : p < l.length) : uqAt l p acc =
    if l[p] = 92 then (if (escV l p 34).2.2 = 0 then ([], 108, p) else uqAt l (p + (escV l p 34).2.2) (acc ++ escB (escV l p 34)))
    else if l[p] = 34 then (if p + 1 = l.length then (acc, 0, 0) else ([], 106, 0))
    else if l[p] = 10 then ([], 106, 0) else uqAt l (p + 1) (acc ++ [l[p]]) := by
  have e : uqAt l p acc = uq l ((l.length - p - 1) + 1) p acc := uq_fuel _ _ _ _ (by omega) (by omega)
  rw [e, uq, List.getElem?_eq_getElem h]
  simp only []
  split
  · split
    · rfl
    · next h0 =>
      have := (escV_fit l p 34).2 h0
      exact uq_fuel _ _ _ _ (by omega) (by omega)
  · split
    · rfl
    · split
      · rfl
      · exact uq_fuel _ _ _ _ (by omega) (by omega)
def UnqPost (v : List UInt8 × Int × Nat) (w : World) (e : Ending) (w' : World) : Prop := e = .returned (.tuple #[.string (B v.1), .int .i64 v.2.1, .int .i64 v.2.2]) ∧ Below w.heap.size w w'

set_option maxRecDepth 100000 in
set_option maxHeartbeats 4000000 in
theorem unqText_any (s : ByteArray) (w : World) (hs : s.size ≤ 140737488351232) (h1 : 1 ≤ s.size) :
    Calls Tryz.prog 103 #[.string s] w (UnqPost (uqAt s.data.toList 1 []) w) := by
  obtain ⟨i0, hi, hz0, hz1, hz2⟩ := info_parts infoB
  obtain ⟨R, hR⟩ : ∃ R, uqAt s.data.toList 1 [] = R := ⟨_, rfl⟩
  rw [hR]
  have HR := Lib.hid hR
  clear hR
  go_enter Tryz.func103, Tryz.ntmps103
  go_wp2
  go_loopw [5, 6] (fun v i wr => ∃ (p : Nat) (acc : List UInt8), p ≤ s.size ∧ i = .int .i64 p ∧ acc.length ≤ p ∧ uqAt s.data.toList p acc = R ∧ Bytes wr w.heap.size v acc ∧ Below w.heap.size w wr) (fun _ i _ => s.size - (intOf i).toNat)
  case atStart => exact ⟨1, [], h1, rfl, by simp, HR.out, Bytes.nil _ _, Below.refl _ _⟩
  case round =>
    obtain ⟨p, acc, hp, rfl, hacc, hu, hown, hbel⟩ := hrel
    have hsd := sdata s
    have hsz := hbel.size
    have HO := Lib.hid hown
    have HB := Lib.hid hbel
    have HU := Lib.hid hu
    clear hown hbel hu
    by_cases hlt : p < s.size
    · have HN := Lib.hid (uqAt_step (l := s.data.toList) (p := p) (acc := acc) (by omega))
      obtain ⟨c, hc⟩ : ∃ c, s[p]'hlt = c := ⟨_, rfl⟩
      rw [at_data hlt, hc, HU.out] at HN
      have hc0 : (0 : Int) ≤ (c.toNat : Int) := by omega
      have hc1 : (c.toNat : Int) ≤ 255 := by have := UInt8.toNat_lt c; omega
      have HD := Lib.hid hsd
      clear hsd
      by_cases h92 : c = 92
      · have z92 : ((c.toNat : Int) == 92) = true := byte_eq (d := 92) h92
        have hfit := escV_fit s.data.toList p 34
        obtain ⟨v, hv⟩ : ∃ v, escV s.data.toList p 34 = v := ⟨_, rfl⟩
        have HN1 : Hid (R = if v.2.2 = 0 then ([], 108, p) else uqAt s.data.toList (p + v.2.2) (acc ++ escB v)) := Lib.hid (by rw [HN.out, if_pos h92, hv])
        rw [hv] at hfit
        have HF := Lib.hid hfit
        have HV := Lib.hid hv
        clear HN h92 hfit hv
        obtain ⟨n, r, wd⟩ := v
        by_cases hw : wd = 0
        · have HN2 : Hid (R = ([], 108, p)) := Lib.hid (by rw [HN1.out, if_pos hw])
          have hwz : ((wd : Int) == 0) = true := by rw [hw]; rfl
          clear HN1
          go_wp2_with (go_at_call 100; refine (escapeAt_any s p 34 _ (by omega) hlt).mono ?_; rintro e w1 ⟨rfl, hb⟩; rw [HV.out]; have HB1 := Lib.hid hb; obtain ⟨hbc, hbf⟩ := bcell hb; have hbz := hb.size; clear hb)
          have hb0 := HB.out.trans (HB1.out.mono hsz)
          have hz0 := hb0.size
          go_ret3
          refine ⟨by rw [HN2.out]; rfl, ?_⟩
          exact hb0.alloc hz0 _
        · have hfit := HF.out
          obtain ⟨hok, hfw⟩ := hfit
          obtain ⟨f1, f2, f3⟩ := hfw hw
          simp only [] at f1 f2 f3
          have HN2 : Hid (uqAt s.data.toList (p + wd) (acc ++ escB (n, r, wd)) = R) := Lib.hid (by rw [HN1.out, if_neg hw])
          have hwz : ((wd : Int) == 0) = false := beq_eq_false_iff_ne.2 (by omega)
          have HOK := Lib.hid hok
          have hpw : p + wd ≤ s.size := by have := HD.out; omega
          have hal : (acc ++ escB (n, r, wd)).length ≤ p + wd := by rw [List.length_append]; omega
          have HA := Lib.hid hal
          clear HN1 HF hok hfw f1 f3 hal hw
          go_wp2_with (go_at_call 100; refine (escapeAt_any s p 34 _ (by omega) hlt).mono ?_; rintro e w1 ⟨rfl, hb⟩; rw [HV.out]; have HB1 := Lib.hid hb; obtain ⟨hbc, hbf⟩ := bcell hb; have hbz := hb.size; clear hb)
          refine (appendTo_any (n, r, wd) _ acc w.heap.size _ HOK.out (World.ownsRow.alloc (own_below HO.out HB1.out (fun k hk => ((World.ownsRow.lt HO.out) k hk).2)) _) (by have := hbz; simp; omega) (by omega)).mono ?_
          rintro e w2 ⟨v', rfl, ho2, hb2, hk2⟩
          have HO2 := Lib.hid ho2
          have HB2 := Lib.hid hb2
          have hb2z := hb2.size
          have hcell2 : w2.cell? ⟨w1.heap.size, 2, none⟩ = some (.int .i64 (wd : Int)) := by
            rw [World.cell?_of_block (a := ⟨w1.heap.size, 2, none⟩) (hk2 w1.heap.size (by simp) (fun e => by have := ((World.ownsRow.lt HO.out) _ e).2; omega))]
            simp
          clear ho2 hb2 hk2
          go_wp2
          have hb0 := HB.out.trans (HB1.out.mono hsz)
          have HB0 := Lib.hid ((hb0.alloc hb0.size _).trans HB2.out)
          clear hb0
          go_roundw
          case rel => exact ⟨p + wd, acc ++ escB (n, r, wd), hpw, by go_num, HA.out, HN2.out, HO2.out, HB0.out⟩
          case measure => simp [intOf]; omega
      · have z92 : ((c.toNat : Int) == 92) = false := byte_ne (d := 92) h92
        by_cases h34 : c = 34
        · have z34 : ((c.toNat : Int) == 34) = true := byte_eq (d := 34) h34
          by_cases hend : p + 1 = s.size
          · have HN1 : Hid (R = (acc, 0, 0)) := Lib.hid (by rw [HN.out, if_neg h92, if_pos h34, if_pos (by rw [HD.out]; exact hend)])
            have hcv := Bytes.string HO.out
            have hpe : ((p : Int) == (s.size : Int) - 1) = true := beq_iff_eq.2 (by omega)
            clear HN h92 h34
            go_wp2_with fail
            go_ret3
            exact ⟨by rw [HN1.out]; rfl, HB.out⟩
          · have HN1 : Hid (R = ([], 106, 0)) := Lib.hid (by rw [HN.out, if_neg h92, if_pos h34, if_neg (by rw [HD.out]; exact hend)])
            have hpe : ((p : Int) == (s.size : Int) - 1) = false := beq_eq_false_iff_ne.2 (by omega)
            clear HN h92 h34
            go_wp2_with fail
            go_ret3
            exact ⟨by rw [HN1.out]; rfl, HB.out⟩
        · have z34 : ((c.toNat : Int) == 34) = false := byte_ne (d := 34) h34
          by_cases h10 : c = 10
          · have z10 : ((c.toNat : Int) == 10) = true := byte_eq (d := 10) h10
            have HN1 : Hid (R = ([], 106, 0)) := Lib.hid (by rw [HN.out, if_neg h92, if_neg h34, if_pos h10])
            clear HN h92 h34 h10
            go_wp2_with fail
            go_ret3
            exact ⟨by rw [HN1.out]; rfl, HB.out⟩
          · have z10 : ((c.toNat : Int) == 10) = false := byte_ne (d := 10) h10
            have HN1 : Hid (uqAt s.data.toList (p + 1) (acc ++ [c]) = R) := Lib.hid (by rw [HN.out, if_neg h92, if_neg h34, if_neg h10])
            clear HN h92 h34 h10
            go_wp2_with (at_builtin; refine wpList_append_own _ rfl _ _ 109 rfl w.heap.size 5 i0 (.int .u8 0) 1 1 Tryz.underlying109 hi hz0 hz1 hz2 rfl (by decide) _ _ _ rfl (World.ownsRow.alloc HO.out _) ⟨wr.heap.size, 0, none⟩ 1 1 [.int .u8 (c.toNat : Int)] rfl rfl ?c1 ?c2 ?c3 ?c4 ?c5 ?_)
            case c1 => exact one_new wr _ _
            case c2 => intro u hu; simp only [List.mem_cons, List.not_mem_nil, or_false] at hu; subst hu; rfl
            case c3 => unfold maxLen; omega
            case c4 => omega
            case c5 => simp; omega
            intro v' w2 hown2 hg _
            have HR2 := Lib.hid (Bytes.more HB.out HO.out hown2 hg)
            have hal : (acc ++ [c]).length ≤ p + 1 := by simp; omega
            have HA := Lib.hid hal
            clear hown2 hg HO HB hal
            go_wp2
            go_roundw
            case rel => exact ⟨p + 1, acc ++ [c], by omega, by go_num, HA.out, HN1.out, HR2.out.1, HR2.out.2⟩
            case measure => simp [intOf]; omega
    · have HN1 : Hid (R = ([], 106, 0)) := Lib.hid (by rw [← HU.out, uqAt_past (by omega)])
      clear hsd
      go_wp2_with fail
      go_ret3
      exact ⟨by rw [HN1.out]; rfl, HB.out⟩
end Go.Proofs.YtjbamlmdeopcaaaGreatDoor.tok
end

section
/-
  token.unquoteRaw, token.Unquote.
-/
namespace Go.Proofs.YtjbamlmdeopcaaaGreatDoor.tok
open Go.RowKit

/-- What the calls ask of the library's variables. -/
structure Env (w : World) : Prop where
  tabs : Lib.Utf8Tabs 1 2 w
  most : ∃ m : Int, w.cell? ⟨0, 0, none⟩ = some (.int .i64 m)
theorem Env.below {w w' : World} (h : Env w) (hb : Below w.heap.size w w') : Env w' := by
  have at' : ∀ (b o : Nat) (v : Value), w.cell? ⟨b, o, none⟩ = some v → w'.cell? ⟨b, o, none⟩ = some v := fun b o v hv =>
    (hb.cell (p := ⟨b, o, none⟩) (World.block_lt_of_cell? _ _ hv)).trans hv
  refine ⟨⟨fun c hc => at' _ _ _ (h.tabs.1 c hc), fun i hi => ⟨at' _ _ _ (h.tabs.2 i hi).1, at' _ _ _ (h.tabs.2 i hi).2⟩⟩, ?_⟩
  obtain ⟨m, hm⟩ := h.most
  exact ⟨m, at' _ _ _ hm⟩

def noCR (l : List UInt8) : List UInt8 := l.filter (fun c => c != 13)
theorem noCR_none {l : List UInt8} (h : ∀ k : Nat, l[k]? ≠ some 13) : noCR l = l := by
  unfold noCR
  rw [List.filter_eq_self]
  intro c hc
  obtain ⟨k, hk, e⟩ := List.getElem_of_mem hc
  have := h k
  rw [List.getElem?_eq_getElem hk, e] at this
  simpa using this
theorem replace_cr : ∀ (n : Nat) (l : List UInt8), l.length ≤ n → Lib.replaceK [13] [] (Lib.count l [13]) l = noCR l := by
  intro n
  induction n with
  | zero =>
    intro l h
    obtain rfl : l = [] := List.eq_nil_of_length_eq_zero (by omega)
    rfl
  | succ n ih =>
    intro l h
    by_cases hm : Lib.index l [13] = -1
    · rw [Lib.count_miss hm]
      have hno := Lib.indexByte_none (l := l) (c := 13) (by rw [← Lib.index_one]; exact hm)
      rw [noCR_none hno]
      rfl
    · obtain ⟨i, hi⟩ : ∃ i : Nat, Lib.index l [13] = i := ⟨(Lib.index l [13]).toNat, by have := Lib.index_ge l [13]; omega⟩
      obtain ⟨h1, h2⟩ := Lib.indexByte_some (l := l) (c := 13) (o := i) (by rw [← Lib.index_one]; exact hi)
      have hil : i < l.length := (List.getElem?_eq_some_iff.1 h1).1
      rw [Lib.count_hit (by simp) hi, Nat.add_comm, Lib.replaceK_hit _ _ _ _ _ hi]
      have e : l = l.take i ++ l[i] :: l.drop (i + 1) := by rw [← List.drop_eq_getElem_cons hil, List.take_append_drop]
      have h13 : l[i] = 13 := (List.getElem?_eq_some_iff.1 h1).2
      rw [ih _ (by simp; omega)]
      conv => rhs; rw [e]
      unfold noCR
      rw [List.filter_append, List.filter_cons, h13]
      have ht : (l.take i).filter (fun c => c != 13) = l.take i := noCR_none (fun k => by
        by_cases hk : k < i
        · rw [List.getElem?_take_of_lt hk]; exact h2 k hk
        · rw [List.getElem?_eq_none (by simp; omega)]; simp)
      rw [ht]
      simp
theorem replaceAll_cr (l : List UInt8) : Lib.replaceAll l [13] [] = noCR l := by
  unfold Lib.replaceAll Lib.replace
  rw [if_neg (by decide)]
  unfold Lib.replaceNum
  rw [if_pos (by left; decide)]
  exact replace_cr _ l (Nat.le_refl _)
def OneText (x : List UInt8) (w : World) (e : Ending) (w' : World) : Prop := e = .returned (.string (B x)) ∧ Below w.heap.size w w'
theorem replaceAll_any (x : List UInt8) (w : World) (hE : Env w) (hx : x.length < 4294967281) :
    Calls Tryz.prog 112 #[.string (B x), .string { data := #[13] }, .string { data := #[] }] w (OneText (noCR x) w) := by
  obtain ⟨m, hm⟩ := hE.most
  refine (Tryz.strings_ReplaceAll (B x) ⟨#[13]⟩ ⟨#[]⟩ m w (by rw [bsize]; exact hx) hm (by decide) (by rw [bsize]; show _ + _ * 0 ≤ _; omega)).mono ?_
  rintro e w' ⟨rfl, hb⟩
  refine ⟨?_, hb⟩
  rw [bdata]
  show Ending.returned (.string (B (Lib.replaceAll x [13] []))) = _
  rw [replaceAll_cr]
theorem slice_to (s : ByteArray) (n : Nat) (z : Int) (hz : z = (n : Int)) (h : n ≤ s.size) (u : World) :
    (Instr.slice 9 (.string s) none (some (.int .i64 z)) none).run Tryz.prog u = .ok (.string (B (s.data.toList.take n))) u := by
  subst hz
  have e : s.extract 0 n = B (s.data.toList.take n) := by rw [b_extract]; rfl
  rw [← e]
  exact run_slice_string_h (P := Tryz.prog) (w := u) (t := 9) (s := s) (ht := Tryz.underlying9) .i64 (n : Int) (by omega) (by omega)

/-- What a literal says that begins with a back quote. -/
def rawOf (l : List UInt8) : List UInt8 × Int × Nat :=
  if 0 ≤ Lib.indexByte (l.drop 1) 96 ∧ Lib.indexByte (l.drop 1) 96 = ((l.drop 1).length : Int) - 1 then (noCR ((l.drop 1).take ((l.drop 1).length - 1)), 0, 0) else ([], 106, 0)

set_option maxRecDepth 100000 in
set_option maxHeartbeats 1000000 in
theorem raw_any (s : ByteArray) (w : World) (hE : Env w) (hs : s.size < 4294967281) (h1 : 1 ≤ s.size) :
    Calls Tryz.prog 102 #[.string s] w (UnqPost (rawOf s.data.toList) w) := by
  have hsl : ∀ u : World, (Instr.slice 9 (.string s) (some (.int .i64 1)) none none).run Tryz.prog u = .ok (.string (B (s.data.toList.drop 1))) u := fun u => slice_from s 1 h1 u
  obtain ⟨m, hm⟩ : ∃ m, s.data.toList.drop 1 = m := ⟨_, rfl⟩
  obtain ⟨R, hR⟩ : ∃ R, rawOf s.data.toList = R := ⟨_, rfl⟩
  have hml : m.length < 4294967281 := by rw [← hm, List.length_drop, sdata]; omega
  have HR : Hid (R = if 0 ≤ Lib.indexByte m 96 ∧ Lib.indexByte m 96 = (m.length : Int) - 1 then (noCR (m.take (m.length - 1)), 0, 0) else ([], 106, 0)) := Lib.hid (by rw [← hR, ← hm]; rfl)
  rw [hm] at hsl
  rw [hR]
  clear hm hR
  have hidx : ∀ u : World, Calls Tryz.prog 111 #[.string (B m), .int .u8 96] u fun e w' => e = .returned (.int .i64 (Lib.indexByte m 96)) ∧ u = w' := fun u => by
    refine (Tryz.strings_IndexByte (B m) 96 u).mono ?_
    rintro e w' ⟨rfl, rfl⟩
    rw [bdata]
    exact ⟨rfl, rfl⟩
  have hge := Lib.indexByte_ge m 96
  obtain ⟨z, hz⟩ : ∃ z, Lib.indexByte m 96 = z := ⟨_, rfl⟩
  rw [hz] at HR hidx hge
  have HI := Lib.hid hidx
  have hbm : (B m).size = m.length := bsize m
  clear hidx hz
  by_cases h0 : z < 0
  · have hd : decide (z < 0) = true := decide_eq_true h0
    have HF : Hid (R = ([], 106, 0)) := Lib.hid (by rw [HR.out, if_neg (by omega)])
    clear HR
    go_enter Tryz.func102, Tryz.ntmps102
    go_wp2_with (go_at_call 111; refine (HI.out _).mono ?_; rintro e w' ⟨rfl, rfl⟩)
    go_ret3
    exact ⟨by rw [HF.out]; rfl, Below.refl _ _⟩
  · have hd : decide (z < 0) = false := decide_eq_false h0
    by_cases he : z = (m.length : Int) - 1
    · have hd2 : (z != (m.length : Int) - 1) = false := by rw [he]; simp
      have HF : Hid (R = (noCR (m.take (m.length - 1)), 0, 0)) := Lib.hid (by rw [HR.out, if_pos ⟨by omega, he⟩])
      have hsl2 : ∀ u : World, (Instr.slice 9 (.string (B m)) none (some (.int .i64 z)) none).run Tryz.prog u = .ok (.string (B (m.take (m.length - 1)))) u := fun u => by
        have := slice_to (B m) (m.length - 1) z (by omega) (by rw [hbm]; omega) u
        rwa [bdata] at this
      have HEn := Lib.hid hE
      have HL : Hid ((m.take (m.length - 1)).length < 4294967281) := Lib.hid (by rw [List.length_take]; omega)
      have HZ := Lib.hid he
      clear HR hE he
      go_enter Tryz.func102, Tryz.ntmps102
      go_wp2_with (first | (go_at_call 111; refine (HI.out _).mono ?_; rintro e w' ⟨rfl, rfl⟩) | (go_at_call 112; refine (replaceAll_any _ _ HEn.out HL.out).mono ?_; rintro e w1 ⟨rfl, hb⟩; have HB := Lib.hid hb; clear hb))
      go_ret3
      exact ⟨by rw [HF.out]; rfl, HB.out⟩
    · have hd2 : (z != (m.length : Int) - 1) = true := by simpa using he
      have HF : Hid (R = ([], 106, 0)) := Lib.hid (by rw [HR.out, if_neg (fun g => he g.2)])
      clear HR he
      go_enter Tryz.func102, Tryz.ntmps102
      go_wp2_with (go_at_call 111; refine (HI.out _).mono ?_; rintro e w' ⟨rfl, rfl⟩)
      go_ret3
      exact ⟨by rw [HF.out]; rfl, Below.refl _ _⟩

/-- What a text literal says. -/
def unqOf (l : List UInt8) : List UInt8 × Int × Nat := if Lib.hasPrefix l [96] then rawOf l else if Lib.hasPrefix l [34] then uqAt l 1 [] else ([], 106, 0)
theorem prefix_one {l : List UInt8} {c : UInt8} (h : Lib.hasPrefix l [c] = true) : 1 ≤ l.length := by
  cases l with
  | nil => simp [Lib.hasPrefix] at h
  | cons a t => simp
set_option maxRecDepth 100000 in
set_option maxHeartbeats 1000000 in
theorem unquote_any (s : ByteArray) (w : World) (hE : Env w) (hs : s.size < 4294967281) :
    Calls Tryz.prog 84 #[.string s] w (UnqPost (unqOf s.data.toList) w) := by
  have HP := Lib.hid (Tryz.strings_HasPrefix s)
  cases h96 : Lib.hasPrefix s.data.toList [96] with
  | true =>
    have h1 := prefix_one h96
    rw [sdata] at h1
    have HF : Hid (unqOf s.data.toList = rawOf s.data.toList) := Lib.hid (by rw [unqOf, if_pos h96])
    have H9 := Lib.hid h96
    have HEn := Lib.hid hE
    clear h96 hE
    go_enter Tryz.func84, Tryz.ntmps84
    go_wp2_with (first | (go_at_call 26; refine (HP.out _ _).mono ?_; rintro e w' ⟨rfl, rfl⟩; rw [H9.out]) | (go_at_call 102; refine (raw_any s _ HEn.out hs h1).mono ?_; rintro e w1 ⟨rfl, hb⟩; have HB := Lib.hid hb; clear hb))
    go_ret3
    exact ⟨by rw [HF.out]; rfl, HB.out⟩
  | false =>
    cases h34 : Lib.hasPrefix s.data.toList [34] with
    | true =>
      have h1 := prefix_one h34
      rw [sdata] at h1
      have HF : Hid (unqOf s.data.toList = uqAt s.data.toList 1 []) := Lib.hid (by rw [unqOf, if_neg (by rw [h96]; simp), if_pos h34])
      have H9 := Lib.hid h96
      have H3 := Lib.hid h34
      clear h96 h34 hE
      go_enter Tryz.func84, Tryz.ntmps84
      go_wp2_with (first | (go_at_call 26; refine (HP.out _ _).mono ?_; rintro e w' ⟨rfl, rfl⟩; first | rw [H9.out] | rw [H3.out]) | (go_at_call 103; refine (unqText_any s _ (by omega) h1).mono ?_; rintro e w1 ⟨rfl, hb⟩; have HB := Lib.hid hb; clear hb))
      go_ret3
      exact ⟨by rw [HF.out]; rfl, HB.out⟩
    | false =>
      have HF : Hid (unqOf s.data.toList = ([], 106, 0)) := Lib.hid (by rw [unqOf, if_neg (by rw [h96]; simp), if_neg (by rw [h34]; simp)])
      have H9 := Lib.hid h96
      have H3 := Lib.hid h34
      clear h96 h34 hE
      go_enter Tryz.func84, Tryz.ntmps84
      go_wp2_with (go_at_call 26; refine (HP.out _ _).mono ?_; rintro e w' ⟨rfl, rfl⟩; first | rw [H9.out] | rw [H3.out])
      go_ret3
      exact ⟨by rw [HF.out]; rfl, Below.refl _ _⟩
end Go.Proofs.YtjbamlmdeopcaaaGreatDoor.tok
end

section
/-
  token.character, token.Rune.
-/
namespace Go.Proofs.YtjbamlmdeopcaaaGreatDoor.tok
open Go.RowKit

/-- The character that a text begins with: its number and its width; 0 and 0: there is none. -/
def charL (x : List UInt8) : Nat × Nat := if (Lib.decodeGo (B x)).1 = 65533 ∧ (Lib.decodeGo (B x)).2 < 2 then (0, 0) else Lib.decodeGo (B x)
theorem go_bounds (s : ByteArray) : (Lib.decodeGo s).1 ≤ 1114111 ∧ (Lib.decodeGo s).2 ≤ s.size ∧ (Lib.decodeGo s).2 ≤ 4 := by
  unfold Lib.decodeGo
  split
  · exact ⟨by decide, Nat.zero_le _, by decide⟩
  · next h =>
    rw [Lib.decode_at]
    have b0 := UInt8.toNat_lt (s.get! 0)
    have b1 := UInt8.toNat_lt (s.get! (0 + 1))
    have b2 := UInt8.toNat_lt (s.get! (0 + 2))
    have b3 := UInt8.toNat_lt (s.get! (0 + 3))
    unfold Lib.decodeN
    repeat' split
    all_goals (simp only; omega)
theorem charL_bounds (x : List UInt8) : (charL x).1 ≤ 1114111 ∧ (charL x).2 ≤ x.length ∧ (charL x).2 ≤ 4 := by
  unfold charL
  split
  · exact ⟨by decide, Nat.zero_le _, by decide⟩
  · have := go_bounds (B x)
    rw [bsize] at this
    exact this
theorem below_drewN {B0 : Nat} {a w : World} (h : Below B0 a w) : ∀ {n : Nat}, Below B0 a (w.drewN n) := fun {_} => ⟨h.os, h.tape, h.output, h.size, h.block⟩
def Two (p q : Int) (w : World) (e : Ending) (w' : World) : Prop := e = .returned (.tuple #[.int .i64 p, .int .i64 q]) ∧ Below w.heap.size w w'
theorem decode_b (x : List UInt8) (w : World) (hE : Env w) :
    Calls Tryz.prog 63 #[.string (B x)] w fun e w' => e = .returned (.tuple #[.int .i32 (Lib.decodeGo (B x)).1, .int .i64 (Lib.decodeGo (B x)).2]) ∧ Below w.heap.size w w' :=
  Tryz.utf8_DecodeRuneInString (B x) w hE.tabs

set_option maxRecDepth 100000 in
set_option maxHeartbeats 1000000 in
theorem character_any (s : ByteArray) (z : Int) (i : Nat) (w : World) (hz : z = (i : Int)) (hE : Env w) (hi : i ≤ s.size) :
    Calls Tryz.prog 101 #[.string s, .int .i64 z] w (Two ((charL (s.data.toList.drop i)).1 : Nat) ((charL (s.data.toList.drop i)).2 : Nat) w) := by
  have hsl : ∀ u : World, (Instr.slice 9 (.string s) (some (.int .i64 z)) none none).run Tryz.prog u = .ok (.string (B (s.data.toList.drop i))) u := fun u => by rw [hz]; exact slice_from s i hi u
  obtain ⟨x, hx⟩ : ∃ x, s.data.toList.drop i = x := ⟨_, rfl⟩
  rw [hx] at hsl ⊢
  clear hx hz
  have HD := Lib.hid (decode_b x)
  obtain ⟨hb1, _, hb3⟩ := go_bounds (B x)
  have HC : Hid (charL x = if (Lib.decodeGo (B x)).1 = 65533 ∧ (Lib.decodeGo (B x)).2 < 2 then (0, 0) else Lib.decodeGo (B x)) := Lib.hid rfl
  obtain ⟨r, n, hrn⟩ : ∃ r n, Lib.decodeGo (B x) = (r, n) := ⟨_, _, rfl⟩
  rw [hrn] at HD HC hb1 hb3
  simp only [] at HD HC hb1 hb3
  clear hrn
  have HE := Lib.hid hE
  clear hE
  by_cases h1 : r = 65533
  · have d1 : ((r : Int) == 65533) = true := by rw [h1]; rfl
    by_cases h2 : n < 2
    · have d2 : decide ((n : Int) < 2) = true := decide_eq_true (by omega)
      have HF : Hid (charL x = (0, 0)) := Lib.hid (by rw [HC.out, if_pos ⟨h1, h2⟩])
      clear HC h1
      go_enter Tryz.func101, Tryz.ntmps101
      go_wp2_with (go_at_call 63; refine (HD.out _ HE.out).mono ?_; rintro e w1 ⟨rfl, hb⟩; have HB := Lib.hid hb; clear hb)
      go_ret2
      exact ⟨by rw [HF.out]; rfl, HB.out⟩
    · have d2 : decide ((n : Int) < 2) = false := decide_eq_false (by omega)
      have HF : Hid (charL x = (r, n)) := Lib.hid (by rw [HC.out, if_neg (fun g => h2 g.2)])
      clear HC h1
      go_enter Tryz.func101, Tryz.ntmps101
      go_wp2_with (go_at_call 63; refine (HD.out _ HE.out).mono ?_; rintro e w1 ⟨rfl, hb⟩; have HB := Lib.hid hb; clear hb)
      go_ret2
      exact ⟨by rw [HF.out]; rfl, HB.out⟩
  · have d1 : ((r : Int) == 65533) = false := beq_eq_false_iff_ne.2 (by omega)
    have HF : Hid (charL x = (r, n)) := Lib.hid (by rw [HC.out, if_neg (fun g => h1 g.1)])
    clear HC h1
    go_enter Tryz.func101, Tryz.ntmps101
    go_wp2_with (go_at_call 63; refine (HD.out _ HE.out).mono ?_; rintro e w1 ⟨rfl, hb⟩; have HB := Lib.hid hb; clear hb)
    go_ret2
    exact ⟨by rw [HF.out]; rfl, HB.out⟩

/-- What stands behind a literal's character or escape: its number, if that is the quote alone. -/
def finOf (l : List UInt8) (u : Int) (n : Nat) : Int × Int × Nat := if n = 0 ∨ l.drop (1 + n) ≠ [39] then (0, 107, 0) else (u, 0, 0)
/-- What a rune literal says. -/
def runeOf (l : List UInt8) : Int × Int × Nat := match l with
  | a :: c :: _ => if a = 39 then
      (if c = 92 then (if (escV l 1 39).2.2 = 0 then (0, 108, 1) else finOf l (escV l 1 39).1 (escV l 1 39).2.2)
       else if c = 39 ∨ c = 10 then (0, 107, 0) else finOf l ((charL (l.drop 1)).1 : Nat) (charL (l.drop 1)).2)
    else (0, 107, 0)
  | _ => (0, 107, 0)
theorem rune_short {l : List UInt8} (h : l.length < 2) : runeOf l = (0, 107, 0) := by
  match l, h with
  | [], _ => rfl
  | [_], _ => rfl
theorem rune_long {l : List UInt8} (h : 1 < l.length) : runeOf l = if l[0] = 39 then
      (if l[1] = 92 then (if (escV l 1 39).2.2 = 0 then (0, 108, 1) else finOf l (escV l 1 39).1 (escV l 1 39).2.2)
       else if l[1] = 39 ∨ l[1] = 10 then (0, 107, 0) else finOf l ((charL (l.drop 1)).1 : Nat) (charL (l.drop 1)).2)
    else (0, 107, 0) := by
  match l, h with
  | a :: c :: _, _ => rfl
def Runed (v : Int × Int × Nat) (w : World) (e : Ending) (w' : World) : Prop := e = .returned (.tuple #[.int .i64 v.1, .int .i64 v.2.1, .int .i64 v.2.2]) ∧ Below w.heap.size w w'

set_option maxRecDepth 100000 in
set_option maxHeartbeats 4000000 in
theorem rune_any (s : ByteArray) (w : World) (hE : Env w) (hs : s.size ≤ 140737488351232) :
    Calls Tryz.prog 83 #[.string s] w (Runed (runeOf s.data.toList) w) := by
  by_cases h2 : s.size < 2
  · have hd : decide ((s.size : Int) < 2) = true := decide_eq_true (by omega)
    have HF := Lib.hid (rune_short (l := s.data.toList) (by rw [sdata]; exact h2))
    go_enter Tryz.func83, Tryz.ntmps83
    go_wp2_with fail
    go_ret3
    exact ⟨by rw [HF.out]; rfl, Below.refl _ _⟩
  have hd : decide ((s.size : Int) < 2) = false := decide_eq_false (by omega)
  have h0 : 0 < s.size := by omega
  have h1 : 1 < s.size := by omega
  have e := rune_long (l := s.data.toList) (by rw [sdata]; exact h1)
  rw [at_data h0, at_data h1] at e
  obtain ⟨a, ha⟩ : ∃ a, s[0]'h0 = a := ⟨_, rfl⟩
  obtain ⟨c, hc⟩ : ∃ c, s[1]'h1 = c := ⟨_, rfl⟩
  rw [ha, hc] at e
  by_cases ca : a = 39
  · have za : ((a.toNat : Int) != 39) = false := byte_eq' (d := 39) ca
    rw [if_pos ca] at e
    clear ca
    by_cases c92 : c = 92
    · have z92 : ((c.toNat : Int) == 92) = true := byte_eq (d := 92) c92
      rw [if_pos c92] at e
      have hfit := escV_fit s.data.toList 1 39
      obtain ⟨n, r, wd, hv⟩ : ∃ n r wd, escV s.data.toList 1 39 = (n, r, wd) := ⟨_, _, _, rfl⟩
      rw [hv] at e hfit
      simp only [] at e
      have HV := Lib.hid hv
      have HFIT := Lib.hid hfit
      clear c92 hv hfit
      by_cases hw : wd = 0
      · have hwz : ((wd : Int) == 0) = true := by rw [hw]; rfl
        rw [if_pos hw] at e
        have HF := Lib.hid e
        clear e HFIT
        go_enter Tryz.func83, Tryz.ntmps83
        go_wp2_with (go_at_call 100; refine (escapeAt_any s 1 39 _ (by omega) h1).mono ?_; rintro e w1 ⟨rfl, hb⟩; rw [HV.out]; have HB1 := Lib.hid hb; obtain ⟨hbc, hbf⟩ := bcell hb; have hbz := hb.size; clear hb)
        go_ret3
        exact ⟨by rw [HF.out]; rfl, HB1.out.alloc hbz _⟩
      · have hwz : ((wd : Int) == 0) = false := beq_eq_false_iff_ne.2 (by omega)
        rw [if_neg hw] at e
        obtain ⟨_, hfw⟩ := HFIT.out
        obtain ⟨f1, _, _⟩ := hfw hw
        simp only [] at f1
        rw [sdata] at f1
        have hsl : ∀ u : World, (Instr.slice 9 (.string s) (some (.int .i64 (1 + (wd : Int)))) none none).run Tryz.prog u = .ok (.string (B (s.data.toList.drop (1 + wd)))) u := fun u => by
          have := slice_from s (1 + wd) f1 u
          rwa [Int.natCast_add] at this
        obtain ⟨y, hy⟩ : ∃ y, s.data.toList.drop (1 + wd) = y := ⟨_, rfl⟩
        rw [hy] at hsl
        unfold finOf at e
        rw [hy] at e
        by_cases hq : y = [39]
        · have hqz : ((B y).toList == [39]) = true := by rw [blist, hq]; rfl
          have HF : Hid (runeOf s.data.toList = (n, 0, 0)) := Lib.hid (by rw [e, if_neg (by simp only [not_or]; exact ⟨hw, by simpa using hq⟩)])
          clear e HFIT hw hy hq hfw
          go_enter Tryz.func83, Tryz.ntmps83
          go_wp2_with (go_at_call 100; refine (escapeAt_any s 1 39 _ (by omega) h1).mono ?_; rintro e w1 ⟨rfl, hb⟩; rw [HV.out]; have HB1 := Lib.hid hb; obtain ⟨hbc, hbf⟩ := bcell hb; have hbz := hb.size; clear hb)
          go_quiet (fail)
          go_wp2_with fail
          go_ret3
          exact ⟨by rw [HF.out]; rfl, below_drewN (HB1.out.alloc hbz _)⟩
        · have hqz : ((B y).toList == [39]) = false := by rw [blist]; simpa using hq
          have HF : Hid (runeOf s.data.toList = (0, 107, 0)) := Lib.hid (by rw [e, if_pos (.inr hq)])
          clear e HFIT hw hy hq hfw
          go_enter Tryz.func83, Tryz.ntmps83
          go_wp2_with (go_at_call 100; refine (escapeAt_any s 1 39 _ (by omega) h1).mono ?_; rintro e w1 ⟨rfl, hb⟩; rw [HV.out]; have HB1 := Lib.hid hb; obtain ⟨hbc, hbf⟩ := bcell hb; have hbz := hb.size; clear hb)
          go_quiet (fail)
          go_wp2_with fail
          go_ret3
          exact ⟨by rw [HF.out]; rfl, below_drewN (HB1.out.alloc hbz _)⟩
    · have z92 : ((c.toNat : Int) == 92) = false := byte_ne (d := 92) c92
      rw [if_neg c92] at e
      by_cases c39 : c = 39
      · have z39 : ((c.toNat : Int) == 39) = true := byte_eq (d := 39) c39
        rw [if_pos (.inl c39)] at e
        have HF := Lib.hid e
        clear e c39 c92
        go_enter Tryz.func83, Tryz.ntmps83
        go_wp2_with fail
        go_ret3
        exact ⟨by rw [HF.out]; rfl, Below.refl _ _⟩
      have z39 : ((c.toNat : Int) == 39) = false := byte_ne (d := 39) c39
      by_cases c10 : c = 10
      · have z10 : ((c.toNat : Int) == 10) = true := byte_eq (d := 10) c10
        rw [if_pos (.inr c10)] at e
        have HF := Lib.hid e
        clear e c39 c92 c10
        go_enter Tryz.func83, Tryz.ntmps83
        go_wp2_with fail
        go_ret3
        exact ⟨by rw [HF.out]; rfl, Below.refl _ _⟩
      have z10 : ((c.toNat : Int) == 10) = false := byte_ne (d := 10) c10
      rw [if_neg (fun g => g.elim c39 c10)] at e
      clear c39 c92 c10
      obtain ⟨b1, b2, b3⟩ := charL_bounds (s.data.toList.drop 1)
      rw [List.length_drop, sdata] at b2
      obtain ⟨n, wd, hv⟩ : ∃ n wd, charL (s.data.toList.drop 1) = (n, wd) := ⟨_, _, rfl⟩
      rw [hv] at e b1 b2 b3
      simp only [] at e b1 b2 b3
      have HV := Lib.hid hv
      have HEn := Lib.hid hE
      clear hv hE
      unfold finOf at e
      by_cases hw : wd = 0
      · subst hw
        rw [if_pos (.inl rfl)] at e
        have HF := Lib.hid e
        clear e
        go_enter Tryz.func83, Tryz.ntmps83
        go_wp2_with (go_at_call 101; refine (character_any s _ 1 _ rfl HEn.out (by omega)).mono ?_; rintro e w1 ⟨rfl, hb⟩; rw [HV.out]; have HB := Lib.hid hb; clear hb)
        go_ret3
        exact ⟨by rw [HF.out]; rfl, HB.out⟩
      · have hwz : ((wd : Int) == 0) = false := beq_eq_false_iff_ne.2 (by omega)
        have f1 : 1 + wd ≤ s.size := by omega
        have hsl : ∀ u : World, (Instr.slice 9 (.string s) (some (.int .i64 (1 + (wd : Int)))) none none).run Tryz.prog u = .ok (.string (B (s.data.toList.drop (1 + wd)))) u := fun u => by
          have := slice_from s (1 + wd) f1 u
          rwa [Int.natCast_add] at this
        obtain ⟨y, hy⟩ : ∃ y, s.data.toList.drop (1 + wd) = y := ⟨_, rfl⟩
        rw [hy] at hsl e
        by_cases hq : y = [39]
        · have hqz : ((B y).toList == [39]) = true := by rw [blist, hq]; rfl
          have HF : Hid (runeOf s.data.toList = (((n : Nat) : Int), 0, 0)) := Lib.hid (by rw [e, if_neg (by simp only [not_or]; exact ⟨hw, by simpa using hq⟩)])
          clear e hw hy hq
          go_enter Tryz.func83, Tryz.ntmps83
          go_wp2_with (go_at_call 101; refine (character_any s _ 1 _ rfl HEn.out (by omega)).mono ?_; rintro e w1 ⟨rfl, hb⟩; rw [HV.out]; have HB := Lib.hid hb; clear hb)
          go_ret3
          exact ⟨by rw [HF.out]; rfl, HB.out⟩
        · have hqz : ((B y).toList == [39]) = false := by rw [blist]; simpa using hq
          have HF : Hid (runeOf s.data.toList = (0, 107, 0)) := Lib.hid (by rw [e, if_pos (.inr hq)])
          clear e hw hy hq
          go_enter Tryz.func83, Tryz.ntmps83
          go_wp2_with (go_at_call 101; refine (character_any s _ 1 _ rfl HEn.out (by omega)).mono ?_; rintro e w1 ⟨rfl, hb⟩; rw [HV.out]; have HB := Lib.hid hb; clear hb)
          go_ret3
          exact ⟨by rw [HF.out]; rfl, HB.out⟩
  · have za : ((a.toNat : Int) != 39) = true := byte_ne' (d := 39) ca
    rw [if_neg ca] at e
    have HF := Lib.hid e
    clear e ca
    go_enter Tryz.func83, Tryz.ntmps83
    go_wp2_with fail
    go_ret3
    exact ⟨by rw [HF.out]; rfl, Below.refl _ _⟩
end Go.Proofs.YtjbamlmdeopcaaaGreatDoor.tok
end

section
/-
  Plain arithmetic on UTF-8: the width that a lead byte and its followers have, against the model's decode.
-/
namespace Go.Proofs.YtjbamlmdeopcaaaGreatDoor.dec
open Go.RowKit Go.Lib

/-- What the reference's Width says: 0 of a wrong byte, else the decode's width. -/
def widthN (n b0 b1 b2 b3 : Nat) : Nat := if decodeN n b0 b1 b2 b3 = (65533, 1) then 0 else (decodeN n b0 b1 b2 b3).2
def between (lo hi b : Nat) : Bool := decide (lo ≤ b) && decide (b ≤ hi)

theorem w_ascii (n b0 b1 b2 b3 : Nat) (h : b0 < 128) : widthN n b0 b1 b2 b3 = 1 := by
  unfold widthN
  have : decodeN n b0 b1 b2 b3 = (b0, 1) := by simp [decodeN, h]
  rw [this, if_neg (by simp; omega)]
theorem w_bad (n b0 b1 b2 b3 : Nat) (h : 128 ≤ b0) (h' : b0 < 194 ∨ 244 < b0) (hb : b0 < 256) : widthN n b0 b1 b2 b3 = 0 := by
  unfold widthN
  have : decodeN n b0 b1 b2 b3 = (65533, 1) := by
    unfold decodeN
    repeat' split
    all_goals first | rfl | (exfalso; omega)
  rw [this, if_pos rfl]
theorem pick_width {c : Prop} [Decidable c] {x : Nat × Nat} {v k : Nat} (hk : k ≠ 1) (h : x = if c then (v, k) else (65533, 1)) : (if x = (65533, 1) then 0 else x.2) = if c then k else 0 := by
  subst h
  by_cases hc : c
  · rw [if_pos hc, if_pos hc, if_neg (fun e => hk (Prod.mk.inj e).2)]
  · rw [if_neg hc, if_neg hc, if_pos rfl]
theorem w_two (n b0 b1 b2 b3 lo hi : Nat) (hs : slowN n b0 b1 b2 b3 2 lo hi = decodeN n b0 b1 b2 b3) :
    widthN n b0 b1 b2 b3 = if 2 ≤ n ∧ lo ≤ b1 ∧ b1 ≤ hi then 2 else 0 := by
  unfold widthN
  rw [← hs]
  refine pick_width (v := b0 % 32 * 64 + b1 % 64) (by omega) ?_
  unfold slowN
  by_cases c : 2 ≤ n ∧ lo ≤ b1 ∧ b1 ≤ hi
  · rw [if_pos c, if_neg (by omega), if_neg (by omega), if_pos (by omega)]
  · rw [if_neg c]
    by_cases a : n < 2
    · rw [if_pos a]
    · rw [if_neg a, if_pos (by omega)]
theorem w_three (n b0 b1 b2 b3 lo hi : Nat) (hs : slowN n b0 b1 b2 b3 3 lo hi = decodeN n b0 b1 b2 b3) :
    widthN n b0 b1 b2 b3 = if 3 ≤ n ∧ (lo ≤ b1 ∧ b1 ≤ hi) ∧ 128 ≤ b2 ∧ b2 ≤ 191 then 3 else 0 := by
  unfold widthN
  rw [← hs]
  refine pick_width (v := b0 % 16 * 4096 + b1 % 64 * 64 + b2 % 64) (by omega) ?_
  unfold slowN
  by_cases c : 3 ≤ n ∧ (lo ≤ b1 ∧ b1 ≤ hi) ∧ 128 ≤ b2 ∧ b2 ≤ 191
  · rw [if_pos c, if_neg (by omega), if_neg (by omega), if_neg (by omega), if_neg (by omega), if_pos (by omega)]
  · rw [if_neg c]
    by_cases a : n < 3
    · rw [if_pos a]
    · rw [if_neg a]
      by_cases d : b1 < lo ∨ hi < b1
      · rw [if_pos d]
      · rw [if_neg d, if_neg (by omega), if_pos (by omega)]
theorem w_four (n b0 b1 b2 b3 lo hi : Nat) (hs : slowN n b0 b1 b2 b3 4 lo hi = decodeN n b0 b1 b2 b3) :
    widthN n b0 b1 b2 b3 = if 4 ≤ n ∧ (lo ≤ b1 ∧ b1 ≤ hi) ∧ (128 ≤ b2 ∧ b2 ≤ 191) ∧ 128 ≤ b3 ∧ b3 ≤ 191 then 4 else 0 := by
  unfold widthN
  rw [← hs]
  refine pick_width (v := b0 % 8 * 262144 + b1 % 64 * 4096 + b2 % 64 * 64 + b3 % 64) (by omega) ?_
  unfold slowN
  by_cases c : 4 ≤ n ∧ (lo ≤ b1 ∧ b1 ≤ hi) ∧ (128 ≤ b2 ∧ b2 ≤ 191) ∧ 128 ≤ b3 ∧ b3 ≤ 191
  · rw [if_pos c, if_neg (by omega), if_neg (by omega), if_neg (by omega), if_neg (by omega), if_neg (by omega), if_neg (by omega)]
  · rw [if_neg c]
    by_cases a : n < 4
    · rw [if_pos a]
    · rw [if_neg a]
      by_cases d : b1 < lo ∨ hi < b1
      · rw [if_pos d]
      · rw [if_neg d, if_neg (by omega)]
        by_cases g : b2 < 128 ∨ 191 < b2
        · rw [if_pos g]
        · rw [if_neg g, if_neg (by omega), if_pos (by omega)]

/-- A follower: is there a byte, from lo to hi? -/
def moreB (s : ByteArray) (i lo hi : Nat) : Bool := decide (i < s.size ∧ lo ≤ (s.get! i).toNat ∧ (s.get! i).toNat ≤ hi)
theorem moreB_yes {s : ByteArray} {i lo hi : Nat} (h : moreB s i lo hi = true) : i < s.size ∧ lo ≤ (s.get! i).toNat ∧ (s.get! i).toNat ≤ hi := of_decide_eq_true h
theorem moreB_no {s : ByteArray} {i lo hi : Nat} (h : moreB s i lo hi = false) : ¬ (i < s.size ∧ lo ≤ (s.get! i).toNat ∧ (s.get! i).toNat ≤ hi) := of_decide_eq_false h
/-- The width at a place of a text. -/
def widthS (s : ByteArray) (i : Nat) : Nat := widthN (s.size - i) (s.get! i).toNat (s.get! (i + 1)).toNat (s.get! (i + 2)).toNat (s.get! (i + 3)).toNat
theorem widthS_eq (s : ByteArray) (i : Nat) : widthS s i = if Utf8.decode s i = (65533, 1) then 0 else (Utf8.decode s i).2 := by
  rw [decode_at]; rfl
theorem byte_lt (s : ByteArray) (i : Nat) : (s.get! i).toNat < 256 := UInt8.toNat_lt _

section
variable {s : ByteArray} {i : Nat}
theorem ws_ascii (h : (s.get! i).toNat < 128) : widthS s i = 1 := w_ascii _ _ _ _ _ h
theorem ws_bad (h : 128 ≤ (s.get! i).toNat) (h' : (s.get! i).toNat < 194 ∨ 244 < (s.get! i).toNat) : widthS s i = 0 := w_bad _ _ _ _ _ h h' (byte_lt s i)
theorem ws_two (hi : i < s.size) (h : 194 ≤ (s.get! i).toNat) (h' : (s.get! i).toNat < 224) : widthS s i = if moreB s (i + 1) 128 191 then 2 else 0 := by
  unfold widthS
  rw [w_two _ _ _ _ _ _ _ (slow_C2 _ _ _ _ _ (by omega) (byte_lt _ _) (byte_lt _ _) (byte_lt _ _) ⟨h, h'⟩)]
  cases hm : moreB s (i + 1) 128 191 with
  | true => have := moreB_yes hm; rw [if_pos (by omega), if_pos rfl]
  | false => have := moreB_no hm; rw [if_neg (by omega)]; rfl
theorem ws_three (lo hi : Nat) (hi' : i < s.size) (hc : slowN (s.size - i) (s.get! i).toNat (s.get! (i + 1)).toNat (s.get! (i + 2)).toNat (s.get! (i + 3)).toNat 3 lo hi = decodeN (s.size - i) (s.get! i).toNat (s.get! (i + 1)).toNat (s.get! (i + 2)).toNat (s.get! (i + 3)).toNat) :
    widthS s i = if moreB s (i + 1) lo hi && moreB s (i + 2) 128 191 then 3 else 0 := by
  unfold widthS
  rw [w_three _ _ _ _ _ _ _ hc]
  cases hm : moreB s (i + 1) lo hi with
  | false => have := moreB_no hm; rw [if_neg (by omega)]; rfl
  | true =>
    have := moreB_yes hm
    cases hn : moreB s (i + 2) 128 191 with
    | true => have := moreB_yes hn; rw [if_pos (by omega)]; rfl
    | false => have := moreB_no hn; rw [if_neg (by omega)]; rfl
theorem ws_four (lo hi : Nat) (hi' : i < s.size) (hc : slowN (s.size - i) (s.get! i).toNat (s.get! (i + 1)).toNat (s.get! (i + 2)).toNat (s.get! (i + 3)).toNat 4 lo hi = decodeN (s.size - i) (s.get! i).toNat (s.get! (i + 1)).toNat (s.get! (i + 2)).toNat (s.get! (i + 3)).toNat) :
    widthS s i = if moreB s (i + 1) lo hi && moreB s (i + 2) 128 191 && moreB s (i + 3) 128 191 then 4 else 0 := by
  unfold widthS
  rw [w_four _ _ _ _ _ _ _ hc]
  cases hm : moreB s (i + 1) lo hi with
  | false => have := moreB_no hm; rw [if_neg (by omega)]; rfl
  | true =>
    have := moreB_yes hm
    cases hn : moreB s (i + 2) 128 191 with
    | false => have := moreB_no hn; rw [if_neg (by omega)]; rfl
    | true =>
      have := moreB_yes hn
      cases ho : moreB s (i + 3) 128 191 with
      | true => have := moreB_yes ho; rw [if_pos (by omega)]; rfl
      | false => have := moreB_no ho; rw [if_neg (by omega)]; rfl
theorem ws_E0 (hi : i < s.size) (h : (s.get! i).toNat = 224) : widthS s i = if moreB s (i + 1) 160 191 && moreB s (i + 2) 128 191 then 3 else 0 :=
  ws_three _ _ hi (slow_E0 _ _ _ _ _ (by omega) (byte_lt _ _) (byte_lt _ _) (byte_lt _ _) h)
theorem ws_ED (hi : i < s.size) (h : (s.get! i).toNat = 237) : widthS s i = if moreB s (i + 1) 128 159 && moreB s (i + 2) 128 191 then 3 else 0 :=
  ws_three _ _ hi (slow_ED _ _ _ _ _ (by omega) (byte_lt _ _) (byte_lt _ _) (byte_lt _ _) h)
theorem ws_E1 (hi : i < s.size) (h : 224 < (s.get! i).toNat) (h' : (s.get! i).toNat < 240) (h2 : (s.get! i).toNat ≠ 237) : widthS s i = if moreB s (i + 1) 128 191 && moreB s (i + 2) 128 191 then 3 else 0 :=
  ws_three _ _ hi (slow_E1 _ _ _ _ _ (by omega) (byte_lt _ _) (byte_lt _ _) (byte_lt _ _) (by omega))
theorem ws_F0 (hi : i < s.size) (h : (s.get! i).toNat = 240) : widthS s i = if moreB s (i + 1) 144 191 && moreB s (i + 2) 128 191 && moreB s (i + 3) 128 191 then 4 else 0 :=
  ws_four _ _ hi (slow_F0 _ _ _ _ _ (by omega) (byte_lt _ _) (byte_lt _ _) (byte_lt _ _) h)
theorem ws_F4 (hi : i < s.size) (h : (s.get! i).toNat = 244) : widthS s i = if moreB s (i + 1) 128 143 && moreB s (i + 2) 128 191 && moreB s (i + 3) 128 191 then 4 else 0 :=
  ws_four _ _ hi (slow_F4 _ _ _ _ _ (by omega) (byte_lt _ _) (byte_lt _ _) (byte_lt _ _) h)
theorem ws_F1 (hi : i < s.size) (h : 240 < (s.get! i).toNat) (h' : (s.get! i).toNat < 244) : widthS s i = if moreB s (i + 1) 128 191 && moreB s (i + 2) 128 191 && moreB s (i + 3) 128 191 then 4 else 0 :=
  ws_four _ _ hi (slow_F1 _ _ _ _ _ (by omega) (byte_lt _ _) (byte_lt _ _) (byte_lt _ _) ⟨by omega, h'⟩)
end
end Go.Proofs.YtjbamlmdeopcaaaGreatDoor.dec
end

section
/-
  Contracts of the small functions: fault, more, Width.
-/
namespace Go.Proofs.YtjbamlmdeopcaaaGreatDoor.dec
open Go.RowKit Go.Lib

def faultZ (r k p : Int) : Int := if r = 65533 ∧ k = 1 then 101 else if r = 0 then 102 else if r = 65279 ∧ 0 < p then 103 else 0

set_option maxHeartbeats 400000 in
theorem fault_any (r k p : Int) (w : World) :
    Calls Tryz.prog 87 #[.int .i32 r, .int .i64 k, .int .i64 p] w fun e w' => e = .returned (.int .i64 (faultZ r k p)) ∧ w = w' := by
  by_cases h1 : r = 65533
  · subst h1
    by_cases h2 : k = 1
    · subst h2
      go_enter Tryz.func87, Tryz.ntmps87
      go_wp2
      go_ret
      exact ⟨rfl, rfl⟩
    · have h2' : (k == 1) = false := beq_eq_false_iff_ne.2 h2
      have e : faultZ 65533 k p = 0 := by unfold faultZ; rw [if_neg (by omega), if_neg (by omega), if_neg (by omega)]
      rw [e]
      clear e h2
      go_enter Tryz.func87, Tryz.ntmps87
      go_wp2
      go_ret
      exact ⟨rfl, rfl⟩
  · have h1' : (r == 65533) = false := beq_eq_false_iff_ne.2 h1
    by_cases h3 : r = 0
    · subst h3
      have e : faultZ 0 k p = 102 := by unfold faultZ; rw [if_neg (by omega), if_pos (by omega)]
      rw [e]
      clear e h1
      go_enter Tryz.func87, Tryz.ntmps87
      go_wp2
      go_ret
      exact ⟨rfl, rfl⟩
    · have h3' : (r == 0) = false := beq_eq_false_iff_ne.2 h3
      by_cases h4 : r = 65279
      · subst h4
        by_cases h5 : 0 < p
        · have e : faultZ 65279 k p = 103 := by unfold faultZ; rw [if_neg (by omega), if_neg (by omega), if_pos (by omega)]
          rw [e]
          clear e h1 h3
          have h5' : decide ((0 : Int) < p) = true := decide_eq_true h5
          go_enter Tryz.func87, Tryz.ntmps87
          go_wp2
          go_ret
          exact ⟨rfl, rfl⟩
        · have e : faultZ 65279 k p = 0 := by unfold faultZ; rw [if_neg (by omega), if_neg (by omega), if_neg (by omega)]
          rw [e]
          clear e h1 h3
          have h5' : decide ((0 : Int) < p) = false := decide_eq_false h5
          go_enter Tryz.func87, Tryz.ntmps87
          go_wp2
          go_ret
          exact ⟨rfl, rfl⟩
      · have h4' : (r == 65279) = false := beq_eq_false_iff_ne.2 h4
        have e : faultZ r k p = 0 := by unfold faultZ; rw [if_neg (by omega), if_neg (by omega), if_neg (by omega)]
        rw [e]
        clear e h1 h3 h4
        go_enter Tryz.func87, Tryz.ntmps87
        go_wp2
        go_ret
        exact ⟨rfl, rfl⟩

theorem get_lt (s : ByteArray) (i : Nat) (h : i < s.size) : s.get! i = s[i] := by
  show s.data[i]! = s.data[i]
  exact getElem!_pos s.data i h

/-- The same follower at an int's place. -/
def moreZ (s : ByteArray) (i lo hi : Int) : Bool := moreB s i.toNat lo.toNat hi.toNat

set_option maxHeartbeats 400000 in
theorem more_any (s : ByteArray) (i : Int) (lo hi : Int) (w : World) (hi0 : 0 ≤ i) (h0 : 0 ≤ lo) (h1 : 0 ≤ hi) :
    Calls Tryz.prog 93 #[.string s, .int .i64 i, .int .u8 lo, .int .u8 hi] w fun e w' => e = .returned (.bool (moreZ s i lo hi)) ∧ w = w' := by
  obtain ⟨n, rfl⟩ := Int.eq_ofNat_of_zero_le hi0
  show Calls _ _ _ _ fun e w' => e = .returned (.bool (moreB s n lo.toNat hi.toNat)) ∧ w = w'
  by_cases hi' : n < s.size
  · have hg : s.get! n = s[n] := get_lt s n hi'
    by_cases hl : lo ≤ (s[n].toNat : Int)
    · by_cases hh : (s[n].toNat : Int) ≤ hi
      · have e : moreB s n lo.toNat hi.toNat = true := decide_eq_true (by rw [hg]; omega)
        rw [e]
        clear e hg
        go_enter Tryz.func93, Tryz.ntmps93
        go_wp2
        go_ret
        exact ⟨rfl, rfl⟩
      · have e : moreB s n lo.toNat hi.toNat = false := decide_eq_false (by rw [hg]; omega)
        rw [e]
        clear e hg
        go_enter Tryz.func93, Tryz.ntmps93
        go_wp2
        go_ret
        exact ⟨rfl, rfl⟩
    · have e : moreB s n lo.toNat hi.toNat = false := decide_eq_false (by rw [hg]; omega)
      rw [e]
      clear e hg
      go_enter Tryz.func93, Tryz.ntmps93
      go_wp2
      go_ret
      exact ⟨rfl, rfl⟩
  · have e : moreB s n lo.toNat hi.toNat = false := decide_eq_false (by omega)
    rw [e]
    clear e
    have hd : decide ((n : Int) < (s.size : Int)) = false := decide_eq_false (by omega)
    go_enter Tryz.func93, Tryz.ntmps93
    go_wp2
    go_ret
    exact ⟨rfl, rfl⟩
end Go.Proofs.YtjbamlmdeopcaaaGreatDoor.dec
end

section
/-
  Plain: the list of what is wrong in a text, place by place.
-/
namespace Go.Proofs.YtjbamlmdeopcaaaGreatDoor.dec
open Go.RowKit Go.Lib

def runeAt (s : ByteArray) (i : Nat) : Nat := (Utf8.decode s i).1
def wideAt (s : ByteArray) (i : Nat) : Nat := (Utf8.decode s i).2
def codeAt (s : ByteArray) (i : Nat) : Int := faultZ (runeAt s i) (wideAt s i) i

structure Dg where
  code : Int
  start : Nat
  stop : Nat

def headOf (s : ByteArray) (i : Nat) : List Dg := if codeAt s i = 0 then [] else [⟨codeAt s i, i, i + wideAt s i⟩]
def rest (s : ByteArray) : Nat → Nat → List Dg
  | 0, _ => []
  | f + 1, i => if i < s.size then headOf s i ++ rest s f (i + wideAt s i) else []
def diags (s : ByteArray) (i : Nat) : List Dg := rest s (s.size - i) i

theorem wide_pos (s : ByteArray) (i : Nat) : 1 ≤ wideAt s i := width_pos s i
theorem rest_fuel (s : ByteArray) : ∀ (f g i : Nat), s.size - i ≤ f → s.size - i ≤ g → rest s f i = rest s g i := by
  intro f
  induction f with
  | zero =>
    intro g i h _
    cases g with
    | zero => rfl
    | succ g => simp only [rest]; rw [if_neg (by omega)]
  | succ f ih =>
    intro g i h hg
    cases g with
    | zero => simp only [rest]; rw [if_neg (by omega)]
    | succ g =>
      have := wide_pos s i
      simp only [rest]
      by_cases c : i < s.size
      · rw [if_pos c, if_pos c, ih g (i + wideAt s i) (by omega) (by omega)]
      · rw [if_neg c, if_neg c]
theorem diags_end (s : ByteArray) (i : Nat) (h : ¬ i < s.size) : diags s i = [] := by
  unfold diags
  rw [show s.size - i = 0 by omega]
  rfl
theorem diags_step (s : ByteArray) (i : Nat) (h : i < s.size) : diags s i = headOf s i ++ diags s (i + wideAt s i) := by
  unfold diags
  have := wide_pos s i
  obtain ⟨f, hf⟩ : ∃ f, s.size - i = f + 1 := ⟨s.size - i - 1, by omega⟩
  rw [hf]
  simp only [rest]
  rw [if_pos h, rest_fuel s f (s.size - (i + wideAt s i)) _ (by omega) (by omega)]
theorem wide_le (s : ByteArray) (i : Nat) (h : i < s.size) : i + wideAt s i ≤ s.size := by
  have e : wideAt s i = (decodeN (s.size - i) (s.get! i).toNat (s.get! (i + 1)).toNat (s.get! (i + 2)).toNat (s.get! (i + 3)).toNat).2 := by unfold wideAt; rw [decode_at]
  rw [e]
  unfold decodeN
  repeat' split
  all_goals (simp only; omega)
theorem rune_lt (s : ByteArray) (i : Nat) : runeAt s i ≤ 1114111 := rune_le s i

/-- The cells of such a list. -/
def cellsOf (l : List Dg) : List Value := l.flatMap fun d => [.int .i64 d.code, .int .i64 d.start, .int .i64 d.stop]
theorem cellsOf_append (a b : List Dg) : cellsOf (a ++ b) = cellsOf a ++ cellsOf b := by simp [cellsOf]
theorem cellsOf_length (l : List Dg) : (cellsOf l).length = l.length * 3 := by
  induction l with
  | nil => rfl
  | cons d l ih => simp only [cellsOf, List.flatMap_cons, List.length_append, List.length_cons, List.length_nil] at *; omega

/-- How far a walk through the text has come: what it has told, and what is still to be told. -/
structure Far (s : ByteArray) (i : Nat) (D : List Dg) : Prop where
  le : i ≤ s.size
  told : D ++ diags s i = diags s 0
  few : D.length ≤ i
theorem Far.zero (s : ByteArray) : Far s 0 [] := ⟨Nat.zero_le _, rfl, Nat.le_refl _⟩
theorem Far.none {s : ByteArray} {i : Nat} {D : List Dg} (h : Far s i D) (hi : i < s.size) (hc : codeAt s i = 0) : Far s (i + wideAt s i) D :=
  ⟨wide_le s i hi, by rw [← h.told, diags_step s i hi, headOf, if_pos hc]; rfl, by have := h.few; omega⟩
theorem Far.some {s : ByteArray} {i : Nat} {D : List Dg} (h : Far s i D) (hi : i < s.size) (hc : codeAt s i ≠ 0) : Far s (i + wideAt s i) (D ++ [⟨codeAt s i, i, i + wideAt s i⟩]) :=
  ⟨wide_le s i hi, by rw [← h.told, diags_step s i hi, headOf, if_neg hc]; simp, by have := h.few; have := wide_pos s i; simp; omega⟩
theorem Far.done {s : ByteArray} {i : Nat} {D : List Dg} (h : Far s i D) (hi : ¬ i < s.size) : D = diags s 0 := by
  have := h.told
  rw [diags_end s i hi, List.append_nil] at this
  exact this

theorem codeAt_bad {s : ByteArray} {i : Nat} (h : widthS s i = 0) : codeAt s i = 101 ∧ wideAt s i = 1 := by
  rw [widthS_eq] at h
  by_cases c : Utf8.decode s i = (65533, 1)
  · have h1 : runeAt s i = 65533 := by unfold runeAt; rw [c]
    have h2 : wideAt s i = 1 := by unfold wideAt; rw [c]
    exact ⟨by unfold codeAt faultZ; rw [if_pos (by omega)], h2⟩
  · rw [if_neg c] at h
    have := wide_pos s i
    unfold wideAt at this
    omega
theorem wide_good {s : ByteArray} {i : Nat} (h : widthS s i ≠ 0) : wideAt s i = widthS s i ∧ ¬ (runeAt s i = 65533 ∧ wideAt s i = 1) := by
  rw [widthS_eq] at h ⊢
  by_cases c : Utf8.decode s i = (65533, 1)
  · rw [if_pos c] at h; omega
  · rw [if_neg c] at h ⊢
    exact ⟨rfl, fun ⟨a, b⟩ => c (Prod.ext a b)⟩

/-- the decode at a place, by its bytes -/
theorem decode_bytes (s : ByteArray) (i : Nat) : Utf8.decode s i = decodeN (s.size - i) (s.get! i).toNat (s.get! (i + 1)).toNat (s.get! (i + 2)).toNat (s.get! (i + 3)).toNat := decode_at s i
theorem nul_iff {s : ByteArray} {i : Nat} : runeAt s i = 0 ↔ (s.get! i).toNat = 0 := by
  unfold runeAt
  rw [decode_bytes]
  unfold decodeN
  constructor
  · intro h
    by_cases a : (s.get! i).toNat < 128
    · rw [if_pos a] at h; exact h
    · rw [if_neg a] at h
      exfalso
      revert h
      repeat' split
      all_goals (simp only; omega)
  · intro h
    rw [if_pos (by omega)]
    exact h
theorem mark_iff {s : ByteArray} {i : Nat} : runeAt s i = 65279 ↔ (2 < s.size - i ∧ (s.get! i).toNat = 239 ∧ (s.get! (i + 1)).toNat = 187 ∧ (s.get! (i + 2)).toNat = 191) := by
  unfold runeAt
  rw [decode_bytes]
  have h0 := byte_lt s i
  have h1 := byte_lt s (i + 1)
  have h2 := byte_lt s (i + 2)
  have h3 := byte_lt s (i + 3)
  generalize (s.get! i).toNat = b0 at *
  generalize (s.get! (i + 1)).toNat = b1 at *
  generalize (s.get! (i + 2)).toNat = b2 at *
  generalize (s.get! (i + 3)).toNat = b3 at *
  generalize s.size - i = n at *
  unfold decodeN
  constructor
  · intro h
    revert h
    repeat' split
    all_goals (simp only; omega)
  · rintro ⟨a, b, c, d⟩
    subst b; subst c; subst d
    rw [if_neg (by omega), if_neg (by omega), if_pos (by omega), if_pos (by omega)]
end Go.Proofs.YtjbamlmdeopcaaaGreatDoor.dec
end

section
/-
  Plain: what layers 1 and 2 say of texts, as the lexer uses it.
-/
namespace Go.Proofs.YtjbamlmdeopcaaaGreatDoor.lx
open Go Go.Proofs.YtjbamlmdeopcaaaGreatDoor.tok

/-! The first character. -/
def g_ (l : List UInt8) (i : Nat) : Nat := (l.getD i 0).toNat
theorem get_b (l : List UInt8) (i : Nat) : (B l).get! i = l.getD i 0 := by
  show (l.toArray)[i]! = l.getD i 0
  by_cases h : i < l.length
  · rw [getElem!_pos _ _ (by simpa using h)]
    simp [List.getD, h]
  · rw [getElem!_neg _ _ (by simpa using h)]
    simp [List.getD, h]
    rfl
def decL (l : List UInt8) : Nat × Nat := Lib.decodeN l.length (g_ l 0) (g_ l 1) (g_ l 2) (g_ l 3)
theorem dec_b (l : List UInt8) : Utf8.decode (B l) 0 = decL l := by
  rw [dec.decode_bytes, get_b, get_b, get_b, get_b, Nat.sub_zero, bsize]
  rfl
theorem dec_same {n n' b0 b1 b2 b3 b1' b2' b3' : Nat}
    (k1 : ((1 < n ∧ b1 / 64 = 2) ↔ (1 < n' ∧ b1' / 64 = 2)) ∧ ((1 < n ∧ b1 / 64 = 2) → b1 = b1'))
    (k2 : (1 < n ∧ b1 / 64 = 2) → ((2 < n ∧ b2 / 64 = 2) ↔ (2 < n' ∧ b2' / 64 = 2)) ∧ ((2 < n ∧ b2 / 64 = 2) → b2 = b2'))
    (k3 : (1 < n ∧ b1 / 64 = 2) → (2 < n ∧ b2 / 64 = 2) → ((3 < n ∧ b3 / 64 = 2) ↔ (3 < n' ∧ b3' / 64 = 2)) ∧ ((3 < n ∧ b3 / 64 = 2) → b3 = b3')) :
    Lib.decodeN n b0 b1 b2 b3 = Lib.decodeN n' b0 b1' b2' b3' := by
  unfold Lib.decodeN
  by_cases a : b0 < 128
  · rw [if_pos a, if_pos a]
  rw [if_neg a, if_neg a]
  by_cases c1 : 1 < n ∧ b1 / 64 = 2
  · have c1' := k1.1.1 c1
    have e1 := k1.2 c1
    subst e1
    by_cases c2 : 2 < n ∧ b2 / 64 = 2
    · have c2' := (k2 c1).1.1 c2
      have e2 := (k2 c1).2 c2
      subst e2
      by_cases c3 : 3 < n ∧ b3 / 64 = 2
      · have c3' := (k3 c1 c2).1.1 c3
        have e3 := (k3 c1 c2).2 c3
        subst e3
        simp only [eq_true c1, eq_true c1', eq_true c2, eq_true c2', eq_true c3, eq_true c3']
      · have c3' : ¬ (3 < n' ∧ b3' / 64 = 2) := fun h => c3 ((k3 c1 c2).1.2 h)
        simp only [eq_true c1, eq_true c1', eq_true c2, eq_true c2', eq_false c3, eq_false c3', and_false, if_false]
    · have c2' : ¬ (2 < n' ∧ b2' / 64 = 2) := fun h => c2 ((k2 c1).1.2 h)
      simp only [eq_true c1, eq_true c1', eq_false c2, eq_false c2', and_false, false_and, if_false]
  · have c1' : ¬ (1 < n' ∧ b1' / 64 = 2) := fun h => c1 (k1.1.2 h)
    simp only [eq_false c1, eq_false c1', and_false, false_and, if_false]
theorem dec_near (a x y : List UInt8) (h : 4 ≤ a.length) : decL (a ++ x) = decL (a ++ y) := by
  have e : ∀ (w : List UInt8) (i : Nat), i < 4 → g_ (a ++ w) i = g_ a i := fun w i hi => by
    unfold g_; rw [List.getD_eq_getElem?_getD, List.getD_eq_getElem?_getD, List.getElem?_append_left (by omega)]
  unfold decL
  rw [e x 0 (by omega), e x 1 (by omega), e x 2 (by omega), e x 3 (by omega), e y 0 (by omega), e y 1 (by omega), e y 2 (by omega), e y 3 (by omega)]
  have hx : (a ++ x).length = a.length + x.length := List.length_append
  have hy : (a ++ y).length = a.length + y.length := List.length_append
  refine dec_same ⟨?_, fun _ => rfl⟩ (fun _ => ⟨?_, fun _ => rfl⟩) (fun _ _ => ⟨?_, fun _ => rfl⟩) <;> omega
/-- What comes behind may begin with no follower. -/
theorem dec_stop (r y : List UInt8) (hr : r ≠ []) (hy : g_ y 0 / 64 ≠ 2) : decL (r ++ y) = decL r := by
  have e : ∀ (i : Nat), i < r.length → g_ (r ++ y) i = g_ r i := fun i hi => by
    unfold g_; rw [List.getD_eq_getElem?_getD, List.getD_eq_getElem?_getD, List.getElem?_append_left hi]
  have f : g_ (r ++ y) r.length = g_ y 0 := by
    unfold g_; rw [List.getD_eq_getElem?_getD, List.getD_eq_getElem?_getD, List.getElem?_append_right (Nat.le_refl _), Nat.sub_self]
  have hl : (r ++ y).length = r.length + y.length := List.length_append
  have h0 : 0 < r.length := by cases r with | nil => exact absurd rfl hr | cons => simp
  unfold decL
  rw [e 0 h0]
  by_cases h1 : r.length = 1
  · rw [h1] at f
    rw [f]
    exact dec_same ⟨by omega, by omega⟩ (by omega) (by omega)
  have e1 := e 1 (by omega)
  rw [e1]
  by_cases h2 : r.length = 2
  · rw [h2] at f
    rw [f]
    exact dec_same ⟨by omega, fun _ => rfl⟩ (by omega) (by omega)
  have e2 := e 2 (by omega)
  rw [e2]
  by_cases h3 : r.length = 3
  · rw [h3] at f
    rw [f]
    exact dec_same ⟨by omega, fun _ => rfl⟩ (fun _ => ⟨by omega, fun _ => rfl⟩) (by omega)
  have e3 := e 3 (by omega)
  rw [e3]
  exact dec_same ⟨by omega, fun _ => rfl⟩ (fun _ => ⟨by omega, fun _ => rfl⟩) (fun _ _ => ⟨by omega, fun _ => rfl⟩)
def chrOf (l : List UInt8) : Nat := (decL l).2
def saidOf (l : List UInt8) : Bool := decide (dec.faultZ (decL l).1 (decL l).2 1 ≠ 0)
theorem chrOf_b (l : List UInt8) : dec.wideAt (B l) 0 = chrOf l ∧ dec.runeAt (B l) 0 = (decL l).1 := by
  unfold dec.wideAt dec.runeAt
  rw [dec_b]
  exact ⟨rfl, rfl⟩

/-! Signs, words, literals. -/
theorem best_len (s : List UInt8) (k : Nat) : (best s k).2 ≤ s.length ∧ (0 < (best s k).2 → 20 ≤ (best s k).1) := by
  induction k with
  | zero => simp [best]
  | succ k ih =>
    unfold best
    split
    · rename_i h
      exact ⟨(List.isPrefixOf_iff_prefix.1 h.2).length_le, fun _ => by simp⟩
    · exact ih
theorem best_near (a x y : List UInt8) (h : 3 ≤ a.length) (k : Nat) : best (a ++ x) k = best (a ++ y) k := by
  induction k with
  | zero => rfl
  | succ k ih =>
    have hs := sign_short k
    unfold best
    rw [ih, pre_near (p := signs.getD k []) x y (by omega)]
theorem sign_feed (k : Nat) : (10 : UInt8) ∉ signs.getD k [] := by
  by_cases h : k < 46
  · have : ∀ j : Fin 46, (10 : UInt8) ∉ signs.getD j.val [] := by decide
    exact this ⟨k, h⟩
  · rw [List.getD_eq_getElem?_getD, List.getElem?_eq_none (by rw [signs_length]; omega)]; simp
theorem best_feed (r y : List UInt8) (k : Nat) : best (r ++ 10 :: y) k = best r k := by
  induction k with
  | zero => rfl
  | succ k ih =>
    unfold best
    rw [ih, pre_feed (sign_feed k)]
theorem uq_place (l : List UInt8) (hl : l ≠ []) : ∀ (n p : Nat) (acc : List UInt8), l.length - p ≤ n → ((uqAt l p acc).2.1 ≠ 0 → (uqAt l p acc).2.2 < l.length) ∧ (uqAt l p acc).2.1 ≠ 105 := by
  have h0 : 0 < l.length := by cases l with | nil => exact absurd rfl hl | cons => simp
  intro n
  induction n with
  | zero => intro p acc h; rw [uqAt_past (by omega)]; exact ⟨fun _ => h0, by decide⟩
  | succ n ih =>
    intro p acc h
    by_cases hp : p < l.length
    · rw [uqAt_step hp]
      split
      · split
        · exact ⟨fun _ => hp, show (108 : Int) ≠ 105 by decide⟩
        · exact ih _ _ (by omega)
      · split
        · split
          · exact ⟨fun h => absurd rfl h, show (0 : Int) ≠ 105 by decide⟩
          · exact ⟨fun _ => h0, by decide⟩
        · split
          · exact ⟨fun _ => h0, by decide⟩
          · exact ih _ _ (by omega)
    · rw [uqAt_past (by omega)]; exact ⟨fun _ => h0, by decide⟩
theorem unq_place (l : List UInt8) : ((unqOf l).2.1 ≠ 0 → l ≠ [] → (unqOf l).2.2 < l.length) ∧ (unqOf l).2.1 ≠ 105 := by
  by_cases hl : l = []
  · subst hl; exact ⟨fun _ h => absurd rfl h, by decide⟩
  have h0 : 0 < l.length := by cases l with | nil => exact absurd rfl hl | cons => simp
  unfold unqOf
  split
  · unfold rawOf
    split
    · exact ⟨fun h => absurd rfl h, show (0 : Int) ≠ 105 by decide⟩
    · exact ⟨fun _ _ => h0, by decide⟩
  · split
    · have := uq_place l hl _ 1 [] (Nat.le_refl _)
      exact ⟨fun h _ => this.1 h, this.2⟩
    · exact ⟨fun _ _ => h0, by decide⟩
theorem fin_place (l : List UInt8) (u : Int) (n : Nat) : ((finOf l u n).2.1 = 107 ∨ (finOf l u n).2.1 = 0) ∧ (finOf l u n).2.2 = 0 := by
  unfold finOf
  split
  · exact ⟨.inl rfl, rfl⟩
  · exact ⟨.inr rfl, rfl⟩
theorem rn_place (l : List UInt8) : ((runeOf l).2.1 ≠ 0 → l ≠ [] → (runeOf l).2.2 < l.length) ∧ (runeOf l).2.1 ≠ 105 := by
  by_cases h2 : l.length < 2
  · rw [rune_short h2]
    exact ⟨fun _ hl => by cases l with | nil => exact absurd rfl hl | cons => simp, by decide⟩
  · rw [rune_long (by omega)]
    have f := fin_place l
    repeat' split
    all_goals first
      | exact ⟨fun _ _ => by show 1 < _; omega, by decide⟩
      | exact ⟨fun _ _ => by show 0 < _; omega, by decide⟩
      | exact ⟨fun _ _ => by rw [(f _ _).2]; omega, by rcases (f _ _).1 with e | e <;> rw [e] <;> decide⟩

/-- What the lexer leans on. -/
def lang : Lang where
  kw := kwOf
  num l := (numOf l).2.2
  op := opOf
  str l := ((unqOf l).2.1, (unqOf l).2.2)
  rune l := ((runeOf l).2.1, (runeOf l).2.2)
  chr := chrOf
  said := saidOf
  kw_kind r := by unfold kwOf; split <;> omega
  op_len r := by
    unfold opOf
    split
    · rename_i h; have := (List.isPrefixOf_iff_prefix.1 h).length_le; simpa using this
    · exact (best_len r 46).1
  op_kind r := by
    unfold opOf
    split
    · intro _; decide
    · intro h; have := (best_len r 46).2 h; omega
  op_near a x y h := by
    unfold opOf
    rw [pre_near (p := [59]) x y (by simp; omega), best_near a x y h]
  op_feed r y := by
    unfold opOf
    rw [pre_feed (p := [59]) (by decide), best_feed]
  chr_pos r := by
    have := dec.wide_pos (B r) 0
    rwa [(chrOf_b r).1] at this
  chr_len r hr := by
    have := dec.wide_le (B r) 0 (by rw [bsize]; cases r with | nil => exact absurd rfl hr | cons => simp)
    rwa [(chrOf_b r).1, bsize, Nat.zero_add] at this
  chr_near a x y h := by
    unfold chrOf saidOf
    rw [dec_near a x y h]
    exact ⟨rfl, rfl⟩
  chr_feed r y hr := by
    unfold chrOf saidOf
    rw [dec_stop r (10 :: y) hr (show (10 : UInt8).toNat / 64 ≠ 2 by decide)]
    exact ⟨rfl, rfl⟩
  str_place r := (unq_place r).1
  rune_place r := (rn_place r).1
  str_code r := (unq_place r).2
  rune_code r := (rn_place r).2
end Go.Proofs.YtjbamlmdeopcaaaGreatDoor.lx
end

section
/-
  lexer.closed, lexer.word, lexer.number, lexer.said.
-/
namespace Go.Proofs.YtjbamlmdeopcaaaGreatDoor.lx
open Go.RowKit Go.Proofs.YtjbamlmdeopcaaaGreatDoor.tok

set_option maxRecDepth 100000 in
set_option maxHeartbeats 2000000 in
theorem lexWord_any (s : ByteArray) (at_ : Nat) (w : World) (hs : s.size ≤ 4194304) (ha : at_ ≤ 4194304) :
    Calls Tryz.prog 33 #[.string s, .int .i64 (at_ : Int)] w (Told (wordL lang s.data.toList) at_ w) := by
  have hl := runL_len isWd s.data.toList
  rw [sdata] at hl
  have HW : Hid (wordL lang s.data.toList = right (if kwOf (s.data.toList.take (runL isWd s.data.toList)) = 0 then 10 else kwOf (s.data.toList.take (runL isWd s.data.toList))) (runL isWd s.data.toList)) := Lib.hid rfl
  have HR := Lib.hid (fun u => run_any 57 isWd isWord_any (enters_of Tryz.func57 (by kernel_rfl) rfl) s u (by omega))
  obtain ⟨n, hn⟩ : ∃ n, runL isWd s.data.toList = n := ⟨_, rfl⟩
  rw [hn] at hl HW HR
  clear hn
  have hsl := slice_to s n (n : Int) rfl hl
  have HK := Lib.hid (fun u => keyword_any (B (s.data.toList.take n)) u)
  rw [bdata] at HK
  obtain ⟨x, hx⟩ : ∃ x, B (s.data.toList.take n) = x := ⟨_, rfl⟩
  obtain ⟨k, hk⟩ : ∃ k, kwOf (s.data.toList.take n) = k := ⟨_, rfl⟩
  rw [hx] at hsl HK
  rw [hk] at HW HK
  clear hx hk
  by_cases h0 : k = 0
  · subst h0
    rw [if_pos rfl] at HW
    go_enter Tryz.func33, Tryz.ntmps33
    go_wp2_with (first | (go_at_call 29; refine (HR.out _).mono ?_; rintro e w' ⟨rfl, rfl⟩) | (go_at_call 58; refine (HK.out _).mono ?_; rintro e w1 ⟨rfl, hb⟩; have S1 := Lib.hid ((six_new w _ _ _ _ _ _ _ _).below hb); have HB := Lib.hid (below2_then hb); clear hb) | (go_at_call 27; refine (right_any _ _ _ _ (by omega) (by omega)).mono ?_; rintro e w2 ⟨x1, y1, rfl, hxy, hb2⟩; have S2 := Lib.hid (S1.out.below hb2); obtain ⟨⟨u0, u1, u2, u3, u4, u5, k0, k1, k2, k3, k4, k5⟩, f0, f1, f2, f3, f4, f5⟩ := S2.out; have HX := Lib.hid hxy; have HB2 := Lib.hid (HB.out.trans (hb2.mono HB.out.size)); clear hb2 hxy))
    exact bodyPost_ret (results_two Tryz.results33 _ S2.out _ _ _ _ _ _ rfl rfl) rfl (Told.same HW.out HX.out (below_put6 HB2.out (Nat.le_refl _) _ _ _ _ _ _))
  · rw [if_neg h0] at HW
    have hbz : (k == 0) = false := beq_eq_false_iff_ne.2 h0
    clear h0
    go_enter Tryz.func33, Tryz.ntmps33
    go_wp2_with (first | (go_at_call 29; refine (HR.out _).mono ?_; rintro e w' ⟨rfl, rfl⟩) | (go_at_call 58; refine (HK.out _).mono ?_; rintro e w1 ⟨rfl, hb⟩; have S1 := Lib.hid ((six_new w _ _ _ _ _ _ _ _).below hb); have HB := Lib.hid (below2_then hb); clear hb) | (go_at_call 27; refine (right_any _ _ _ _ (by omega) (by omega)).mono ?_; rintro e w2 ⟨x1, y1, rfl, hxy, hb2⟩; have S2 := Lib.hid (S1.out.below hb2); obtain ⟨⟨u0, u1, u2, u3, u4, u5, k0, k1, k2, k3, k4, k5⟩, f0, f1, f2, f3, f4, f5⟩ := S2.out; have HX := Lib.hid hxy; have HB2 := Lib.hid (HB.out.trans (hb2.mono HB.out.size)); clear hb2 hxy))
    exact bodyPost_ret (results_two Tryz.results33 _ S2.out _ _ _ _ _ _ rfl rfl) rfl (Told.same HW.out HX.out (below_put6 HB2.out (Nat.le_refl _) _ _ _ _ _ _))
set_option maxRecDepth 100000 in
set_option maxHeartbeats 2000000 in
theorem lexNumber_any (s : ByteArray) (at_ : Nat) (w : World) (hs : s.size ≤ 4194304) (ha : at_ ≤ 4194304) :
    Calls Tryz.prog 35 #[.string s, .int .i64 (at_ : Int)] w (Told (numL lang s.data.toList) at_ w) := by
  have hl := runL_len isWd s.data.toList
  rw [sdata] at hl
  have HW : Hid (numL lang s.data.toList = if (numOf (s.data.toList.take (runL isWd s.data.toList))).2.2 = true then right 11 (runL isWd s.data.toList) else wrong 11 (runL isWd s.data.toList) 109) := Lib.hid rfl
  have HR := Lib.hid (fun u => run_any 57 isWd isWord_any (enters_of Tryz.func57 (by kernel_rfl) rfl) s u (by omega))
  obtain ⟨n, hn⟩ : ∃ n, runL isWd s.data.toList = n := ⟨_, rfl⟩
  rw [hn] at hl HW HR
  clear hn
  have hsl := slice_to s n (n : Int) rfl hl
  have HK := Lib.hid (fun u => digits_any (B (s.data.toList.take n)) u (by rw [bsize, List.length_take, sdata]; omega))
  rw [bdata] at HK
  obtain ⟨x, hx⟩ : ∃ x, B (s.data.toList.take n) = x := ⟨_, rfl⟩
  obtain ⟨a, b, ok, hk⟩ : ∃ a b ok, numOf (s.data.toList.take n) = (a, b, ok) := ⟨_, _, _, rfl⟩
  rw [hx] at hsl HK
  rw [hk] at HW HK
  clear hx hk
  cases ok
  all_goals
    simp only [if_true, Bool.false_eq_true, if_false] at HW
    go_enter Tryz.func35, Tryz.ntmps35
    go_wp2_with (first | (go_at_call 29; refine (HR.out _).mono ?_; rintro e w' ⟨rfl, rfl⟩) | (go_at_call 59; refine (HK.out _).mono ?_; rintro e w1 ⟨rfl, hb⟩; have S1 := Lib.hid ((six_new w _ _ _ _ _ _ _ _).below hb); have HB := Lib.hid (below2_then hb); clear hb) | (go_at_call 27; refine (right_any _ _ _ _ (by omega) (by omega)).mono ?_; rintro e w2 ⟨x1, y1, rfl, hxy, hb2⟩; have S2 := Lib.hid (S1.out.below hb2); obtain ⟨⟨u0, u1, u2, u3, u4, u5, k0, k1, k2, k3, k4, k5⟩, f0, f1, f2, f3, f4, f5⟩ := S2.out; have HX := Lib.hid hxy; have HB2 := Lib.hid (HB.out.trans (hb2.mono HB.out.size)); clear hb2 hxy) | (go_at_call 56; refine (wrong_any _ _ _ _ _ (by omega) (by omega)).mono ?_; rintro e w2 ⟨x1, y1, rfl, hxy, hb2⟩; have S2 := Lib.hid (S1.out.below hb2); obtain ⟨⟨u0, u1, u2, u3, u4, u5, k0, k1, k2, k3, k4, k5⟩, f0, f1, f2, f3, f4, f5⟩ := S2.out; have HX := Lib.hid hxy; have HB2 := Lib.hid (HB.out.trans (hb2.mono HB.out.size)); clear hb2 hxy))
    exact bodyPost_ret (results_two Tryz.results35 _ S2.out _ _ _ _ _ _ rfl rfl) rfl (Told.same HW.out HX.out (below_put6 HB2.out (Nat.le_refl _) _ _ _ _ _ _))
set_option maxRecDepth 100000 in
set_option maxHeartbeats 2000000 in
theorem closed_any (s o c : ByteArray) (kind code : Int) (at_ : Nat) (w : World) (hE : Env w) (hs : s.size ≤ 4194304) (ho : o.size ≤ s.size) (hc : c.size ≤ 4) (ha : at_ ≤ 4194304) :
    Calls Tryz.prog 31 #[.string s, .int .i64 (at_ : Int), .int .i64 kind, .int .i64 code, .string o, .string c] w (Told (closedL kind code o.size c.data.toList s.data.toList) at_ w) := by
  have hsl := slice_from s o.size ho
  have HW : Hid (closedL kind code o.size c.data.toList s.data.toList = if Lib.index (s.data.toList.drop o.size) c.data.toList < 0 then wrong kind s.data.toList.length code else right kind (o.size + (Lib.index (s.data.toList.drop o.size) c.data.toList).toNat + c.data.toList.length)) := Lib.hid rfl
  have HI : Hid (∀ u : World, Below w.heap.size w u → Calls Tryz.prog 55 #[.string (B (s.data.toList.drop o.size)), .string c] u fun e w' => e = .returned (.int .i64 (Lib.index (s.data.toList.drop o.size) c.data.toList)) ∧ w' = u) := Lib.hid (fun u hu => by
    obtain ⟨m, hm⟩ := (hE.below hu).most
    have := Tryz.strings_Index (B (s.data.toList.drop o.size)) c m u (by rw [bsize, List.length_drop, sdata]; omega) hm
    rwa [bdata] at this)
  have hroom := Lib.index_room (s.data.toList.drop o.size) c.data.toList
  have hge := Lib.index_ge (s.data.toList.drop o.size) c.data.toList
  rw [List.length_drop, sdata, sdata] at hroom
  rw [sdata, sdata] at HW
  obtain ⟨x, hx⟩ : ∃ x, B (s.data.toList.drop o.size) = x := ⟨_, rfl⟩
  obtain ⟨z, hz⟩ : ∃ z, Lib.index (s.data.toList.drop o.size) c.data.toList = z := ⟨_, rfl⟩
  rw [hx] at hsl HI
  rw [hz] at HW HI hroom hge
  clear hx hz hE
  by_cases h0 : z < 0
  · rw [if_pos h0] at HW
    have hd : decide (z < 0) = true := decide_eq_true h0
    clear hroom hge
    go_enter Tryz.func31, Tryz.ntmps31
    go_wp2_with (first | (go_at_call 55; refine (HI.out _ (below2 w _ _)).mono ?_; rintro e w' ⟨rfl, rfl⟩; have S1 := Lib.hid (six_new w (.int .i64 0) (.int .i64 0) (.int .i64 0) (.int .i64 0) (.int .i64 0) (.int .i64 0) 29 27); have HB := Lib.hid (below2 w (.cells #[.int .i64 0, .int .i64 0, .int .i64 0] 29) (.cells #[.int .i64 0, .int .i64 0, .int .i64 0] 27)) ) | (go_at_call 56; refine (wrong_any _ _ _ _ _ (by omega) (by omega)).mono ?_; rintro e w2 ⟨x1, y1, rfl, hxy, hb2⟩; have S2 := Lib.hid (S1.out.below hb2); obtain ⟨⟨u0, u1, u2, u3, u4, u5, k0, k1, k2, k3, k4, k5⟩, f0, f1, f2, f3, f4, f5⟩ := S2.out; have HX := Lib.hid hxy; have HB2 := Lib.hid (HB.out.trans (hb2.mono HB.out.size)); clear hb2 hxy))
    exact bodyPost_ret (results_two Tryz.results31 _ S2.out _ _ _ _ _ _ rfl rfl) rfl (Told.same HW.out HX.out (below_put6 HB2.out (Nat.le_refl _) _ _ _ _ _ _))
  · rw [if_neg h0] at HW
    obtain ⟨k, rfl⟩ : ∃ k : Nat, z = k := ⟨z.toNat, by omega⟩
    have hr := hroom (by omega)
    rw [Int.toNat_natCast] at HW
    have hd : decide ((k : Int) < 0) = false := decide_eq_false h0
    have e3 : ((o.size : Int) + (k : Int) + (c.size : Int)) = ((o.size + k + c.size : Nat) : Int) := by omega
    have HT := Lib.hid (fun u => right_any kind at_ (o.size + k + c.size) u (by omega) (by omega))
    rw [← e3] at HT
    clear hroom hge h0 e3
    go_enter Tryz.func31, Tryz.ntmps31
    go_wp2_with (first | (go_at_call 55; refine (HI.out _ (below2 w _ _)).mono ?_; rintro e w' ⟨rfl, rfl⟩; have S1 := Lib.hid (six_new w (.int .i64 0) (.int .i64 0) (.int .i64 0) (.int .i64 0) (.int .i64 0) (.int .i64 0) 29 27); have HB := Lib.hid (below2 w (.cells #[.int .i64 0, .int .i64 0, .int .i64 0] 29) (.cells #[.int .i64 0, .int .i64 0, .int .i64 0] 27)) ) | (go_at_call 27; refine (HT.out _).mono ?_; rintro e w2 ⟨x1, y1, rfl, hxy, hb2⟩; have S2 := Lib.hid (S1.out.below hb2); obtain ⟨⟨u0, u1, u2, u3, u4, u5, k0, k1, k2, k3, k4, k5⟩, f0, f1, f2, f3, f4, f5⟩ := S2.out; have HX := Lib.hid hxy; have HB2 := Lib.hid (HB.out.trans (hb2.mono HB.out.size)); clear hb2 hxy))
    exact bodyPost_ret (results_two Tryz.results31 _ S2.out _ _ _ _ _ _ rfl rfl) rfl (Told.same HW.out HX.out (below_put6 HB2.out (Nat.le_refl _) _ _ _ _ _ _))
end Go.Proofs.YtjbamlmdeopcaaaGreatDoor.lx
end

section
/-
  Rows of the call's own: what stays, what grows (plain lemmas on worlds).
-/
namespace Go.Proofs.YtjbamlmdeopcaaaGreatDoor.dec
open Go.RowKit Go.Lib

theorem own_below {w w' : World} {B e size n : Nat} {v : Value} {xs : List Value} (h : w.ownsRow B e size v n xs) (hb : Below w.heap.size w w') : w'.ownsRow B e size v n xs := by
  refine ⟨h.1, ?_⟩
  rcases h.2 with hn | ⟨g, cap, cur, rfl, hg, hgg, rest⟩
  · exact .inl hn
  · exact .inr ⟨g, cap, cur, rfl, hg, by rw [hb.block g (Array.getElem?_eq_some_iff.1 hgg).1]; exact hgg, rest⟩

theorem three_new (w : World) (x y z : Value) (t : TypeId) : ∀ j u, [x, y, z][j]? = some u → (w.alloc (.cells #[x, y, z] t)).cell? ((⟨w.heap.size, 0, none⟩ : Addr).add j) = some u := by
  intro j u hj
  match j, hj with
  | 0, hj => simp at hj; subst hj; simp [Addr.add]
  | 1, hj => simp at hj; subst hj; simp [Addr.add]
  | 2, hj => simp at hj; subst hj; simp [Addr.add]
  | (j + 3), hj => simp at hj

theorem tabs_below {w w' : World} {g3 g4 : Nat} (h : Lib.Utf8Tabs g3 g4 w) (hb : Below w.heap.size w w') : Lib.Utf8Tabs g3 g4 w' := by
  have at' : ∀ (b o : Nat) (v : Value), w.cell? ⟨b, o, none⟩ = some v → w'.cell? ⟨b, o, none⟩ = some v := fun b o v hv =>
    (hb.cell (p := ⟨b, o, none⟩) (World.block_lt_of_cell? _ _ hv)).trans hv
  exact ⟨fun c hc => at' _ _ _ (h.1 c hc), fun i hi => ⟨at' _ _ _ (h.2 i hi).1, at' _ _ _ (h.2 i hi).2⟩⟩

theorem decode_calls (s : ByteArray) (i : Nat) (hi : i < s.size) (w : World) (hT : Lib.Utf8Tabs 1 2 w) :
    Calls Tryz.prog 63 #[.string (s.extract i s.size)] w fun e w' => e = .returned (.tuple #[.int .i32 (runeAt s i), .int .i64 (wideAt s i)]) ∧ Below w.heap.size w w' := by
  have h := Tryz.utf8_DecodeRuneInString (s.extract i s.size) w hT
  have e : Lib.decodeGo (s.extract i s.size) = Utf8.decode s i := by
    unfold Lib.decodeGo
    rw [if_neg (by simp; omega), tail_decode]
    rfl
  rw [e] at h
  exact h

def Made (s : ByteArray) (w : World) (e : Ending) (w' : World) : Prop :=
  ∃ v, e = .returned v ∧ w'.ownsRow w.heap.size 27 3 v (diags s 0).length (cellsOf (diags s 0)) ∧ Below w.heap.size w w'
theorem infoD : (Tryz.prog.info? 27).map (fun i => (i.zero, i.size, i.bytes)) = some (some (.agg #[.int .i64 0, .int .i64 0, .int .i64 0]), 3, 24) := by kernel_rfl

/-- what a round's append does to the relation -/
theorem rel_some {s : ByteArray} {w wr w1 w2 : World} {i : Nat} {D : List Dg} {v v' : Value} {o : Obj} (hf : Far s i D) (hi : i < s.size) (hc : codeAt s i ≠ 0)
    (_hown : wr.ownsRow w.heap.size 27 3 v D.length (cellsOf D)) (hlt : ∀ k, v.ownBlock = some k → w.heap.size ≤ k) (hb : Below w.heap.size w wr) (hb1 : Below wr.heap.size wr w1)
    (hown2 : w2.ownsRow w.heap.size 27 3 v' (D.length + 1) (cellsOf D ++ [.int .i64 (codeAt s i), .int .i64 i, .int .i64 ((i + wideAt s i : Nat) : Int)])) (hg : (w1.alloc o).grownBy w2 v.ownBlock) :
    Far s (i + wideAt s i) (D ++ [⟨codeAt s i, i, i + wideAt s i⟩]) ∧ w2.ownsRow w.heap.size 27 3 v' (D ++ [(⟨codeAt s i, i, i + wideAt s i⟩ : Dg)]).length (cellsOf (D ++ [⟨codeAt s i, i, i + wideAt s i⟩])) ∧ Below w.heap.size w w2 := by
  refine ⟨hf.some hi hc, ?_, ?_⟩
  · rw [cellsOf_append, List.length_append]
    exact hown2
  · have hsz := hb.size
    have hsz1 := hb1.size
    exact ((hb.trans (hb1.mono hsz)).alloc (by omega) o).grown hg (by simp; omega) hlt
end Go.Proofs.YtjbamlmdeopcaaaGreatDoor.dec
end

section
/-
  The contract of text.Check.
-/
namespace Go.Proofs.YtjbamlmdeopcaaaGreatDoor.dec
open Go.RowKit

set_option maxRecDepth 100000 in
set_option maxHeartbeats 2000000 in
theorem check_any (s : ByteArray) (w : World) (hs : s.size ≤ 1073741824) (hT : Lib.Utf8Tabs 1 2 w) :
    Calls Tryz.prog 64 #[.string s] w (Made s w) := by
  obtain ⟨i0, hi, hz0, hz1, hz2⟩ := info_parts infoD
  go_enter Tryz.func64, Tryz.ntmps64
  go_wp2
  go_loopw [3, 4] (fun v p wr => ∃ (i : Nat) (D : List Dg), p = .int .i64 i ∧ Far s i D ∧ wr.ownsRow w.heap.size 27 3 v D.length (cellsOf D) ∧ Below w.heap.size w wr)
    (fun _ p _ => s.size - (intOf p).toNat)
  case atStart => exact ⟨0, [], rfl, Far.zero s, World.ownsRow_nil _ _ _ _, Below.refl _ _⟩
  case round =>
    obtain ⟨i, D, rfl, hF, hown, hb⟩ := hrel
    have hle := hF.le
    have hfew := hF.few
    have HF := Lib.hid hF
    have HT := Lib.hid (tabs_below hT hb)
    have HO := Lib.hid hown
    have HB := Lib.hid hb
    have hsz := hb.size
    clear hF hown hT hb
    by_cases hlt : i < s.size
    · have hw1 := wide_pos s i
      have hw2 := wide_le s i hlt
      have hr := rune_lt s i
      by_cases hc : codeAt s i = 0
      · have ht : (faultZ (runeAt s i) (wideAt s i) i != 0) = false := by rw [show faultZ (runeAt s i) (wideAt s i) i = 0 from hc]; rfl
        have HC := Lib.hid hc
        clear hc
        go_wp2_with (first | (go_at_call 63; refine (decode_calls s i hlt _ HT.out).mono ?_; rintro e w1 ⟨rfl, hb1⟩) | (go_at_call 87; refine (fault_any _ _ _ _).mono ?_; rintro e w' ⟨rfl, rfl⟩))
        go_roundw
        case rel => exact ⟨i + wideAt s i, D, by go_num, HF.out.none hlt HC.out, own_below HO.out hb1, HB.out.trans (hb1.mono hsz)⟩
        case measure => simp [intOf]; omega
      · have ht : (faultZ (runeAt s i) (wideAt s i) i != 0) = true := by rw [bne_iff_ne]; exact hc
        have HC := Lib.hid hc
        clear hc
        go_wp2_with (first | (go_at_call 63; refine (decode_calls s i hlt _ HT.out).mono ?_; rintro e w1 ⟨rfl, hb1⟩; have hsz1 := hb1.size) | (go_at_call 87; refine (fault_any _ _ _ _).mono ?_; rintro e w' ⟨rfl, rfl⟩) | (at_builtin; refine wpList_append_own _ rfl _ _ 23 rfl w.heap.size 27 i0 (.agg #[.int .i64 0, .int .i64 0, .int .i64 0]) 3 24 Tryz.underlying23 hi hz0 hz1 hz2 rfl (by decide) _ _ _ rfl ((own_below HO.out hb1).alloc _) ⟨w1.heap.size, 0, none⟩ 1 1 [.int .i64 (codeAt s i), .int .i64 i, .int .i64 ((i : Int) + (wideAt s i : Int))] rfl rfl ?c1 ?c2 ?c3 ?c4 ?c5 ?_))
        case c1 => exact three_new w1 _ _ _ 27
        case c2 => intro u hu; simp only [List.mem_cons, List.not_mem_nil, or_false] at hu; rcases hu with rfl | rfl | rfl <;> rfl
        case c3 => unfold maxLen; omega
        case c4 => omega
        case c5 => simp; omega
        intro v' w2 hown2 hg _
        have R := rel_some HF.out hlt HC.out HO.out (fun k hk => (HO.out.lt k hk).1) HB.out hb1 hown2 hg
        have HR := Lib.hid R
        clear R hown2 hg HO HB HF HC HT hb1
        go_wp2
        go_roundw
        case rel => exact ⟨i + wideAt s i, _, by go_num, HR.out.1, HR.out.2.1, HR.out.2.2⟩
        case measure => simp [intOf]; omega
    · go_wp2
      go_ret
      refine ⟨_, rfl, ?_, HB.out⟩
      rw [← HF.out.done hlt]
      exact HO.out
end Go.Proofs.YtjbamlmdeopcaaaGreatDoor.dec
end

section
/-
  lexer.literal, lexer.said, lexer.sign.
-/
namespace Go.Proofs.YtjbamlmdeopcaaaGreatDoor.lx
open Go.RowKit Go.Proofs.YtjbamlmdeopcaaaGreatDoor.tok

theorem lit_end (q : UInt8) : lit q [] = (0, false) := rfl
theorem lit_quote {q c : UInt8} {r : List UInt8} (h : c = q) : lit q (c :: r) = (1, true) := by
  cases r with
  | nil => rw [lit, if_pos h]
  | cons d r => rw [lit, if_pos h]
theorem lit_feed1 {q c : UInt8} {r : List UInt8} (h : c ≠ q) (h2 : c = 10) : lit q (c :: r) = (0, false) := by
  cases r with
  | nil => rw [lit, if_neg h, if_pos h2]
  | cons d r => rw [lit, if_neg h, if_pos h2]
theorem lit_esc_end {q c : UInt8} (h : c ≠ q) (h2 : c ≠ 10) : lit q [c] = (1, false) := by rw [lit, if_neg h, if_neg h2]
theorem lit_esc_feed {q c d : UInt8} {r : List UInt8} (h : c ≠ q) (h2 : c ≠ 10) (h3 : c = 92) (h4 : d = 10) : lit q (c :: d :: r) = (1, false) := by rw [lit, if_neg h, if_neg h2, if_pos h3, if_pos h4]
theorem lit_esc {q c d : UInt8} {r : List UInt8} (h : c ≠ q) (h2 : c ≠ 10) (h3 : c = 92) (h4 : d ≠ 10) : lit q (c :: d :: r) = ((lit q r).1 + 2, (lit q r).2) := by rw [lit, if_neg h, if_neg h2, if_pos h3, if_neg h4]
theorem lit_other {q c : UInt8} {r : List UInt8} (h : c ≠ q) (h2 : c ≠ 10) (h3 : c ≠ 92) : lit q (c :: r) = ((lit q r).1 + 1, (lit q r).2) := by
  cases r with
  | nil => rw [lit_esc_end h h2]; rfl
  | cons d r => rw [lit, if_neg h, if_neg h2, if_neg h3]

def LitPost (n : Nat) (b : Bool) (w : World) (e : Ending) (w' : World) : Prop := e = .returned (.tuple #[.int .i64 n, .bool b]) ∧ w = w'
set_option maxRecDepth 100000 in
set_option maxHeartbeats 2000000 in
theorem literal_any (s : ByteArray) (q : UInt8) (w : World) (hs : s.size ≤ 4194304) (h1 : 0 < s.size) (hq : s[0] = q) :
    Calls Tryz.prog 60 #[.string s] w (LitPost (1 + (lit q (s.data.toList.drop 1)).1) (lit q (s.data.toList.drop 1)).2 w) := by
  have hix0 : ∀ u : World, (Instr.index 9 (.string s) (.int .i64 0)).run Tryz.prog u = .ok (.int .u8 (q.toNat : Int)) u := fun u => by rw [← hq]; exact index_at s _ 0 rfl h1 u
  obtain ⟨N, b, hN⟩ : ∃ N b, 1 + (lit q (s.data.toList.drop 1)).1 = N ∧ (lit q (s.data.toList.drop 1)).2 = b := ⟨_, _, rfl, rfl⟩
  rw [hN.1, hN.2]
  have HN := Lib.hid hN
  clear hN hq
  go_enter Tryz.func60, Tryz.ntmps60
  go_wp2
  go_step3
  go_wp2
  go_step3
  go_wp2
  go_loop [5] (fun i => ∃ k : Nat, 1 ≤ k ∧ k ≤ s.size ∧ i = .int .i64 k ∧ N = k + (lit q (s.data.toList.drop k)).1 ∧ b = (lit q (s.data.toList.drop k)).2) (fun i => s.size - (intOf i).toNat)
  case atStart => exact ⟨1, Nat.le_refl _, h1, rfl, HN.out.1.symm, HN.out.2.symm⟩
  case round =>
    obtain ⟨k, hk1, hk2, rfl, hN1, hN2⟩ := hrel
    have HP := Lib.hid (And.intro hN1 hN2)
    clear hN1 hN2 HN
    by_cases hlt : k < s.size
    · obtain ⟨c, hc⟩ : ∃ c, s[k]'hlt = c := ⟨_, rfl⟩
      have hix : ∀ u : World, (Instr.index 9 (.string s) (.int .i64 (k : Int))).run Tryz.prog u = .ok (.int .u8 (c.toNat : Int)) u := fun u => by rw [← hc]; exact index_at s _ k rfl hlt u
      have hd : decide ((k : Int) < (s.size : Int)) = true := decide_eq_true (by omega)
      have HD : Hid (s.data.toList.drop k = c :: s.data.toList.drop (k + 1)) := Lib.hid (by rw [← hc]; exact List.drop_eq_getElem_cons (by rw [sdata]; exact hlt))
      rw [HD.out] at HP
      clear hc
      by_cases cq : c = q
      · have bq : ((c.toNat : Int) == (q.toNat : Int)) = true := byte_eq cq
        have HF := Lib.hid (And.intro HP.out.1 HP.out.2)
        rw [lit_quote cq] at HF
        clear cq HP
        go_wp2_with fail
        try rw [Exit.noGoto_ret]
        go_ret2
        exact ⟨by rw [HF.out.1, HF.out.2]; simp, rfl⟩
      have bq : ((c.toNat : Int) == (q.toNat : Int)) = false := byte_ne cq
      by_cases c10 : c = 10
      · have b10 : ((c.toNat : Int) == 10) = true := byte_eq (d := 10) c10
        rw [lit_feed1 cq c10] at HP
        clear cq c10
        go_wp2_with fail
        try rw [Exit.noGoto_ret]
        go_ret2
        exact ⟨by rw [HP.out.1, HP.out.2]; simp, rfl⟩
      have b10 : ((c.toNat : Int) == 10) = false := byte_ne (d := 10) c10
      by_cases c92 : c = 92
      · have b92 : ((c.toNat : Int) == 92) = true := byte_eq (d := 92) c92
        by_cases hl2 : k + 1 < s.size
        · obtain ⟨d, hd2⟩ : ∃ d, s[k + 1]'hl2 = d := ⟨_, rfl⟩
          have hix2 : ∀ u : World, (Instr.index 9 (.string s) (.int .i64 ((k : Int) + 1))).run Tryz.prog u = .ok (.int .u8 (d.toNat : Int)) u := fun u => by rw [← hd2]; exact index_at s _ (k + 1) (by omega) hl2 u
          have he : ((k : Int) + 1 == (s.size : Int)) = false := beq_eq_false_iff_ne.2 (by omega)
          have HD2 : Hid (s.data.toList.drop (k + 1) = d :: s.data.toList.drop (k + 2)) := Lib.hid (by rw [← hd2]; exact List.drop_eq_getElem_cons (by rw [sdata]; exact hl2))
          rw [HD2.out] at HP
          clear hd2
          by_cases d10 : d = 10
          · have bd : ((d.toNat : Int) == 10) = true := byte_eq (d := 10) d10
            rw [lit_esc_feed cq c10 c92 d10] at HP
            clear cq c10 c92 d10
            go_wp2_with fail
            try rw [Exit.noGoto_ret]
            go_ret2
            exact ⟨by rw [HP.out.1, HP.out.2]; simp, rfl⟩
          · have bd : ((d.toNat : Int) == 10) = false := byte_ne (d := 10) d10
            rw [lit_esc cq c10 c92 d10] at HP
            clear cq c10 c92 d10
            go_wp2_with fail
            go_round
            case rel => exact ⟨k + 2, by omega, by omega, by go_num, by rw [HP.out.1]; simp only; omega, HP.out.2⟩
            case measure => simp [intOf]; omega
        · have he : ((k : Int) + 1 == (s.size : Int)) = true := beq_iff_eq.2 (by omega)
          have HD2 : Hid (s.data.toList.drop (k + 1) = []) := Lib.hid (List.drop_of_length_le (by rw [sdata]; omega))
          rw [HD2.out, lit_esc_end cq c10] at HP
          clear cq c10 c92
          go_wp2_with fail
          try rw [Exit.noGoto_ret]
          go_ret2
          exact ⟨by rw [HP.out.1, HP.out.2]; simp, rfl⟩
      · have b92 : ((c.toNat : Int) == 92) = false := byte_ne (d := 92) c92
        rw [lit_other cq c10 c92] at HP
        clear cq c10 c92
        go_wp2_with fail
        go_round
        case rel => exact ⟨k + 1, by omega, by omega, by go_num, by rw [HP.out.1]; simp only; omega, HP.out.2⟩
        case measure => simp [intOf]; omega
    · have hd : decide ((k : Int) < (s.size : Int)) = false := decide_eq_false (by omega)
      have HD2 : Hid (s.data.toList.drop k = []) := Lib.hid (List.drop_of_length_le (by rw [sdata]; omega))
      rw [HD2.out, lit_end] at HP
      go_wp2_with fail
      try rw [Exit.noGoto_ret]
      go_ret2
      exact ⟨by rw [HP.out.1, HP.out.2]; simp; try omega, rfl⟩
end Go.Proofs.YtjbamlmdeopcaaaGreatDoor.lx
end

section
/-
  lexer.said, lexer.sign.
-/
namespace Go.Proofs.YtjbamlmdeopcaaaGreatDoor.lx
open Go.RowKit Go.Proofs.YtjbamlmdeopcaaaGreatDoor.tok

theorem cat_eq {x y : List UInt8} (h : x.length + y.length ≤ 9223372036854775807) : Op.stringOp .add (B x) (B y) = pure (.string (B (x ++ y))) := by
  unfold Op.stringOp
  simp only []
  rw [if_neg (by rw [bsize, bsize]; show ¬ ((_ : Nat) : Int) > 9223372036854775807; omega), b_append]
def CodePost (code : Int) (place : Nat) (w : World) (e : Ending) (w' : World) : Prop := e = .returned (.tuple #[.int .i64 code, .int .i64 place]) ∧ Below w.heap.size w w'
set_option maxRecDepth 100000 in
set_option maxHeartbeats 1000000 in
theorem said_rune (s : ByteArray) (w : World) (hE : Env w) (hs : s.size ≤ 4194304) : Calls Tryz.prog 61 #[.int .i64 12, .string s] w (CodePost (lang.rune s.data.toList).1 (lang.rune s.data.toList).2 w) := by
  have HK := Lib.hid (rune_any s w hE (by omega))
  have HL : Hid ((lang.rune s.data.toList).1 = (runeOf s.data.toList).2.1 ∧ (lang.rune s.data.toList).2 = (runeOf s.data.toList).2.2) := Lib.hid ⟨rfl, rfl⟩
  obtain ⟨a, b, c, hk⟩ : ∃ a b c, runeOf s.data.toList = (a, b, c) := ⟨_, _, _, rfl⟩
  rw [hk] at HK HL
  rw [HL.out.1, HL.out.2]
  clear hk hE HL
  go_enter Tryz.func61, Tryz.ntmps61
  go_wp2_with (go_at_call 83; refine HK.out.mono ?_; rintro e w1 ⟨rfl, hb⟩; have HB := Lib.hid hb; clear hb)
  go_ret2
  exact ⟨rfl, HB.out⟩
set_option maxRecDepth 100000 in
set_option maxHeartbeats 1000000 in
theorem said_str (s : ByteArray) (w : World) (hE : Env w) (hs : s.size ≤ 4194304) : Calls Tryz.prog 61 #[.int .i64 13, .string s] w (CodePost (lang.str s.data.toList).1 (lang.str s.data.toList).2 w) := by
  have HK := Lib.hid (unquote_any s w hE (by omega))
  have HL : Hid ((lang.str s.data.toList).1 = (unqOf s.data.toList).2.1 ∧ (lang.str s.data.toList).2 = (unqOf s.data.toList).2.2) := Lib.hid ⟨rfl, rfl⟩
  obtain ⟨a, b, c, hk⟩ : ∃ a b c, unqOf s.data.toList = (a, b, c) := ⟨_, _, _, rfl⟩
  rw [hk] at HK HL
  rw [HL.out.1, HL.out.2]
  clear hk hE HL
  go_enter Tryz.func61, Tryz.ntmps61
  go_wp2_with (go_at_call 84; refine HK.out.mono ?_; rintro e w1 ⟨rfl, hb⟩; have HB := Lib.hid hb; clear hb)
  go_ret2
  exact ⟨rfl, HB.out⟩

/-! One character. -/
theorem decN_take {n b0 b1 b2 b3 b1' b2' b3' w : Nat} (hw : (Lib.decodeN n b0 b1 b2 b3).2 = w) (h1 : 1 < w → b1' = b1) (h2 : 2 < w → b2' = b2) (h3 : 3 < w → b3' = b3) : Lib.decodeN w b0 b1' b2' b3' = Lib.decodeN n b0 b1 b2 b3 := by
  have one : w = 1 → 128 ≤ b0 → Lib.decodeN w b0 b1' b2' b3' = (65533, 1) := by
    intro h hb
    unfold Lib.decodeN
    rw [if_neg (by omega), if_neg (by omega), if_neg (by omega), if_neg (by omega)]
  by_cases a : b0 < 128
  · unfold Lib.decodeN
    rw [if_pos a, if_pos a]
  unfold Lib.decodeN at hw
  rw [if_neg a] at hw
  conv => rhs; unfold Lib.decodeN
  rw [if_neg a]
  by_cases c2 : b0 / 32 = 6 ∧ (1 < n ∧ b1 / 64 = 2)
  · rw [if_pos c2] at hw ⊢
    by_cases v : b0 % 32 * 64 + b1 % 64 ≥ 128
    · rw [if_pos v] at hw ⊢
      have hw2 : w = 2 := hw.symm
      have := h1 (by omega)
      subst this
      unfold Lib.decodeN
      rw [if_neg a, if_pos (by omega), if_pos v]
    · rw [if_neg v] at hw ⊢
      exact one hw.symm (by omega)
  rw [if_neg c2] at hw ⊢
  by_cases c3 : b0 / 16 = 14 ∧ (1 < n ∧ b1 / 64 = 2) ∧ (2 < n ∧ b2 / 64 = 2)
  · rw [if_pos c3] at hw ⊢
    split at hw
    · rename_i v
      rw [if_pos v]
      have hw2 : w = 3 := hw.symm
      have e1 := h1 (by omega)
      have e2 := h2 (by omega)
      subst e1 e2
      unfold Lib.decodeN
      rw [if_neg a, if_neg (by omega), if_pos (by omega), if_pos v]
    · rename_i v
      rw [if_neg v]
      exact one hw.symm (by omega)
  rw [if_neg c3] at hw ⊢
  by_cases c4 : b0 / 8 = 30 ∧ (1 < n ∧ b1 / 64 = 2) ∧ (2 < n ∧ b2 / 64 = 2) ∧ (3 < n ∧ b3 / 64 = 2)
  · rw [if_pos c4] at hw ⊢
    split at hw
    · rename_i v
      rw [if_pos v]
      have hw2 : w = 4 := hw.symm
      have e1 := h1 (by omega)
      have e2 := h2 (by omega)
      have e3 := h3 (by omega)
      subst e1 e2 e3
      unfold Lib.decodeN
      rw [if_neg a, if_neg (by omega), if_neg (by omega), if_pos (by omega), if_pos v]
    · rename_i v
      rw [if_neg v]
      exact one hw.symm (by omega)
  rw [if_neg c4] at hw ⊢
  exact one hw.symm (by omega)
theorem dec_take (r : List UInt8) (hr : r ≠ []) : decL (r.take (chrOf r)) = decL r := by
  have hl : chrOf r ≤ r.length := lang.chr_len r hr
  have hp : 1 ≤ chrOf r := lang.chr_pos r
  have e : ∀ i, i < chrOf r → g_ (r.take (chrOf r)) i = g_ r i := fun i hi => by
    unfold g_; rw [List.getD_eq_getElem?_getD, List.getD_eq_getElem?_getD, List.getElem?_take_of_lt hi]
  have hlen : (r.take (chrOf r)).length = chrOf r := by rw [List.length_take]; omega
  unfold decL
  rw [hlen, e 0 (by omega)]
  exact decN_take rfl (fun h => e 1 h) (fun h => e 2 h) (fun h => e 3 h)
/-- What layer 1 tells of a character behind a blank. -/
theorem check_char (r : List UInt8) (hr : r ≠ []) : (dec.diags (B (32 :: r.take (chrOf r))) 0).length = if saidOf r = true then 1 else 0 := by
  have hl : chrOf r ≤ r.length := lang.chr_len r hr
  have hlen : (r.take (chrOf r)).length = chrOf r := by rw [List.length_take]; omega
  have hp : 1 ≤ chrOf r := lang.chr_pos r
  have hsz : (B (32 :: r.take (chrOf r))).size = chrOf r + 1 := by rw [bsize, List.length_cons, hlen]
  have d0 : decL (32 :: r.take (chrOf r)) = (32, 1) := by
    unfold decL
    have : g_ (32 :: r.take (chrOf r)) 0 = 32 := rfl
    rw [this]
    rfl
  have w0 : dec.wideAt (B (32 :: r.take (chrOf r))) 0 = 1 := by rw [(chrOf_b _).1]; exact congrArg Prod.snd d0
  have r0 : dec.runeAt (B (32 :: r.take (chrOf r))) 0 = 32 := by rw [(chrOf_b _).2, d0]
  have d1 : Utf8.decode (B (32 :: r.take (chrOf r))) 1 = decL r := by
    have := Lib.tail_decode (B (32 :: r.take (chrOf r))) 1 0
    rw [← this]
    have e : (B (32 :: r.take (chrOf r))).extract 1 (B (32 :: r.take (chrOf r))).size = B (r.take (chrOf r)) := by
      rw [b_extract, bdata, hsz, List.drop_succ_cons, List.drop_zero, Nat.add_sub_cancel, List.take_of_length_le (by omega)]
    rw [e, dec_b, dec_take r hr]
  have w1 : dec.wideAt (B (32 :: r.take (chrOf r))) 1 = chrOf r := by unfold dec.wideAt; rw [d1]; rfl
  have c1 : dec.codeAt (B (32 :: r.take (chrOf r))) 1 = dec.faultZ (decL r).1 (decL r).2 1 := by unfold dec.codeAt; rw [w1]; unfold dec.runeAt; rw [d1]; rfl
  rw [dec.diags_step _ 0 (by omega), w0, Nat.zero_add, dec.diags_step _ 1 (by omega), w1, dec.diags_end _ _ (by omega)]
  have h0 : dec.headOf (B (32 :: r.take (chrOf r))) 0 = [] := by
    unfold dec.headOf
    rw [if_pos]
    unfold dec.codeAt
    rw [r0, w0]
    decide
  rw [h0]
  unfold dec.headOf saidOf
  rw [c1]
  by_cases h : dec.faultZ (decL r).1 (decL r).2 1 = 0
  · rw [if_pos h, if_neg (by simp [h])]; rfl
  · rw [if_neg h, if_pos (by simp [h])]; rfl
def LenPost (n : Nat) (w : World) (e : Ending) (w' : World) : Prop := ∃ (o : Option Addr) (cap : Nat), e = .returned (.slice o n cap) ∧ Below w.heap.size w w'
theorem check_len (s : ByteArray) (w : World) (hs : s.size ≤ 1073741824) (hE : Env w) : Calls Tryz.prog 64 #[.string s] w (LenPost (dec.diags s 0).length w) := by
  refine (dec.check_any s w hs hE.tabs).mono ?_
  rintro e w' ⟨v, rfl, ho, hb⟩
  rcases ho.2 with ⟨rfl, b⟩ | ⟨g, cap, cur, rfl, _⟩
  · rw [b]; exact ⟨none, 0, rfl, hb⟩
  · exact ⟨_, _, rfl, hb⟩
theorem dec_calls (s : ByteArray) (w : World) (hE : Env w) (h0 : 0 < s.size) :
    Calls Tryz.prog 63 #[.string s] w fun e w' => e = .returned (.tuple #[.int .i32 (decL s.data.toList).1, .int .i64 (chrOf s.data.toList)]) ∧ Below w.heap.size w w' := by
  have h := Tryz.utf8_DecodeRuneInString s w hE.tabs
  have e : Lib.decodeGo s = decL s.data.toList := by
    unfold Lib.decodeGo
    rw [if_neg (by omega), ← dec_b, bof]
  rw [e] at h
  exact h
set_option maxRecDepth 100000 in
set_option maxHeartbeats 2000000 in
theorem lexSign_any (s : ByteArray) (at_ : Nat) (w : World) (hE : Env w) (hs : s.size ≤ 4194304) (h0 : 0 < s.size) (ha : at_ ≤ 4194304) :
    Calls Tryz.prog 37 #[.string s, .int .i64 (at_ : Int)] w (Told (signL lang s.data.toList) at_ w) := by
  have hne : s.data.toList ≠ [] := by intro h; have := congrArg List.length h; rw [sdata, List.length_nil] at this; omega
  have HO := Lib.hid (fun u => operator_any s u)
  have hol := lang.op_len s.data.toList
  rw [sdata] at hol
  have HW : Hid (signL lang s.data.toList = if 0 < (opOf s.data.toList).2 then right (opOf s.data.toList).1 (opOf s.data.toList).2 else if saidOf s.data.toList = true then right 5 (chrOf s.data.toList) else wrong 5 (chrOf s.data.toList) 104) := Lib.hid rfl
  have hol' : (opOf s.data.toList).2 ≤ s.size := hol
  obtain ⟨k, n, hk⟩ : ∃ k n, opOf s.data.toList = (k, n) := ⟨_, _, rfl⟩
  rw [hk] at HO HW hol'
  simp only [] at HW hol'
  clear hk hol
  by_cases hn : 0 < n
  · rw [if_pos hn] at HW
    have hd : decide ((0 : Int) < (n : Int)) = true := decide_eq_true (by omega)
    clear hE hne
    go_enter Tryz.func37, Tryz.ntmps37
    go_wp2_with (first | (go_at_call 62; refine (HO.out _).mono ?_; rintro e w1 ⟨rfl, hb⟩; have S1 := Lib.hid ((six_new w _ _ _ _ _ _ _ _).below hb); have HB := Lib.hid (below2_then hb); clear hb) | (go_at_call 27; refine (right_any _ _ _ _ (by omega) (by omega)).mono ?_; rintro e w2 ⟨x1, y1, rfl, hxy, hb2⟩; have S2 := Lib.hid (S1.out.below hb2); obtain ⟨⟨u0, u1, u2, u3, u4, u5, k0, k1, k2, k3, k4, k5⟩, f0, f1, f2, f3, f4, f5⟩ := S2.out; have HX := Lib.hid hxy; have HB2 := Lib.hid (HB.out.trans (hb2.mono HB.out.size)); clear hb2 hxy))
    exact bodyPost_ret (results_two Tryz.results37 _ S2.out _ _ _ _ _ _ rfl rfl) rfl (Told.same HW.out HX.out (below_put6 HB2.out (Nat.le_refl _) _ _ _ _ _ _))
  · rw [if_neg hn] at HW
    have hd : decide ((0 : Int) < (n : Int)) = false := decide_eq_false (by omega)
    have hcl : chrOf s.data.toList ≤ s.size := by have := lang.chr_len s.data.toList hne; rwa [sdata] at this
    have HD := Lib.hid (fun (u : World) (hu : Below w.heap.size w u) => dec_calls s u (hE.below hu) h0)
    have HL := Lib.hid (check_char s.data.toList hne)
    have HC := Lib.hid (fun (u : World) (hu : Below w.heap.size w u) => check_len (B (32 :: s.data.toList.take (chrOf s.data.toList))) u (by rw [bsize, List.length_cons, List.length_take]; omega) (hE.below hu))
    rw [HL.out] at HC
    have hsl := slice_to s (chrOf s.data.toList) (chrOf s.data.toList : Int) rfl hcl
    have hcat := cat_eq (x := [32]) (y := s.data.toList.take (chrOf s.data.toList)) (by rw [List.length_take]; simp; omega)
    obtain ⟨m, hm⟩ : ∃ m, chrOf s.data.toList = m := ⟨_, rfl⟩
    obtain ⟨b, hb⟩ : ∃ b, saidOf s.data.toList = b := ⟨_, rfl⟩
    rw [hm] at HW hcl HD HC hsl hcat
    rw [hb] at HW HC
    obtain ⟨x, hx⟩ : ∃ x, B (s.data.toList.take m) = x := ⟨_, rfl⟩
    obtain ⟨y, hy⟩ : ∃ y, B (32 :: s.data.toList.take m) = y := ⟨_, rfl⟩
    obtain ⟨r, hr⟩ : ∃ r, (decL s.data.toList).1 = r := ⟨_, rfl⟩
    have hcat2 : Op.stringOp .add { data := #[32] } x = pure (.string y) := by rw [← hx, ← hy]; exact hcat
    rw [hx] at hsl
    rw [hy] at HC
    rw [hr] at HD
    clear hm hb hx hy hr hcat HL hne hE
    cases b
    all_goals
      simp only [if_true, Bool.false_eq_true, if_false] at HW HC
      go_enter Tryz.func37, Tryz.ntmps37
      go_wp2_with (first | (go_at_call 62; refine (HO.out _).mono ?_; rintro e w1 ⟨rfl, hb⟩; have S0 := Lib.hid ((six_new w _ _ _ _ _ _ _ _).below hb); have HA := Lib.hid (below2_then hb); clear hb) | (go_at_call 63; refine (HD.out _ HA.out).mono ?_; rintro e w4 ⟨rfl, hb4⟩; have S4 := Lib.hid (S0.out.below hb4); have HB4 := Lib.hid (HA.out.trans (hb4.mono HA.out.size)); clear hb4) | (go_at_call 64; refine (HC.out _ HB4.out).mono ?_; rintro e w5 ⟨o5, c5, rfl, hb5⟩; have S1 := Lib.hid (S4.out.below hb5); have HB := Lib.hid (HB4.out.trans (hb5.mono HB4.out.size)); clear hb5) | (go_at_call 27; refine (right_any _ _ _ _ (by omega) (by omega)).mono ?_; rintro e w2 ⟨x1, y1, rfl, hxy, hb2⟩; have S2 := Lib.hid (S1.out.below hb2); obtain ⟨⟨u0, u1, u2, u3, u4, u5, k0, k1, k2, k3, k4, k5⟩, f0, f1, f2, f3, f4, f5⟩ := S2.out; have HX := Lib.hid hxy; have HB2 := Lib.hid (HB.out.trans (hb2.mono HB.out.size)); clear hb2 hxy) | (go_at_call 56; refine (wrong_any _ _ _ _ _ (by omega) (by omega)).mono ?_; rintro e w2 ⟨x1, y1, rfl, hxy, hb2⟩; have S2 := Lib.hid (S1.out.below hb2); obtain ⟨⟨u0, u1, u2, u3, u4, u5, k0, k1, k2, k3, k4, k5⟩, f0, f1, f2, f3, f4, f5⟩ := S2.out; have HX := Lib.hid hxy; have HB2 := Lib.hid (HB.out.trans (hb2.mono HB.out.size)); clear hb2 hxy))
      exact bodyPost_ret (results_two Tryz.results37 _ S2.out _ _ _ _ _ _ rfl rfl) rfl (Told.same HW.out HX.out (below_put6 HB2.out (Nat.le_refl _) _ _ _ _ _ _))
end Go.Proofs.YtjbamlmdeopcaaaGreatDoor.lx
end
