/-
  token.unquoteText.
-/
import Derived.Test.YtjbamlmdeopcaaaDoorAppend
namespace Go.Proofs.YtjbamlmdeopcaaaDoor.tok
open Go.RowKit

theorem esc0_ok : EscOk (0, false, 0) := ⟨fun h => (by cases h), fun _ => ⟨by decide, by decide⟩⟩
theorem escB_le (v : Esc) : (escB v).length ≤ 4 ∧ (v.2.1 = false → (escB v).length = 1) := by
  unfold escB
  split
  · next h => exact ⟨by rw [← Lib.runeCells_length]; exact (Lib.runeCells_le _).2, fun g => by rw [g] at h; cases h⟩
  · exact ⟨by simp, fun _ => by simp⟩
/-- What is known of an escape. -/
def EscFit (l : List UInt8) (i : Nat) (v : Esc) : Prop := EscOk v ∧ (v.2.2 ≠ 0 → i + v.2.2 ≤ l.length ∧ 2 ≤ v.2.2 ∧ (escB v).length ≤ v.2.2)
theorem esc0_fit (l : List UInt8) (i : Nat) : EscFit l i (0, false, 0) := ⟨esc0_ok, fun h => absurd rfl h⟩
theorem byteE_fit {l : List UInt8} {i ahead count : Nat} {base : Int} (hb0 : 0 ≤ base) (hb : base ≤ 16) (hw : 2 ≤ ahead + count) : EscFit l i (byteE l i ahead count base) := by
  unfold byteE
  cases h : numAt l (i + ahead) count base with
  | none => exact esc0_fit l i
  | some n =>
    obtain ⟨h1, h2, _⟩ := numAt_bound hb0 hb h
    simp only []
    by_cases g : 255 < n
    · rw [if_pos g]; exact esc0_fit l i
    · rw [if_neg g]
      refine ⟨⟨fun h => (by cases h), fun _ => ⟨h2, by simp only []; omega⟩⟩, fun _ => ⟨by simp only []; omega, hw, ?_⟩⟩
      rw [(escB_le _).2 rfl]
      simp only []; omega
theorem runeE_fit {l : List UInt8} {i count : Nat} (hw : 4 ≤ count) : EscFit l i (runeE l i count) := by
  unfold runeE
  cases h : numAt l (i + 2) count 16 with
  | none => exact esc0_fit l i
  | some n =>
    obtain ⟨h1, h2, _⟩ := numAt_bound (by omega) (by omega) h
    simp only []
    by_cases g : 1114111 < n
    · rw [if_pos g]; exact esc0_fit l i
    · rw [if_neg g]
      cases hv : Lib.validRune n with
      | false => exact esc0_fit l i
      | true =>
        refine ⟨⟨fun _ => ⟨h2, by show n ≤ _; omega⟩, fun h => (by cases h)⟩, fun _ => ⟨by show i + (2 + count) ≤ _; omega, by show 2 ≤ 2 + count; omega, ?_⟩⟩
        have := (escB_le (n, true, 2 + count)).1
        show _ ≤ 2 + count
        exact Nat.le_trans this (by omega)
theorem signE_fit {l : List UInt8} {i : Nat} {c q : UInt8} (h : i + 2 ≤ l.length) : EscFit l i (signE c q) := by
  have two : ∀ n : Int, 0 ≤ n → n ≤ 255 → EscFit l i (n, false, 2) := fun n h0 h1 =>
    ⟨⟨fun h => (by cases h), fun _ => ⟨h0, h1⟩⟩, fun _ => ⟨h, Nat.le_refl _, by rw [(escB_le _).2 rfl]; simp⟩⟩
  unfold signE
  repeat' split
  all_goals first
    | exact two _ (by omega) (by have := UInt8.toNat_lt c; omega)
    | exact esc0_fit l i
theorem escV_fit (l : List UInt8) (i : Nat) (q : UInt8) : EscFit l i (escV l i q) := by
  cases h : l[i + 1]? with
  | none => rw [escV_none (by simpa using h)]; exact esc0_fit l i
  | some c =>
    have hl : i + 1 < l.length := (List.getElem?_eq_some_iff.1 h).1
    rw [escV_some h]
    repeat' split
    · exact byteE_fit (by omega) (by omega) (by omega)
    · exact runeE_fit (by omega)
    · exact runeE_fit (by omega)
    · exact byteE_fit (by omega) (by omega) (by omega)
    · exact signE_fit (by omega)

/-- What a text says from a place on, behind what was said ahead of it. -/
def uq (l : List UInt8) : Nat → Nat → List UInt8 → List UInt8 × Int × Nat
  | 0, _, _ => ([], 106, 0)
  | f + 1, p, acc => match l[p]? with
    | none => ([], 106, 0)
    | some c =>
      if c = 92 then (if (escV l p 34).2.2 = 0 then ([], 108, p) else uq l f (p + (escV l p 34).2.2) (acc ++ escB (escV l p 34)))
      else if c = 34 then (if p + 1 = l.length then (acc, 0, 0) else ([], 106, 0))
      else if c = 10 then ([], 106, 0) else uq l f (p + 1) (acc ++ [c])
theorem uq_past {l : List UInt8} {f p : Nat} {acc : List UInt8} (h : l.length ≤ p) : uq l f p acc = ([], 106, 0) := by
  cases f with
  | zero => rfl
  | succ f => rw [uq, List.getElem?_eq_none h]
theorem uq_fuel {l : List UInt8} : ∀ (f g p : Nat) (acc : List UInt8), l.length - p ≤ f → l.length - p ≤ g → uq l f p acc = uq l g p acc := by
  intro f
  induction f with
  | zero =>
    intro g p acc h _
    rw [uq_past (f := 0) (by omega), uq_past (by omega)]
  | succ f ih =>
    intro g p acc hf hg
    by_cases hp : l.length ≤ p
    · rw [uq_past hp, uq_past hp]
    · obtain ⟨g, rfl⟩ : ∃ k, g = k + 1 := ⟨g - 1, by omega⟩
      rw [uq, uq, List.getElem?_eq_getElem (by omega)]
      simp only []
      split
      · split
        · rfl
        · next h0 =>
          have := (escV_fit l p 34).2 h0
          exact ih g _ _ (by omega) (by omega)
      · split
        · rfl
        · split
          · rfl
          · exact ih g _ _ (by omega) (by omega)
def uqAt (l : List UInt8) (p : Nat) (acc : List UInt8) : List UInt8 × Int × Nat := uq l (l.length - p) p acc
theorem uqAt_past {l : List UInt8} {p : Nat} {acc : List UInt8} (h : l.length ≤ p) : uqAt l p acc = ([], 106, 0) := uq_past h
theorem uqAt_step {l : List UInt8} {p : Nat} {acc : List UInt8} (h : p < l.length) : uqAt l p acc =
    if l[p] = 92 then (if (escV l p 34).2.2 = 0 then ([], 108, p) else uqAt l (p + (escV l p 34).2.2) (acc ++ escB (escV l p 34)))
    else if l[p] = 34 then (if p + 1 = l.length then (acc, 0, 0) else ([], 106, 0))
    else if l[p] = 10 then ([], 106, 0) else uqAt l (p + 1) (acc ++ [l[p]]) := by
  have e : uqAt l p acc = uq l ((l.length - p - 1) + 1) p acc := uq_fuel _ _ _ _ (by omega) (by omega)
  rw [e, uq, List.getElem?_eq_getElem h]
  simp only []
  split
  · split
    · rfl
    · next h0 =>
      have := (escV_fit l p 34).2 h0
      exact uq_fuel _ _ _ _ (by omega) (by omega)
  · split
    · rfl
    · split
      · rfl
      · exact uq_fuel _ _ _ _ (by omega) (by omega)
def UnqPost (v : List UInt8 × Int × Nat) (w : World) (e : Ending) (w' : World) : Prop := e = .returned (.tuple #[.string (B v.1), .int .i64 v.2.1, .int .i64 v.2.2]) ∧ Below w.heap.size w w'

set_option maxRecDepth 100000 in
set_option maxHeartbeats 4000000 in
theorem unqText_any (s : ByteArray) (w : World) (hs : s.size ≤ 140737488351232) (h1 : 1 ≤ s.size) :
    Calls Tryd.prog 53 #[.string s] w (UnqPost (uqAt s.data.toList 1 []) w) := by
  obtain ⟨i0, hi, hz0, hz1, hz2⟩ := info_parts infoB
  obtain ⟨R, hR⟩ : ∃ R, uqAt s.data.toList 1 [] = R := ⟨_, rfl⟩
  rw [hR]
  have HR := Lib.hid hR
  clear hR
  go_enter Tryd.func53, Tryd.ntmps53
  go_wp2
  go_loopw [5, 6] (fun v i wr => ∃ (p : Nat) (acc : List UInt8), p ≤ s.size ∧ i = .int .i64 p ∧ acc.length ≤ p ∧ uqAt s.data.toList p acc = R ∧ Bytes wr w.heap.size v acc ∧ Below w.heap.size w wr) (fun _ i _ => s.size - (intOf i).toNat)
  case atStart => exact ⟨1, [], h1, rfl, by simp, HR.out, Bytes.nil _ _, Below.refl _ _⟩
  case round =>
    obtain ⟨p, acc, hp, rfl, hacc, hu, hown, hbel⟩ := hrel
    have hsd := sdata s
    have hsz := hbel.size
    have HO := Lib.hid hown
    have HB := Lib.hid hbel
    have HU := Lib.hid hu
    clear hown hbel hu
    by_cases hlt : p < s.size
    · have HN := Lib.hid (uqAt_step (l := s.data.toList) (p := p) (acc := acc) (by omega))
      obtain ⟨c, hc⟩ : ∃ c, s[p]'hlt = c := ⟨_, rfl⟩
      rw [at_data hlt, hc, HU.out] at HN
      have hc0 : (0 : Int) ≤ (c.toNat : Int) := by omega
      have hc1 : (c.toNat : Int) ≤ 255 := by have := UInt8.toNat_lt c; omega
      have HD := Lib.hid hsd
      clear hsd
      by_cases h92 : c = 92
      · have z92 : ((c.toNat : Int) == 92) = true := byte_eq (d := 92) h92
        have hfit := escV_fit s.data.toList p 34
        obtain ⟨v, hv⟩ : ∃ v, escV s.data.toList p 34 = v := ⟨_, rfl⟩
        have HN1 : Hid (R = if v.2.2 = 0 then ([], 108, p) else uqAt s.data.toList (p + v.2.2) (acc ++ escB v)) := Lib.hid (by rw [HN.out, if_pos h92, hv])
        rw [hv] at hfit
        have HF := Lib.hid hfit
        have HV := Lib.hid hv
        clear HN h92 hfit hv
        obtain ⟨n, r, wd⟩ := v
        by_cases hw : wd = 0
        · have HN2 : Hid (R = ([], 108, p)) := Lib.hid (by rw [HN1.out, if_pos hw])
          have hwz : ((wd : Int) == 0) = true := by rw [hw]; rfl
          clear HN1
          go_wp2_with (go_at_call 50; refine (escapeAt_any s p 34 _ (by omega) hlt).mono ?_; rintro e w1 ⟨rfl, hb⟩; rw [HV.out]; have HB1 := Lib.hid hb; obtain ⟨hbc, hbf⟩ := bcell hb; have hbz := hb.size; clear hb)
          have hb0 := HB.out.trans (HB1.out.mono hsz)
          have hz0 := hb0.size
          go_ret3
          refine ⟨by rw [HN2.out]; rfl, ?_⟩
          exact hb0.alloc hz0 _
        · have hfit := HF.out
          obtain ⟨hok, hfw⟩ := hfit
          obtain ⟨f1, f2, f3⟩ := hfw hw
          simp only [] at f1 f2 f3
          have HN2 : Hid (uqAt s.data.toList (p + wd) (acc ++ escB (n, r, wd)) = R) := Lib.hid (by rw [HN1.out, if_neg hw])
          have hwz : ((wd : Int) == 0) = false := beq_eq_false_iff_ne.2 (by omega)
          have HOK := Lib.hid hok
          have hpw : p + wd ≤ s.size := by have := HD.out; omega
          have hal : (acc ++ escB (n, r, wd)).length ≤ p + wd := by rw [List.length_append]; omega
          have HA := Lib.hid hal
          clear HN1 HF hok hfw f1 f3 hal hw
          go_wp2_with (go_at_call 50; refine (escapeAt_any s p 34 _ (by omega) hlt).mono ?_; rintro e w1 ⟨rfl, hb⟩; rw [HV.out]; have HB1 := Lib.hid hb; obtain ⟨hbc, hbf⟩ := bcell hb; have hbz := hb.size; clear hb)
          refine (appendTo_any (n, r, wd) _ acc w.heap.size _ HOK.out (World.ownsRow.alloc (own_below HO.out HB1.out (fun k hk => ((World.ownsRow.lt HO.out) k hk).2)) _) (by have := hbz; simp; omega) (by omega)).mono ?_
          rintro e w2 ⟨v', rfl, ho2, hb2, hk2⟩
          have HO2 := Lib.hid ho2
          have HB2 := Lib.hid hb2
          have hb2z := hb2.size
          have hcell2 : w2.cell? ⟨w1.heap.size, 2, none⟩ = some (.int .i64 (wd : Int)) := by
            rw [World.cell?_of_block (a := ⟨w1.heap.size, 2, none⟩) (hk2 w1.heap.size (by simp) (fun e => by have := ((World.ownsRow.lt HO.out) _ e).2; omega))]
            simp
          clear ho2 hb2 hk2
          go_wp2
          have hb0 := HB.out.trans (HB1.out.mono hsz)
          have HB0 := Lib.hid ((hb0.alloc hb0.size _).trans HB2.out)
          clear hb0
          go_roundw
          case rel => exact ⟨p + wd, acc ++ escB (n, r, wd), hpw, by go_num, HA.out, HN2.out, HO2.out, HB0.out⟩
          case measure => simp [intOf]; omega
      · have z92 : ((c.toNat : Int) == 92) = false := byte_ne (d := 92) h92
        by_cases h34 : c = 34
        · have z34 : ((c.toNat : Int) == 34) = true := byte_eq (d := 34) h34
          by_cases hend : p + 1 = s.size
          · have HN1 : Hid (R = (acc, 0, 0)) := Lib.hid (by rw [HN.out, if_neg h92, if_pos h34, if_pos (by rw [HD.out]; exact hend)])
            have hcv := Bytes.string HO.out
            have hpe : ((p : Int) == (s.size : Int) - 1) = true := beq_iff_eq.2 (by omega)
            clear HN h92 h34
            go_wp2_with fail
            go_ret3
            exact ⟨by rw [HN1.out]; rfl, HB.out⟩
          · have HN1 : Hid (R = ([], 106, 0)) := Lib.hid (by rw [HN.out, if_neg h92, if_pos h34, if_neg (by rw [HD.out]; exact hend)])
            have hpe : ((p : Int) == (s.size : Int) - 1) = false := beq_eq_false_iff_ne.2 (by omega)
            clear HN h92 h34
            go_wp2_with fail
            go_ret3
            exact ⟨by rw [HN1.out]; rfl, HB.out⟩
        · have z34 : ((c.toNat : Int) == 34) = false := byte_ne (d := 34) h34
          by_cases h10 : c = 10
          · have z10 : ((c.toNat : Int) == 10) = true := byte_eq (d := 10) h10
            have HN1 : Hid (R = ([], 106, 0)) := Lib.hid (by rw [HN.out, if_neg h92, if_neg h34, if_pos h10])
            clear HN h92 h34 h10
            go_wp2_with fail
            go_ret3
            exact ⟨by rw [HN1.out]; rfl, HB.out⟩
          · have z10 : ((c.toNat : Int) == 10) = false := byte_ne (d := 10) h10
            have HN1 : Hid (uqAt s.data.toList (p + 1) (acc ++ [c]) = R) := Lib.hid (by rw [HN.out, if_neg h92, if_neg h34, if_neg h10])
            clear HN h92 h34 h10
            go_wp2_with (at_builtin; refine wpList_append_own _ rfl _ _ 74 rfl w.heap.size 5 i0 (.int .u8 0) 1 1 Tryd.underlying74 hi hz0 hz1 hz2 rfl (by decide) _ _ _ rfl (World.ownsRow.alloc HO.out _) ⟨wr.heap.size, 0, none⟩ 1 1 [.int .u8 (c.toNat : Int)] rfl rfl ?c1 ?c2 ?c3 ?c4 ?c5 ?_)
            case c1 => exact one_new wr _ _
            case c2 => intro u hu; simp only [List.mem_cons, List.not_mem_nil, or_false] at hu; subst hu; rfl
            case c3 => unfold maxLen; omega
            case c4 => omega
            case c5 => simp; omega
            intro v' w2 hown2 hg _
            have HR2 := Lib.hid (Bytes.more HB.out HO.out hown2 hg)
            have hal : (acc ++ [c]).length ≤ p + 1 := by simp; omega
            have HA := Lib.hid hal
            clear hown2 hg HO HB hal
            go_wp2
            go_roundw
            case rel => exact ⟨p + 1, acc ++ [c], by omega, by go_num, HA.out, HN1.out, HR2.out.1, HR2.out.2⟩
            case measure => simp [intOf]; omega
    · have HN1 : Hid (R = ([], 106, 0)) := Lib.hid (by rw [← HU.out, uqAt_past (by omega)])
      clear hsd
      go_wp2_with fail
      go_ret3
      exact ⟨by rw [HN1.out]; rfl, HB.out⟩
end Go.Proofs.YtjbamlmdeopcaaaDoor.tok
