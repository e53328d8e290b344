/-
  token.unquoteRaw, token.Unquote.
-/
import Derived.Test.YtjbamlmdeopcaaaDoorUnq
import Derived.Lib.LaidU8
namespace Go.Proofs.YtjbamlmdeopcaaaDoor.tok
open Go.RowKit

/-- What the calls ask of the library's variables. -/
structure Env (w : World) : Prop where
  tabs : Lib.Utf8Tabs 0 1 w
  most : ∃ m : Int, w.cell? ⟨2, 0, none⟩ = some (.int .i64 m)
theorem Env.below {w w' : World} (h : Env w) (hb : Below w.heap.size w w') : Env w' := by
  have at' : ∀ (b o : Nat) (v : Value), w.cell? ⟨b, o, none⟩ = some v → w'.cell? ⟨b, o, none⟩ = some v := fun b o v hv =>
    (hb.cell (p := ⟨b, o, none⟩) (World.block_lt_of_cell? _ _ hv)).trans hv
  refine ⟨⟨fun c hc => at' _ _ _ (h.tabs.1 c hc), fun i hi => ⟨at' _ _ _ (h.tabs.2 i hi).1, at' _ _ _ (h.tabs.2 i hi).2⟩⟩, ?_⟩
  obtain ⟨m, hm⟩ := h.most
  exact ⟨m, at' _ _ _ hm⟩

def noCR (l : List UInt8) : List UInt8 := l.filter (fun c => c != 13)
theorem noCR_none {l : List UInt8} (h : ∀ k : Nat, l[k]? ≠ some 13) : noCR l = l := by
  unfold noCR
  rw [List.filter_eq_self]
  intro c hc
  obtain ⟨k, hk, e⟩ := List.getElem_of_mem hc
  have := h k
  rw [List.getElem?_eq_getElem hk, e] at this
  simpa using this
theorem replace_cr : ∀ (n : Nat) (l : List UInt8), l.length ≤ n → Lib.replaceK [13] [] (Lib.count l [13]) l = noCR l := by
  intro n
  induction n with
  | zero =>
    intro l h
    obtain rfl : l = [] := List.eq_nil_of_length_eq_zero (by omega)
    rfl
  | succ n ih =>
    intro l h
    by_cases hm : Lib.index l [13] = -1
    · rw [Lib.count_miss hm]
      have hno := Lib.indexByte_none (l := l) (c := 13) (by rw [← Lib.index_one]; exact hm)
      rw [noCR_none hno]
      rfl
    · obtain ⟨i, hi⟩ : ∃ i : Nat, Lib.index l [13] = i := ⟨(Lib.index l [13]).toNat, by have := Lib.index_ge l [13]; omega⟩
      obtain ⟨h1, h2⟩ := Lib.indexByte_some (l := l) (c := 13) (o := i) (by rw [← Lib.index_one]; exact hi)
      have hil : i < l.length := (List.getElem?_eq_some_iff.1 h1).1
      rw [Lib.count_hit (by simp) hi, Nat.add_comm, Lib.replaceK_hit _ _ _ _ _ hi]
      have e : l = l.take i ++ l[i] :: l.drop (i + 1) := by rw [← List.drop_eq_getElem_cons hil, List.take_append_drop]
      have h13 : l[i] = 13 := (List.getElem?_eq_some_iff.1 h1).2
      rw [ih _ (by simp; omega)]
      conv => rhs; rw [e]
      unfold noCR
      rw [List.filter_append, List.filter_cons, h13]
      have ht : (l.take i).filter (fun c => c != 13) = l.take i := noCR_none (fun k => by
        by_cases hk : k < i
        · rw [List.getElem?_take_of_lt hk]; exact h2 k hk
        · rw [List.getElem?_eq_none (by simp; omega)]; simp)
      rw [ht]
      simp
theorem replaceAll_cr (l : List UInt8) : Lib.replaceAll l [13] [] = noCR l := by
  unfold Lib.replaceAll Lib.replace
  rw [if_neg (by decide)]
  unfold Lib.replaceNum
  rw [if_pos (by left; decide)]
  exact replace_cr _ l (Nat.le_refl _)
def OneText (x : List UInt8) (w : World) (e : Ending) (w' : World) : Prop := e = .returned (.string (B x)) ∧ Below w.heap.size w w'
theorem replaceAll_any (x : List UInt8) (w : World) (hE : Env w) (hx : x.length < 4294967281) :
    Calls Tryd.prog 60 #[.string (B x), .string { data := #[13] }, .string { data := #[] }] w (OneText (noCR x) w) := by
  obtain ⟨m, hm⟩ := hE.most
  refine (Tryd.strings_ReplaceAll (B x) ⟨#[13]⟩ ⟨#[]⟩ m w (by rw [bsize]; exact hx) hm (by decide) (by rw [bsize]; show _ + _ * 0 ≤ _; omega)).mono ?_
  rintro e w' ⟨rfl, hb⟩
  refine ⟨?_, hb⟩
  rw [bdata]
  show Ending.returned (.string (B (Lib.replaceAll x [13] []))) = _
  rw [replaceAll_cr]
theorem slice_to (s : ByteArray) (n : Nat) (z : Int) (hz : z = (n : Int)) (h : n ≤ s.size) (u : World) :
    (Instr.slice 9 (.string s) none (some (.int .i64 z)) none).run Tryd.prog u = .ok (.string (B (s.data.toList.take n))) u := by
  subst hz
  have e : s.extract 0 n = B (s.data.toList.take n) := by rw [b_extract]; rfl
  rw [← e]
  exact run_slice_string_h (P := Tryd.prog) (w := u) (t := 9) (s := s) (ht := Tryd.underlying9) .i64 (n : Int) (by omega) (by omega)

/-- What a literal says that begins with a back quote. -/
def rawOf (l : List UInt8) : List UInt8 × Int × Nat :=
  if 0 ≤ Lib.indexByte (l.drop 1) 96 ∧ Lib.indexByte (l.drop 1) 96 = ((l.drop 1).length : Int) - 1 then (noCR ((l.drop 1).take ((l.drop 1).length - 1)), 0, 0) else ([], 106, 0)

set_option maxRecDepth 100000 in
set_option maxHeartbeats 1000000 in
theorem raw_any (s : ByteArray) (w : World) (hE : Env w) (hs : s.size < 4294967281) (h1 : 1 ≤ s.size) :
    Calls Tryd.prog 52 #[.string s] w (UnqPost (rawOf s.data.toList) w) := by
  have hsl : ∀ u : World, (Instr.slice 9 (.string s) (some (.int .i64 1)) none none).run Tryd.prog u = .ok (.string (B (s.data.toList.drop 1))) u := fun u => slice_from s 1 h1 u
  obtain ⟨m, hm⟩ : ∃ m, s.data.toList.drop 1 = m := ⟨_, rfl⟩
  obtain ⟨R, hR⟩ : ∃ R, rawOf s.data.toList = R := ⟨_, rfl⟩
  have hml : m.length < 4294967281 := by rw [← hm, List.length_drop, sdata]; omega
  have HR : Hid (R = if 0 ≤ Lib.indexByte m 96 ∧ Lib.indexByte m 96 = (m.length : Int) - 1 then (noCR (m.take (m.length - 1)), 0, 0) else ([], 106, 0)) := Lib.hid (by rw [← hR, ← hm]; rfl)
  rw [hm] at hsl
  rw [hR]
  clear hm hR
  have hidx : ∀ u : World, Calls Tryd.prog 59 #[.string (B m), .int .u8 96] u fun e w' => e = .returned (.int .i64 (Lib.indexByte m 96)) ∧ u = w' := fun u => by
    refine (Tryd.strings_IndexByte (B m) 96 u).mono ?_
    rintro e w' ⟨rfl, rfl⟩
    rw [bdata]
    exact ⟨rfl, rfl⟩
  have hge := Lib.indexByte_ge m 96
  obtain ⟨z, hz⟩ : ∃ z, Lib.indexByte m 96 = z := ⟨_, rfl⟩
  rw [hz] at HR hidx hge
  have HI := Lib.hid hidx
  have hbm : (B m).size = m.length := bsize m
  clear hidx hz
  by_cases h0 : z < 0
  · have hd : decide (z < 0) = true := decide_eq_true h0
    have HF : Hid (R = ([], 106, 0)) := Lib.hid (by rw [HR.out, if_neg (by omega)])
    clear HR
    go_enter Tryd.func52, Tryd.ntmps52
    go_wp2_with (go_at_call 59; refine (HI.out _).mono ?_; rintro e w' ⟨rfl, rfl⟩)
    go_ret3
    exact ⟨by rw [HF.out]; rfl, Below.refl _ _⟩
  · have hd : decide (z < 0) = false := decide_eq_false h0
    by_cases he : z = (m.length : Int) - 1
    · have hd2 : (z != (m.length : Int) - 1) = false := by rw [he]; simp
      have HF : Hid (R = (noCR (m.take (m.length - 1)), 0, 0)) := Lib.hid (by rw [HR.out, if_pos ⟨by omega, he⟩])
      have hsl2 : ∀ u : World, (Instr.slice 9 (.string (B m)) none (some (.int .i64 z)) none).run Tryd.prog u = .ok (.string (B (m.take (m.length - 1)))) u := fun u => by
        have := slice_to (B m) (m.length - 1) z (by omega) (by rw [hbm]; omega) u
        rwa [bdata] at this
      have HEn := Lib.hid hE
      have HL : Hid ((m.take (m.length - 1)).length < 4294967281) := Lib.hid (by rw [List.length_take]; omega)
      have HZ := Lib.hid he
      clear HR hE he
      go_enter Tryd.func52, Tryd.ntmps52
      go_wp2_with (first | (go_at_call 59; refine (HI.out _).mono ?_; rintro e w' ⟨rfl, rfl⟩) | (go_at_call 60; refine (replaceAll_any _ _ HEn.out HL.out).mono ?_; rintro e w1 ⟨rfl, hb⟩; have HB := Lib.hid hb; clear hb))
      go_ret3
      exact ⟨by rw [HF.out]; rfl, HB.out⟩
    · have hd2 : (z != (m.length : Int) - 1) = true := by simpa using he
      have HF : Hid (R = ([], 106, 0)) := Lib.hid (by rw [HR.out, if_neg (fun g => he g.2)])
      clear HR he
      go_enter Tryd.func52, Tryd.ntmps52
      go_wp2_with (go_at_call 59; refine (HI.out _).mono ?_; rintro e w' ⟨rfl, rfl⟩)
      go_ret3
      exact ⟨by rw [HF.out]; rfl, Below.refl _ _⟩

/-- What a text literal says. -/
def unqOf (l : List UInt8) : List UInt8 × Int × Nat := if Lib.hasPrefix l [96] then rawOf l else if Lib.hasPrefix l [34] then uqAt l 1 [] else ([], 106, 0)
theorem prefix_one {l : List UInt8} {c : UInt8} (h : Lib.hasPrefix l [c] = true) : 1 ≤ l.length := by
  cases l with
  | nil => simp [Lib.hasPrefix] at h
  | cons a t => simp
set_option maxRecDepth 100000 in
set_option maxHeartbeats 1000000 in
theorem unquote_any (s : ByteArray) (w : World) (hE : Env w) (hs : s.size < 4294967281) :
    Calls Tryd.prog 42 #[.string s] w (UnqPost (unqOf s.data.toList) w) := by
  have HP := Lib.hid (Tryd.strings_HasPrefix s)
  cases h96 : Lib.hasPrefix s.data.toList [96] with
  | true =>
    have h1 := prefix_one h96
    rw [sdata] at h1
    have HF : Hid (unqOf s.data.toList = rawOf s.data.toList) := Lib.hid (by rw [unqOf, if_pos h96])
    have H9 := Lib.hid h96
    have HEn := Lib.hid hE
    clear h96 hE
    go_enter Tryd.func42, Tryd.ntmps42
    go_wp2_with (first | (go_at_call 11; refine (HP.out _ _).mono ?_; rintro e w' ⟨rfl, rfl⟩; rw [H9.out]) | (go_at_call 52; refine (raw_any s _ HEn.out hs h1).mono ?_; rintro e w1 ⟨rfl, hb⟩; have HB := Lib.hid hb; clear hb))
    go_ret3
    exact ⟨by rw [HF.out]; rfl, HB.out⟩
  | false =>
    cases h34 : Lib.hasPrefix s.data.toList [34] with
    | true =>
      have h1 := prefix_one h34
      rw [sdata] at h1
      have HF : Hid (unqOf s.data.toList = uqAt s.data.toList 1 []) := Lib.hid (by rw [unqOf, if_neg (by rw [h96]; simp), if_pos h34])
      have H9 := Lib.hid h96
      have H3 := Lib.hid h34
      clear h96 h34 hE
      go_enter Tryd.func42, Tryd.ntmps42
      go_wp2_with (first | (go_at_call 11; refine (HP.out _ _).mono ?_; rintro e w' ⟨rfl, rfl⟩; first | rw [H9.out] | rw [H3.out]) | (go_at_call 53; refine (unqText_any s _ (by omega) h1).mono ?_; rintro e w1 ⟨rfl, hb⟩; have HB := Lib.hid hb; clear hb))
      go_ret3
      exact ⟨by rw [HF.out]; rfl, HB.out⟩
    | false =>
      have HF : Hid (unqOf s.data.toList = ([], 106, 0)) := Lib.hid (by rw [unqOf, if_neg (by rw [h96]; simp), if_neg (by rw [h34]; simp)])
      have H9 := Lib.hid h96
      have H3 := Lib.hid h34
      clear h96 h34 hE
      go_enter Tryd.func42, Tryd.ntmps42
      go_wp2_with (go_at_call 11; refine (HP.out _ _).mono ?_; rintro e w' ⟨rfl, rfl⟩; first | rw [H9.out] | rw [H3.out])
      go_ret3
      exact ⟨by rw [HF.out]; rfl, Below.refl _ _⟩
end Go.Proofs.YtjbamlmdeopcaaaDoor.tok
