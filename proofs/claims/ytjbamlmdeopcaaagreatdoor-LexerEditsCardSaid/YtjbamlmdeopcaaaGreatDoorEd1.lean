/-
  Texts put together: Rdm, LexerEditsCard.
-/
import Derived.Test.YtjbamlmdeopcaaaGreatDoorPb1
import Derived.Test.YtjbamlmdeopcaaaGreatDoorPa11
import Derived.ChangeOld
import Derived.Carry
import Derived.Deep.Slices
import Derived.Deep.Fields
section
/-
  The law LexerEdits.
-/
namespace Go.Proofs.YtjbamlmdeopcaaaGreatDoor.lx
open Go.RowKit Go.Proofs.YtjbamlmdeopcaaaGreatDoor.tok

structure Ed where
  a : Int
  b : Int
  s : ByteArray
/-- A slice of edits. -/
def EdsAt (w : World) (v : Value) (l : List Ed) : Prop :=
  (l = [] ∧ ∃ oa cap, v = .slice oa 0 cap) ∨ ∃ b o cap, v = .slice (some ⟨b, o, none⟩) l.length cap ∧ b < w.heap.size ∧
    ∀ j (hj : j < l.length), w.cell? ⟨b, o + j * 3, none⟩ = some (.int .i64 l[j].a) ∧ w.cell? ⟨b, o + j * 3 + 1, none⟩ = some (.int .i64 l[j].b) ∧ w.cell? ⟨b, o + j * 3 + 2, none⟩ = some (.string l[j].s)
set_option maxRecDepth 100000 in
set_option maxHeartbeats 4000000 in
theorem edits_law (s : ByteArray) (v : Value) (l : List Ed) (w : World) (hE : Env w) (hl : EdsAt w v l) :
    Calls Tryz.prog 6 #[.string s, v] w (HoldsL w) := by
  have hsh : ∃ o n cap, v = .slice o n cap ∧ n = l.length := by
    rcases hl with ⟨rfl, o, c, rfl⟩ | ⟨b, o, c, rfl, _⟩
    · exact ⟨_, _, _, rfl, rfl⟩
    · exact ⟨_, _, _, rfl, rfl⟩
  obtain ⟨oe, ne, ce, rfl, hne⟩ := hsh
  have HNE := Lib.hid hne
  have hcells : ∀ j (hj : j < l.length), ∃ b o, oe = some ⟨b, o, none⟩ ∧ b < w.heap.size ∧ w.cell? ⟨b, o + j * 3, none⟩ = some (.int .i64 l[j].a) ∧ w.cell? ⟨b, o + j * 3 + 1, none⟩ = some (.int .i64 l[j].b) ∧ w.cell? ⟨b, o + j * 3 + 2, none⟩ = some (.string l[j].s) := by
    intro j hj
    rcases hl with ⟨rfl, _⟩ | ⟨b, o, c, hv, hb, hc⟩
    · simp at hj
    · obtain ⟨rfl, _, _⟩ := Value.slice.inj hv
      exact ⟨b, o, rfl, hb, hc j hj⟩
  have HCE := Lib.hid hcells
  have HE := Lib.hid hE
  clear hne hcells hl hE
  by_cases hs : s.size ≤ 65536
  · have hd0 : decide ((65536 : Int) < (s.size : Int)) = false := decide_eq_false (by omega)
    by_cases hn : ne ≤ 1024
    · have hd1 : decide ((1024 : Int) < (ne : Int)) = false := decide_eq_false (by omega)
      have HS := Lib.hid (scan_any s w HE.out (by omega))
      go_enter Tryz.func6, Tryz.ntmps6
      go_wp2_with fail
      go_at_call 8
      (with_reducible refine HS.out.mono ?_)
      rintro e w1 ⟨v1, v2, rfl, hT1, _, hb1⟩
      have HR1 := Lib.hid (row_of_any hT1)
      have HB1 := Lib.hid hb1
      have hz1 := hb1.size
      clear hT1 hb1 HS
      go_wp2_with fail
      go_loopw [0, 5, 7] (fun sv nv p wr => ∃ (x : ByteArray) (n : Nat), sv = .string x ∧ n ≤ ne ∧ p = .int .i64 n ∧ Row wr nv (scan lang x.data.toList) ∧ Below w.heap.size w wr) (fun _ _ p _ => ne - (intOf p).toNat)
      case atStart => exact ⟨s, 0, rfl, Nat.zero_le _, rfl, HR1.out, HB1.out⟩
      case round =>
        obtain ⟨x, n, rfl, hnl, rfl, hrow, hb⟩ := hrel
        have HB := Lib.hid hb
        have HROW := Lib.hid hrow
        have hsz := hb.size
        clear hrow hb
        by_cases hlt : n < ne
        · have hd : decide ((n : Int) < (ne : Int)) = true := decide_eq_true (by omega)
          obtain ⟨b, o, rfl, hbw, k0, k1, k2⟩ := HCE.out n (by have := HNE.out; omega)
          generalize l[n]'(by have := HNE.out; omega) = ed at *
          obtain ⟨ea, eb, z⟩ := ed
          simp only [] at k0 k1 k2
          have HED : Hid (∀ u, Below w.heap.size w u → u.cell? ⟨b, o + n * 3, none⟩ = some (.int .i64 ea) ∧ u.cell? ⟨b, o + n * 3 + 1, none⟩ = some (.int .i64 eb) ∧ u.cell? ⟨b, o + n * 3 + 2, none⟩ = some (.string z)) := Lib.hid (fun u hu =>
            ⟨(hu.cell (p := ⟨b, o + n * 3, none⟩) hbw).trans k0, (hu.cell (p := ⟨b, o + n * 3 + 1, none⟩) hbw).trans k1, (hu.cell (p := ⟨b, o + n * 3 + 2, none⟩) hbw).trans k2⟩)
          clear k0 k1 k2
          obtain ⟨c0, c1, c2⟩ := HED.out _ HB.out
          by_cases hz : z.size ≤ 65536
          · have dz : decide ((65536 : Int) < (z.size : Int)) = false := decide_eq_false (by omega)
            by_cases hx : x.size ≤ 262144
            · have dx : decide ((262144 : Int) < (x.size : Int)) = false := decide_eq_false (by omega)
              by_cases h : 0 ≤ ea ∧ ea ≤ eb ∧ eb ≤ (x.size : Int)
              · obtain ⟨f, rfl⟩ := Int.eq_ofNat_of_zero_le h.1
                obtain ⟨q, rfl⟩ := Int.eq_ofNat_of_zero_le (Int.le_trans h.1 h.2.1)
                have hfq : f ≤ q := by omega
                have hqx : q ≤ x.size := by omega
                have hel := edit_len x.data.toList z.data.toList hfq (by rw [sdata]; exact hqx)
                rw [sdata, sdata] at hel
                have hmu : (edit x.data.toList z.data.toList f q).length ≤ 327680 := by omega
                have HX1 := Lib.hid (rescan_yes x z _ f q wr (HE.out.below HB.out) hfq hqx (by omega) (by omega) HROW.out)
                have HX2 := Lib.hid (fun u => right_yes x z f q u hfq hqx)
                have HX3 := Lib.hid (fun u => edited_yes x z f q u hfq hqx (by omega) (by omega))
                have HX4 := Lib.hid (fun u => refScan_any (B (edit x.data.toList z.data.toList f q)) u (by rw [bsize]; omega))
                have hfew := scan_few (L := lang) (edit x.data.toList z.data.toList f q)
                have HMD : Hid ((B (edit x.data.toList z.data.toList f q)).data.toList = edit x.data.toList z.data.toList f q) := Lib.hid (bdata _)
                rw [HMD.out] at HX4
                generalize edit x.data.toList z.data.toList f q = m at *
                generalize B m = M at *
                clear h hel
                go_wp2_with fail
                go_at_call 11
                (with_reducible refine HX1.out.mono ?_)
                rintro e w3 ⟨v3, nn, rfl, hO3, hb3⟩
                have HB3 := Lib.hid (HB.out.trans (hb3.mono hsz))
                have HR3 := Lib.hid (row_of_any hO3)
                have hz3 := HB3.out.size
                clear hO3 hb3 c0 c1 c2
                obtain ⟨c0, c1, c2⟩ := HED.out _ HB3.out
                go_wp2_with fail
                go_at_call 12
                (with_reducible refine (HX2.out _).mono ?_)
                rintro e w4 ⟨rfl, hb4⟩
                have HB4 := Lib.hid (HB3.out.trans (hb4.mono hz3))
                have HR4 := Lib.hid (HR3.out.below hb4)
                have hz4 := HB4.out.size
                clear hb4 c0 c1 c2
                obtain ⟨c0, c1, c2⟩ := HED.out _ HB4.out
                go_wp2_with fail
                go_at_call 13
                (with_reducible refine (HX3.out _).mono ?_)
                rintro e w5 ⟨rfl, hb5⟩
                have HB5 := Lib.hid (HB4.out.trans (hb5.mono hz4))
                have HR5 := Lib.hid (HR4.out.below hb5)
                have hz5 := HB5.out.size
                clear hb5 c0 c1 c2
                go_wp2_with fail
                go_at_call 7
                (with_reducible refine (HX4.out _).mono ?_)
                rintro e w6 ⟨va, vb, rfl, hTa, _, hb6⟩
                have HB6 := Lib.hid (HB5.out.trans (hb6.mono hz5))
                have HR6 := Lib.hid (HR5.out.below hb6)
                have HTA := Lib.hid (row_of_any hTa)
                have hz6 := HB6.out.size
                clear hb6 hTa
                go_wp2_with fail
                go_at_call 9
                refine (toks_any HR6.out HTA.out (by omega)).mono ?_
                rintro e w7 ⟨rfl, hb7⟩
                have HB7 := Lib.hid (HB6.out.trans (hb7.mono hz6))
                have HR7 := Lib.hid (HR6.out.below hb7)
                clear hb7
                go_wp2_with fail
                go_roundw
                case rel => exact ⟨M, n + 1, rfl, by omega, by go_num, by rw [HMD.out]; exact HR7.out, HB7.out⟩
                case measure => simp [intOf]; omega
              · have HX1 := Lib.hid (fun (v : Value) => rescan_no x z v ea eb wr (by omega))
                have HX2 := Lib.hid (fun u => right_no x z ea eb u (by omega))
                clear h
                go_wp2_with fail
                go_at_call 11
                (with_reducible refine (HX1.out _).mono ?_)
                rintro e w3 ⟨rfl, hb3⟩
                have HB3 := Lib.hid (HB.out.trans (hb3.mono hsz))
                have HR3 := Lib.hid (HROW.out.below hb3)
                have hz3 := HB3.out.size
                clear hb3 c0 c1 c2
                obtain ⟨c0, c1, c2⟩ := HED.out _ HB3.out
                go_wp2_with fail
                go_at_call 12
                (with_reducible refine (HX2.out _).mono ?_)
                rintro e w4 ⟨rfl, hb4⟩
                have HB4 := Lib.hid (HB3.out.trans (hb4.mono hz3))
                have HR4 := Lib.hid (HR3.out.below hb4)
                clear hb4 c0 c1 c2
                go_wp2_with fail
                go_roundw
                case rel => exact ⟨x, n + 1, rfl, by omega, by go_num, HR4.out, HB4.out⟩
                case measure => simp [intOf]; omega
            · have dx : decide ((262144 : Int) < (x.size : Int)) = true := decide_eq_true (by omega)
              go_wp2_with fail
              go_ret
              exact ⟨rfl, HB.out⟩
          · have dz : decide ((65536 : Int) < (z.size : Int)) = true := decide_eq_true (by omega)
            go_wp2_with fail
            go_ret
            exact ⟨rfl, HB.out⟩
        · have hd : decide ((n : Int) < (ne : Int)) = false := decide_eq_false (by omega)
          go_wp2_with fail
          go_ret
          exact ⟨rfl, HB.out⟩
    · have hd1 : decide ((1024 : Int) < (ne : Int)) = true := decide_eq_true (by omega)
      go_enter Tryz.func6, Tryz.ntmps6
      go_wp2_with fail
      go_ret
      exact ⟨rfl, Below.refl _ _⟩
  · have hd0 : decide ((65536 : Int) < (s.size : Int)) = true := decide_eq_true (by omega)
    go_enter Tryz.func6, Tryz.ntmps6
    go_wp2_with fail
    go_ret
    exact ⟨rfl, Below.refl _ _⟩
end Go.Proofs.YtjbamlmdeopcaaaGreatDoor.lx
end

section
/-
  Of any text of at most 65536 bytes and any list of at most 1024 edits: done one behind the other, each by the tokens that lexer.Rescan told of the one ahead (the first by lexer.Scan's), each edit that is in the text as it is gives the document's own tokens of the text behind it, each other one ErrRange; up to the first edit with a text of more than 65536 bytes, or a text of more than 262144 bytes (the law LexerEdits, its tied card).
  Conditions: none beyond the card's own (the two tables of unicode/utf8 as their initialisers lay them, tied to the program's text).
-/
namespace Go.Proofs.YtjbamlmdeopcaaaGreatDoor.edits
open Go.ChangeShapes Go.WideShapes Go.ChangeAt Go.RowKit
open Go.ChangeMaps (open_string shut_string)
open Go.Proofs.YtjbamlmdeopcaaaGreatDoor.tok (own env_of laidWorld)

theorem laidOut : laidOutB Tryz.prog = true := by kernel_rfl
theorem spot_none {w : World} {a : Addr} {v : Value} (h : w.cell? a = some v) : a.spot = none := by
  unfold World.cell? at h
  split at h
  · cases hs : a.spot with
    | none => rfl
    | some x => rw [hs] at h; simp at h
  · cases h
theorem cells3 : Tryz.prog.cellsOf 35 = 3 := by kernel_rfl
theorem cells1 : Tryz.prog.cellsOf 3 = 1 ∧ Tryz.prog.cellsOf 9 = 1 := ⟨by kernel_rfl, by kernel_rfl⟩

theorem list_three {α : Type} {l : List α} (h : l.length = 3) : ∃ a b c, l = [a, b, c] := by
  match l, h with
  | [a, b, c], _ => exact ⟨a, b, c, rfl⟩

/-- Edits that are read are edits in memory. -/
theorem eds_of_trod {H : Type} {enc : TypeId × Value → H} {W : World} {sp : Nat → Bool} {held : Bool} {fuel : Nat} {v : Value} {x : DataW H × List MemPlace} (h : DataW.trod enc Tryz.prog W 0 sp held fuel 41 [v] = some x) : ∃ l, lx.EdsAt W v l := by
  rcases Deep.open_slice Tryz.underlying41 h with ⟨hv, _⟩ | ⟨a, len, cap, m, n, D, Pl, hv, _, hl, _, hm, _, hi⟩
  · simp only [List.cons.injEq, and_true] at hv
    exact ⟨[], .inl ⟨rfl, none, 0, hv⟩⟩
  · simp only [List.cons.injEq, and_true] at hv
    subst hv
    have hlm : len ≤ m := by rw [hm]; split <;> omega
    have key : ∀ i, i < len → ∃ e : lx.Ed, W.cell? (a.add (i * 3)) = some (.int .i64 e.a) ∧ W.cell? ((a.add (i * 3)).add 1) = some (.int .i64 e.b) ∧ W.cell? ((a.add (i * 3)).add 2) = some (.string e.s) := by
      intro i hil
      obtain ⟨cs, hc, ht⟩ := hi i (by omega)
      rw [cells3] at hc
      obtain ⟨_, hcl, hat⟩ := World.cells?_some hc
      obtain ⟨ys, n', _, _, _, hyl, hf⟩ := DataW.trod_struct Tryz.underlying35 ht
      have f0 := hf 0 _ rfl
      have f1 := hf 1 _ rfl
      have f2 := hf 2 _ rfl
      have hyl3 : ys.length = 3 := hyl
      change DataW.trod _ _ _ _ _ _ _ 3 ((cs.drop 0).take (Tryz.prog.cellsOf 3)) = _ at f0
      change DataW.trod _ _ _ _ _ _ _ 3 ((cs.drop 1).take (Tryz.prog.cellsOf 3)) = _ at f1
      change DataW.trod _ _ _ _ _ _ _ 9 ((cs.drop 2).take (Tryz.prog.cellsOf 9)) = _ at f2
      rw [cells1.1] at f0 f1
      rw [cells1.2] at f2
      clear hyl hf ht
      obtain ⟨c0, c1, c2, rfl⟩ := list_three hcl
      obtain ⟨y0, y1, y2, rfl⟩ := list_three hyl3
      obtain ⟨p, hp, _⟩ := DataW.trod_int Tryz.underlying3 (x := y0) f0
      obtain ⟨q, hq, _⟩ := DataW.trod_int Tryz.underlying3 (x := y1) f1
      obtain ⟨s, hs, _⟩ := DataW.trod_string Tryz.underlying9 (x := y2) f2
      simp only [List.drop_zero, List.drop_succ_cons, List.take_succ_cons, List.take_zero, List.cons.injEq, and_true] at hp hq hs
      subst hp; subst hq; subst hs
      refine ⟨⟨p, q, s⟩, ?_, hat 1 (by omega), hat 2 (by omega)⟩
      have := hat 0 (by omega)
      rw [show ∀ x : Addr, x.add 0 = x from fun x => by simp [Addr.add]] at this
      exact this
    by_cases hz : len = 0
    · subst hz
      exact ⟨[], .inl ⟨rfl, some a, cap, rfl⟩⟩
    · obtain ⟨b, o, spt⟩ := a
      obtain ⟨e0, k0, _, _⟩ := key 0 (by omega)
      have hb := World.block_lt_of_cell? _ _ k0
      have hsp := spot_none k0
      obtain rfl : spt = none := by
        have : (Addr.add ⟨b, o, spt⟩ (0 * 3)).spot = spt := by unfold Addr.add; split <;> simp_all
        rw [← this]; exact hsp
      have inh : Inhabited lx.Ed := ⟨⟨0, 0, .empty⟩⟩
      obtain ⟨E, hE⟩ := Deep.choose_lt (α := lx.Ed) (n := len) (p := fun i e => W.cell? ((⟨b, o, none⟩ : Addr).add (i * 3)) = some (.int .i64 e.a) ∧ W.cell? (((⟨b, o, none⟩ : Addr).add (i * 3)).add 1) = some (.int .i64 e.b) ∧ W.cell? (((⟨b, o, none⟩ : Addr).add (i * 3)).add 2) = some (.string e.s)) key
      refine ⟨(List.range len).map E, .inr ⟨b, o, cap, by simp, by simpa [Addr.add] using hb, fun j hj => ?_⟩⟩
      simp only [List.length_map, List.length_range] at hj
      have := hE j hj
      simp only [Addr.add_lit] at this
      simpa using this

set_option maxRecDepth 100000 in
theorem contract (H : Type) (enc : TypeId × Value → H) (W : World) (base : Nat) (args : Array Value) (ds gs : List (DataW H)) (before : List MemPlace)
    (hval : ∀ (j : Nat) t v, Tryz.f6.params[j]? = some t → args[j]? = some v → Value.okWide Tryz.prog W .any base t v)
    (hW : DataW.Whole enc Tryz.prog Tryz.f6.params.toList Rows.lexerEditsSpec.vars false W args.toList ds gs before) (hL : laidMetH Tryz.prog Rows.lexerEditsRow.laid W) (hS : W.ShapedOpen Tryz.prog) :
    Calls Tryz.prog 6 args W fun e W' => ∃ v, e = .returned v ∧ Rows.lexerEditsSpec.post enc Tryz.prog Tryz.f6 false true false false W args v W' := by
  have hW' := hW
  obtain ⟨p, q, hA0, hV, rfl, hfz, hnd⟩ := hW
  have hA : DataW.TrodAll enc Tryz.prog W 0 (fun _ => true) true Tryz.f6.params.toList args.toList ds p := hA0
  rw [Tryz.params6] at hA hval
  obtain ⟨v0, vs0, d0, ds0, p0, q0, hargs, rfl, rfl, h0, r0⟩ := trodAll_cons hA
  obtain ⟨v1, vs1, d1, ds1, p1, q1, rfl, rfl, rfl, h1, r1⟩ := trodAll_cons r0
  obtain ⟨rfl, rfl, rfl⟩ := trodAll_nil r1
  obtain rfl : args = #[v0, v1] := by cases args; simp_all
  obtain ⟨rfl, rfl⟩ := trodVars_none hV
  have k0 := hval 0 9 v0 (by simp) (by simp)
  obtain ⟨s0, rfl, rfl, rfl, hmax0⟩ := open_string Tryz.underlying9 k0 h0
  have lt1 : ∀ x ∈ p1, x.block < W.heap.size := by obtain ⟨m, hm⟩ := h1; exact DataW.trod_lt m _ _ _ hm
  obtain ⟨oa, len, cap, rfl⟩ := okWide_slice Tryz.underlying41 (hval 1 41 v1 (by simp) (by simp))
  have k1 := h1
  obtain ⟨fuel, hf⟩ := k1
  obtain ⟨l, he⟩ := eds_of_trod (v := .slice oa len cap) (by simpa [Value.cells] using hf)
  clear hA0
  simp only [List.append_nil] at hW'
  refine (lx.edits_law s0 _ l W (env_of hL hS) he).mono fun e W' ⟨he, hb⟩ => ?_
  subst he
  exact ⟨_, rfl, _, _, _, [], _, [], hW', trodAll_cons_mk (shut_bool Tryz.underlying4 _) trodAll_mk0, trodAll_cons_mk (shut_string Tryz.underlying9 hmax0) (trodAll_cons_mk (Below.trod laidOut (by kernel_rfl) (of_decide_eq_true (by kernel_rfl)) h1 hb lt1) trodAll_mk0), rfl, hb.frame _, fun h => by cases h⟩

theorem laid_met (os : Os) : laidMet Tryz.prog Rows.lexerEditsRow.laid ((laidWorld os).forCall (fun _ _ => 0) ⟨#[], #[.string .empty, .slice none 0 0], []⟩).memory :=
  laidMet_of_run' 8 (by kernel_rfl) (by kernel_rfl)
theorem reads (os : Os) {H : Type} (enc : TypeId × Value → H) : ∃ places, DataW.whole enc Tryz.prog ((laidWorld os).forCall (fun _ _ => 0) ⟨#[], #[.string .empty, .slice none 0 0], []⟩).memory Tryz.f6.params.toList Rows.lexerEditsSpec.vars false #[Value.string .empty, Value.slice none 0 0].toList 8 = some ([.lit (.string []), .nil], [], places) :=
  ⟨[], by kernel_rfl⟩

set_option maxRecDepth 100000 in
theorem lifted (os : Os) (started : os.Started) (H : Type) (enc : TypeId × Value → H) (F : Stop.Interp) :
    ReturnsInHanded {} Tryz.checked os 6 .any ((OpenSpec.ofChange Rows.lexerEditsSpec).preRow enc Tryz.prog Tryz.f6 Rows.lexerEditsRow.domain false Rows.lexerEditsRow.laid) (((OpenSpec.ofChange Rows.lexerEditsSpec).at F).post enc Tryz.prog Tryz.f6 false true false false) := by
  obtain ⟨places, hx⟩ := reads os enc
  refine returnsInHanded_of_row (C := Tryz.checked) (s := OpenSpec.ofChange Rows.lexerEditsSpec) own started (by kernel_rfl) Tryz.func6
    (witness_row_at (enc := enc) (C := Tryz.checked) false (laidWorld os) #[.string .empty, .slice none 0 0] rfl (by kernel_rfl) (by kernel_rfl) (by kernel_rfl)
      (OpenSpec.preRow_of_cond 8 hx (by kernel_rfl) (fun k hk => by cases hk) (by kernel_rfl) (laid_met os))) ?_
  intro W base args ds gs before hval hW _ _ _ hL hS _
  exact contract H enc W base args ds gs before hval hW hL hS

theorem said : Rows.LexerEditsSaid :=
  OpenClaim.holds_of_cond 6 Tryz.f6 rfl rfl rfl rfl rfl rfl rfl ⟨rfl, rfl, rfl, rfl, rfl⟩ rfl rfl rfl rfl rfl (by kernel_rfl) Tryz.func6 (by kernel_rfl)
    (of_decide_eq_true (by kernel_rfl)) (by unfold Func.isWrapper; first | (rw [if_pos (by decide +kernel)]; kernel_rfl) | (rw [if_neg (by decide +kernel)]; exact ⟨rfl, rfl⟩))
    (fun os started H enc _ F => by rw [OpenClaim.pre_eq_preRow]; exact lifted os started H enc F)

theorem plain (f : FuncId) (fn : Func) (hf : Tryz.pinned.checked.prog.funcNamed Rows.lexerEditsRow.func = some f) (hfn : Tryz.pinned.checked.prog.funcs[f]? = some fn) :
    false = Tryz.pinned.checked.prog.looks [] ∧ ∀ (j : Nat) t, fn.params[j]? = some t → Tryz.pinned.checked.prog.wantsStandIn t = false := by
  obtain rfl : f = 6 := Option.some.inj ((show Tryz.prog.funcNamed Rows.lexerEditsRow.func = some 6 by kernel_rfl).symm.trans hf) |>.symm
  obtain rfl : fn = Tryz.f6 := (Option.some.inj (Tryz.func6.symm.trans hfn)).symm
  refine ⟨by kernel_rfl, fun j t ht => ?_⟩
  rw [Tryz.params6] at ht
  have ht' : t = 9 ∨ t = 41 := by simpa using Array.mem_of_getElem? ht
  rcases ht' with rfl | rfl
  · exact (show Tryz.prog.wantsStandIn 9 = false by kernel_rfl)
  · exact (show Tryz.prog.wantsStandIn 41 = false by kernel_rfl)

theorem card : Rows.LexerEditsCardSaid :=
  Claim7.holds_tied_plain_at .later [] _ _ _ _ said (fun _ h => by cases h) (by kernel_rfl) (fun _ h => by cases h) lexerEdits_row_tie rfl ⟨rfl, rfl⟩ (by kernel_rfl) rfl plain (by kernel_rfl)
end Go.Proofs.YtjbamlmdeopcaaaGreatDoor.edits
end
