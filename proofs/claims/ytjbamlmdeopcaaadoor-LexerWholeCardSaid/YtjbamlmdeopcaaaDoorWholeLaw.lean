/-
  The law LexerWhole.
-/
import Derived.Test.YtjbamlmdeopcaaaDoorLm
import Derived.Test.YtjbamlmdeopcaaaDoorLn
import Derived.BigQuiet
import Derived.Deep.QuietTactic
namespace Go.Proofs.YtjbamlmdeopcaaaDoor.lx
open Go.RowKit Go.Proofs.YtjbamlmdeopcaaaDoor.tok

def Holds (w : World) (e : Ending) (w' : World) : Prop := e = .returned (.bool true) ∧ Below w.heap.size w w'
def prevK (T : List Tr) (n : Nat) : Int := if n = 0 then 0 else (T.getD (n - 1) ⟨0, 0, 0⟩).k
theorem prevK_succ {T : List Tr} {n : Nat} {t : Tr} (h : T[n]? = some t) : prevK T (n + 1) = t.k := by
  unfold prevK
  rw [if_neg (by omega), Nat.add_sub_cancel, List.getD_eq_getElem?_getD, h]
  rfl
/-- A bad token among the first ones. -/
def HasBad (T : List Tr) (n : Nat) : Prop := ∃ t ∈ T.take n, t.k = 5
theorem auto_kind {l : List UInt8} {more : Bool} {T : List Tr} : ∀ t ∈ autos l more T, t.k = 16 ∨ t ∈ T := by
  induction T with
  | nil => intro t h; simp [autos] at h
  | cons u T ih =>
    intro t h
    simp only [autos, List.mem_cons, List.mem_append] at h
    rcases h with h | h | h
    · exact .inr (by rw [h]; simp)
    · unfold autoOf at h
      split at h
      · rw [List.mem_singleton] at h; exact .inl (by rw [h])
      · simp at h
    · rcases ih t h with e | e
      · exact .inl e
      · exact .inr (by simp [e])
theorem bad_check (s : ByteArray) (n : Nat) (hb : HasBad (scan lang s.data.toList) n) (hd : (dgs lang s.data.toList 0).length = 0) : 0 < (dec.diags s 0).length := by
  obtain ⟨t, ht, h5⟩ := hb
  rcases Nat.eq_zero_or_pos (dec.diags s 0).length with h | h
  · exfalso
    have ht := List.mem_of_mem_take ht
    rcases auto_kind t ht with e | e
    · rw [h5] at e; exact absurd e (by decide)
    · exact no_bad s (List.eq_nil_of_length_eq_zero h) (List.eq_nil_of_length_eq_zero hd) t e h5
  · exact h
theorem whole_step {m p : Nat} {prev : Int} {t : Tr} {T : List Tr} (h : Whole m p prev (t :: T)) : t.i = p ∧ ((t.k = 16 ∧ t.j = p ∧ ends prev = true ∧ Whole m p 16 T) ∨ (t.k ≠ 16 ∧ t.i < t.j ∧ Whole m t.j t.k T)) := by
  refine ⟨h.1, ?_⟩
  have := h.2
  by_cases c : t.k = 16
  · rw [if_pos c] at this; exact .inl ⟨c, this⟩
  · rw [if_neg c] at this; exact .inr ⟨c, this⟩

set_option maxRecDepth 100000 in
set_option maxHeartbeats 8000000 in
theorem whole_law (s : ByteArray) (w : World) (hE : Env w) (hm : s.size ≤ 140737488351232) : Calls Tryd.prog 3 #[.string s] w (Holds w) := by
  by_cases hs : s.size ≤ 1048576
  · have hd0 : decide ((1048576 : Int) < (s.size : Int)) = false := decide_eq_false (by omega)
    have HS := Lib.hid (scan_any s w hE (by omega))
    have HC := Lib.hid (fun (u : World) (hu : Below w.heap.size w u) => check_len s u (by omega) (hE.below hu))
    have HWS := Lib.hid (whole_scan (L := lang) s.data.toList)
    have HBC := Lib.hid (bad_check s)
    have HDW := Lib.hid (dgs_within (L := lang) s.data.toList 0)
    have hln := scan_few (L := lang) s.data.toList
    have hld := dgs_few (L := lang) s.data.toList 0
    rw [sdata] at hln hld HWS HDW
    generalize scan lang s.data.toList = T at *
    generalize dgs lang s.data.toList 0 = D at *
    clear hE
    go_enter Tryd.func3, Tryd.ntmps3
    go_wp2_with fail
    refine HS.out.mono ?_
    rintro e w1 ⟨v1, v2, rfl, ho1, ho2, hb1⟩
    obtain ⟨g1, off1, a1, cap1, hc1, rfl, ha1, hcell1⟩ := row_of_own ho1
    obtain ⟨g2, off2, a2, cap2, hc2, rfl, ha2, hcell2⟩ := row_of_own ho2
    have HA1 := Lib.hid ha1
    have HA2 := Lib.hid ha2
    have HC1 := Lib.hid hcell1
    have HC2 := Lib.hid hcell2
    have HB1 := Lib.hid hb1
    have hz1 := hb1.size
    clear ho1 ho2 hb1 ha1 ha2 hcell1 hcell2
    obtain ⟨n1, hn1⟩ : ∃ n, T.length = n := ⟨_, rfl⟩
    obtain ⟨n2, hn2⟩ : ∃ n, D.length = n := ⟨_, rfl⟩
    rw [hn1] at hc1 hln ⊢
    rw [hn2] at hc2 hld HBC ⊢
    have HN1 := Lib.hid hn1
    have HN2 := Lib.hid hn2
    clear hn1 hn2
    go_wp2_with fail
    go_loopw [5, 6, 7] (fun a b i wr => ∃ (n p : Nat) (bd : Bool), n ≤ n1 ∧ i = .int .i64 n ∧ a = .int .i64 p ∧ b = .bool bd ∧ Whole s.size p (prevK T n) (T.drop n) ∧ (bd = true → HasBad T n) ∧ Below w1.heap.size w1 wr) (fun _ _ i _ => n1 - (intOf i).toNat)
    case atStart => exact ⟨0, 0, false, Nat.zero_le _, rfl, rfl, rfl, HWS.out, (fun h => by cases h), Below.refl _ _⟩
    case round =>
      obtain ⟨n, p, bd, hnl, rfl, rfl, rfl, hw, hbad, hb⟩ := hrel
      have HW := Lib.hid hw
      have HBD := Lib.hid hbad
      have HB := Lib.hid hb
      have hsz := hb.size
      clear hw hbad hb
      by_cases hlt : n < n1
      · have hltT : n < T.length := by rw [HN1.out]; exact hlt
        have hd : decide ((n : Int) < (n1 : Int)) = true := decide_eq_true (by omega)
        have ha := HA1.out (by rintro rfl; simp at hltT)
        subst ha
        have hD := List.drop_eq_getElem_cons hltT
        obtain ⟨c0, c1, c2⟩ := HC1.out.below HB.out n hltT
        have hg1 : g1 < wr.heap.size := World.block_lt_of_cell? _ _ c0
        have HP := Lib.hid (prevK_succ (List.getElem?_eq_getElem hltT))
        have HTK : Hid (T.take (n + 1) = T.take n ++ [T[n]]) := Lib.hid (by rw [List.take_succ_eq_append_getElem hltT])
        rw [hD] at HW
        generalize T[n] = t at *
        obtain ⟨k, i, j⟩ := t
        obtain ⟨hi, hor⟩ := whole_step HW.out
        simp only [] at c0 c1 c2 hi hor HP
        subst hi
        clear HW hD
        rcases hor with ⟨rfl, hj, hend, hw⟩ | ⟨hk, hij, hw⟩
        · subst hj
          have HW2 := Lib.hid hw
          have hn0 : n ≠ 0 := by rintro rfl; unfold prevK at hend; rw [if_pos rfl] at hend; exact absurd hend (by decide)
          have bn : ((n : Int) == 0) = false := beq_eq_false_iff_ne.2 (by omega)
          have hpt : n - 1 < T.length := by omega
          obtain ⟨p0, q0, r0⟩ := HC1.out.below HB.out (n - 1) hpt
          have hpk : prevK T n = T[n - 1].k := by unfold prevK; rw [if_neg hn0]; simp [List.getD, hpt]
          have HE := Lib.hid (fun u => ends_any T[n - 1].k u)
          have he : endsOf T[n - 1].k = true := by rw [← hpk]; exact hend
          rw [he] at HE
          clear q0 r0
          generalize T[n - 1].k = kp at *
          clear hw hend hpk he hltT hpt
          go_wp2_with (go_at_call 5; refine (HE.out _).mono ?_; rintro e w' ⟨rfl, rfl⟩)
          go_roundw
          case rel => exact ⟨n + 1, j, bd, by omega, by go_num, rfl, rfl, by rw [HP.out]; exact HW2.out, (fun h => by obtain ⟨t, ht, h5⟩ := HBD.out h; exact ⟨t, by rw [HTK.out]; exact List.mem_append_left _ ht, h5⟩), HB.out.alloc hsz _⟩
          case measure => simp [intOf]; omega
        · have HW2 := Lib.hid hw
          have bk : (k == 16) = false := beq_eq_false_iff_ne.2 hk
          have hde : decide (j ≤ i) = false := decide_eq_false (by omega)
          have HS5 : Hid (∀ b, (k == 5) = b → (bd || b) = true → HasBad T (n + 1)) := Lib.hid (fun b hb5 h => by
            cases bd with
            | true => obtain ⟨t, ht, h5⟩ := HBD.out rfl; exact ⟨t, by rw [HTK.out]; exact List.mem_append_left _ ht, h5⟩
            | false =>
              have hb1 : b = true := h
              subst hb1
              exact ⟨⟨k, i, j⟩, by rw [HTK.out]; simp, beq_iff_eq.1 hb5⟩)
          obtain ⟨b5, hb5⟩ : ∃ b, (k == 5) = b := ⟨_, rfl⟩
          have HS6 := Lib.hid (HS5.out b5 hb5)
          clear hw hltT hk HS5
          cases bd with
          | true =>
            go_wp2_with fail
            go_roundw
            case rel => exact ⟨n + 1, j, _, by omega, by go_num, rfl, rfl, by rw [HP.out]; exact HW2.out, HS6.out, HB.out.alloc hsz _⟩
            case measure => simp [intOf]; omega
          | false =>
            go_wp2_with fail
            go_roundw
            case rel => exact ⟨n + 1, j, _, by omega, by go_num, rfl, rfl, by rw [HP.out]; exact HW2.out, HS6.out, HB.out.alloc hsz _⟩
            case measure => simp [intOf]; omega
      · have hd : decide ((n : Int) < (n1 : Int)) = false := decide_eq_false (by omega)
        have hD : T.drop n = [] := List.drop_of_length_le (by rw [HN1.out]; omega)
        have hp : p = s.size := by have := HW.out; rw [hD] at this; exact this
        subst hp
        clear hD HW
        go_wp2_with fail
        go_loopw [9] (fun i wq => ∃ m : Nat, m ≤ n2 ∧ i = .int .i64 m ∧ Below w1.heap.size w1 wq) (fun i _ => n2 - (intOf i).toNat)
        case atStart => exact ⟨0, Nat.zero_le _, rfl, HB.out⟩
        case round =>
          obtain ⟨m, hml, rfl, hb2⟩ := hrel
          have HB2 := Lib.hid hb2
          have hsz2 := hb2.size
          clear hb2
          by_cases hlt2 : m < n2
          · have hltD : m < D.length := by rw [HN2.out]; exact hlt2
            have hd2 : decide ((m : Int) < (n2 : Int)) = true := decide_eq_true (by omega)
            have ha := HA2.out (by rintro rfl; simp at hltD)
            subst ha
            obtain ⟨c0, c1, c2⟩ := HC2.out.below HB2.out m hltD
            obtain ⟨e1, e2⟩ := HDW.out _ (List.getElem_mem hltD)
            generalize D[m] = t at *
            obtain ⟨k, i, j⟩ := t
            simp only [] at c0 c1 c2 e1 e2
            have d1 : decide ((i : Int) < 0) = false := decide_eq_false (by omega)
            have d2 : decide (j < i) = false := decide_eq_false (by omega)
            have d3 : decide (s.size < j) = false := decide_eq_false (by omega)
            clear c0 hltD
            go_wp2_with fail
            go_quiet (fail)
            go_wp2
            go_roundw
            case rel => exact ⟨m + 1, by omega, by go_num, tok.below_drewN HB2.out⟩
            case measure => simp [intOf]; omega
          · have hd2 : decide ((m : Int) < (n2 : Int)) = false := decide_eq_false (by omega)
            have HBA := Lib.hid (HB1.out.trans (HB2.out.mono hz1))
            cases bd with
            | false =>
              go_wp2_with fail
              go_ret
              exact ⟨rfl, HBA.out⟩
            | true =>
              by_cases h0 : n2 = 0
              · have hn0 : decide ((0 : Int) < (n2 : Int)) = false := decide_eq_false (by omega)
                have HX := Lib.hid (HC.out _ HBA.out)
                have hpos : decide (0 < (dec.diags s 0).length) = true := decide_eq_true (HBC.out n (HBD.out rfl) h0)
                go_wp2_with (go_at_call 6; refine HX.out.mono ?_; rintro e w5 ⟨o5, c5, rfl, hb5⟩; have HB5 := Lib.hid hb5; clear hb5)
                go_ret
                exact ⟨rfl, HBA.out.trans (HB5.out.mono HBA.out.size)⟩
              · have hn0 : decide ((0 : Int) < (n2 : Int)) = true := decide_eq_true (by omega)
                go_wp2_with fail
                go_ret
                exact ⟨rfl, HBA.out⟩
  · have hd0 : decide ((1048576 : Int) < (s.size : Int)) = true := decide_eq_true (by omega)
    go_enter Tryd.func3, Tryd.ntmps3
    go_wp2_with fail
    go_ret
    exact ⟨rfl, Below.refl _ _⟩
end Go.Proofs.YtjbamlmdeopcaaaDoor.lx
