/-
  Rows of tokens that are read; lexer.endsLine.
-/
import Derived.Test.YtjbamlmdeopcaaaDoorLj
namespace Go.Proofs.YtjbamlmdeopcaaaDoor.lx
open Go.RowKit Go.Proofs.YtjbamlmdeopcaaaDoor.tok

def cellsT (T : List Tr) : List Value := T.flatMap fun t => [.int .i64 t.k, .int .i64 (t.i : Int), .int .i64 (t.j : Int)]
theorem cellsT_append (a b : List Tr) : cellsT (a ++ b) = cellsT a ++ cellsT b := by simp [cellsT]
theorem cellsT_length (T : List Tr) : (cellsT T).length = T.length * 3 := by
  induction T with
  | nil => rfl
  | cons d T ih => simp only [cellsT, List.flatMap_cons, List.length_append, List.length_cons, List.length_nil] at *; omega
theorem cellsT_at (T : List Tr) : ∀ (j : Nat) (hj : j < T.length), (cellsT T)[j * 3]? = some (.int .i64 T[j].k) ∧ (cellsT T)[j * 3 + 1]? = some (.int .i64 (T[j].i : Int)) ∧ (cellsT T)[j * 3 + 2]? = some (.int .i64 (T[j].j : Int)) := by
  induction T with
  | nil => intro j hj; simp at hj
  | cons d T ih =>
    intro j hj
    have e : cellsT (d :: T) = .int .i64 d.k :: .int .i64 d.i :: .int .i64 d.j :: cellsT T := rfl
    rw [e]
    cases j with
    | zero => exact ⟨rfl, rfl, rfl⟩
    | succ j =>
      obtain ⟨a, b, c⟩ := ih j (by simpa using hj)
      rw [show (j + 1) * 3 = j * 3 + 1 + 1 + 1 by omega, show j * 3 + 1 + 1 + 1 + 2 = j * 3 + 2 + 1 + 1 + 1 by omega]
      simp only [List.getElem?_cons_succ, List.getElem_cons_succ]
      exact ⟨a, b, c⟩
/-- A row of tokens can be read there. -/
def Cells (w : World) (g off : Nat) (T : List Tr) : Prop := ∀ j (h : j < T.length), w.cell? ⟨g, off + j * 3, none⟩ = some (.int .i64 T[j].k) ∧ w.cell? ⟨g, off + j * 3 + 1, none⟩ = some (.int .i64 (T[j].i : Int)) ∧ w.cell? ⟨g, off + j * 3 + 2, none⟩ = some (.int .i64 (T[j].j : Int))
def Row (w : World) (v : Value) (T : List Tr) : Prop := ∃ (g off : Nat) (o : Option Addr) (cap : Nat), T.length ≤ cap ∧ v = .slice o T.length cap ∧ (T ≠ [] → o = some ⟨g, off, none⟩) ∧ Cells w g off T
theorem Cells.drop {w : World} {g off : Nat} {T : List Tr} (h : Cells w g off T) (n : Nat) : Cells w g (off + n * 3) (T.drop n) := by
  intro j hj
  rw [List.length_drop] at hj
  have := h (n + j) (by omega)
  rw [List.getElem_drop]
  rw [show off + n * 3 + j * 3 = off + (n + j) * 3 by omega]
  exact this
theorem Cells.below {w w' : World} {g off : Nat} {T : List Tr} (h : Cells w g off T) (hb : Below w.heap.size w w') : Cells w' g off T := by
  intro j hj
  obtain ⟨a, b, c⟩ := h j hj
  have l := World.block_lt_of_cell? _ _ a
  exact ⟨(hb.cell (p := ⟨g, off + j * 3, none⟩) l).trans a, (hb.cell (p := ⟨g, off + j * 3 + 1, none⟩) l).trans b, (hb.cell (p := ⟨g, off + j * 3 + 2, none⟩) l).trans c⟩
theorem Row.below {w w' : World} {v : Value} {T : List Tr} (h : Row w v T) (hb : Below w.heap.size w w') : Row w' v T := by
  obtain ⟨g, off, o, cap, hc, hv, ho, hcell⟩ := h
  exact ⟨g, off, o, cap, hc, hv, ho, hcell.below hb⟩
theorem Row.nil (w : World) (o : Option Addr) (cap : Nat) : Row w (.slice o 0 cap) [] := ⟨0, 0, o, cap, Nat.zero_le _, rfl, fun h => absurd rfl h, fun j h => by simp at h⟩
theorem row_of_own {w : World} {B0 e : Nat} {v : Value} {T : List Tr} (h : w.ownsRow B0 e 3 v T.length (cellsT T)) : Row w v T := by
  rcases h.2 with ⟨rfl, b⟩ | ⟨g, cap, cur, rfl, _, _, hcap, _⟩
  · have : T = [] := List.eq_nil_of_length_eq_zero b
    subst this
    exact Row.nil w none 0
  · refine ⟨g, 0, _, cap, ?_, rfl, fun _ => rfl, fun j hj => ?_⟩
    · exact hcap
    · have hc := h.cells (g := g) rfl
      obtain ⟨a, b, c⟩ := cellsT_at T j hj
      have e : ∀ k, ((⟨g, 0, none⟩ : Addr).add k) = ⟨g, 0 + k, none⟩ := fun k => by rw [Addr.add_lit]
      have e1 := hc _ _ a
      have e2 := hc _ _ b
      have e3 := hc _ _ c
      rw [e] at e1 e2 e3
      exact ⟨e1, e2, e3⟩
theorem piece_mid (s : ByteArray) (a b : Nat) (z y : Int) (hz : z = (a : Int)) (hy : y = (b : Int)) (h1 : a ≤ b) (h2 : b ≤ s.size) (u : World) :
    (Instr.slice 9 (.string s) (some (.int .i64 z)) (some (.int .i64 y)) none).run Tryd.prog u = .ok (.string (B ((s.data.toList.drop a).take (b - a)))) u := by
  subst hz hy
  rw [← b_extract]
  exact run_slice_string (P := Tryd.prog) u 9 s .i64 .i64 a (b : Int) Tryd.underlying9 (by omega) (by omega) (by omega)
theorem run_slice_tok (u : World) (o : Option Addr) (n cap : Nat) (z : Int) (i : Nat) (hz : z = (i : Int)) (h : i ≤ n) :
    (Instr.slice 22 (.slice o n cap) (some (.int .i64 z)) none none).run Tryd.prog u = .ok (.slice (if cap = i then o else o.map (·.add (i * 3))) (n - i) (cap - i)) u := by
  subst hz
  rw [run_slice_l (P := Tryd.prog) (w := u) (t := 22) (a := o) (len := n) (cap := cap) (ht := by kernel_rfl) .i64 (i : Int) (by omega) (by omega)]
  have hs : (sizeOf (Tryd.prog.elem 22)).run Tryd.prog u = .ok 3 u := by kernel_rfl
  rw [hs]
  rfl
theorem Row.drop {w : World} {v : Value} {T : List Tr} (h : Row w v T) (i : Nat) (hi : i ≤ T.length) : ∃ v', (∀ u, (Instr.slice 22 v (some (.int .i64 (i : Int))) none none).run Tryd.prog u = .ok v' u) ∧ Row w v' (T.drop i) := by
  obtain ⟨g, off, o, cap, hc, rfl, ho, hcell⟩ := h
  refine ⟨_, fun u => run_slice_tok u o T.length cap _ i rfl hi, g, off + i * 3, _, cap - i, by rw [List.length_drop]; omega, by rw [List.length_drop], fun hne => ?_, hcell.drop i⟩
  have h1 : i < T.length := by
    rcases Nat.lt_or_ge i T.length with h | h
    · exact h
    · exact absurd (List.drop_of_length_le h) hne
  rw [if_neg (by omega), ho (fun e => by rw [e] at h1; simp at h1)]
  simp [Addr.add]
/-- All tokens of a list lie in a text. -/
def Within (n : Nat) (T : List Tr) : Prop := ∀ t ∈ T, t.i ≤ t.j ∧ t.j ≤ n
theorem Within.drop {n : Nat} {T : List Tr} (h : Within n T) (i : Nat) : Within n (T.drop i) := fun t ht => h t (List.mem_of_mem_drop ht)
theorem contains_any (x : List UInt8) (u : World) : Calls Tryd.prog 35 #[.string (B x), .string { data := #[10] }] u (Bools (Lib.contains x [10]) u) := by
  refine (Tryd.strings_Contains_one (B x) 10 u).mono ?_
  rintro e w' ⟨rfl, rfl⟩
  rw [bdata]
  unfold Lib.contains
  rw [Lib.index_one]
  exact ⟨rfl, rfl⟩

set_option maxRecDepth 100000 in
set_option maxHeartbeats 4000000 in
theorem endsLine_any (s : ByteArray) (v : Value) (T : List Tr) (more : Bool) (w : World) (hr : Row w v T) (hw : Within s.size T) (hn : T.length ≤ 16777216) :
    Calls Tryd.prog 23 #[.string s, v, .bool more] w (fun e w' => e = .returned (.bool (lineEnd s.data.toList more T)) ∧ Below w.heap.size w w') := by
  obtain ⟨g, off, o, cap, hc, rfl, ho, hcell⟩ := hr
  have HC := Lib.hid hcell
  have HW := Lib.hid hw
  have HO := Lib.hid ho
  clear hcell hw ho
  obtain ⟨len, hlen⟩ : ∃ len, T.length = len := ⟨_, rfl⟩
  rw [hlen] at hc hn
  have HN := Lib.hid hlen
  clear hlen
  rw [HN.out]
  go_enter Tryd.func23, Tryd.ntmps23
  go_wp2
  go_loopw [11] (fun p wr => ∃ n : Nat, n ≤ len ∧ p = .int .i64 n ∧ lineEnd s.data.toList more (T.drop n) = lineEnd s.data.toList more T ∧ Below w.heap.size w wr) (fun p _ => len - (intOf p).toNat)
  case atStart => exact ⟨0, Nat.zero_le _, rfl, rfl, Below.refl _ _⟩
  case round =>
    obtain ⟨n, hnl, rfl, hle, hb⟩ := hrel
    have HB := Lib.hid hb
    have HL := Lib.hid hle
    have hsz := hb.size
    clear hb hle
    by_cases hlt : n < len
    · have hltT : n < T.length := by rw [HN.out]; exact hlt
      have hd : decide ((n : Int) < (len : Int)) = true := decide_eq_true (by omega)
      have hne : T ≠ [] := by rintro rfl; simp at hltT
      have ho := HO.out hne
      subst ho
      have hD := List.drop_eq_getElem_cons hltT
      obtain ⟨c0, c1, c2⟩ := HC.out.below HB.out n hltT
      obtain ⟨w1, w2⟩ := HW.out T[n] (List.getElem_mem hltT)
      generalize T[n] = t at *
      obtain ⟨k, i, j⟩ := t
      simp only [] at c0 c1 c2 w1 w2
      rw [hD, lineEnd] at HL
      simp only [] at HL
      have HT := Lib.hid (fun u => trivia_any k u)
      have ht : triviaOf k = triv k := rfl
      rw [ht] at HT
      clear hne hltT ht hD
      cases h1 : triv k with
      | false =>
        rw [h1, if_pos rfl] at HL
        rw [h1] at HT
        clear h1
        go_wp2_with (go_at_call 34; refine (HT.out _).mono ?_; rintro e w' ⟨rfl, rfl⟩)
        go_ret
        exact ⟨by rw [← HL.out]; rfl, HB.out.alloc hsz _⟩
      | true =>
        rw [h1, if_neg (by simp)] at HL
        rw [h1] at HT
        clear h1
        by_cases h2 : k = 2
        · have b2 : (k == 2) = true := beq_iff_eq.2 h2
          rw [if_pos h2] at HL
          clear h2
          go_wp2_with (go_at_call 34; refine (HT.out _).mono ?_; rintro e w' ⟨rfl, rfl⟩)
          go_ret
          exact ⟨by rw [← HL.out]; rfl, HB.out.alloc hsz _⟩
        have b2 : (k == 2) = false := beq_eq_false_iff_ne.2 h2
        rw [if_neg h2] at HL
        clear h2
        by_cases h4 : k = 4
        · have b4 : (k == 4) = true := beq_iff_eq.2 h4
          have hsl := piece_mid s i j (i : Int) (j : Int) rfl rfl w1 w2
          have HP : Hid (∀ u : World, Calls Tryd.prog 35 #[.string (B ((s.data.toList.drop i).take (j - i))), .string { data := #[10] }] u (Bools (hasFeed s.data.toList ⟨k, i, j⟩) u)) := Lib.hid (fun u => contains_any _ u)
          obtain ⟨x, hx⟩ : ∃ x, B ((s.data.toList.drop i).take (j - i)) = x := ⟨_, rfl⟩
          rw [hx] at hsl HP
          cases hf : hasFeed s.data.toList ⟨k, i, j⟩ with
          | true =>
            rw [hf, h4] at HL
            rw [if_pos (by simp)] at HL
            rw [hf] at HP
            clear h4 hf hx
            go_wp2_with (first | (go_at_call 34; refine (HT.out _).mono ?_; rintro e w' ⟨rfl, rfl⟩) | (go_at_call 35; refine (HP.out _).mono ?_; rintro e w' ⟨rfl, rfl⟩))
            go_ret
            exact ⟨by rw [← HL.out]; rfl, HB.out.alloc hsz _⟩
          | false =>
            rw [hf, Bool.and_false, if_neg (by simp)] at HL
            rw [hf] at HP
            clear h4 hf hx
            go_wp2_with (first | (go_at_call 34; refine (HT.out _).mono ?_; rintro e w' ⟨rfl, rfl⟩) | (go_at_call 35; refine (HP.out _).mono ?_; rintro e w' ⟨rfl, rfl⟩))
            go_roundw
            case rel => exact ⟨n + 1, by omega, by go_num, HL.out, HB.out.alloc hsz _⟩
            case measure => simp [intOf]; omega
        · have b4 : (k == 4) = false := beq_eq_false_iff_ne.2 h4
          rw [decide_eq_false h4, Bool.false_and, if_neg (by simp)] at HL
          clear h4
          go_wp2_with (go_at_call 34; refine (HT.out _).mono ?_; rintro e w' ⟨rfl, rfl⟩)
          go_roundw
          case rel => exact ⟨n + 1, by omega, by go_num, HL.out, HB.out.alloc hsz _⟩
          case measure => simp [intOf]; omega
    · have hd : decide ((n : Int) < (len : Int)) = false := decide_eq_false (by omega)
      have hD : T.drop n = [] := List.drop_of_length_le (by rw [HN.out]; omega)
      rw [hD] at HL
      clear hD
      go_wp2_with fail
      go_ret
      exact ⟨by rw [← HL.out]; rfl, HB.out⟩
end Go.Proofs.YtjbamlmdeopcaaaDoor.lx
