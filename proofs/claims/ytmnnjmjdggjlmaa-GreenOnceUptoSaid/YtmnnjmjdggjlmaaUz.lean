/-
  Layer 8: Ua, Ub, Uc, Ud, Ue, Uf, Ug, Uh, Ui put together.
-/
import Derived.Test.YtmnnjmjdggjlmaaNh
import Derived.Test.YtmnnjmjdggjlmaaTk
import Derived.Test.YtmnnjmjdggjlmaaQa
import Derived.Test.YtmnnjmjdggjlmaaQe
import Derived.Test.YtmnnjmjdggjlmaaQf
import Derived.Test.YtmnnjmjdggjlmaaTw
import Derived.Test.YtmnnjmjdggjlmaaTt
import Derived.Test.YtmnnjmjdggjlmaaNn
import Derived.Test.YtmnnjmjdggjlmaaQd
namespace Go.Proofs.Ytmnnjmjdggjlmaa.rd
open Go.ChangeShapes Go.WideShapes Go.ChangeAt Go.RowKit

mutual
/-- How many nodes a tree has. -/
def bulkT : Tree → Nat
  | .mk _ _ _ l => bulkTs l + 1
def bulkTs : List Tree → Nat
  | [] => 0
  | t :: l => bulkT t + bulkTs l
end
mutual
theorem findT_bulk (a b : Int) : ∀ t : Tree, ((findT a b t).getD []).length ≤ bulkT t
  | .mk k i j l => by
    rw [findT, bulkT]
    have := findTs_bulk a b 0 l
    cases holdsI i j a b
    · exact Nat.zero_le _
    · show (findTs a b 0 l).length ≤ _
      omega
theorem findTs_bulk (a b : Int) : ∀ (q : Nat) (l : List Tree), (findTs a b q l).length ≤ bulkTs l + 1
  | q, [] => by rw [findTs]; exact Nat.zero_le _
  | q, t :: l => by
    have h1 := findT_bulk a b t
    have h2 := findTs_bulk a b (q + 1) l
    rw [findTs, bulkTs]
    cases h : findT a b t with
    | none => exact Nat.le_trans h2 (by omega)
    | some w =>
      rw [h] at h1
      have h3 : w.length ≤ bulkT t := h1
      show ((q : Int) :: w).length ≤ _
      rw [List.length_cons]
      omega
end
theorem uptoBulk_pos {H : Type} (d : DataW H) : 1 ≤ Rows.uptoBulk d := by
  cases d with
  | lit l => cases l <;> rw [Rows.uptoBulk] <;> first | omega | exact fun _ h => by cases h
  | nil => rw [Rows.uptoBulk]; omega
  | ptr d => rw [Rows.uptoBulk]; omega
  | slice e s => rw [Rows.uptoBulk]; omega
  | agg p => rw [Rows.uptoBulk]; omega
  | iface _ d => rw [Rows.uptoBulk]; omega
  | map e => rw [Rows.uptoBulk]; omega
  | held _ => rw [Rows.uptoBulk]; omega
theorem TieBs_bulk {H : Type} {W : World} : ∀ (l : List Rn) (E : List (DataW H)), l.length = E.length → (∀ i (h1 : i < l.length) (h2 : i < E.length), ∃ t, Tie W (· < W.heap.size) t l[i] ∧ InR t ∧ bulkT t ≤ Rows.uptoBulk E[i]) → ∃ T, Ties W (· < W.heap.size) T l ∧ InRs T ∧ bulkTs T ≤ Rows.uptoBulkAll E
  | [], [], _, _ => ⟨[], Ties.nil, by rw [InRs]; trivial, by rw [bulkTs]; exact Nat.zero_le _⟩
  | [], _ :: _, h, _ => by cases h
  | _ :: _, [], h, _ => by cases h
  | n :: l, d :: E, hl, h => by
    obtain ⟨t, h1, h2, h5⟩ := h 0 (by simp) (by simp)
    obtain ⟨T, h3, h4, h6⟩ := TieBs_bulk l E (by simpa using hl) (fun i k1 k2 => h (i + 1) (by simpa using k1) (by simpa using k2))
    exact ⟨t :: T, Ties.cons h1 h3, by rw [InRs]; exact ⟨h2, h4⟩, by rw [bulkTs, Rows.uptoBulkAll]; exact Nat.add_le_add h5 h6⟩
/-- A node that is read as data is a tree, and no greater than what is read. -/
theorem tree_bulk_of_trod {H : Type} {enc : TypeId × Value → H} {W : World} {sp : Nat → Bool} {held : Bool} : ∀ (fuel : Nat) (cs : List Value) (x : DataW H × List MemPlace), DataW.trod enc Try.prog W 0 sp held fuel 24 cs = some x → Light 24 x.1 → ∃ (t : Tree) (n : Rn), cs = [.int .i64 n.k, .int .i64 n.i, .int .i64 n.j, .slice n.o n.n n.c] ∧ Tie W (· < W.heap.size) t n ∧ InR t ∧ bulkT t ≤ Rows.uptoBulk x.1 := by
  intro fuel
  induction fuel using Nat.strongRecOn with
  | _ fuel ih =>
  intro cs x h hb
  obtain ⟨ys, n', hfu, hx, hcl, hyl, hf⟩ := DataW.trod_struct Try.underlying24 h
  rw [cellsN] at hcl
  have hyl4 : ys.length = 4 := hyl
  have f0 := hf 0 _ rfl
  have f1 := hf 1 _ rfl
  have f2 := hf 2 _ rfl
  have f3 := hf 3 _ rfl
  change DataW.trod _ _ _ _ _ _ _ 3 ((cs.drop 0).take (Try.prog.cellsOf 3)) = _ at f0
  change DataW.trod _ _ _ _ _ _ _ 3 ((cs.drop 1).take (Try.prog.cellsOf 3)) = _ at f1
  change DataW.trod _ _ _ _ _ _ _ 3 ((cs.drop 2).take (Try.prog.cellsOf 3)) = _ at f2
  change DataW.trod _ _ _ _ _ _ _ 22 ((cs.drop 3).take (Try.prog.cellsOf 22)) = _ at f3
  rw [cellsI] at f0 f1 f2
  rw [cellsNs] at f3
  clear hf hyl h
  obtain ⟨c0, c1, c2, c3, rfl⟩ := list_four hcl
  obtain ⟨y0, y1, y2, y3, rfl⟩ := list_four hyl4
  obtain ⟨p, hp, _, wp⟩ := DataW.trod_int Try.underlying3 (x := y0) f0
  obtain ⟨q, hq, _, wq⟩ := DataW.trod_int Try.underlying3 (x := y1) f1
  obtain ⟨r, hr, _, wr⟩ := DataW.trod_int Try.underlying3 (x := y2) f2
  simp only [List.drop_zero, List.drop_succ_cons, List.take_succ_cons, List.take_zero, List.cons.injEq, and_true] at hp hq hr
  subst hp hq hr
  have g3 : DataW.trod enc Try.prog W 0 sp held n' 22 [c3] = some y3 := f3
  have hl3 : Light 22 y3.1 := by
    rw [hx] at hb
    unfold Light at hb ⊢
    simp only [DataW.weights, Try.underlying24, List.map_cons, List.map_nil, DataW.weightsEach, List.all_append, Bool.and_eq_true] at hb
    exact hb.2.2.2.1
  have hup : Rows.uptoBulk y3.1 + 1 ≤ Rows.uptoBulk x.1 := by
    rw [hx]
    simp only [List.map_cons, List.map_nil, Rows.uptoBulk, Rows.uptoBulkAll]
    omega
  clear hb hx f0 f1 f2 f3
  rcases DataW.trod_slice Try.underlying22 g3 with ⟨hv, _⟩ | ⟨a, len, cap, elems, rest, n2, hfu2, hv, hy3, _, hl, _, hlen, hel, _, _⟩
  · simp only [List.cons.injEq, and_true] at hv
    subst hv
    refine ⟨.mk p q r [], ⟨p, q, r, none, 0, 0⟩, rfl, ?_, ?_, ?_⟩
    · rw [Tie]
      exact ⟨rfl, rfl, rfl, rfl, 0, 0, [], ⟨Nat.le_refl _, by simp⟩, fun e => absurd rfl e, fun j u h => by simp [flat] at h, Ties.nil⟩
    · rw [InR, InRs]
      exact ⟨in64_of wp, in64_of wq, in64_of wr, trivial⟩
    · rw [bulkT, bulkTs]; omega
  · simp only [List.cons.injEq, and_true] at hv
    subst hv
    rw [hy3] at hl3 hup
    have hup' : Rows.uptoBulkAll (elems.map (·.1)) + 2 ≤ Rows.uptoBulk x.1 := by
      simp only [Rows.uptoBulk] at hup
      omega
    clear hup
    unfold Light at hl3
    simp only [DataW.weights, Try.underlying22, bytesN, List.all_cons, List.all_append, Bool.and_eq_true, decide_eq_true_eq, List.length_map] at hl3
    obtain ⟨hlb, hall, _⟩ := hl3
    unfold reachBytes at hlb
    have hlight : ∀ i (hi : i < elems.length), Light 24 elems[i].1 := fun i hi => light_mem hall (List.mem_map.2 ⟨elems[i], List.getElem_mem hi, rfl⟩)
    have key : ∀ i, i < len → ∃ e : Rn, (∀ m u, (nd.c e)[m]? = some u → W.cell? ((a.add (i * nd.k)).add m) = some u) ∧ ∃ t, Tie W (· < W.heap.size) t e ∧ InR t ∧ ∀ h : i < elems.length, bulkT t ≤ Rows.uptoBulk elems[i].1 := by
      intro i hil
      have h1 := hel i hil
      rw [cellsN, List.getElem?_eq_getElem (by omega)] at h1
      obtain ⟨cs', hc, ht⟩ := Option.bind_eq_some_iff.1 h1
      obtain ⟨_, hcl', hat⟩ := World.cells?_some hc
      obtain ⟨t, n, hcs, h2, h3, h4⟩ := ih n2 (by omega) cs' elems[i] ht (hlight i (by omega))
      refine ⟨n, fun m u hu => ?_, t, h2, h3, fun _ => h4⟩
      have hm4 : m < 4 := (List.getElem?_eq_some_iff.1 hu).1
      have := hat m hm4
      rw [show nd.k = 4 from rfl, this, hcs]
      exact hu
    obtain ⟨R, hR, hRl, hRt⟩ : ∃ R : List Rn, Row nd W (.slice (some a) len cap) R ∧ R.length = len ∧ ∀ i (h1 : i < R.length) (h2 : i < elems.length), ∃ t, Tie W (· < W.heap.size) t R[i] ∧ InR t ∧ bulkT t ≤ Rows.uptoBulk elems[i].1 := by
      by_cases hz : len = 0
      · subst hz
        exact ⟨[], Row.nil W (some a) cap, rfl, fun n h => by cases h⟩
      · obtain ⟨b, o, spt⟩ := a
        obtain ⟨e0, k0, _⟩ := key 0 (by omega)
        have hc := k0 0 (.int .i64 e0.k) rfl
        have hsp := spot_none hc
        obtain rfl : spt = none := by
          have : ((Addr.add ⟨b, o, spt⟩ (0 * nd.k)).add 0).spot = spt := by unfold Addr.add; split <;> simp_all
          rw [← this]; exact hsp
        obtain ⟨E, hE⟩ := Deep.choose_lt (α := Rn) (n := len) (p := fun i e => (∀ m u, (nd.c e)[m]? = some u → W.cell? (((⟨b, o, none⟩ : Addr).add (i * nd.k)).add m) = some u) ∧ ∃ t, Tie W (· < W.heap.size) t e ∧ InR t ∧ ∀ h : i < elems.length, bulkT t ≤ Rows.uptoBulk elems[i].1) key
        refine ⟨(List.range len).map E, ⟨b, o, _, cap, by simpa using hl, by simp, fun _ => rfl, cells_of (fun n hn m u hu => ?_)⟩, by simp, fun i h1 h2 => ?_⟩
        · simp only [List.length_map, List.length_range] at hn
          have := (hE n hn).1 m u (by simpa using hu)
          simp only [Addr.add_lit] at this
          exact this
        · simp only [List.length_map, List.length_range] at h1
          obtain ⟨t, k1, k2, k3⟩ := (hE i h1).2
          exact ⟨t, by simpa using k1, k2, k3 h2⟩
    obtain ⟨T, hT, hTr, hTu⟩ := TieBs_bulk R (elems.map (·.1)) (by rw [hRl, List.length_map]; omega) (fun i h1 h2 => by
      obtain ⟨t, k1, k2, k3⟩ := hRt i h1 (by simpa using h2)
      exact ⟨t, k1, k2, by simpa using k3⟩)
    obtain ⟨gl, off, o, cp, hcp, hv, ho, hcell⟩ := hR.lt
    have hTl := hT.length
    rw [hRl] at hv hTl
    simp only [Value.slice.injEq] at hv
    obtain ⟨rfl, _, rfl⟩ := hv
    refine ⟨.mk p q r T, ⟨p, q, r, some a, len, cap⟩, rfl, ?_, ?_, ?_⟩
    · rw [Tie]
      refine ⟨rfl, rfl, rfl, hTl, gl, off, R, ⟨hl, by rw [← hTl]; omega⟩, fun hne => ?_, hcell, hT⟩
      exact ho (fun e => hne (List.eq_nil_of_length_eq_zero (by rw [← hTl, ← hRl, e]; rfl)))
    · rw [InR]
      exact ⟨in64_of wp, in64_of wq, in64_of wr, hTr⟩
    · rw [bulkT]; omega
end Go.Proofs.Ytmnnjmjdggjlmaa.rd
namespace Go.Proofs.Ytmnnjmjdggjlmaa.rd
open Go.RowKit

mutual
theorem leavesT_bulk : ∀ t : Tree, (leavesT t).length ≤ bulkT t
  | .mk k i j l => by
    rw [leavesT, bulkT]
    have := leavesTs_bulk l
    split
    · show 1 ≤ _
      omega
    · omega
theorem leavesTs_bulk : ∀ l : List Tree, (leavesTs l).length ≤ bulkTs l
  | [] => by rw [leavesTs]; exact Nat.zero_le _
  | t :: l => by
    rw [leavesTs, bulkTs, List.length_append]
    exact Nat.add_le_add (leavesT_bulk t) (leavesTs_bulk l)
end
theorem endPut_one (L : List Gr) (g : Gr) : (endPut L g).1.length ≤ L.length + 1 := by
  unfold endPut
  split
  · exact Nat.le_succ _
  · show List.length (_ ++ _) ≤ _
    rw [List.length_append]
    exact Nat.le_refl _
mutual
theorem putT_bulk (s : ByteArray) : ∀ (t : Tree) (L : List Gr), (putT s t L).1.length ≤ L.length + bulkT t
  | .mk k i j l, L => by
    rw [putT, bulkT]
    have h2 := putTs_bulk s l L
    exact Nat.le_trans (endPut_one _ _) (by omega)
theorem putTs_bulk (s : ByteArray) : ∀ (l : List Tree) (L : List Gr), (putTs s l L).1.length ≤ L.length + bulkTs l
  | [], L => by rw [putTs]; exact Nat.le_add_right _ _
  | t :: l, L => by
    rw [putTs, bulkTs]
    have h1 := putT_bulk s t L
    have h2 := putTs_bulk s l (putT s t L).1
    show (putTs s l (putT s t L).1).1.length ≤ _
    omega
end
/-- The bytes of tokens, one behind the other. -/
def subs (s : ByteArray) (T : List Tk) : List UInt8 := T.flatMap fun x => sub s x.i x.j
theorem subs_append (s : ByteArray) (A C : List Tk) : subs s (A ++ C) = subs s A ++ subs s C := by unfold subs; simp
theorem subs_snoc (s : ByteArray) {T : List Tk} {q : Nat} (h : q < T.length) : subs s (T.take (q + 1)) = subs s (T.take q) ++ sub s T[q].i T[q].j := by
  rw [List.take_add_one, List.getElem?_eq_getElem h, subs_append]
  show _ ++ subs s [T[q]] = _
  unfold subs
  simp
theorem subs_few (s : ByteArray) (T : List Tk) (q : Nat) : (subs s (T.take q)).length ≤ (subs s T).length := by
  have : subs s T = subs s (T.take q) ++ subs s (T.drop q) := by rw [← subs_append, List.take_append_drop]
  rw [this, List.length_append]
  exact Nat.le_add_right _ _
mutual
theorem leavesT_sub (s : ByteArray) : ∀ t : Tree, fitT s.size t = true → subs s (leavesT t) = sub s t.i t.j ∧ ∀ x ∈ leavesT t, 0 ≤ x.i ∧ x.i ≤ x.j ∧ x.j ≤ (s.size : Int)
  | .mk k i j l, h => by
    obtain ⟨_, h0, hij, hjN, _⟩ := fitT_node h
    obtain ⟨_, e, he, hej⟩ := fitT_whole h
    rw [leavesT]
    show _ = sub s i j ∧ _
    by_cases hl : leafK k = true
    · rw [if_pos hl]
      refine ⟨by unfold subs; simp, fun x hx => ?_⟩
      obtain rfl := List.mem_singleton.1 hx
      exact ⟨h0, hij, hjN⟩
    · rw [if_neg hl]
      obtain ⟨x1, _, x3⟩ := leavesTs_sub s l i e he
      rw [hej (by simpa using hl)] at x1
      exact ⟨x1, x3⟩
theorem leavesTs_sub (s : ByteArray) : ∀ (l : List Tree) (a e : Int), fitTs s.size a l = some e → subs s (leavesTs l) = sub s a e ∧ a ≤ e ∧ ∀ x ∈ leavesTs l, 0 ≤ x.i ∧ x.i ≤ x.j ∧ x.j ≤ (s.size : Int)
  | [], a, e, h => by
    rw [fitTs] at h
    obtain rfl := Option.some.inj h
    rw [leavesTs]
    exact ⟨(sub_self s a).symm, Int.le_refl _, fun x hx => by cases hx⟩
  | t :: l, a, e, h => by
    obtain ⟨h1, h2, h3⟩ := fitTs_step h
    obtain ⟨a1, a2⟩ := leavesT_sub s t h2
    obtain ⟨b1, b2, b3⟩ := leavesTs_sub s l t.j e h3
    have hij : t.i ≤ t.j := by
      obtain ⟨k', i', j', l'⟩ := t
      exact (fitT_node h2).2.2.1
    rw [leavesTs, subs_append, a1, b1, h1, ← sub_split s (by omega) b2]
    refine ⟨rfl, by omega, fun x hx => ?_⟩
    rcases List.mem_append.1 hx with hx | hx
    · exact a2 x hx
    · exact b3 x hx
end
/-- What Put tells of a tree that fits. -/
theorem put_tells {s : ByteArray} {t : Tree} (hs : s.size ≤ 140737488351232) (hfit : fitT s.size t = true) (hin : InR t) (hfew : FewT t) (hb : bulkT t ≤ 1048576) : ∃ h : (putT s t []).2 < (putT s t []).1.length, (putT s t []).1[(putT s t []).2].s = B (sub s t.i t.j) ∧ (B (sub s t.i t.j)).size ≤ 140737488355328 := by
  have h0 := putT_bulk s t []
  have hok := putT_ok s (by omega) t [] ⟨by show 0 ≤ _; omega, fun i h => by cases h⟩ hfit hin hfew (by simp at h0; omega)
  obtain ⟨g, hg, _, hgs⟩ := hok.get
  obtain ⟨hlt, hge⟩ := List.getElem?_eq_some_iff.1 hg
  refine ⟨hlt, by rw [hge]; exact hgs, ?_⟩
  obtain ⟨k', i', j', l'⟩ := t
  obtain ⟨_, x1, x2, x3, _⟩ := fitT_node hfit
  have := sub_len s x1 x2 x3
  rw [bsize]
  show (sub s i' j').length ≤ _
  omega
end Go.Proofs.Ytmnnjmjdggjlmaa.rd
namespace Go.Proofs.Ytmnnjmjdggjlmaa.rd
open Go.RowKit

/-- A tree and its text in a box. -/
def TBox (w : World) (X : Nat) (s : ByteArray) (n : Rn) : Prop := w.heap[X]? = some (.cells #[.string s, .int .i64 n.k, .int .i64 n.i, .int .i64 n.j, .slice n.o n.n n.c] 38 (0, 0))
theorem TBox.below {w w' : World} {X : Nat} {s : ByteArray} {n : Rn} (h : TBox w X s n) (hb : Below w.heap.size w w') : TBox w' X s n := (hb.block _ (Array.getElem?_eq_some_iff.1 h).1).trans h
theorem TBox.low {w w' : World} {X B : Nat} {s : ByteArray} {n : Rn} (h : TBox w X s n) (hb : Below B w w') (hX : X < B) : TBox w' X s n := (hb.block _ hX).trans h
theorem TBox.cells {w : World} {X : Nat} {s : ByteArray} {k i j : Int} {o : Option Addr} {n c : Nat} (h : TBox w X s ⟨k, i, j, o, n, c⟩) : (w.cell? ⟨X, 0, none⟩ = some (.string s) ∧ w.cell? ⟨X, 1, none⟩ = some (.int .i64 k) ∧ w.cell? ⟨X, 2, none⟩ = some (.int .i64 i) ∧ w.cell? ⟨X, 3, none⟩ = some (.int .i64 j) ∧ w.cell? ⟨X, 4, none⟩ = some (.slice o n c)) ∧ X < w.heap.size :=
  ⟨⟨by rw [cell_of_row w X 0 _ _ _ h]; rfl, by rw [cell_of_row w X 1 _ _ _ h]; rfl, by rw [cell_of_row w X 2 _ _ _ h]; rfl, by rw [cell_of_row w X 3 _ _ _ h]; rfl, by rw [cell_of_row w X 4 _ _ _ h]; rfl⟩, (Array.getElem?_eq_some_iff.1 h).1⟩
/-- Put, of a tree that fits, into a pool of one's own. -/
theorem PoolC.put_fit {Pl : World → Nat → (Nat → Prop) → List Gr → Prop} (HC : PoolC Pl) {w u : World} {b B : Nat} {D : Nat → Prop} {L : List Gr} {t : Tree} {n : Rn} {s : ByteArray} (ht : Hid (TieB w t n)) (hin : InR t) (hs : s.size ≤ 281474976710656) (hfit : fitT s.size t = true) (hl : (putT s t L).1.length ≤ 4294967296) (hu : Below w.heap.size w u) (hp : Pl u b D L) (hB : w.heap.size ≤ B) (hBu : B ≤ u.heap.size) (hd : ∀ k, D k → B ≤ k) :
    Calls Try.prog 18 #[.pointer (some ⟨b, 0, none⟩), .string s, n.v] u fun e w' => e = .returned (.tuple #[.int .i64 ((putT s t L).2 : Int), .int .i64 0]) ∧ Below B u w' ∧ ∃ D', Pl w' b D' (putT s t L).1 ∧ ∀ k, D' k → B ≤ k := by
  obtain ⟨T0, h3, h4⟩ := ht.out
  have h := HC.put (s := s) hp (Tie.keep (fun k hk => hu.block k (h4 k hk)) (fun _ h => h) _ _ h3) (fun k hk => ⟨Nat.lt_of_lt_of_le (h4 k hk) hu.size, fun e => by have := hd k e; have := h4 k hk; omega⟩) hin hs hl
  rw [hfit] at h
  exact h.mono fun e w' ⟨e1, D', e2, e3, e4⟩ => ⟨e1, e3.low hd hBu, D', e2, fun k hk => (e4 k hk).elim (hd k) (fun e => Nat.le_trans hBu e)⟩

set_option maxRecDepth 100000 in
set_option maxHeartbeats 4000000 in
theorem text_good {Pl : World → Nat → (Nat → Prop) → List Gr → Prop} (HPL : PoolC Pl) (HSH : ShownC) (HCK : ∀ t, CheckC 12 t) (t : Tree) (s : ByteArray) (w : World) (n : Rn) (ht : Hid (TieB w t n)) (hin : InR t) (hs : s.size ≤ 140737488351232) (hb : bulkT t ≤ 1048576) (hfit : fitT s.size t = true) :
    Calls Try.prog 7 #[.agg #[.string s, .int .i64 n.k, .int .i64 n.i, .int .i64 n.j, .slice n.o n.n n.c]] w fun e w' => e = .returned (.bool true) ∧ Below w.heap.size w w' := by
  obtain ⟨k, i, j, l⟩ := t
  obtain ⟨o, c, g0, off0, R0, rfl, _, _, _, _, _, _⟩ := TieB.out ht
  obtain ⟨_, hi0, hij, hjN, _⟩ := fitT_node hfit
  obtain ⟨t, htt⟩ : ∃ t, Tree.mk k i j l = t := ⟨_, rfl⟩
  have hti : t.i = i := by rw [← htt]; rfl
  have htj : t.j = j := by rw [← htt]; rfl
  obtain ⟨nn, hnn⟩ : ∃ nn, l.length = nn := ⟨_, rfl⟩
  rw [htt, hnn] at ht
  rw [htt] at hin hb hfit
  show Calls Try.prog 7 #[.agg #[.string s, .int .i64 k, .int .i64 i, .int .i64 j, .slice o l.length c]] w _
  rw [hnn]
  have hfew : FewT t := by obtain ⟨D0, h1, _⟩ := ht.out; exact tie_few _ _ h1
  have hlv : (leavesT t).length ≤ 1048576 := Nat.le_trans (leavesT_bulk t) hb
  obtain ⟨hsub, hrng⟩ := leavesT_sub s t hfit
  obtain ⟨hid, hget, hsz⟩ := put_tells hs hfit hin hfew hb
  have hpb := putT_bulk s t []
  simp only [List.length_nil] at hpb
  rw [hti, htj] at hsub hget hsz
  obtain ⟨P, hP⟩ : ∃ P, sub s i j = P := ⟨_, rfl⟩
  rw [hP] at hsub hget hsz
  have hplen : (P.length : Int) = j - i := by rw [← hP]; exact sub_len s hi0 hij hjN
  have hlast : ∀ u, (Instr.slice 9 (.string s) (some (.int .i64 i)) (some (.int .i64 j)) none).run Try.prog u = .ok (.string (B P)) u := by
    intro u
    rw [← hP]
    exact slice_mid s i.toNat j.toNat i j (by omega) (by omega) (by omega) (by omega) u
  have hcheck : ∀ u, Below w.heap.size w u → Calls Try.prog 12 #[.string s, .agg #[.int .i64 k, .int .i64 i, .int .i64 j, .slice o nn c]] u fun e w' => e = .returned (.int .i64 0) ∧ Below u.heap.size u w' := fun u hu => by
    have h := HCK t u ⟨k, i, j, o, nn, c⟩ s (TieB.below ht hu)
    rw [hfit] at h
    exact h
  have hnew : ∀ u, Below w.heap.size w u → Calls Try.prog 15 #[] u fun e w' => ∃ b D, e = .returned (.pointer (some ⟨b, 0, none⟩)) ∧ Below u.heap.size u w' ∧ Pl w' b D [] ∧ ∀ k, D k → u.heap.size ≤ k := fun u _ => HPL.new u
  have hput : ∀ (u : World) (b A : Nat) (D : Nat → Prop), Below w.heap.size w u → Pl u b D [] → w.heap.size ≤ A → A ≤ u.heap.size → (∀ k, D k → A ≤ k) → Calls Try.prog 18 #[.pointer (some ⟨b, 0, none⟩), .string s, .agg #[.int .i64 k, .int .i64 i, .int .i64 j, .slice o nn c]] u fun e w' => e = .returned (.tuple #[.int .i64 ((putT s t []).2 : Int), .int .i64 0]) ∧ Below A u w' ∧ ∃ D', Pl w' b D' (putT s t []).1 ∧ ∀ k, D' k → A ≤ k :=
    fun u b A D hu hp hA hAu hd => HPL.put_fit (n := ⟨k, i, j, o, nn, c⟩) ht hin (by omega) hfit (by omega) hu hp hA hAu hd
  have htext : ∀ (u : World) (b : Nat) (D : Nat → Prop), Pl u b D (putT s t []).1 → Calls Try.prog 28 #[.pointer (some ⟨b, 0, none⟩), .int .i64 ((putT s t []).2 : Int)] u fun e w' => e = .returned (.tuple #[.string (B P), .int .i64 0]) ∧ Below u.heap.size u w' := fun u b D hp => by
    have h := HPL.text hp _ hid (by rw [hget]; exact hsz)
    rw [hget] at h
    exact h
  have hleaves : ∀ u, Below w.heap.size w u → Calls Try.prog 33 #[.agg #[.int .i64 k, .int .i64 i, .int .i64 j, .slice o nn c]] u fun e w' => ∃ (g off : Nat) (ov : Option Addr) (cap : Nat), e = .returned (.slice ov (leavesT t).length cap) ∧ Below u.heap.size u w' ∧ (leavesT t).length ≤ cap ∧ (leavesT t ≠ [] → ov = some ⟨g, off, none⟩ ∧ g < w'.heap.size) ∧ Cells tk w' g off (leavesT t) := fun u hu =>
    (leaves_t t u ⟨k, i, j, o, nn, c⟩ (TieB.below ht hu) (by omega)).mono fun e w' ⟨v, h1, h2, h3⟩ => by
      obtain ⟨g, off, ov, cap, hc, rfl, ho, hcl⟩ := h3.row.lt
      exact ⟨g, off, ov, cap, h1, h2, hc, ho, hcl⟩
  obtain ⟨L, hL⟩ : ∃ L, (putT s t []).1 = L := ⟨_, rfl⟩
  obtain ⟨id, hidd⟩ : ∃ id, (putT s t []).2 = id := ⟨_, rfl⟩
  rw [hL] at hput htext
  rw [hidd] at hput htext
  obtain ⟨T, hT⟩ : ∃ T, leavesT t = T := ⟨_, rfl⟩
  rw [hT] at hleaves hsub hrng hlv
  obtain ⟨len, hlen⟩ : ∃ len, T.length = len := ⟨_, rfl⟩
  rw [hlen] at hleaves hlv
  have hcut : ∀ q (hq : q < T.length), (∀ u, (Instr.slice 9 (.string s) (some (.int .i64 T[q].i)) (some (.int .i64 T[q].j)) none).run Try.prog u = .ok (.string (B (sub s T[q].i T[q].j))) u) ∧ Op.stringOp .add (B (subs s (T.take q))) (B (sub s T[q].i T[q].j)) = pure (.string (B (subs s (T.take (q + 1))))) := fun q hq => by
    obtain ⟨a1, a2, a3⟩ := hrng _ (List.getElem_mem hq)
    refine ⟨fun u => slice_mid s T[q].i.toNat T[q].j.toNat T[q].i T[q].j (by omega) (by omega) (by omega) (by omega) u, ?_⟩
    rw [subs_snoc s hq]
    refine cat_eq ?_
    have h1 := subs_few s T (q + 1)
    rw [subs_snoc s hq, List.length_append, hsub] at h1
    omega
  have hbx : Below w.heap.size w (w.alloc (.cells #[.string s, .int .i64 k, .int .i64 i, .int .i64 j, .slice o nn c] 38)) := (Below.refl _ _).alloc (Nat.le_refl _) _
  have hxb : TBox (w.alloc (.cells #[.string s, .int .i64 k, .int .i64 i, .int .i64 j, .slice o nn c] 38)) w.heap.size s ⟨k, i, j, o, nn, c⟩ := heap_alloc_last w _
  obtain ⟨W1, hW1⟩ : ∃ W1, w.alloc (.cells #[.string s, .int .i64 k, .int .i64 i, .int .i64 j, .slice o nn c] 38) = W1 := ⟨_, rfl⟩
  rw [hW1] at hbx hxb
  obtain ⟨X, hX⟩ : ∃ X, w.heap.size = X := ⟨_, rfl⟩
  rw [hX] at hxb
  have HB := Lib.hid (And.intro hbx (And.intro hxb hW1))
  have HSN := Lib.hid HSH
  have HCH := Lib.hid hcheck
  have HNW := Lib.hid hnew
  have HPT := Lib.hid hput
  have HTX := Lib.hid htext
  have HLV := Lib.hid hleaves
  have HCT := Lib.hid hcut
  have HLN := Lib.hid (And.intro hlen hlv)
  have HSB := Lib.hid hsub
  have HKP := Lib.hid HPL
  clear ht hin hs hb hfit hi0 hij hjN htt hti htj hnn hfew hlv hsub hrng hid hget hsz hpb hP hplen hcheck hnew hput htext hleaves hL hidd hT hlen hcut hbx hxb hW1 HSH HPL HCK
  go_enter Try.func7, Try.ntmps7
  go_wp2_with (first
    | (go_at_call 10; rw [HB.out.2.2]; refine (HSN.out _).mono ?_; rintro e w1 ⟨rfl, hb1⟩; obtain ⟨⟨x0, x1, x2, x3, x4⟩, xz⟩ := (HB.out.2.1.below hb1).cells; have HB1 := Lib.hid (And.intro (HB.out.1.trans (hb1.mono HB.out.1.size)) (HB.out.2.1.below hb1)); clear hb1)
    | (go_at_call 12; (with_reducible refine (HCH.out _ HB1.out.1).mono ?_); rintro e w2 ⟨rfl, hb2⟩; obtain ⟨⟨y0, y1, y2, y3, y4⟩, yz⟩ := (HB1.out.2.below hb2).cells; have HB2 := Lib.hid (And.intro (HB1.out.1.trans (hb2.mono HB1.out.1.size)) (HB1.out.2.below hb2)); clear hb2 x0 x1 x2 x3 x4 xz)
    | (go_at_call 33; (with_reducible refine (HLV.out _ HB2.out.1).mono ?_); rintro e w3 ⟨g, off, ov, cap, rfl, hb3, hcap, hov, hcl⟩; have HB3 := Lib.hid (And.intro (HB2.out.1.trans (hb3.mono HB2.out.1.size)) (And.intro (HB2.out.2.below hb3) (And.intro hcap (And.intro hov hcl)))); clear hb3 hcap hov hcl y0 y1 y2 y3 y4 yz))
  go_loopw [29, 3] (fun p a wr => ∃ q : Nat, q ≤ len ∧ p = .int .i64 (q : Int) ∧ a = .string (B (subs s (T.take q))) ∧ Below w3.heap.size w3 wr) (fun p _ _ => len - (intOf p).toNat)
  case atStart => exact ⟨0, Nat.zero_le _, rfl, by rw [List.take_zero]; rfl, Below.refl _ _⟩
  case round =>
    obtain ⟨q, hql, rfl, rfl, hb⟩ := hrel
    have hXb := HB3.out.2.1.below hb
    by_cases hlt : q < len
    · have hil : q < T.length := by rw [HLN.out.1]; exact hlt
      have hcap := HB3.out.2.2.1
      have hlL := HLN.out.2
      obtain ⟨rfl, hg⟩ := HB3.out.2.2.2.1 (by intro e; rw [e] at hil; simp at hil)
      obtain ⟨a0, a1, a2⟩ := cells_tk HB3.out.2.2.2.2 q hil
      obtain ⟨hsl, hcq⟩ := HCT.out q hil
      have c0 := (hb.cell (p := ⟨g, off + q * 3, none⟩) hg).trans a0
      have c1 := (hb.cell (p := ⟨g, off + q * 3 + 1, none⟩) hg).trans a1
      have c2 := (hb.cell (p := ⟨g, off + q * 3 + 2, none⟩) hg).trans a2
      have hgw : g < wr.heap.size := Nat.lt_of_lt_of_le hg hb.size
      obtain ⟨⟨⟨tk, ti, tj⟩, hn1⟩⟩ : Nonempty { n // T[q] = n } := ⟨⟨_, rfl⟩⟩
      rw [hn1] at c0 c1 c2 hsl hcq
      simp only [] at c0 c1 c2 hsl hcq
      obtain ⟨Q, hQ⟩ : ∃ x, subs s (T.take q) = x := ⟨_, rfl⟩
      obtain ⟨K, hK⟩ : ∃ x, sub s ti tj = x := ⟨_, rfl⟩
      obtain ⟨QK, hQK⟩ : ∃ x, subs s (T.take (q + 1)) = x := ⟨_, rfl⟩
      rw [hQ, hK, hQK] at hcq
      rw [hK] at hsl
      rw [hQ]
      have HQK := Lib.hid hQK
      have hq0 : (0 : Int) ≤ (q : Int) := by omega
      have hww : (q : Int) + 1 ≤ 2932031007318 := by omega
      have hd : decide ((q : Int) < (len : Int)) = true := decide_eq_true (by omega)
      have hd' : decide (q < len) = true := decide_eq_true hlt
      have HZ : Hid (Below w3.heap.size w3 (wr.alloc (.cells #[.int .i64 tk, .int .i64 ti, .int .i64 tj] 68))) := Lib.hid (hb.alloc hb.size _)
      obtain ⟨⟨z0, z1, z2, z3, z4⟩, zz⟩ := hXb.cells
      clear a0 a1 a2 hn1 hb hXb hQ hK hQK hlL hcap hg
      go_wp2_with fail
      go_roundw
      case rel => exact ⟨q + 1, by omega, by go_num, by rw [HQK.out], HZ.out⟩
      case measure => simp [intOf]; omega
    · obtain rfl : q = len := by omega
      have hd : decide ((q : Int) < (q : Int)) = false := decide_eq_false (by omega)
      rw [List.take_of_length_le (by rw [HLN.out.1]; exact Nat.le_refl _), HSB.out]
      have HB4 := Lib.hid (And.intro (HB3.out.1.trans (hb.mono HB3.out.1.size)) hXb)
      clear hb hXb
      go_wp2_with (first
        | (go_at_call 15; (with_reducible refine (HNW.out _ HB4.out.1).mono ?_); rintro e w5 ⟨b, D, rfl, hb5, hp5, hd5⟩; obtain ⟨⟨y0, y1, y2, y3, y4⟩, yz⟩ := (HB4.out.2.below hb5).cells; have HB5 := Lib.hid (And.intro (HB4.out.1.trans (hb5.mono HB4.out.1.size)) (And.intro (HB4.out.2.below hb5) (And.intro hp5 (And.intro hd5 hb5.size)))); clear hb5 hp5 hd5)
        | (go_at_call 18; (with_reducible refine (HPT.out _ _ _ _ HB5.out.1 HB5.out.2.2.1 HB4.out.1.size HB5.out.2.2.2.2 HB5.out.2.2.2.1).mono ?_); rintro e w6 ⟨rfl, hb6, D6, hp6, hd6⟩; have HB6 := Lib.hid (And.intro (HB5.out.1.trans (hb6.mono HB4.out.1.size)) (And.intro (HB5.out.2.1.low hb6 (Array.getElem?_eq_some_iff.1 HB4.out.2).1) hp6)); clear hb6 hp6 hd6 y0 y1 y2 y3 y4 yz)
        | (go_at_call 28; (with_reducible refine (HTX.out _ _ _ HB6.out.2.2).mono ?_); rintro e w7 ⟨rfl, hb7⟩; obtain ⟨⟨z0, z1, z2, z3, z4⟩, zz⟩ := (HB6.out.2.1.below hb7).cells; have HB7 := Lib.hid (HB6.out.1.trans (hb7.mono HB6.out.1.size)); clear hb7))
      all_goals (try go_ret)
      all_goals exact ⟨rfl, HB7.out⟩
set_option maxRecDepth 100000 in
set_option maxHeartbeats 4000000 in
theorem text_bad (HSH : ShownC) (HCK : ∀ t, CheckC 12 t) (t : Tree) (s : ByteArray) (w : World) (n : Rn) (ht : Hid (TieB w t n)) (hfit : fitT s.size t = false) :
    Calls Try.prog 7 #[.agg #[.string s, .int .i64 n.k, .int .i64 n.i, .int .i64 n.j, .slice n.o n.n n.c]] w fun e w' => e = .returned (.bool true) ∧ Below w.heap.size w w' := by
  obtain ⟨k, i, j, o, nn, c⟩ := n
  have hcheck : ∀ u, Below w.heap.size w u → Calls Try.prog 12 #[.string s, .agg #[.int .i64 k, .int .i64 i, .int .i64 j, .slice o nn c]] u fun e w' => e = .returned (.int .i64 80) ∧ Below u.heap.size u w' := fun u hu => by
    have h := HCK t u ⟨k, i, j, o, nn, c⟩ s (TieB.below ht hu)
    rw [hfit] at h
    exact h
  have hcheck2 : ∀ u, Below w.heap.size w u → Calls Try.prog 13 #[.string s, .agg #[.int .i64 k, .int .i64 i, .int .i64 j, .slice o nn c]] u fun e w' => e = .returned (.int .i64 80) ∧ Below u.heap.size u w' := fun u hu => by
    have h := check_t t u ⟨k, i, j, o, nn, c⟩ s (TieB.below ht hu)
    rw [hfit] at h
    exact h
  show Calls Try.prog 7 #[.agg #[.string s, .int .i64 k, .int .i64 i, .int .i64 j, .slice o nn c]] w _
  have hbx : Below w.heap.size w (w.alloc (.cells #[.string s, .int .i64 k, .int .i64 i, .int .i64 j, .slice o nn c] 38)) := (Below.refl _ _).alloc (Nat.le_refl _) _
  have hxb : TBox (w.alloc (.cells #[.string s, .int .i64 k, .int .i64 i, .int .i64 j, .slice o nn c] 38)) w.heap.size s ⟨k, i, j, o, nn, c⟩ := heap_alloc_last w _
  obtain ⟨W1, hW1⟩ : ∃ W1, w.alloc (.cells #[.string s, .int .i64 k, .int .i64 i, .int .i64 j, .slice o nn c] 38) = W1 := ⟨_, rfl⟩
  rw [hW1] at hbx hxb
  obtain ⟨X, hX⟩ : ∃ X, w.heap.size = X := ⟨_, rfl⟩
  rw [hX] at hxb
  have HB := Lib.hid (And.intro hbx (And.intro hxb hW1))
  have HSN := Lib.hid HSH
  have HCH := Lib.hid hcheck
  have HC2 := Lib.hid hcheck2
  clear ht hfit hcheck hcheck2 hbx hxb hW1 HSH HCK
  go_enter Try.func7, Try.ntmps7
  go_wp2_with (first
    | (go_at_call 10; rw [HB.out.2.2]; refine (HSN.out _).mono ?_; rintro e w1 ⟨rfl, hb1⟩; obtain ⟨⟨x0, x1, x2, x3, x4⟩, xz⟩ := (HB.out.2.1.below hb1).cells; have HB1 := Lib.hid (And.intro (HB.out.1.trans (hb1.mono HB.out.1.size)) (HB.out.2.1.below hb1)); clear hb1)
    | (go_at_call 12; (with_reducible refine (HCH.out _ HB1.out.1).mono ?_); rintro e w2 ⟨rfl, hb2⟩; obtain ⟨⟨y0, y1, y2, y3, y4⟩, yz⟩ := (HB1.out.2.below hb2).cells; have HB2 := Lib.hid (HB1.out.1.trans (hb2.mono HB1.out.1.size)); clear hb2 x0 x1 x2 x3 x4 xz)
    | (go_at_call 13; (with_reducible refine (HC2.out _ HB2.out).mono ?_); rintro e w3 ⟨rfl, hb3⟩; have HB3 := Lib.hid (HB2.out.trans (hb3.mono HB2.out.size)); clear hb3))
  all_goals (try go_ret)
  all_goals exact ⟨rfl, HB3.out⟩
theorem text_law {Pl : World → Nat → (Nat → Prop) → List Gr → Prop} (HPL : PoolC Pl) (HSH : ShownC) (HCK : ∀ t, CheckC 12 t) (t : Tree) (s : ByteArray) (w : World) (n : Rn) (ht : Hid (TieB w t n)) (hin : InR t) (hs : s.size ≤ 140737488351232) (hb : bulkT t ≤ 1048576) :
    Calls Try.prog 7 #[.agg #[.string s, .int .i64 n.k, .int .i64 n.i, .int .i64 n.j, .slice n.o n.n n.c]] w fun e w' => e = .returned (.bool true) ∧ Below w.heap.size w w' := by
  cases hfit : fitT s.size t with
  | true => exact text_good HPL HSH HCK t s w n ht hin hs hb hfit
  | false => exact text_bad HSH HCK t s w n ht hfit
end Go.Proofs.Ytmnnjmjdggjlmaa.rd
namespace Go.Proofs.Ytmnnjmjdggjlmaa.rd
open Go.ChangeShapes Go.WideShapes Go.ChangeAt Go.RowKit

theorem stree_of_trod {H : Type} {enc : TypeId × Value → H} {W : World} {sp : Nat → Bool} {held : Bool} (fuel : Nat) (cs : List Value) (x : DataW H × List MemPlace) (h : DataW.trod enc Try.prog W 0 sp held fuel 38 cs = some x) (hb : Light 38 x.1) : ∃ (s : ByteArray) (t : Tree) (n : Rn), cs = [.string s, .int .i64 n.k, .int .i64 n.i, .int .i64 n.j, .slice n.o n.n n.c] ∧ Tie W (· < W.heap.size) t n ∧ InR t ∧ s.size ≤ 140737488351232 ∧ s.size + bulkT t ≤ Rows.uptoBulk x.1 := by
  obtain ⟨ys, n', hfu, hx, hcl, hyl, hf⟩ := DataW.trod_struct Try.underlying38 h
  rw [show Try.prog.cellsOf 38 = 5 from by kernel_rfl] at hcl
  have hyl2 : ys.length = 2 := hyl
  have f0 := hf 0 _ rfl
  have f1 := hf 1 _ rfl
  change DataW.trod _ _ _ _ _ _ _ 9 ((cs.drop 0).take (Try.prog.cellsOf 9)) = _ at f0
  change DataW.trod _ _ _ _ _ _ _ 24 ((cs.drop 1).take (Try.prog.cellsOf 24)) = _ at f1
  rw [cellsStr] at f0
  rw [cellsN] at f1
  clear hf hyl h
  match cs, hcl with
  | [c0, c1, c2, c3, c4], _ =>
  match ys, hyl2 with
  | [y0, y1], _ =>
  obtain ⟨s, hs, hy, _⟩ := DataW.trod_string Try.underlying9 (x := y0) f0
  simp only [List.drop_zero, List.take_succ_cons, List.take_zero, List.cons.injEq, and_true] at hs
  subst hs
  have f1' : DataW.trod enc Try.prog W 0 sp held n' 24 [c1, c2, c3, c4] = some y1 := f1
  rw [hx] at hb
  unfold Light at hb
  simp only [DataW.weights, Try.underlying38, List.map_cons, List.map_nil, DataW.weightsEach, List.all_append, Bool.and_eq_true] at hb
  have hl0 : Light 9 y0.1 := by unfold Light; exact hb.1
  have hl1 : Light 24 y1.1 := by unfold Light; exact hb.2.1
  obtain ⟨t, n, hn, hT, hin, hu⟩ := tree_bulk_of_trod n' [c1, c2, c3, c4] y1 f1' hl1
  rw [hy] at hl0
  have hsz := string_light hl0
  refine ⟨s, t, n, by rw [hn], hT, hin, hsz, ?_⟩
  rw [hx, hy]
  have hd : s.data.toList.length = s.size := sdata s
  simp only [List.map_cons, List.map_nil, Rows.uptoBulk, Rows.uptoBulkAll]
  omega
end Go.Proofs.Ytmnnjmjdggjlmaa.rd
namespace Go.Proofs.Ytmnnjmjdggjlmaa.rd
open Go.RowKit

mutual
/-- A tree has this number in a pool. -/
def Is (s : ByteArray) (L : List Gr) : Tree → Nat → Prop
  | .mk k i j l, id => ∃ ids, L[id]? = some ⟨k, B (sub s i j), ids⟩ ∧ Iss s L l ids
def Iss (s : ByteArray) (L : List Gr) : List Tree → List Int → Prop
  | [], ids => ids = []
  | t :: l, ids => ∃ (x : Nat) (r : List Int), ids = (x : Int) :: r ∧ Is s L t x ∧ Iss s L l r
end
mutual
theorem is_mono {s : ByteArray} {L L2 : List Gr} (h : L <+: L2) : ∀ (t : Tree) (id : Nat), Is s L t id → Is s L2 t id
  | .mk k i j l, id, hi => by
    rw [Is] at hi ⊢
    obtain ⟨ids, h1, h2⟩ := hi
    exact ⟨ids, by rw [prefix_get h (List.getElem?_eq_some_iff.1 h1).1]; exact h1, iss_mono h l ids h2⟩
theorem iss_mono {s : ByteArray} {L L2 : List Gr} (h : L <+: L2) : ∀ (l : List Tree) (ids : List Int), Iss s L l ids → Iss s L2 l ids
  | [], ids, hi => by rw [Iss] at hi ⊢; exact hi
  | t :: l, ids, hi => by
    rw [Iss] at hi ⊢
    obtain ⟨x, r, h1, h2, h3⟩ := hi
    exact ⟨x, r, h1, is_mono h t x h2, iss_mono h l r h3⟩
end
mutual
theorem putT_pre (s : ByteArray) : ∀ (t : Tree) (L : List Gr), L <+: (putT s t L).1
  | .mk k i j l, L => by
    rw [putT]
    exact (putTs_pre s l L).trans (endPut_pre _ _)
theorem putTs_pre (s : ByteArray) : ∀ (l : List Tree) (L : List Gr), L <+: (putTs s l L).1
  | [], L => by rw [putTs]; exact List.prefix_refl _
  | t :: l, L => by
    rw [putTs]
    exact (putT_pre s t L).trans (putTs_pre s l _)
end
mutual
theorem putT_is (s : ByteArray) : ∀ (t : Tree) (L : List Gr), Is s (putT s t L).1 t (putT s t L).2
  | .mk k i j l, L => by
    rw [putT, Is]
    exact ⟨_, endPut_get _ _, iss_mono (endPut_pre _ _) l _ (putTs_is s l L)⟩
theorem putTs_is (s : ByteArray) : ∀ (l : List Tree) (L : List Gr), Iss s (putTs s l L).1 l (putTs s l L).2
  | [], L => by rw [putTs, Iss]
  | t :: l, L => by
    rw [putTs, Iss]
    exact ⟨_, _, rfl, is_mono (putTs_pre s l _) t _ (putT_is s t L), putTs_is s l _⟩
end
/-- No node stands in a pool twice. -/
def Once (L : List Gr) : Prop := ∀ (i j : Nat) (g : Gr), L[i]? = some g → L[j]? = some g → i = j
theorem endPut_once {L : List Gr} (g : Gr) (h : Once L) : Once (endPut L g).1 := by
  unfold endPut
  split
  · exact h
  · rename_i hn
    rw [List.findIdx?_eq_none_iff] at hn
    have hno : ∀ (i : Nat) (g' : Gr), L[i]? = some g' → g' ≠ g := fun i g' hi e => by
      have := hn g' (List.mem_of_getElem? hi)
      rw [(likeG_iff g' g).2 e] at this
      cases this
    intro i j g' hi hj
    show i = j
    have hi' : (L ++ [g])[i]? = some g' := hi
    have hj' : (L ++ [g])[j]? = some g' := hj
    have key : ∀ m, (L ++ [g])[m]? = some g' → (L[m]? = some g' ∧ m < L.length) ∨ (m = L.length ∧ g' = g) := fun m hm => by
      by_cases hlt : m < L.length
      · rw [List.getElem?_append_left hlt] at hm
        exact .inl ⟨hm, hlt⟩
      · rw [List.getElem?_append_right (by omega)] at hm
        have h0 := (List.getElem?_eq_some_iff.1 hm).1
        simp at h0
        obtain rfl : m = L.length := by omega
        simp at hm
        exact .inr ⟨rfl, hm.symm⟩
    rcases key i hi' with ⟨a1, _⟩ | ⟨a1, a2⟩ <;> rcases key j hj' with ⟨b1, _⟩ | ⟨b1, b2⟩
    · exact h i j g' a1 b1
    · exact absurd b2 (hno i g' a1)
    · exact absurd a2 (hno j g' b1)
    · omega
mutual
theorem putT_once (s : ByteArray) : ∀ (t : Tree) (L : List Gr), Once L → Once (putT s t L).1
  | .mk k i j l, L, h => by
    rw [putT]
    exact endPut_once _ (putTs_once s l L h)
theorem putTs_once (s : ByteArray) : ∀ (l : List Tree) (L : List Gr), Once L → Once (putTs s l L).1
  | [], L, h => by rw [putTs]; exact h
  | t :: l, L, h => by
    rw [putTs]
    exact putTs_once s l _ (putT_once s t L h)
end
mutual
/-- What is put again has the number that it had. -/
theorem is_put {s : ByteArray} {L : List Gr} (hL : Once L) : ∀ (t : Tree) (id : Nat), Is s L t id → putT s t L = (L, id)
  | .mk k i j l, id, hi => by
    rw [Is] at hi
    obtain ⟨ids, h1, h2⟩ := hi
    rw [putT, iss_put hL l ids h2]
    obtain ⟨hlt, hge⟩ := List.getElem?_eq_some_iff.1 h1
    refine endPut_some hlt ((likeG_iff _ _).2 hge) (fun m hm hmi => ?_)
    cases hc : likeG L[m] ⟨k, B ((s.data.toList.drop i.toNat).take (j.toNat - i.toNat)), ids⟩ with
    | false => rfl
    | true =>
      have := hL m id _ (List.getElem?_eq_some_iff.2 ⟨hm, (likeG_iff _ _).1 hc⟩) h1
      omega
theorem iss_put {s : ByteArray} {L : List Gr} (hL : Once L) : ∀ (l : List Tree) (ids : List Int), Iss s L l ids → putTs s l L = (L, ids)
  | [], ids, hi => by rw [Iss] at hi; rw [putTs, hi]
  | t :: l, ids, hi => by
    rw [Iss] at hi
    obtain ⟨x, r, rfl, h2, h3⟩ := hi
    rw [putTs, is_put hL t x h2, iss_put hL l r h3]
end
theorem is_get {s : ByteArray} {L : List Gr} {t : Tree} {id : Nat} (h : Is s L t id) : ∃ g, L[id]? = some g ∧ g.k = t.k ∧ g.s = B (sub s t.i t.j) := by
  obtain ⟨k, i, j, l⟩ := t
  rw [Is] at h
  obtain ⟨ids, h1, _⟩ := h
  exact ⟨_, h1, rfl, rfl⟩
theorem sub_shift (ah s : ByteArray) {a e : Int} (h0 : 0 ≤ a) (h1 : a ≤ e) : sub (ah ++ s) (a + (ah.size : Int)) (e + (ah.size : Int)) = sub s a e := by
  unfold sub
  have hd : (ah ++ s).data.toList = ah.data.toList ++ s.data.toList := by simp [ByteArray.data_append]
  have hl : ah.data.toList.length = ah.size := sdata ah
  rw [hd, List.drop_append, List.drop_eq_nil_of_le (by omega), List.nil_append, hl, show (a + (ah.size : Int)).toNat - ah.size = a.toNat by omega, show (e + (ah.size : Int)).toNat - (a + (ah.size : Int)).toNat = e.toNat - a.toNat by omega]
theorem wrap_fit {z d : Int} {n : Nat} (h0 : 0 ≤ z) (h1 : z ≤ (n : Int)) (h2 : 0 ≤ d) (h3 : d + n ≤ 4611686018427387904) : wrap64 (z + d) = z + d := IntWalk.wrap64_in _ (by omega)
mutual
theorem putT_shift (ah s : ByteArray) (hz : (ah.size : Int) + s.size ≤ 4611686018427387904) : ∀ (t : Tree) (L : List Gr), fitT s.size t = true → putT (ah ++ s) (shiftT ah.size t) L = putT s t L
  | .mk k i j l, L, h => by
    obtain ⟨_, h0, hij, hjN, hl⟩ := fitT_node h
    have hs := sub_shift ah s h0 hij
    unfold sub at hs
    rw [shiftT, wrap_fit h0 (Int.le_trans hij hjN) (by omega) hz, wrap_fit (by omega) hjN (by omega) hz, putT, putT, putTs_shift ah s hz l L hl, hs]
theorem putTs_shift (ah s : ByteArray) (hz : (ah.size : Int) + s.size ≤ 4611686018427387904) : ∀ (l : List Tree) (L : List Gr), (∀ t ∈ l, fitT s.size t = true) → putTs (ah ++ s) (shiftTs ah.size l) L = putTs s l L
  | [], L, h => by rw [shiftTs, putTs, putTs]
  | t :: l, L, h => by
    rw [shiftTs, putTs, putTs, putT_shift ah s hz t L (h t (by simp)), putTs_shift ah s hz l _ (fun u hu => h u (by simp [hu]))]
end
mutual
theorem fitT_shift {n : Nat} {d : Int} (h2 : 0 ≤ d) (h3 : d + n ≤ 4611686018427387904) : ∀ t : Tree, fitT n t = true → fitT ((n : Int) + d) (shiftT d t) = true ∧ (shiftT d t).i = t.i + d ∧ (shiftT d t).j = t.j + d
  | .mk k i j l, h => by
    obtain ⟨hk, h0, hij, hjN, _⟩ := fitT_node h
    obtain ⟨_, e, he, _⟩ := fitT_whole h
    have e1 : (shiftTs d l).isEmpty = l.isEmpty := by cases l <;> simp [shiftTs]
    have e2 : ∀ x y : Int, (x + d == y + d) = (x == y) := fun x y => by rw [Bool.eq_iff_iff]; simp
    rw [fitT, he] at h
    rw [shiftT, wrap_fit h0 (Int.le_trans hij hjN) h2 h3, wrap_fit (by omega) hjN h2 h3, fitT, fitTs_shift h2 h3 l i e he, e1, e2]
    refine ⟨?_, rfl, rfl⟩
    simp only [Bool.and_eq_true, decide_eq_true_eq, e2] at h ⊢
    exact ⟨⟨⟨⟨⟨h.1.1.1.1.1, by omega⟩, by omega⟩, by omega⟩, h.1.2⟩, h.2⟩
theorem fitTs_shift {n : Nat} {d : Int} (h2 : 0 ≤ d) (h3 : d + n ≤ 4611686018427387904) : ∀ (l : List Tree) (a e : Int), fitTs n a l = some e → fitTs ((n : Int) + d) (a + d) (shiftTs d l) = some (e + d)
  | [], a, e, h => by
    rw [fitTs] at h
    rw [shiftTs, fitTs, Option.some.inj h]
  | t :: l, a, e, h => by
    obtain ⟨x1, x2, x3⟩ := fitTs_step h
    obtain ⟨y1, y2, y3⟩ := fitT_shift h2 h3 t x2
    rw [shiftTs, fitTs, y1, y2, x1, if_pos (by simp), y3]
    exact fitTs_shift h2 h3 l t.j e x3
end
mutual
theorem inr_shift {n : Nat} {d : Int} (h2 : 0 ≤ d) (h3 : d + n ≤ 4611686018427387904) : ∀ t : Tree, fitT n t = true → InR t → InR (shiftT d t)
  | .mk k i j l, h, hi => by
    obtain ⟨_, h0, hij, hjN, hl⟩ := fitT_node h
    rw [InR] at hi
    rw [shiftT, wrap_fit h0 (Int.le_trans hij hjN) h2 h3, wrap_fit (by omega) hjN h2 h3, InR]
    unfold In64 at hi ⊢
    exact ⟨hi.1, by omega, by omega, inrs_shift h2 h3 l hl hi.2.2.2⟩
theorem inrs_shift {n : Nat} {d : Int} (h2 : 0 ≤ d) (h3 : d + n ≤ 4611686018427387904) : ∀ l : List Tree, (∀ t ∈ l, fitT n t = true) → InRs l → InRs (shiftTs d l)
  | [], _, _ => by rw [shiftTs, InRs]; trivial
  | t :: l, h, hi => by
    rw [InRs] at hi
    rw [shiftTs, InRs]
    exact ⟨inr_shift h2 h3 t (h t (by simp)) hi.1, inrs_shift h2 h3 l (fun u hu => h u (by simp [hu])) hi.2⟩
end
mutual
/-- The tree of a number is the tree that was put. -/
theorem node_back {s : ByteArray} {L : List Gr} (hL : GoodL L) : ∀ (t : Tree) (id f : Nat), fitT s.size t = true → Is s L t id → id < f → nodeT L f id t.i = t
  | .mk k i j l, id, 0, _, _, hf => by omega
  | .mk k i j l, id, f + 1, hfit, hi, hf => by
    rw [Is] at hi
    obtain ⟨ids, h1, h2⟩ := hi
    obtain ⟨_, h0, hij, hjN, _⟩ := fitT_node hfit
    obtain ⟨_, e, he, _⟩ := fitT_whole hfit
    obtain ⟨hlt, hge⟩ := List.getElem?_eq_some_iff.1 h1
    have hg := hL.all id hlt
    rw [hge] at hg
    show nodeT L (f + 1) id i = _
    rw [nodeT, h1]
    show Tree.mk k i (i + ((B (sub s i j)).size : Int)) (kidsT L (nodeT L f) ids i) = _
    rw [bsize, sub_len s h0 hij hjN, kids_back hL l ids i e f he h2 (fun x hx => by have := (hg.low x hx).2; omega), show i + (j - i) = j by omega]
theorem kids_back {s : ByteArray} {L : List Gr} (hL : GoodL L) : ∀ (l : List Tree) (ids : List Int) (a e : Int) (f : Nat), fitTs s.size a l = some e → Iss s L l ids → (∀ x ∈ ids, x < (f : Int)) → kidsT L (nodeT L f) ids a = l
  | [], ids, a, e, f, _, hi, _ => by rw [Iss] at hi; rw [hi]; rfl
  | t :: l, ids, a, e, f, he, hi, hlow => by
    rw [Iss] at hi
    obtain ⟨x, r, rfl, hx, hr⟩ := hi
    obtain ⟨e1, e2, e3⟩ := fitTs_step he
    obtain ⟨g, g1, _, g3⟩ := is_get hx
    have hb := node_back hL t x f e2 hx (by have := hlow (x : Int) (by simp); omega)
    have hsz : ((B (sub s t.i t.j)).size : Int) = t.j - t.i := by
      obtain ⟨k', i', j', l'⟩ := t
      obtain ⟨_, x1, x2, x3, _⟩ := fitT_node e2
      rw [bsize]
      exact sub_len s x1 x2 x3
    show nodeT L f (x : Int).toNat a :: kidsT L (nodeT L f) r (a + ((L[(x : Int).toNat]?.map fun g => (g.s.size : Int)).getD 0)) = t :: l
    rw [Int.toNat_natCast, g1]
    simp only [Option.map_some, Option.getD_some, g3, hsz]
    rw [← e1, hb, show t.i + (t.j - t.i) = t.j by omega, kids_back hL l r t.j e f e3 hr (fun y hy => hlow y (by simp [hy]))]
end
end Go.Proofs.Ytmnnjmjdggjlmaa.rd
namespace Go.Proofs.Ytmnnjmjdggjlmaa.rd
open Go.RowKit

def isDig (c : UInt8) : Bool := decide (48 ≤ c.toNat) && decide (c.toNat ≤ 57)
theorem dig_is : ∀ m : Nat, m < 10 → isDig (48 + UInt8.ofNat m) = true ∧ (48 + UInt8.ofNat m).toNat = 48 + m := by decide
theorem digN_dig (n : Nat) : ∀ c ∈ digN n, isDig c = true := by
  induction n using Nat.strongRecOn with
  | _ n ih =>
  rw [digN]
  split
  · rename_i h
    intro c hc
    obtain rfl := List.mem_singleton.1 hc
    exact (dig_is n h).1
  · rename_i h
    intro c hc
    rcases List.mem_append.1 hc with hc | hc
    · exact ih (n / 10) (by omega) c hc
    · obtain rfl := List.mem_singleton.1 hc
      exact (dig_is (n % 10) (by omega)).1
/-- What digits say. -/
def digV (l : List UInt8) : Nat := l.foldl (fun v c => v * 10 + (c.toNat - 48)) 0
theorem digV_digN (n : Nat) : digV (digN n) = n := by
  induction n using Nat.strongRecOn with
  | _ n ih =>
  rw [digN]
  split
  · rename_i h
    unfold digV
    simp only [List.foldl_cons, List.foldl_nil, (dig_is n h).2]
    omega
  · rename_i h
    have := ih (n / 10) (by omega)
    unfold digV at this ⊢
    rw [List.foldl_append, this]
    simp only [List.foldl_cons, List.foldl_nil, (dig_is (n % 10) (by omega)).2]
    omega
theorem split_dig : ∀ (a b : List UInt8) (x y : UInt8) (r q : List UInt8), (∀ c ∈ a, isDig c = true) → (∀ c ∈ b, isDig c = true) → isDig x = false → isDig y = false → a ++ x :: r = b ++ y :: q → a = b ∧ x :: r = y :: q
  | [], [], _, _, _, _, _, _, _, _, h => ⟨rfl, h⟩
  | [], c :: b, x, y, r, q, _, hb, hx, _, h => by
    have e : x = c := (List.cons.inj h).1
    rw [e, hb c (by simp)] at hx
    cases hx
  | c :: a, [], x, y, r, q, ha, _, _, hy, h => by
    have e : c = y := (List.cons.inj h).1
    rw [← e, ha c (by simp)] at hy
    cases hy
  | c :: a, d :: b, x, y, r, q, ha, hb, hx, hy, h => by
    obtain ⟨e1, e2⟩ := List.cons.inj h
    obtain ⟨e3, e4⟩ := split_dig a b x y r q (fun z hz => ha z (by simp [hz])) (fun z hz => hb z (by simp [hz])) hx hy e2
    exact ⟨by rw [e1, e3], e4⟩
theorem dig_split {a b : Int} (ha : 0 ≤ a) (hb : 0 ≤ b) {x y : UInt8} {r q : List UInt8} (hx : isDig x = false) (hy : isDig y = false) (h : digI a ++ x :: r = digI b ++ y :: q) : a = b ∧ x :: r = y :: q := by
  unfold digI at h
  rw [if_neg (by omega), if_neg (by omega)] at h
  obtain ⟨e1, e2⟩ := split_dig _ _ _ _ _ _ (digN_dig _) (digN_dig _) hx hy h
  have := congrArg digV e1
  rw [digV_digN, digV_digN] at this
  exact ⟨by omega, e2⟩
/-- What stands behind a kind. -/
def restT (s : List UInt8) (k i j : Int) (u : List UInt8) : List UInt8 := if leafK k then 58 :: (digI (j - i) ++ 58 :: ((s.drop i.toNat).take (j.toNat - i.toNat) ++ u)) else u
theorem shapeT_rest (s : List UInt8) (k i j : Int) (l : List Tree) (r : List UInt8) : shapeT s (.mk k i j l) ++ r = 40 :: (digI k ++ restT s k i j (shapeTs s l ++ 41 :: r)) := by
  rw [shapeT]
  unfold restT
  cases leafK k <;> simp
theorem shapeTs_head (s : List UInt8) (l : List Tree) (r : List UInt8) : ∃ x q, shapeTs s l ++ 41 :: r = x :: q ∧ isDig x = false := by
  cases l with
  | nil => exact ⟨41, r, by rw [shapeTs]; rfl, by decide⟩
  | cons t l =>
    obtain ⟨k, i, j, l'⟩ := t
    rw [shapeTs, List.append_assoc, shapeT_rest]
    exact ⟨40, _, rfl, by decide⟩
theorem restT_head (s : List UInt8) (k i j : Int) (l : List Tree) (r : List UInt8) : ∃ x q, restT s k i j (shapeTs s l ++ 41 :: r) = x :: q ∧ isDig x = false := by
  unfold restT
  split
  · exact ⟨58, _, rfl, by decide⟩
  · exact shapeTs_head s l r
mutual
theorem shape_is {s s' : ByteArray} {L : List Gr} (hL : GoodL L) (hO : Once L) : ∀ (t t' : Tree) (id id' : Nat) (r r' : List UInt8), fitT s.size t = true → fitT s'.size t' = true → Is s L t id → Is s' L t' id' → shapeT s.data.toList t ++ r = shapeT s'.data.toList t' ++ r' → id = id' ∧ r = r'
  | .mk k i j l, .mk k' i' j' l', id, id', r, r', hf, hf', hi, hi', h => by
    obtain ⟨hk, h0, hij, hjN, hl⟩ := fitT_node hf
    obtain ⟨hk', h0', hij', hjN', hl'⟩ := fitT_node hf'
    rw [Is] at hi hi'
    obtain ⟨ids, g1, g2⟩ := hi
    obtain ⟨ids', g1', g2'⟩ := hi'
    rw [shapeT_rest, shapeT_rest] at h
    have h1 := (List.cons.inj h).2
    obtain ⟨x, q, ex, hx⟩ := restT_head s.data.toList k i j l r
    obtain ⟨y, q', ey, hy⟩ := restT_head s'.data.toList k' i' j' l' r'
    rw [ex, ey] at h1
    obtain ⟨e1, e2⟩ := dig_split (by omega) (by omega) hx hy h1
    rw [← ex, ← ey, ← e1] at e2
    subst e1
    obtain ⟨hlt, hge⟩ := List.getElem?_eq_some_iff.1 g1
    obtain ⟨hlt', hge'⟩ := List.getElem?_eq_some_iff.1 g1'
    have hg := hL.all id hlt
    have hg' := hL.all id' hlt'
    rw [hge] at hg
    rw [hge'] at hg'
    unfold restT at e2
    cases hlf : leafK k with
    | true =>
      rw [hlf, if_pos rfl, if_pos rfl] at e2
      obtain ⟨e3, e4⟩ := dig_split (by omega) (by omega) (by decide) (by decide) (List.cons.inj e2).2
      have e5 := (List.cons.inj e4).2
      have hs1 := sub_len s h0 hij hjN
      have hs2 := sub_len s' h0' hij' hjN'
      obtain ⟨e6, e7⟩ := List.append_inj e5 (by show (sub s i j).length = (sub s' i' j').length; omega)
      obtain ⟨e8, e9⟩ := shapes_is hL hO l l' ids ids' r r' hl hl' g2 g2' e7
      refine ⟨hO id id' _ g1 ?_, e9⟩
      rw [g1', e8]
      have : sub s i j = sub s' i' j' := e6
      rw [this]
    | false =>
      rw [hlf] at e2
      simp only [Bool.false_eq_true, if_false] at e2
      obtain ⟨e8, e9⟩ := shapes_is hL hO l l' ids ids' r r' hl hl' g2 g2' e2
      have n1 : sub s i j = cat L ids := hg.node hlf
      have n2 : sub s' i' j' = cat L ids' := hg'.node hlf
      refine ⟨hO id id' _ g1 ?_, e9⟩
      rw [g1', n1, n2, e8]
theorem shapes_is {s s' : ByteArray} {L : List Gr} (hL : GoodL L) (hO : Once L) : ∀ (l l' : List Tree) (ids ids' : List Int) (r r' : List UInt8), (∀ t ∈ l, fitT s.size t = true) → (∀ t ∈ l', fitT s'.size t = true) → Iss s L l ids → Iss s' L l' ids' → shapeTs s.data.toList l ++ 41 :: r = shapeTs s'.data.toList l' ++ 41 :: r' → ids = ids' ∧ r = r'
  | [], [], ids, ids', r, r', _, _, hi, hi', h => by
    rw [Iss] at hi hi'
    rw [shapeTs, shapeTs] at h
    exact ⟨by rw [hi, hi'], (List.cons.inj h).2⟩
  | [], .mk k i j m :: l', ids, ids', r, r', _, _, _, _, h => by
    rw [shapeTs, shapeTs, List.append_assoc, shapeT_rest] at h
    have : (41 : UInt8) = 40 := (List.cons.inj h).1
    cases this
  | .mk k i j m :: l, [], ids, ids', r, r', _, _, _, _, h => by
    rw [shapeTs, shapeTs, List.append_assoc, shapeT_rest] at h
    have : (40 : UInt8) = 41 := (List.cons.inj h).1
    cases this
  | t :: l, t' :: l', ids, ids', r, r', hf, hf', hi, hi', h => by
    rw [Iss] at hi hi'
    obtain ⟨x, q, rfl, g2, g3⟩ := hi
    obtain ⟨x', q', rfl, g2', g3'⟩ := hi'
    rw [shapeTs, shapeTs, List.append_assoc, List.append_assoc] at h
    obtain ⟨e1, e2⟩ := shape_is hL hO t t' x x' _ _ (hf t (by simp)) (hf' t' (by simp)) g2 g2' h
    obtain ⟨e3, e4⟩ := shapes_is hL hO l l' q q' r r' (fun u hu => hf u (by simp [hu])) (fun u hu => hf' u (by simp [hu])) g3 g3' e2
    exact ⟨by rw [e1, e3], e4⟩
end
mutual
theorem is_shape {s s' : ByteArray} {L : List Gr} : ∀ (t t' : Tree) (id : Nat), fitT s.size t = true → fitT s'.size t' = true → Is s L t id → Is s' L t' id → shapeT s.data.toList t = shapeT s'.data.toList t'
  | .mk k i j l, .mk k' i' j' l', id, hf, hf', hi, hi' => by
    obtain ⟨hk, h0, hij, hjN, hl⟩ := fitT_node hf
    obtain ⟨hk', h0', hij', hjN', hl'⟩ := fitT_node hf'
    rw [Is] at hi hi'
    obtain ⟨ids, g1, g2⟩ := hi
    obtain ⟨ids', g1', g2'⟩ := hi'
    rw [g1] at g1'
    have e := Option.some.inj g1'
    simp only [Gr.mk.injEq] at e
    obtain ⟨rfl, e2, rfl⟩ := e
    have e3 := B_inj e2
    have hs1 := sub_len s h0 hij hjN
    have hs2 := sub_len s' h0' hij' hjN'
    rw [e3] at hs1
    have e4 : (s.data.toList.drop i.toNat).take (j.toNat - i.toNat) = (s'.data.toList.drop i'.toNat).take (j'.toNat - i'.toNat) := e3
    rw [shapeT, shapeT, e4, show j - i = j' - i' by omega, is_shapes l l' ids hl hl' g2 g2']
theorem is_shapes {s s' : ByteArray} {L : List Gr} : ∀ (l l' : List Tree) (ids : List Int), (∀ t ∈ l, fitT s.size t = true) → (∀ t ∈ l', fitT s'.size t = true) → Iss s L l ids → Iss s' L l' ids → shapeTs s.data.toList l = shapeTs s'.data.toList l'
  | [], [], _, _, _, _, _ => by rw [shapeTs, shapeTs]
  | [], t' :: l', ids, _, _, hi, hi' => by
    rw [Iss] at hi
    rw [Iss] at hi'
    obtain ⟨x, q, h, _⟩ := hi'
    rw [hi] at h
    cases h
  | t :: l, [], ids, _, _, hi, hi' => by
    rw [Iss] at hi
    rw [Iss] at hi'
    obtain ⟨x, q, h, _⟩ := hi
    rw [hi'] at h
    cases h
  | t :: l, t' :: l', ids, hf, hf', hi, hi' => by
    rw [Iss] at hi hi'
    obtain ⟨x, q, h, g2, g3⟩ := hi
    obtain ⟨x', q', h', g2', g3'⟩ := hi'
    rw [h] at h'
    obtain ⟨e1, rfl⟩ := List.cons.inj h'
    obtain rfl : x = x' := by omega
    rw [shapeTs, shapeTs, is_shape t t' x (hf t (by simp)) (hf' t' (by simp)) g2 g2', is_shapes l l' q (fun u hu => hf u (by simp [hu])) (fun u hu => hf' u (by simp [hu])) g3 g3']
end
end Go.Proofs.Ytmnnjmjdggjlmaa.rd
namespace Go.Proofs.Ytmnnjmjdggjlmaa.rd
open Go.RowKit

mutual
theorem shapeT_len {s : ByteArray} : ∀ t : Tree, fitT s.size t = true → InR t → (shapeT s.data.toList t).length ≤ (64 + s.size) * bulkT t
  | .mk k i j l, hf, hi => by
    obtain ⟨hk, h0, hij, hjN, hl⟩ := fitT_node hf
    rw [InR] at hi
    have h1 := shapeTs_len (s := s) l hl hi.2.2.2
    have h2 := digI_few hi.1
    have h3 := digI_few (z := j - i) (by have := hi.2.2.1; unfold In64 at *; omega)
    have h4 : ((s.data.toList.drop i.toNat).take (j.toNat - i.toNat)).length ≤ s.size := by rw [List.length_take, List.length_drop, sdata]; omega
    rw [shapeT, bulkT, Nat.mul_add, Nat.mul_one]
    simp only [List.length_append, List.length_cons, List.length_nil]
    split
    · simp only [List.length_append, List.length_cons, List.length_nil]
      omega
    · simp only [List.length_nil]
      omega
theorem shapeTs_len {s : ByteArray} : ∀ l : List Tree, (∀ t ∈ l, fitT s.size t = true) → InRs l → (shapeTs s.data.toList l).length ≤ (64 + s.size) * bulkTs l
  | [], _, _ => by rw [shapeTs]; exact Nat.zero_le _
  | t :: l, h1, h2 => by
    rw [InRs] at h2
    rw [shapeTs, bulkTs, List.length_append, Nat.mul_add]
    exact Nat.add_le_add (shapeT_len t (h1 t (by simp)) h2.1) (shapeTs_len l (fun u hu => h1 u (by simp [hu])) h2.2)
end
/-- The law's own world: its two trees in boxes, a pool of one's own. -/
structure Ow (Pl : World → Nat → (Nat → Prop) → List Gr → Prop) (w : World) (X Y : Nat) (s s' : ByteArray) (n m : Rn) (A b : Nat) (L : List Gr) (u : World) : Prop where
  below : Below w.heap.size w u
  xa : TBox u X s n
  xb : TBox u Y s' m
  lowX : X < A
  lowY : Y < A
  wa : w.heap.size ≤ A
  au : A ≤ u.heap.size
  pool : ∃ D, Pl u b D L ∧ ∀ k, D k → A ≤ k
theorem Ow.more {Pl : World → Nat → (Nat → Prop) → List Gr → Prop} (HC : PoolC Pl) {w : World} {X Y : Nat} {s s' : ByteArray} {n m : Rn} {A b : Nat} {L : List Gr} {u u' : World} (h : Ow Pl w X Y s s' n m A b L u) (hb : Below u.heap.size u u') : Ow Pl w X Y s s' n m A b L u' := by
  obtain ⟨D, h1, h2⟩ := h.pool
  exact ⟨h.below.trans (hb.mono h.below.size), h.xa.below hb, h.xb.below hb, h.lowX, h.lowY, h.wa, Nat.le_trans h.au hb.size, D, HC.keep h1 hb.size (fun k hk => hb.block k (HC.dead h1 k hk)), h2⟩
theorem Ow.low {Pl : World → Nat → (Nat → Prop) → List Gr → Prop} {w : World} {X Y : Nat} {s s' : ByteArray} {n m : Rn} {A b : Nat} {L L' : List Gr} {u u' : World} (h : Ow Pl w X Y s s' n m A b L u) (hb : Below A u u') (hp : ∃ D, Pl u' b D L' ∧ ∀ k, D k → A ≤ k) : Ow Pl w X Y s s' n m A b L' u' :=
  ⟨h.below.trans (hb.mono h.wa), h.xa.low hb h.lowX, h.xb.low hb h.lowY, h.lowX, h.lowY, h.wa, Nat.le_trans h.au hb.size, hp⟩
/-- A moved tree, apart from the pool. -/
def Sf (Pl : World → Nat → (Nat → Prop) → List Gr → Prop) (A b : Nat) (L : List Gr) (t : Tree) (u : World) (n : Rn) : Prop := ∃ T D, Tie u T t n ∧ Pl u b D L ∧ (∀ k, D k → A ≤ k) ∧ ∀ k, T k → k < u.heap.size ∧ ¬ D k
section
variable {Pl : World → Nat → (Nat → Prop) → List Gr → Prop} {w : World} {X Y : Nat} {s s' : ByteArray} {n m : Rn} {A b : Nat} {L : List Gr} {u : World}
theorem Ow.put (HC : PoolC Pl) (h : Ow Pl w X Y s s' n m A b L u) {t : Tree} {p : Rn} {z : ByteArray} (ht : Hid (TieB w t p)) (hin : InR t) (hs : z.size ≤ 281474976710656) (hfit : fitT z.size t = true) (hl : (putT z t L).1.length ≤ 4294967296) : Calls Try.prog 18 #[.pointer (some ⟨b, 0, none⟩), .string z, p.v] u fun e w' => e = .returned (.tuple #[.int .i64 ((putT z t L).2 : Int), .int .i64 0]) ∧ Ow Pl w X Y s s' n m A b (putT z t L).1 w' := by
  obtain ⟨D, h1, h2⟩ := h.pool
  exact (HC.put_fit ht hin hs hfit hl h.below h1 h.wa h.au h2).mono fun e w' ⟨e1, e2, D', e3, e4⟩ => ⟨e1, h.low e2 ⟨D', e3, e4⟩⟩
theorem Ow.len (HC : PoolC Pl) (h : Ow Pl w X Y s s' n m A b L u) : Calls Try.prog 17 #[.pointer (some ⟨b, 0, none⟩)] u fun e w' => e = .returned (.int .i64 (L.length : Int)) ∧ Below u.heap.size u w' := by
  obtain ⟨D, h1, h2⟩ := h.pool
  exact HC.len h1
theorem Ow.shift (HC : PoolC Pl) (h : Ow Pl w X Y s s' n m A b L u) {t : Tree} {p : Rn} (ht : Hid (TieB w t p)) (d : Int) : Calls Try.prog 31 #[p.v, .int .i64 d] u fun e w' => ∃ n' : Rn, e = .returned n'.v ∧ Ow Pl w X Y s s' n m A b L w' ∧ Sf Pl A b L (shiftT d t) w' n' := by
  obtain ⟨D, h1, h2⟩ := h.pool
  refine (shift_t t u p d (TieB.below ht h.below)).mono fun e w' ⟨n', e1, e2, T, e3, e4⟩ => ⟨n', e1, h.more HC e2, T, D, OTie.tie _ _ e3, HC.keep h1 e2.size (fun k hk => e2.block k (HC.dead h1 k hk)), h2, fun k hk => ⟨(e4 k hk).2, fun hd => ?_⟩⟩
  have := HC.dead h1 k hd
  have := (e4 k hk).1
  omega
theorem Ow.again (HC : PoolC Pl) (h : Ow Pl w X Y s s' n m A b L u) {t : Tree} {p : Rn} {z : ByteArray} {x : Nat} (hf : Sf Pl A b L t u p) (hin : InR t) (hs : z.size ≤ 281474976710656) (hfit : fitT z.size t = true) (hp : putT z t L = (L, x)) (hl : L.length ≤ 4294967296) : Calls Try.prog 18 #[.pointer (some ⟨b, 0, none⟩), .string z, p.v] u fun e w' => e = .returned (.tuple #[.int .i64 (x : Int), .int .i64 0]) ∧ Ow Pl w X Y s s' n m A b L w' := by
  obtain ⟨T, D, h1, h2, h3, h4⟩ := hf
  have hc := HC.put (s := z) h2 h1 h4 hin hs (by rw [hp]; exact hl)
  rw [hfit, hp] at hc
  exact hc.mono fun e w' ⟨e1, D', e2, e3, e4⟩ => ⟨e1, h.low (e3.low h3 h.au) ⟨D', e2, fun k hk => (e4 k hk).elim (h3 k) (fun e => Nat.le_trans h.au e)⟩⟩
theorem Ow.node (HC : PoolC Pl) (h : Ow Pl w X Y s s' n m A b L u) {t : Tree} {x : Nat} (hx : x < L.length) (h0 : 0 ≤ t.i) (h1 : t.i ≤ 2147483647) (hn : nodeT L (x + 1) x t.i = t) : Calls Try.prog 29 #[.pointer (some ⟨b, 0, none⟩), .int .i64 (x : Int), .int .i64 t.i] u fun e w' => ∃ n' : Rn, e = .returned (.tuple #[n'.v, .int .i64 0]) ∧ Below u.heap.size u w' ∧ Hid (TieB w' t n') := by
  obtain ⟨D, p1, p2⟩ := h.pool
  have hc := HC.node p1 x t.i hx h0 h1
  rw [hn] at hc
  exact hc.mono fun e w' ⟨n', e1, e2, e3⟩ => ⟨n', e1, e2, e3.tieB⟩
end
/-- What the two trees' numbers are. -/
theorem once_facts {s s' ah : ByteArray} {t t' : Tree} (hs : s.size + bulkT t + (s'.size + bulkT t') ≤ 1048576) (hah : ah.size ≤ 268435456) (hf : fitT s.size t = true) (hf' : fitT s'.size t' = true) (hi : InR t) (hi' : InR t') (hw : FewT t) (hw' : FewT t') : ∃ (x y : Nat) (L1 L2 : List Gr), putT s t [] = (L1, x) ∧ putT s' t' L1 = (L2, y) ∧ L2.length ≤ 4294967296 ∧ x < L2.length ∧ y < L2.length ∧ putT (ah ++ s) (shiftT ah.size t) L2 = (L2, x) ∧ nodeT L2 (x + 1) x t.i = t ∧ nodeT L2 (y + 1) y t'.i = t' ∧ (x = y ↔ shapeT s.data.toList t = shapeT s'.data.toList t') := by
  have b1 := putT_bulk s t []
  have b2 := putT_bulk s' t' (putT s t []).1
  simp only [List.length_nil] at b1
  have g0 : GoodL [] := ⟨by show 0 ≤ _; omega, fun i h => by cases h⟩
  have ok1 := putT_ok s (by omega) t [] g0 hf hi hw (by omega)
  have ok2 := putT_ok s' (by omega) t' _ ok1.good hf' hi' hw' (by omega)
  have o2 : Once (putT s' t' (putT s t []).1).1 := putT_once s' t' _ (putT_once s t [] (fun i j g h => by simp at h))
  have i1 := is_mono ok2.pre t _ (putT_is s t [])
  have i2 := putT_is s' t' (putT s t []).1
  refine ⟨(putT s t []).2, (putT s' t' (putT s t []).1).2, (putT s t []).1, (putT s' t' (putT s t []).1).1, rfl, rfl, by omega, ?_, ?_, ?_, node_back ok2.good t _ _ hf i1 (Nat.lt_succ_self _), node_back ok2.good t' _ _ hf' i2 (Nat.lt_succ_self _), ?_, ?_⟩
  · obtain ⟨g, h1, _⟩ := is_get i1
    exact (List.getElem?_eq_some_iff.1 h1).1
  · obtain ⟨g, h1, _⟩ := is_get i2
    exact (List.getElem?_eq_some_iff.1 h1).1
  · rw [putT_shift ah s (by omega) t _ hf]
    exact is_put o2 t _ i1
  · intro e
    rw [← e] at i2
    exact is_shape t t' _ hf hf' i1 i2
  · intro e
    exact (shape_is ok2.good o2 t t' _ _ [] [] hf hf' i1 i2 (by rw [e])).1
end Go.Proofs.Ytmnnjmjdggjlmaa.rd
namespace Go.Proofs.Ytmnnjmjdggjlmaa.rd
open Go.RowKit

/-- The law's own world ahead of the pool. -/
structure Bx (w : World) (X Y : Nat) (s s' : ByteArray) (n m : Rn) (u : World) : Prop where
  below : Below w.heap.size w u
  xa : TBox u X s n
  xb : TBox u Y s' m
theorem Bx.more {w : World} {X Y : Nat} {s s' : ByteArray} {n m : Rn} {u u' : World} (h : Bx w X Y s s' n m u) (hb : Below u.heap.size u u') : Bx w X Y s s' n m u' :=
  ⟨h.below.trans (hb.mono h.below.size), h.xa.below hb, h.xb.below hb⟩
theorem tree_boxes (w : World) (s s' : ByteArray) (k i j k' i' j' : Int) (o o' : Option Addr) (nn c nn' c' : Nat) : ∃ W2, (w.alloc (.cells #[.string s, .int .i64 k, .int .i64 i, .int .i64 j, .slice o nn c] 38)).alloc (.cells #[.string s', .int .i64 k', .int .i64 i', .int .i64 j', .slice o' nn' c'] 38) = W2 ∧ Bx w w.heap.size (w.heap.size + 1) s s' ⟨k, i, j, o, nn, c⟩ ⟨k', i', j', o', nn', c'⟩ W2 := by
  have z1 : (w.alloc (.cells #[.string s, .int .i64 k, .int .i64 i, .int .i64 j, .slice o nn c] 38)).heap.size = w.heap.size + 1 := World.size_alloc _ _
  have b1 : Below w.heap.size w (w.alloc (.cells #[.string s, .int .i64 k, .int .i64 i, .int .i64 j, .slice o nn c] 38)) := (Below.refl _ _).alloc (Nat.le_refl _) _
  have a1 : TBox (w.alloc (.cells #[.string s, .int .i64 k, .int .i64 i, .int .i64 j, .slice o nn c] 38)) w.heap.size s ⟨k, i, j, o, nn, c⟩ := heap_alloc_last w _
  generalize w.alloc (.cells #[.string s, .int .i64 k, .int .i64 i, .int .i64 j, .slice o nn c] 38) = W1 at *
  have a2 := heap_alloc_last W1 (.cells #[.string s', .int .i64 k', .int .i64 i', .int .i64 j', .slice o' nn' c'] 38)
  have b2 : Below W1.heap.size W1 (W1.alloc (.cells #[.string s', .int .i64 k', .int .i64 i', .int .i64 j', .slice o' nn' c'] 38)) := (Below.refl _ _).alloc (Nat.le_refl _) _
  rw [z1] at a2
  exact ⟨_, rfl, b1.trans (b2.mono b1.size), a1.below b2, a2⟩
/-- The two trees that came back, in boxes. -/
structure Oz (Pl : World → Nat → (Nat → Prop) → List Gr → Prop) (w : World) (X Y : Nat) (s s' : ByteArray) (n m : Rn) (A b : Nat) (L : List Gr) (Z1 Z2 : Nat) (p q : Rn) (t t' : Tree) (u : World) : Prop where
  os : Ow Pl w X Y s s' n m A b L u
  z1 : Box u Z1 p
  z2 : Box u Z2 q
  t1 : Hid (TieB u t p)
  t2 : Hid (TieB u t' q)
theorem Oz.more {Pl : World → Nat → (Nat → Prop) → List Gr → Prop} (HC : PoolC Pl) {w : World} {X Y : Nat} {s s' : ByteArray} {n m : Rn} {A b : Nat} {L : List Gr} {Z1 Z2 : Nat} {p q : Rn} {t t' : Tree} {u u' : World} (h : Oz Pl w X Y s s' n m A b L Z1 Z2 p q t t' u) (hb : Below u.heap.size u u') : Oz Pl w X Y s s' n m A b L Z1 Z2 p q t t' u' :=
  ⟨h.os.more HC hb, h.z1.below hb, h.z2.below hb, TieB.below h.t1 hb, TieB.below h.t2 hb⟩
set_option maxRecDepth 100000 in
set_option maxHeartbeats 4000000 in
theorem once_good {Pl : World → Nat → (Nat → Prop) → List Gr → Prop} (HPL : PoolC Pl) (HSH : ShownC) (t t' : Tree) (s s' ah : ByteArray) (w : World) (n m : Rn) (ht : Hid (TieB w t n)) (ht' : Hid (TieB w t' m)) (hin : InR t) (hin' : InR t') (hs : s.size + bulkT t + (s'.size + bulkT t') ≤ 1048576) (hah : ah.size ≤ 268435456) (hf : fitT s.size t = true) (hf' : fitT s'.size t' = true) :
    Calls Try.prog 5 #[.agg #[.string s, .int .i64 n.k, .int .i64 n.i, .int .i64 n.j, .slice n.o n.n n.c], .agg #[.string s', .int .i64 m.k, .int .i64 m.i, .int .i64 m.j, .slice m.o m.n m.c], .string ah] w fun e w' => e = .returned (.bool true) ∧ Below w.heap.size w w' := by
  obtain ⟨D1, hD1, _⟩ := ht.out
  obtain ⟨D2, hD2, _⟩ := ht'.out
  obtain ⟨x, y, L1, L2, p1, p2, hl2, hx, hy, p3, nd1, nd2, hiff⟩ := once_facts hs hah hf hf' hin hin' (tie_few _ _ hD1) (tie_few _ _ hD2)
  have hti := hD1.i
  have hti' := hD2.i
  have hr1 : 0 ≤ t.i ∧ t.i ≤ 2147483647 := by
    obtain ⟨a1, a2, a3, a4⟩ := t
    obtain ⟨_, b1, b2, b3, _⟩ := fitT_node hf
    have b2' : a2 ≤ a3 := b2
    exact ⟨b1, by show a2 ≤ _; omega⟩
  have hr2 : 0 ≤ t'.i ∧ t'.i ≤ 2147483647 := by
    obtain ⟨a1, a2, a3, a4⟩ := t'
    obtain ⟨_, b1, b2, b3, _⟩ := fitT_node hf'
    have b2' : a2 ≤ a3 := b2
    exact ⟨b1, by show a2 ≤ _; omega⟩
  obtain ⟨hfs, _, _⟩ := fitT_shift (n := s.size) (d := (ah.size : Int)) (by omega) (by omega) t hf
  have hins := inr_shift (n := s.size) (d := (ah.size : Int)) (by omega) (by omega) t hf hin
  obtain ⟨T3, hT3⟩ : ∃ T3, shiftT (ah.size : Int) t = T3 := ⟨_, rfl⟩
  have hds : (s.size : Int) + (ah.size : Int) = ((ah ++ s).size : Int) := by rw [ByteArray.size_append]; omega
  have hds' : (ah ++ s).size ≤ 281474976710656 := by rw [ByteArray.size_append]; omega
  rw [hT3, hds] at hfs
  rw [hT3] at hins p3
  have hb1 := putT_bulk s t []
  have hb2 := putT_bulk s' t' L1
  simp only [List.length_nil] at hb1
  rw [p1] at hb1
  rw [p2] at hb2
  simp only [] at hb1 hb2
  have hsh1 := shapeT_len t hf hin
  have hsh2 := shapeT_len t' hf' hin'
  have hm1 : (64 + s.size) * bulkT t ≤ 1048640 * 1048576 := Nat.mul_le_mul (by omega) (by omega)
  have hm2 : (64 + s'.size) * bulkT t' ≤ 1048640 * 1048576 := Nat.mul_le_mul (by omega) (by omega)
  obtain ⟨k, i, j, o, nn, c⟩ := n
  obtain ⟨k', i', j', o', nn', c'⟩ := m
  simp only [] at hti hti'
  show Calls Try.prog 5 #[.agg #[.string s, .int .i64 k, .int .i64 i, .int .i64 j, .slice o nn c], .agg #[.string s', .int .i64 k', .int .i64 i', .int .i64 j', .slice o' nn' c'], .string ah] w _
  obtain ⟨W2, hW2, hbx⟩ := tree_boxes w s s' k i j k' i' j' o o' nn c nn' c'
  obtain ⟨X, hX⟩ : ∃ X, w.heap.size = X := ⟨_, rfl⟩
  rw [hX] at hbx
  obtain ⟨AS, hAS⟩ : ∃ AS, ah ++ s = AS := ⟨_, rfl⟩
  have hcat : Op.stringOp .add ah s = pure (.string AS) := by
    have h := cat_eq (x := ah.data.toList) (y := s.data.toList) (by rw [sdata, sdata]; omega)
    have e1 : B ah.data.toList = ah := by unfold B; simp
    have e2 : B s.data.toList = s := by unfold B; simp
    have e3 : B (ah.data.toList ++ s.data.toList) = AS := by rw [← b_append, e1, e2, hAS]
    rw [e1, e2, e3] at h
    exact h
  rw [hAS] at hfs hds' p3
  obtain ⟨SA, hSA⟩ : ∃ SA, shapeT s.data.toList t = SA := ⟨_, rfl⟩
  obtain ⟨SB, hSB⟩ : ∃ SB, shapeT s'.data.toList t' = SB := ⟨_, rfl⟩
  have HCA : Hid (∀ u, Bx w X (X + 1) s s' ⟨k, i, j, o, nn, c⟩ ⟨k', i', j', o', nn', c'⟩ u → Calls Try.prog 13 #[.string s, .agg #[.int .i64 k, .int .i64 i, .int .i64 j, .slice o nn c]] u fun e w' => e = .returned (.int .i64 0) ∧ Bx w X (X + 1) s s' ⟨k, i, j, o, nn, c⟩ ⟨k', i', j', o', nn', c'⟩ w') := Lib.hid (fun u hu => by
    have h := check_t t u ⟨k, i, j, o, nn, c⟩ s (TieB.below ht hu.below)
    rw [hf] at h
    exact h.mono fun e w' ⟨h1, h2⟩ => ⟨h1, hu.more h2⟩)
  have HCB : Hid (∀ u, Bx w X (X + 1) s s' ⟨k, i, j, o, nn, c⟩ ⟨k', i', j', o', nn', c'⟩ u → Calls Try.prog 13 #[.string s', .agg #[.int .i64 k', .int .i64 i', .int .i64 j', .slice o' nn' c']] u fun e w' => e = .returned (.int .i64 0) ∧ Bx w X (X + 1) s s' ⟨k, i, j, o, nn, c⟩ ⟨k', i', j', o', nn', c'⟩ w') := Lib.hid (fun u hu => by
    have h := check_t t' u ⟨k', i', j', o', nn', c'⟩ s' (TieB.below ht' hu.below)
    rw [hf'] at h
    exact h.mono fun e w' ⟨h1, h2⟩ => ⟨h1, hu.more h2⟩)
  have HNW : Hid (∀ u, Bx w X (X + 1) s s' ⟨k, i, j, o, nn, c⟩ ⟨k', i', j', o', nn', c'⟩ u → Calls Try.prog 15 #[] u fun e w' => ∃ b A, e = .returned (.pointer (some ⟨b, 0, none⟩)) ∧ Ow Pl w X (X + 1) s s' ⟨k, i, j, o, nn, c⟩ ⟨k', i', j', o', nn', c'⟩ A b [] w') := Lib.hid (fun u hu =>
    (HPL.new u).mono fun e w' ⟨b, D, h1, h2, h3, h4⟩ => ⟨b, u.heap.size, h1, hu.below.trans (h2.mono hu.below.size), hu.xa.below h2, hu.xb.below h2, (Array.getElem?_eq_some_iff.1 hu.xa).1, (Array.getElem?_eq_some_iff.1 hu.xb).1, hu.below.size, h2.size, D, h3, h4⟩)
  have HP1 : Hid (∀ (A b : Nat) (u : World), Ow Pl w X (X + 1) s s' ⟨k, i, j, o, nn, c⟩ ⟨k', i', j', o', nn', c'⟩ A b [] u → Calls Try.prog 18 #[.pointer (some ⟨b, 0, none⟩), .string s, .agg #[.int .i64 k, .int .i64 i, .int .i64 j, .slice o nn c]] u fun e w' => e = .returned (.tuple #[.int .i64 (x : Int), .int .i64 0]) ∧ Ow Pl w X (X + 1) s s' ⟨k, i, j, o, nn, c⟩ ⟨k', i', j', o', nn', c'⟩ A b L1 w') := Lib.hid (fun A b u hu => by
    have h := hu.put HPL (z := s) ht hin (by omega) hf (by rw [p1]; show L1.length ≤ _; omega)
    rw [p1] at h
    exact h)
  have HP2 : Hid (∀ (A b : Nat) (u : World), Ow Pl w X (X + 1) s s' ⟨k, i, j, o, nn, c⟩ ⟨k', i', j', o', nn', c'⟩ A b L1 u → Calls Try.prog 18 #[.pointer (some ⟨b, 0, none⟩), .string s', .agg #[.int .i64 k', .int .i64 i', .int .i64 j', .slice o' nn' c']] u fun e w' => e = .returned (.tuple #[.int .i64 (y : Int), .int .i64 0]) ∧ Ow Pl w X (X + 1) s s' ⟨k, i, j, o, nn, c⟩ ⟨k', i', j', o', nn', c'⟩ A b L2 w') := Lib.hid (fun A b u hu => by
    have h := hu.put HPL (z := s') ht' hin' (by omega) hf' (by rw [p2]; exact hl2)
    rw [p2] at h
    exact h)
  have HLE : Hid (∀ (A b : Nat) (u : World), Ow Pl w X (X + 1) s s' ⟨k, i, j, o, nn, c⟩ ⟨k', i', j', o', nn', c'⟩ A b L2 u → Calls Try.prog 17 #[.pointer (some ⟨b, 0, none⟩)] u fun e w' => e = .returned (.int .i64 (L2.length : Int)) ∧ Ow Pl w X (X + 1) s s' ⟨k, i, j, o, nn, c⟩ ⟨k', i', j', o', nn', c'⟩ A b L2 w') := Lib.hid (fun A b u hu => (hu.len HPL).mono fun e w' ⟨h1, h2⟩ => ⟨h1, hu.more HPL h2⟩)
  have hall : ∀ (A b : Nat) (u : World), Ow Pl w X (X + 1) s s' ⟨k, i, j, o, nn, c⟩ ⟨k', i', j', o', nn', c'⟩ A b L2 u → (Ow Pl w X (X + 1) s s' ⟨k, i, j, o, nn, c⟩ ⟨k', i', j', o', nn', c'⟩ A b L2 u ∧ u.cell? ⟨X, 0, none⟩ = some (.string s) ∧ u.cell? ⟨X, 1, none⟩ = some (.int .i64 k) ∧ u.cell? ⟨X, 2, none⟩ = some (.int .i64 i) ∧ u.cell? ⟨X, 3, none⟩ = some (.int .i64 j) ∧ u.cell? ⟨X, 4, none⟩ = some (.slice o nn c) ∧ X < u.heap.size ∧ u.cell? ⟨X + 1, 0, none⟩ = some (.string s') ∧ u.cell? ⟨X + 1, 1, none⟩ = some (.int .i64 k') ∧ u.cell? ⟨X + 1, 2, none⟩ = some (.int .i64 i') ∧ u.cell? ⟨X + 1, 3, none⟩ = some (.int .i64 j') ∧ u.cell? ⟨X + 1, 4, none⟩ = some (.slice o' nn' c') ∧ X + 1 < u.heap.size) := fun A b u hu => by
    obtain ⟨⟨a0, a1, a2, a3, a4⟩, az⟩ := hu.xa.cells
    obtain ⟨⟨b0, b1, b2, b3, b4⟩, bz⟩ := hu.xb.cells
    exact ⟨hu, a0, a1, a2, a3, a4, az, b0, b1, b2, b3, b4, bz⟩
  have HSI : Hid (∀ (A b : Nat) (u : World), (Ow Pl w X (X + 1) s s' ⟨k, i, j, o, nn, c⟩ ⟨k', i', j', o', nn', c'⟩ A b L2 u ∧ u.cell? ⟨X, 0, none⟩ = some (.string s) ∧ u.cell? ⟨X, 1, none⟩ = some (.int .i64 k) ∧ u.cell? ⟨X, 2, none⟩ = some (.int .i64 i) ∧ u.cell? ⟨X, 3, none⟩ = some (.int .i64 j) ∧ u.cell? ⟨X, 4, none⟩ = some (.slice o nn c) ∧ X < u.heap.size ∧ u.cell? ⟨X + 1, 0, none⟩ = some (.string s') ∧ u.cell? ⟨X + 1, 1, none⟩ = some (.int .i64 k') ∧ u.cell? ⟨X + 1, 2, none⟩ = some (.int .i64 i') ∧ u.cell? ⟨X + 1, 3, none⟩ = some (.int .i64 j') ∧ u.cell? ⟨X + 1, 4, none⟩ = some (.slice o' nn' c') ∧ X + 1 < u.heap.size) → Calls Try.prog 31 #[.agg #[.int .i64 k, .int .i64 i, .int .i64 j, .slice o nn c], .int .i64 (ah.size : Int)] u fun e w' => ∃ (zk zi zj : Int) (zo : Option Addr) (zn zc : Nat), e = .returned (.agg #[.int .i64 zk, .int .i64 zi, .int .i64 zj, .slice zo zn zc]) ∧ (Ow Pl w X (X + 1) s s' ⟨k, i, j, o, nn, c⟩ ⟨k', i', j', o', nn', c'⟩ A b L2 w' ∧ w'.cell? ⟨X, 0, none⟩ = some (.string s) ∧ w'.cell? ⟨X, 1, none⟩ = some (.int .i64 k) ∧ w'.cell? ⟨X, 2, none⟩ = some (.int .i64 i) ∧ w'.cell? ⟨X, 3, none⟩ = some (.int .i64 j) ∧ w'.cell? ⟨X, 4, none⟩ = some (.slice o nn c) ∧ X < w'.heap.size ∧ w'.cell? ⟨X + 1, 0, none⟩ = some (.string s') ∧ w'.cell? ⟨X + 1, 1, none⟩ = some (.int .i64 k') ∧ w'.cell? ⟨X + 1, 2, none⟩ = some (.int .i64 i') ∧ w'.cell? ⟨X + 1, 3, none⟩ = some (.int .i64 j') ∧ w'.cell? ⟨X + 1, 4, none⟩ = some (.slice o' nn' c') ∧ X + 1 < w'.heap.size) ∧ Hid (Sf Pl A b L2 T3 w' ⟨zk, zi, zj, zo, zn, zc⟩)) := Lib.hid (fun A b u hu => by
    have h := hu.1.shift HPL ht (ah.size : Int)
    rw [hT3] at h
    exact h.mono fun e w' ⟨⟨zk, zi, zj, zo, zn, zc⟩, h1, h2, h3⟩ => ⟨zk, zi, zj, zo, zn, zc, h1, hall A b w' h2, Lib.hid h3⟩)
  have HP3 : Hid (∀ (A b : Nat) (u : World) (zk zi zj : Int) (zo : Option Addr) (zn zc : Nat), (Ow Pl w X (X + 1) s s' ⟨k, i, j, o, nn, c⟩ ⟨k', i', j', o', nn', c'⟩ A b L2 u ∧ u.cell? ⟨X, 0, none⟩ = some (.string s) ∧ u.cell? ⟨X, 1, none⟩ = some (.int .i64 k) ∧ u.cell? ⟨X, 2, none⟩ = some (.int .i64 i) ∧ u.cell? ⟨X, 3, none⟩ = some (.int .i64 j) ∧ u.cell? ⟨X, 4, none⟩ = some (.slice o nn c) ∧ X < u.heap.size ∧ u.cell? ⟨X + 1, 0, none⟩ = some (.string s') ∧ u.cell? ⟨X + 1, 1, none⟩ = some (.int .i64 k') ∧ u.cell? ⟨X + 1, 2, none⟩ = some (.int .i64 i') ∧ u.cell? ⟨X + 1, 3, none⟩ = some (.int .i64 j') ∧ u.cell? ⟨X + 1, 4, none⟩ = some (.slice o' nn' c') ∧ X + 1 < u.heap.size) → Hid (Sf Pl A b L2 T3 u ⟨zk, zi, zj, zo, zn, zc⟩) → Calls Try.prog 18 #[.pointer (some ⟨b, 0, none⟩), .string AS, .agg #[.int .i64 zk, .int .i64 zi, .int .i64 zj, .slice zo zn zc]] u fun e w' => e = .returned (.tuple #[.int .i64 (x : Int), .int .i64 0]) ∧ (Ow Pl w X (X + 1) s s' ⟨k, i, j, o, nn, c⟩ ⟨k', i', j', o', nn', c'⟩ A b L2 w' ∧ w'.cell? ⟨X, 0, none⟩ = some (.string s) ∧ w'.cell? ⟨X, 1, none⟩ = some (.int .i64 k) ∧ w'.cell? ⟨X, 2, none⟩ = some (.int .i64 i) ∧ w'.cell? ⟨X, 3, none⟩ = some (.int .i64 j) ∧ w'.cell? ⟨X, 4, none⟩ = some (.slice o nn c) ∧ X < w'.heap.size ∧ w'.cell? ⟨X + 1, 0, none⟩ = some (.string s') ∧ w'.cell? ⟨X + 1, 1, none⟩ = some (.int .i64 k') ∧ w'.cell? ⟨X + 1, 2, none⟩ = some (.int .i64 i') ∧ w'.cell? ⟨X + 1, 3, none⟩ = some (.int .i64 j') ∧ w'.cell? ⟨X + 1, 4, none⟩ = some (.slice o' nn' c') ∧ X + 1 < w'.heap.size)) := Lib.hid (fun A b u zk zi zj zo zn zc hu hz =>
    (hu.1.again HPL hz.out hins hds' hfs p3 hl2).mono fun e w' ⟨h1, h2⟩ => ⟨h1, hall A b w' h2⟩)
  have HN1 : Hid (∀ (A b : Nat) (u : World), Ow Pl w X (X + 1) s s' ⟨k, i, j, o, nn, c⟩ ⟨k', i', j', o', nn', c'⟩ A b L2 u → Calls Try.prog 29 #[.pointer (some ⟨b, 0, none⟩), .int .i64 (x : Int), .int .i64 i] u fun e w' => ∃ (zk zi zj : Int) (zo : Option Addr) (zn zc : Nat), e = .returned (.tuple #[.agg #[.int .i64 zk, .int .i64 zi, .int .i64 zj, .slice zo zn zc], .int .i64 0]) ∧ Ow Pl w X (X + 1) s s' ⟨k, i, j, o, nn, c⟩ ⟨k', i', j', o', nn', c'⟩ A b L2 w' ∧ Hid (TieB w' t ⟨zk, zi, zj, zo, zn, zc⟩)) := Lib.hid (fun A b u hu => by
    have h := hu.node HPL hx hr1.1 hr1.2 nd1
    rw [← hti] at h
    exact h.mono fun e w' ⟨⟨zk, zi, zj, zo, zn, zc⟩, h1, h2, h3⟩ => ⟨zk, zi, zj, zo, zn, zc, h1, hu.more HPL h2, h3⟩)
  have HN2 : Hid (∀ (A b : Nat) (u : World), Ow Pl w X (X + 1) s s' ⟨k, i, j, o, nn, c⟩ ⟨k', i', j', o', nn', c'⟩ A b L2 u → Calls Try.prog 29 #[.pointer (some ⟨b, 0, none⟩), .int .i64 (y : Int), .int .i64 i'] u fun e w' => ∃ (zk zi zj : Int) (zo : Option Addr) (zn zc : Nat), e = .returned (.tuple #[.agg #[.int .i64 zk, .int .i64 zi, .int .i64 zj, .slice zo zn zc], .int .i64 0]) ∧ Ow Pl w X (X + 1) s s' ⟨k, i, j, o, nn, c⟩ ⟨k', i', j', o', nn', c'⟩ A b L2 w' ∧ Below u.heap.size u w' ∧ Hid (TieB w' t' ⟨zk, zi, zj, zo, zn, zc⟩)) := Lib.hid (fun A b u hu => by
    have h := hu.node HPL hy hr2.1 hr2.2 nd2
    rw [← hti'] at h
    exact h.mono fun e w' ⟨⟨zk, zi, zj, zo, zn, zc⟩, h1, h2, h3⟩ => ⟨zk, zi, zj, zo, zn, zc, h1, hu.more HPL h2, h2, h3⟩)
  have HS1 : Hid (∀ (A b : Nat) (u : World), (Ow Pl w X (X + 1) s s' ⟨k, i, j, o, nn, c⟩ ⟨k', i', j', o', nn', c'⟩ A b L2 u ∧ u.cell? ⟨X, 0, none⟩ = some (.string s) ∧ u.cell? ⟨X, 1, none⟩ = some (.int .i64 k) ∧ u.cell? ⟨X, 2, none⟩ = some (.int .i64 i) ∧ u.cell? ⟨X, 3, none⟩ = some (.int .i64 j) ∧ u.cell? ⟨X, 4, none⟩ = some (.slice o nn c) ∧ X < u.heap.size ∧ u.cell? ⟨X + 1, 0, none⟩ = some (.string s') ∧ u.cell? ⟨X + 1, 1, none⟩ = some (.int .i64 k') ∧ u.cell? ⟨X + 1, 2, none⟩ = some (.int .i64 i') ∧ u.cell? ⟨X + 1, 3, none⟩ = some (.int .i64 j') ∧ u.cell? ⟨X + 1, 4, none⟩ = some (.slice o' nn' c') ∧ X + 1 < u.heap.size) → Calls Try.prog 21 #[.string s, .agg #[.int .i64 k, .int .i64 i, .int .i64 j, .slice o nn c]] u fun e w' => e = .returned (.string (B SA)) ∧ (Ow Pl w X (X + 1) s s' ⟨k, i, j, o, nn, c⟩ ⟨k', i', j', o', nn', c'⟩ A b L2 w' ∧ w'.cell? ⟨X, 0, none⟩ = some (.string s) ∧ w'.cell? ⟨X, 1, none⟩ = some (.int .i64 k) ∧ w'.cell? ⟨X, 2, none⟩ = some (.int .i64 i) ∧ w'.cell? ⟨X, 3, none⟩ = some (.int .i64 j) ∧ w'.cell? ⟨X, 4, none⟩ = some (.slice o nn c) ∧ X < w'.heap.size ∧ w'.cell? ⟨X + 1, 0, none⟩ = some (.string s') ∧ w'.cell? ⟨X + 1, 1, none⟩ = some (.int .i64 k') ∧ w'.cell? ⟨X + 1, 2, none⟩ = some (.int .i64 i') ∧ w'.cell? ⟨X + 1, 3, none⟩ = some (.int .i64 j') ∧ w'.cell? ⟨X + 1, 4, none⟩ = some (.slice o' nn' c') ∧ X + 1 < w'.heap.size)) := Lib.hid (fun A b u hu => by
    have h := shape_t t u ⟨k, i, j, o, nn, c⟩ s (TieB.below ht hu.1.below) hin hf (by omega)
    rw [hSA] at h
    exact h.mono fun e w' ⟨h1, h2⟩ => ⟨h1, hall A b w' (hu.1.more HPL h2)⟩)
  have HS2 : Hid (∀ (A b : Nat) (u : World), (Ow Pl w X (X + 1) s s' ⟨k, i, j, o, nn, c⟩ ⟨k', i', j', o', nn', c'⟩ A b L2 u ∧ u.cell? ⟨X, 0, none⟩ = some (.string s) ∧ u.cell? ⟨X, 1, none⟩ = some (.int .i64 k) ∧ u.cell? ⟨X, 2, none⟩ = some (.int .i64 i) ∧ u.cell? ⟨X, 3, none⟩ = some (.int .i64 j) ∧ u.cell? ⟨X, 4, none⟩ = some (.slice o nn c) ∧ X < u.heap.size ∧ u.cell? ⟨X + 1, 0, none⟩ = some (.string s') ∧ u.cell? ⟨X + 1, 1, none⟩ = some (.int .i64 k') ∧ u.cell? ⟨X + 1, 2, none⟩ = some (.int .i64 i') ∧ u.cell? ⟨X + 1, 3, none⟩ = some (.int .i64 j') ∧ u.cell? ⟨X + 1, 4, none⟩ = some (.slice o' nn' c') ∧ X + 1 < u.heap.size) → Calls Try.prog 21 #[.string s', .agg #[.int .i64 k', .int .i64 i', .int .i64 j', .slice o' nn' c']] u fun e w' => e = .returned (.string (B SB)) ∧ (Ow Pl w X (X + 1) s s' ⟨k, i, j, o, nn, c⟩ ⟨k', i', j', o', nn', c'⟩ A b L2 w' ∧ w'.cell? ⟨X, 0, none⟩ = some (.string s) ∧ w'.cell? ⟨X, 1, none⟩ = some (.int .i64 k) ∧ w'.cell? ⟨X, 2, none⟩ = some (.int .i64 i) ∧ w'.cell? ⟨X, 3, none⟩ = some (.int .i64 j) ∧ w'.cell? ⟨X, 4, none⟩ = some (.slice o nn c) ∧ X < w'.heap.size ∧ w'.cell? ⟨X + 1, 0, none⟩ = some (.string s') ∧ w'.cell? ⟨X + 1, 1, none⟩ = some (.int .i64 k') ∧ w'.cell? ⟨X + 1, 2, none⟩ = some (.int .i64 i') ∧ w'.cell? ⟨X + 1, 3, none⟩ = some (.int .i64 j') ∧ w'.cell? ⟨X + 1, 4, none⟩ = some (.slice o' nn' c') ∧ X + 1 < w'.heap.size)) := Lib.hid (fun A b u hu => by
    have h := shape_t t' u ⟨k', i', j', o', nn', c'⟩ s' (TieB.below ht' hu.1.below) hin' hf' (by omega)
    rw [hSB] at h
    exact h.mono fun e w' ⟨h1, h2⟩ => ⟨h1, hall A b w' (hu.1.more HPL h2)⟩)
  have HMORE : Hid (∀ (A b : Nat) (u u' : World), Ow Pl w X (X + 1) s s' ⟨k, i, j, o, nn, c⟩ ⟨k', i', j', o', nn', c'⟩ A b L2 u → Below u.heap.size u u' → Ow Pl w X (X + 1) s s' ⟨k, i, j, o, nn, c⟩ ⟨k', i', j', o', nn', c'⟩ A b L2 u') := Lib.hid (fun A b u u' hu hb => hu.more HPL hb)
  have HLZ : Hid (∀ (A b Z1 Z2 : Nat) (p q : Rn) (u : World), Oz Pl w X (X + 1) s s' ⟨k, i, j, o, nn, c⟩ ⟨k', i', j', o', nn', c'⟩ A b L2 Z1 Z2 p q t t' u → Calls Try.prog 17 #[.pointer (some ⟨b, 0, none⟩)] u fun e w' => e = .returned (.int .i64 (L2.length : Int)) ∧ Oz Pl w X (X + 1) s s' ⟨k, i, j, o, nn, c⟩ ⟨k', i', j', o', nn', c'⟩ A b L2 Z1 Z2 p q t t' w') := Lib.hid (fun A b Z1 Z2 p q u hu => (hu.os.len HPL).mono fun e w' ⟨h1, h2⟩ => ⟨h1, hu.more HPL h2⟩)
  have HM1 : Hid (∀ (A b Z1 Z2 : Nat) (pk pi pj : Int) (po : Option Addr) (pn pc : Nat) (q : Rn) (u : World), Oz Pl w X (X + 1) s s' ⟨k, i, j, o, nn, c⟩ ⟨k', i', j', o', nn', c'⟩ A b L2 Z1 Z2 ⟨pk, pi, pj, po, pn, pc⟩ q t t' u → Calls Try.prog 14 #[.agg #[.int .i64 pk, .int .i64 pi, .int .i64 pj, .slice po pn pc], .agg #[.int .i64 k, .int .i64 i, .int .i64 j, .slice o nn c]] u fun e w' => e = .returned (.bool true) ∧ Oz Pl w X (X + 1) s s' ⟨k, i, j, o, nn, c⟩ ⟨k', i', j', o', nn', c'⟩ A b L2 Z1 Z2 ⟨pk, pi, pj, po, pn, pc⟩ q t t' w') := Lib.hid (fun A b Z1 Z2 pk pi pj po pn pc q u hu => by
    have h := same_t t t u ⟨pk, pi, pj, po, pn, pc⟩ ⟨k, i, j, o, nn, c⟩ hu.t1 (TieB.below ht hu.os.below)
    rw [sameT_refl] at h
    exact h.mono fun e w' ⟨h1, h2⟩ => ⟨h1, hu.more HPL h2⟩)
  have HM2 : Hid (∀ (A b Z1 Z2 : Nat) (p : Rn) (qk qi qj : Int) (qo : Option Addr) (qn qc : Nat) (u : World), Oz Pl w X (X + 1) s s' ⟨k, i, j, o, nn, c⟩ ⟨k', i', j', o', nn', c'⟩ A b L2 Z1 Z2 p ⟨qk, qi, qj, qo, qn, qc⟩ t t' u → Calls Try.prog 14 #[.agg #[.int .i64 qk, .int .i64 qi, .int .i64 qj, .slice qo qn qc], .agg #[.int .i64 k', .int .i64 i', .int .i64 j', .slice o' nn' c']] u fun e w' => e = .returned (.bool true) ∧ Oz Pl w X (X + 1) s s' ⟨k, i, j, o, nn, c⟩ ⟨k', i', j', o', nn', c'⟩ A b L2 Z1 Z2 p ⟨qk, qi, qj, qo, qn, qc⟩ t t' w') := Lib.hid (fun A b Z1 Z2 p qk qi qj qo qn qc u hu => by
    have h := same_t t' t' u ⟨qk, qi, qj, qo, qn, qc⟩ ⟨k', i', j', o', nn', c'⟩ hu.t2 (TieB.below ht' hu.os.below)
    rw [sameT_refl] at h
    exact h.mono fun e w' ⟨h1, h2⟩ => ⟨h1, hu.more HPL h2⟩)
  rw [hSA, hSB] at hiff
  have HIFF := Lib.hid hiff
  have HALL := Lib.hid hall
  have HSN := Lib.hid HSH
  have HBX := Lib.hid hbx
  have hgt : decide (268435456 < (ah.size : Int)) = false := decide_eq_false (by omega)
  have hgt' : decide ((ah.size : Int) > 268435456) = false := decide_eq_false (by omega)
  clear ht ht' hin hin' hs hah hf hf' hD1 hD2 p1 p2 p3 hl2 hx hy nd1 nd2 hiff hti hti' hr1 hr2 hfs hins hT3 hds hds' hb1 hb2 hsh1 hsh2 hm1 hm2 hbx hAS hSA hSB hall HSH
  go_enter Try.func5, Try.ntmps5
  go_wp2_with (first
    | (go_at_call 10; refine (HSN.out _).mono ?_; rintro e w1 ⟨rfl, hb1⟩; have H1 := Lib.hid (HBX.out.more hb1); obtain ⟨⟨x0, x1, x2, x3, x4⟩, xz⟩ := H1.out.xa.cells; obtain ⟨⟨y0, y1, y2, y3, y4⟩, yz⟩ := H1.out.xb.cells; clear hb1)
    | (go_at_call 13; (with_reducible refine (HCA.out _ H1.out).mono ?_); rintro e w2 ⟨rfl, h2⟩; clear x0 x1 x2 x3 x4 xz y0 y1 y2 y3 y4 yz; have H2 := Lib.hid h2; obtain ⟨⟨x0, x1, x2, x3, x4⟩, xz⟩ := H2.out.xa.cells; obtain ⟨⟨y0, y1, y2, y3, y4⟩, yz⟩ := H2.out.xb.cells; clear h2)
    | (go_at_call 13; (with_reducible refine (HCB.out _ H2.out).mono ?_); rintro e w3 ⟨rfl, h3⟩; clear x0 x1 x2 x3 x4 xz y0 y1 y2 y3 y4 yz; have H3 := Lib.hid h3; obtain ⟨⟨x0, x1, x2, x3, x4⟩, xz⟩ := H3.out.xa.cells; obtain ⟨⟨y0, y1, y2, y3, y4⟩, yz⟩ := H3.out.xb.cells; clear h3)
    | (go_at_call 15; (with_reducible refine (HNW.out _ H3.out).mono ?_); rintro e w4 ⟨b, A, rfl, h4⟩; clear x0 x1 x2 x3 x4 xz y0 y1 y2 y3 y4 yz; have H4 := Lib.hid h4; obtain ⟨⟨x0, x1, x2, x3, x4⟩, xz⟩ := H4.out.xa.cells; obtain ⟨⟨y0, y1, y2, y3, y4⟩, yz⟩ := H4.out.xb.cells; clear h4)
    | (go_at_call 18; (with_reducible refine (HP1.out _ _ _ H4.out).mono ?_); rintro e w5 ⟨rfl, h5⟩; clear x0 x1 x2 x3 x4 xz y0 y1 y2 y3 y4 yz; have H5 := Lib.hid h5; obtain ⟨⟨x0, x1, x2, x3, x4⟩, xz⟩ := H5.out.xa.cells; obtain ⟨⟨y0, y1, y2, y3, y4⟩, yz⟩ := H5.out.xb.cells; clear h5)
    | (go_at_call 18; (with_reducible refine (HP2.out _ _ _ H5.out).mono ?_); rintro e w6 ⟨rfl, h6⟩; clear x0 x1 x2 x3 x4 xz y0 y1 y2 y3 y4 yz; have H6 := Lib.hid h6; obtain ⟨⟨x0, x1, x2, x3, x4⟩, xz⟩ := H6.out.xa.cells; obtain ⟨⟨y0, y1, y2, y3, y4⟩, yz⟩ := H6.out.xb.cells; clear h6)
    | (go_at_call 17; (with_reducible refine (HLE.out _ _ _ H6.out).mono ?_); rintro e w7 ⟨rfl, h7⟩; clear x0 x1 x2 x3 x4 xz y0 y1 y2 y3 y4 yz; have H7 := Lib.hid h7; obtain ⟨⟨x0, x1, x2, x3, x4⟩, xz⟩ := H7.out.xa.cells; obtain ⟨⟨y0, y1, y2, y3, y4⟩, yz⟩ := H7.out.xb.cells; clear h7))
  clear hW2 hX
  clear x0 x1 x2 x3 x4 xz y0 y1 y2 y3 y4 yz
  go_cut [13, 14] (fun z g wx => (z = .int .i64 (x : Int) ∧ g = .int .i64 0) ∧ Ow Pl w X (X + 1) s s' ⟨k, i, j, o, nn, c⟩ ⟨k', i', j', o', nn', c'⟩ A b L2 wx)
  case first =>
    have hs0 := HALL.out A b w7.drew (HMORE.out A b w7 w7.drew H7.out (Below.refl _ _).drew)
    go_region_held3 (fun W' => (Ow Pl w X (X + 1) s s' ⟨k, i, j, o, nn, c⟩ ⟨k', i', j', o', nn', c'⟩ A b L2 W' ∧ W'.cell? ⟨X, 0, none⟩ = some (.string s) ∧ W'.cell? ⟨X, 1, none⟩ = some (.int .i64 k) ∧ W'.cell? ⟨X, 2, none⟩ = some (.int .i64 i) ∧ W'.cell? ⟨X, 3, none⟩ = some (.int .i64 j) ∧ W'.cell? ⟨X, 4, none⟩ = some (.slice o nn c) ∧ X < W'.heap.size ∧ W'.cell? ⟨X + 1, 0, none⟩ = some (.string s') ∧ W'.cell? ⟨X + 1, 1, none⟩ = some (.int .i64 k') ∧ W'.cell? ⟨X + 1, 2, none⟩ = some (.int .i64 i') ∧ W'.cell? ⟨X + 1, 3, none⟩ = some (.int .i64 j') ∧ W'.cell? ⟨X + 1, 4, none⟩ = some (.slice o' nn' c') ∧ X + 1 < W'.heap.size))
      (first | exact hs0 | exact hs | assumption)
      (first
      | (go_at_call 31; (with_reducible refine (HSI.out _ _ _ (by first | exact hs0 | assumption)).mono ?_); rintro e w8 ⟨zk, zi, zj, zo, zn, zc, rfl, hs, hz⟩; have HZ := Lib.hid hz; clear hz)
      | (go_at_call 18; (with_reducible refine (HP3.out _ _ _ zk zi zj zo zn zc (by first | exact hs | assumption) HZ.out).mono ?_); rintro e w9 ⟨rfl, hs⟩))
    all_goals (try go_wp2_with fail)
    all_goals go_meet
    all_goals exact ⟨⟨rfl, rfl⟩, hs.1⟩
  case rest =>
  obtain ⟨⟨rfl, rfl⟩, hcc⟩ := hcut
  obtain ⟨wB, hwB⟩ : ∃ wB, wB = wc := ⟨_, rfl⟩
  subst hwB
  have H9 := Lib.hid hcc
  clear hcc
  obtain ⟨⟨x0, x1, x2, x3, x4⟩, xz⟩ := H9.out.xa.cells; obtain ⟨⟨y0, y1, y2, y3, y4⟩, yz⟩ := H9.out.xb.cells
  go_wp2_with (first
    | (go_at_call 29; (with_reducible refine (HN1.out _ _ _ H9.out).mono ?_); rintro e w10 ⟨pk, pi, pj, po, pn, pc, rfl, h10, k10⟩; clear x0 x1 x2 x3 x4 xz y0 y1 y2 y3 y4 yz; have hal : Below w10.heap.size w10 (w10.alloc (.cells #[.int .i64 pk, .int .i64 pi, .int .i64 pj, .slice po pn pc] 24)) := (Below.refl _ _).alloc (Nat.le_refl _) _; have H10 := Lib.hid (HMORE.out _ _ _ _ h10 hal); have hzz : Box (w10.alloc (.cells #[.int .i64 pk, .int .i64 pi, .int .i64 pj, .slice po pn pc] 24)) w10.heap.size ⟨pk, pi, pj, po, pn, pc⟩ := heap_alloc_last w10 _; have K10 := Lib.hid (And.intro hzz (TieB.below k10 hal)); obtain ⟨⟨x0, x1, x2, x3, x4⟩, xz⟩ := H10.out.xa.cells; obtain ⟨⟨y0, y1, y2, y3, y4⟩, yz⟩ := H10.out.xb.cells; clear h10 k10 hal hzz)
    | (go_at_call 29; (with_reducible refine (HN2.out _ _ _ H10.out).mono ?_); rintro e w11 ⟨qk, qi, qj, qo, qn, qc, rfl, h11, b11, k11⟩; clear x0 x1 x2 x3 x4 xz y0 y1 y2 y3 y4 yz; have hal : Below w11.heap.size w11 (w11.alloc (.cells #[.int .i64 qk, .int .i64 qi, .int .i64 qj, .slice qo qn qc] 24)) := (Below.refl _ _).alloc (Nat.le_refl _) _; have H11 : Hid (Oz Pl w X (X + 1) s s' ⟨k, i, j, o, nn, c⟩ ⟨k', i', j', o', nn', c'⟩ A b L2 w10.heap.size w11.heap.size ⟨pk, pi, pj, po, pn, pc⟩ ⟨qk, qi, qj, qo, qn, qc⟩ t t' (w11.alloc (.cells #[.int .i64 qk, .int .i64 qi, .int .i64 qj, .slice qo qn qc] 24))) := Lib.hid ⟨HMORE.out _ _ _ _ h11 hal, (K10.out.1.below b11).below hal, heap_alloc_last w11 _, TieB.below (TieB.below K10.out.2 b11) hal, TieB.below k11 hal⟩; obtain ⟨⟨x0, x1, x2, x3, x4⟩, xz⟩ := H11.out.os.xa.cells; obtain ⟨⟨y0, y1, y2, y3, y4⟩, yz⟩ := H11.out.os.xb.cells; obtain ⟨⟨p0, p1, p2, p3⟩, pz⟩ := H11.out.z1.cells; obtain ⟨⟨q0, q1, q2, q3⟩, qz⟩ := H11.out.z2.cells; clear h11 b11 k11 hal)
    | (go_at_call 17; (with_reducible refine (HLZ.out _ _ _ _ _ _ _ H11.out).mono ?_); rintro e w12 ⟨rfl, h12⟩; clear x0 x1 x2 x3 x4 xz y0 y1 y2 y3 y4 yz p0 p1 p2 p3 pz q0 q1 q2 q3 qz; have H12 := Lib.hid h12; obtain ⟨⟨x0, x1, x2, x3, x4⟩, xz⟩ := H12.out.os.xa.cells; obtain ⟨⟨y0, y1, y2, y3, y4⟩, yz⟩ := H12.out.os.xb.cells; obtain ⟨⟨p0, p1, p2, p3⟩, pz⟩ := H12.out.z1.cells; obtain ⟨⟨q0, q1, q2, q3⟩, qz⟩ := H12.out.z2.cells; clear h12)
    | (go_at_call 14; (with_reducible refine (HM1.out _ _ _ _ _ _ _ _ _ _ _ _ H12.out).mono ?_); rintro e w13 ⟨rfl, h13⟩; clear x0 x1 x2 x3 x4 xz y0 y1 y2 y3 y4 yz p0 p1 p2 p3 pz q0 q1 q2 q3 qz; have H13 := Lib.hid h13; obtain ⟨⟨x0, x1, x2, x3, x4⟩, xz⟩ := H13.out.os.xa.cells; obtain ⟨⟨y0, y1, y2, y3, y4⟩, yz⟩ := H13.out.os.xb.cells; obtain ⟨⟨p0, p1, p2, p3⟩, pz⟩ := H13.out.z1.cells; obtain ⟨⟨q0, q1, q2, q3⟩, qz⟩ := H13.out.z2.cells; clear h13)
    | (go_at_call 14; (with_reducible refine (HM2.out _ _ _ _ _ _ _ _ _ _ _ _ H13.out).mono ?_); rintro e w14 ⟨rfl, h14⟩; clear x0 x1 x2 x3 x4 xz y0 y1 y2 y3 y4 yz p0 p1 p2 p3 pz q0 q1 q2 q3 qz; have H14 := Lib.hid h14; obtain ⟨⟨x0, x1, x2, x3, x4⟩, xz⟩ := H14.out.os.xa.cells; obtain ⟨⟨y0, y1, y2, y3, y4⟩, yz⟩ := H14.out.os.xb.cells; obtain ⟨⟨p0, p1, p2, p3⟩, pz⟩ := H14.out.z1.cells; obtain ⟨⟨q0, q1, q2, q3⟩, qz⟩ := H14.out.z2.cells; clear h14))
  clear x0 x1 x2 x3 x4 xz y0 y1 y2 y3 y4 yz p0 p1 p2 p3 pz q0 q1 q2 q3 qz
  have hs0 := HALL.out A b w14.drew (HMORE.out A b w14 w14.drew H14.out.os (Below.refl _ _).drew)
  by_cases hxy : x = y
  · have hab := HIFF.out.1 hxy
    subst hxy
    subst hab
    clear HIFF
    go_region_held3 (fun W' => (Ow Pl w X (X + 1) s s' ⟨k, i, j, o, nn, c⟩ ⟨k', i', j', o', nn', c'⟩ A b L2 W' ∧ W'.cell? ⟨X, 0, none⟩ = some (.string s) ∧ W'.cell? ⟨X, 1, none⟩ = some (.int .i64 k) ∧ W'.cell? ⟨X, 2, none⟩ = some (.int .i64 i) ∧ W'.cell? ⟨X, 3, none⟩ = some (.int .i64 j) ∧ W'.cell? ⟨X, 4, none⟩ = some (.slice o nn c) ∧ X < W'.heap.size ∧ W'.cell? ⟨X + 1, 0, none⟩ = some (.string s') ∧ W'.cell? ⟨X + 1, 1, none⟩ = some (.int .i64 k') ∧ W'.cell? ⟨X + 1, 2, none⟩ = some (.int .i64 i') ∧ W'.cell? ⟨X + 1, 3, none⟩ = some (.int .i64 j') ∧ W'.cell? ⟨X + 1, 4, none⟩ = some (.slice o' nn' c') ∧ X + 1 < W'.heap.size))
      (first | exact hs0 | exact hs | assumption)
      (first
      | (go_at_call 21; (with_reducible refine (HS1.out _ _ _ (by first | exact hs0 | exact hs | assumption)).mono ?_); rintro e w15 ⟨rfl, hs⟩)
      | (go_at_call 21; (with_reducible refine (HS2.out _ _ _ (by first | exact hs0 | exact hs | assumption)).mono ?_); rintro e w15 ⟨rfl, hs⟩))
    all_goals (try go_wp2_with fail)
    all_goals (try (first | go_ret | go_end0))
    all_goals exact ⟨by simp, hs.1.below⟩
  · have hd : decide ((x : Int) = (y : Int)) = false := decide_eq_false (by omega)
    have hne := str_ne (fun e => hxy (HIFF.out.2 (B_inj e)))
    clear HIFF
    go_region_held3 (fun W' => (Ow Pl w X (X + 1) s s' ⟨k, i, j, o, nn, c⟩ ⟨k', i', j', o', nn', c'⟩ A b L2 W' ∧ W'.cell? ⟨X, 0, none⟩ = some (.string s) ∧ W'.cell? ⟨X, 1, none⟩ = some (.int .i64 k) ∧ W'.cell? ⟨X, 2, none⟩ = some (.int .i64 i) ∧ W'.cell? ⟨X, 3, none⟩ = some (.int .i64 j) ∧ W'.cell? ⟨X, 4, none⟩ = some (.slice o nn c) ∧ X < W'.heap.size ∧ W'.cell? ⟨X + 1, 0, none⟩ = some (.string s') ∧ W'.cell? ⟨X + 1, 1, none⟩ = some (.int .i64 k') ∧ W'.cell? ⟨X + 1, 2, none⟩ = some (.int .i64 i') ∧ W'.cell? ⟨X + 1, 3, none⟩ = some (.int .i64 j') ∧ W'.cell? ⟨X + 1, 4, none⟩ = some (.slice o' nn' c') ∧ X + 1 < W'.heap.size))
      (first | exact hs0 | exact hs | assumption)
      (first
      | (go_at_call 21; (with_reducible refine (HS1.out _ _ _ (by first | exact hs0 | exact hs | assumption)).mono ?_); rintro e w15 ⟨rfl, hs⟩)
      | (go_at_call 21; (with_reducible refine (HS2.out _ _ _ (by first | exact hs0 | exact hs | assumption)).mono ?_); rintro e w15 ⟨rfl, hs⟩))
    all_goals (try go_wp2_with fail)
    all_goals (try (first | go_ret | go_end0))
    all_goals exact ⟨by simp; omega, hs.1.below⟩
end Go.Proofs.Ytmnnjmjdggjlmaa.rd
namespace Go.Proofs.Ytmnnjmjdggjlmaa.rd
open Go.RowKit

set_option maxRecDepth 100000 in
set_option maxHeartbeats 4000000 in
theorem once_bad1 (HSH : ShownC) (t t' : Tree) (s s' ah : ByteArray) (w : World) (n m : Rn) (ht : Hid (TieB w t n)) (ht' : Hid (TieB w t' m)) (hf : fitT s.size t = false) :
    Calls Try.prog 5 #[.agg #[.string s, .int .i64 n.k, .int .i64 n.i, .int .i64 n.j, .slice n.o n.n n.c], .agg #[.string s', .int .i64 m.k, .int .i64 m.i, .int .i64 m.j, .slice m.o m.n m.c], .string ah] w fun e w' => e = .returned (.bool true) ∧ Below w.heap.size w w' := by
  obtain ⟨k, i, j, o, nn, c⟩ := n
  obtain ⟨k', i', j', o', nn', c'⟩ := m
  show Calls Try.prog 5 #[.agg #[.string s, .int .i64 k, .int .i64 i, .int .i64 j, .slice o nn c], .agg #[.string s', .int .i64 k', .int .i64 i', .int .i64 j', .slice o' nn' c'], .string ah] w _
  obtain ⟨W2, hW2, hbx⟩ := tree_boxes w s s' k i j k' i' j' o o' nn c nn' c'
  obtain ⟨X, hX⟩ : ∃ X, w.heap.size = X := ⟨_, rfl⟩
  rw [hX] at hbx
  have HCA : Hid (∀ u, Bx w X (X + 1) s s' ⟨k, i, j, o, nn, c⟩ ⟨k', i', j', o', nn', c'⟩ u → Calls Try.prog 13 #[.string s, .agg #[.int .i64 k, .int .i64 i, .int .i64 j, .slice o nn c]] u fun e w' => e = .returned (.int .i64 80) ∧ Bx w X (X + 1) s s' ⟨k, i, j, o, nn, c⟩ ⟨k', i', j', o', nn', c'⟩ w') := Lib.hid (fun u hu => by
    have h := check_t t u ⟨k, i, j, o, nn, c⟩ s (TieB.below ht hu.below)
    rw [hf] at h
    exact h.mono fun e w' ⟨h1, h2⟩ => ⟨h1, hu.more h2⟩)
  have HSN := Lib.hid HSH
  have HBX := Lib.hid hbx
  clear ht ht' hbx HSH
  go_enter Try.func5, Try.ntmps5
  go_wp2_with (first
    | (go_at_call 10; refine (HSN.out _).mono ?_; rintro e w1 ⟨rfl, hb1⟩; have H1 := Lib.hid (HBX.out.more hb1); obtain ⟨⟨x0, x1, x2, x3, x4⟩, xz⟩ := H1.out.xa.cells; obtain ⟨⟨y0, y1, y2, y3, y4⟩, yz⟩ := H1.out.xb.cells; clear hb1)
    | (go_at_call 13; (with_reducible refine (HCA.out _ H1.out).mono ?_); rintro e w2 ⟨rfl, h2⟩; clear x0 x1 x2 x3 x4 xz y0 y1 y2 y3 y4 yz; have H2 := Lib.hid h2; obtain ⟨⟨x0, x1, x2, x3, x4⟩, xz⟩ := H2.out.xa.cells; obtain ⟨⟨y0, y1, y2, y3, y4⟩, yz⟩ := H2.out.xb.cells; clear h2))
  all_goals (try go_ret)
  all_goals exact ⟨rfl, H2.out.below⟩
set_option maxRecDepth 100000 in
set_option maxHeartbeats 4000000 in
theorem once_bad2 (HSH : ShownC) (t t' : Tree) (s s' ah : ByteArray) (w : World) (n m : Rn) (ht : Hid (TieB w t n)) (ht' : Hid (TieB w t' m)) (hf : fitT s.size t = true) (hf' : fitT s'.size t' = false) :
    Calls Try.prog 5 #[.agg #[.string s, .int .i64 n.k, .int .i64 n.i, .int .i64 n.j, .slice n.o n.n n.c], .agg #[.string s', .int .i64 m.k, .int .i64 m.i, .int .i64 m.j, .slice m.o m.n m.c], .string ah] w fun e w' => e = .returned (.bool true) ∧ Below w.heap.size w w' := by
  obtain ⟨k, i, j, o, nn, c⟩ := n
  obtain ⟨k', i', j', o', nn', c'⟩ := m
  show Calls Try.prog 5 #[.agg #[.string s, .int .i64 k, .int .i64 i, .int .i64 j, .slice o nn c], .agg #[.string s', .int .i64 k', .int .i64 i', .int .i64 j', .slice o' nn' c'], .string ah] w _
  obtain ⟨W2, hW2, hbx⟩ := tree_boxes w s s' k i j k' i' j' o o' nn c nn' c'
  obtain ⟨X, hX⟩ : ∃ X, w.heap.size = X := ⟨_, rfl⟩
  rw [hX] at hbx
  have HCA : Hid (∀ u, Bx w X (X + 1) s s' ⟨k, i, j, o, nn, c⟩ ⟨k', i', j', o', nn', c'⟩ u → Calls Try.prog 13 #[.string s, .agg #[.int .i64 k, .int .i64 i, .int .i64 j, .slice o nn c]] u fun e w' => e = .returned (.int .i64 0) ∧ Bx w X (X + 1) s s' ⟨k, i, j, o, nn, c⟩ ⟨k', i', j', o', nn', c'⟩ w') := Lib.hid (fun u hu => by
    have h := check_t t u ⟨k, i, j, o, nn, c⟩ s (TieB.below ht hu.below)
    rw [hf] at h
    exact h.mono fun e w' ⟨h1, h2⟩ => ⟨h1, hu.more h2⟩)
  have HCB : Hid (∀ u, Bx w X (X + 1) s s' ⟨k, i, j, o, nn, c⟩ ⟨k', i', j', o', nn', c'⟩ u → Calls Try.prog 13 #[.string s', .agg #[.int .i64 k', .int .i64 i', .int .i64 j', .slice o' nn' c']] u fun e w' => e = .returned (.int .i64 80) ∧ Bx w X (X + 1) s s' ⟨k, i, j, o, nn, c⟩ ⟨k', i', j', o', nn', c'⟩ w') := Lib.hid (fun u hu => by
    have h := check_t t' u ⟨k', i', j', o', nn', c'⟩ s' (TieB.below ht' hu.below)
    rw [hf'] at h
    exact h.mono fun e w' ⟨h1, h2⟩ => ⟨h1, hu.more h2⟩)
  have HSN := Lib.hid HSH
  have HBX := Lib.hid hbx
  clear ht ht' hbx HSH
  go_enter Try.func5, Try.ntmps5
  go_wp2_with (first
    | (go_at_call 10; refine (HSN.out _).mono ?_; rintro e w1 ⟨rfl, hb1⟩; have H1 := Lib.hid (HBX.out.more hb1); obtain ⟨⟨x0, x1, x2, x3, x4⟩, xz⟩ := H1.out.xa.cells; obtain ⟨⟨y0, y1, y2, y3, y4⟩, yz⟩ := H1.out.xb.cells; clear hb1)
    | (go_at_call 13; (with_reducible refine (HCA.out _ H1.out).mono ?_); rintro e w2 ⟨rfl, h2⟩; clear x0 x1 x2 x3 x4 xz y0 y1 y2 y3 y4 yz; have H2 := Lib.hid h2; obtain ⟨⟨x0, x1, x2, x3, x4⟩, xz⟩ := H2.out.xa.cells; obtain ⟨⟨y0, y1, y2, y3, y4⟩, yz⟩ := H2.out.xb.cells; clear h2)
    | (go_at_call 13; (with_reducible refine (HCB.out _ H2.out).mono ?_); rintro e w3 ⟨rfl, h3⟩; clear x0 x1 x2 x3 x4 xz y0 y1 y2 y3 y4 yz; have H3 := Lib.hid h3; obtain ⟨⟨x0, x1, x2, x3, x4⟩, xz⟩ := H3.out.xa.cells; obtain ⟨⟨y0, y1, y2, y3, y4⟩, yz⟩ := H3.out.xb.cells; clear h3))
  all_goals (try go_ret)
  all_goals exact ⟨rfl, H3.out.below⟩
set_option maxRecDepth 100000 in
set_option maxHeartbeats 4000000 in
theorem once_far (HSH : ShownC) (t t' : Tree) (s s' ah : ByteArray) (w : World) (n m : Rn) (ht : Hid (TieB w t n)) (ht' : Hid (TieB w t' m)) (hf : fitT s.size t = true) (hf' : fitT s'.size t' = true) (hah : ¬ ah.size ≤ 268435456) :
    Calls Try.prog 5 #[.agg #[.string s, .int .i64 n.k, .int .i64 n.i, .int .i64 n.j, .slice n.o n.n n.c], .agg #[.string s', .int .i64 m.k, .int .i64 m.i, .int .i64 m.j, .slice m.o m.n m.c], .string ah] w fun e w' => e = .returned (.bool true) ∧ Below w.heap.size w w' := by
  obtain ⟨k, i, j, o, nn, c⟩ := n
  obtain ⟨k', i', j', o', nn', c'⟩ := m
  show Calls Try.prog 5 #[.agg #[.string s, .int .i64 k, .int .i64 i, .int .i64 j, .slice o nn c], .agg #[.string s', .int .i64 k', .int .i64 i', .int .i64 j', .slice o' nn' c'], .string ah] w _
  obtain ⟨W2, hW2, hbx⟩ := tree_boxes w s s' k i j k' i' j' o o' nn c nn' c'
  obtain ⟨X, hX⟩ : ∃ X, w.heap.size = X := ⟨_, rfl⟩
  rw [hX] at hbx
  have HCA : Hid (∀ u, Bx w X (X + 1) s s' ⟨k, i, j, o, nn, c⟩ ⟨k', i', j', o', nn', c'⟩ u → Calls Try.prog 13 #[.string s, .agg #[.int .i64 k, .int .i64 i, .int .i64 j, .slice o nn c]] u fun e w' => e = .returned (.int .i64 0) ∧ Bx w X (X + 1) s s' ⟨k, i, j, o, nn, c⟩ ⟨k', i', j', o', nn', c'⟩ w') := Lib.hid (fun u hu => by
    have h := check_t t u ⟨k, i, j, o, nn, c⟩ s (TieB.below ht hu.below)
    rw [hf] at h
    exact h.mono fun e w' ⟨h1, h2⟩ => ⟨h1, hu.more h2⟩)
  have HCB : Hid (∀ u, Bx w X (X + 1) s s' ⟨k, i, j, o, nn, c⟩ ⟨k', i', j', o', nn', c'⟩ u → Calls Try.prog 13 #[.string s', .agg #[.int .i64 k', .int .i64 i', .int .i64 j', .slice o' nn' c']] u fun e w' => e = .returned (.int .i64 0) ∧ Bx w X (X + 1) s s' ⟨k, i, j, o, nn, c⟩ ⟨k', i', j', o', nn', c'⟩ w') := Lib.hid (fun u hu => by
    have h := check_t t' u ⟨k', i', j', o', nn', c'⟩ s' (TieB.below ht' hu.below)
    rw [hf'] at h
    exact h.mono fun e w' ⟨h1, h2⟩ => ⟨h1, hu.more h2⟩)
  have hgt : decide (268435456 < (ah.size : Int)) = true := decide_eq_true (by omega)
  clear hah
  have HSN := Lib.hid HSH
  have HBX := Lib.hid hbx
  clear ht ht' hbx HSH
  go_enter Try.func5, Try.ntmps5
  go_wp2_with (first
    | (go_at_call 10; refine (HSN.out _).mono ?_; rintro e w1 ⟨rfl, hb1⟩; have H1 := Lib.hid (HBX.out.more hb1); obtain ⟨⟨x0, x1, x2, x3, x4⟩, xz⟩ := H1.out.xa.cells; obtain ⟨⟨y0, y1, y2, y3, y4⟩, yz⟩ := H1.out.xb.cells; clear hb1)
    | (go_at_call 13; (with_reducible refine (HCA.out _ H1.out).mono ?_); rintro e w2 ⟨rfl, h2⟩; clear x0 x1 x2 x3 x4 xz y0 y1 y2 y3 y4 yz; have H2 := Lib.hid h2; obtain ⟨⟨x0, x1, x2, x3, x4⟩, xz⟩ := H2.out.xa.cells; obtain ⟨⟨y0, y1, y2, y3, y4⟩, yz⟩ := H2.out.xb.cells; clear h2)
    | (go_at_call 13; (with_reducible refine (HCB.out _ H2.out).mono ?_); rintro e w3 ⟨rfl, h3⟩; clear x0 x1 x2 x3 x4 xz y0 y1 y2 y3 y4 yz; have H3 := Lib.hid h3; obtain ⟨⟨x0, x1, x2, x3, x4⟩, xz⟩ := H3.out.xa.cells; obtain ⟨⟨y0, y1, y2, y3, y4⟩, yz⟩ := H3.out.xb.cells; clear h3))
  all_goals (try go_ret)
  all_goals exact ⟨rfl, H3.out.below⟩
theorem once_law {Pl : World → Nat → (Nat → Prop) → List Gr → Prop} (HPL : PoolC Pl) (HSH : ShownC) (t t' : Tree) (s s' ah : ByteArray) (w : World) (n m : Rn) (ht : Hid (TieB w t n)) (ht' : Hid (TieB w t' m)) (hin : InR t) (hin' : InR t') (hs : s.size + bulkT t + (s'.size + bulkT t') ≤ 1048576) :
    Calls Try.prog 5 #[.agg #[.string s, .int .i64 n.k, .int .i64 n.i, .int .i64 n.j, .slice n.o n.n n.c], .agg #[.string s', .int .i64 m.k, .int .i64 m.i, .int .i64 m.j, .slice m.o m.n m.c], .string ah] w fun e w' => e = .returned (.bool true) ∧ Below w.heap.size w w' := by
  cases hf : fitT s.size t with
  | false => exact once_bad1 HSH t t' s s' ah w n m ht ht' hf
  | true =>
    cases hf' : fitT s'.size t' with
    | false => exact once_bad2 HSH t t' s s' ah w n m ht ht' hf hf'
    | true =>
      by_cases hah : ah.size ≤ 268435456
      · exact once_good HPL HSH t t' s s' ah w n m ht ht' hin hin' hs hah hf hf'
      · exact once_far HSH t t' s s' ah w n m ht ht' hf hf' hah
end Go.Proofs.Ytmnnjmjdggjlmaa.rd
