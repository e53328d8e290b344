/-
  Layer 4: the regions of a list, as the document says; chunk.regions, its closure.
-/
import Derived.Test.YtlemecnmjhhbiaaCc
import Derived.Test.YtlemecnmjhhbiaaCd
import Derived.RangeFuncNested
import Derived.RangeFuncBound
import Derived.RangeFuncCalls
import Derived.RangeFuncLeaves
import Derived.RangeFuncBox
import Derived.Shelf.Abstract
import Derived.Shelf.RegionOpen
import Derived.OwnWalkIn
import Derived.TacticsInMore
import Derived.LoopNIn
import Derived.LoopIn
namespace Go.Proofs.Ytlemecnmjhhbiaa.ck
open Go.RowKit Go.Shelf

/-- The regions of what is left, in a region that began at 'fr', so deep, with a significant token or not. -/
def rcut (fr at' d : Nat) (s : Bool) : List Tk → List Sn
  | [] => if s then [⟨fr, at'⟩] else []
  | t :: r => if semi t.k && d == 0 then ⟨fr, (at' + 1 : Nat)⟩ :: rcut (at' + 1) (at' + 1) 0 false r else rcut fr (at' + 1) (deep d t.k) (s || !triv t.k) r
def regs (T : List Tk) : List Sn := rcut 0 0 0 false T

theorem weigh_cons (t : Tk) (r : List Tk) : weigh (t :: r) = (!triv t.k || weigh r) := by
  unfold weigh
  rw [fst]
  cases h : triv t.k <;> simp
theorem triv_semi {z : Int} (h : semi z = true) : triv z = false := by
  simp only [semi, triv, decide_eq_true_eq, decide_eq_false_iff_not] at *
  omega
theorem wid_le (T : List Tk) : ∀ d, wid d T ≤ T.length := by
  induction T with
  | nil => intro d; simp [wid]
  | cons t r ih =>
    intro d
    rw [wid, List.length_cons]
    split
    · omega
    · have := ih (deep d t.k); omega
theorem wid_pos (d : Nat) {T : List Tk} (h : T ≠ []) : 0 < wid d T := by
  cases T with
  | nil => exact absurd rfl h
  | cons t r =>
    rw [wid]
    split <;> omega
theorem rcut_step (T : List Tk) : ∀ fr at' d s, rcut fr at' d s T = if s || weigh (T.take (wid d T)) then ⟨fr, (at' + wid d T : Nat)⟩ :: rcut (at' + wid d T) (at' + wid d T) 0 false (T.drop (wid d T)) else [] := by
  induction T with
  | nil => intro fr at' d s; cases s <;> simp [rcut, wid, weigh, fst]
  | cons t r ih =>
    intro fr at' d s
    rw [rcut, wid]
    by_cases h : (semi t.k && d == 0) = true
    · rw [if_pos h, if_pos h]
      have hs : semi t.k = true := by rw [Bool.and_eq_true] at h; exact h.1
      rw [List.take_succ_cons, weigh_cons, triv_semi hs]
      simp
    · rw [if_neg h, if_neg h, ih, Nat.add_comm 1, List.take_succ_cons, weigh_cons, List.drop_succ_cons, Bool.or_assoc, show at' + 1 + wid (deep d t.k) r = at' + (wid (deep d t.k) r + 1) by omega]
theorem regs_len (T : List Tk) : ∀ fr at' d s, (rcut fr at' d s T).length ≤ T.length + (if s then 1 else 0) := by
  induction T with
  | nil => intro fr at' d s; cases s <;> simp [rcut]
  | cons t r ih =>
    intro fr at' d s
    rw [rcut]
    split
    · have := ih (at' + 1) (at' + 1) 0 false
      simp at this ⊢
      omega
    · have := ih fr (at' + 1) (deep d t.k) (s || !triv t.k)
      refine Nat.le_trans this ?_
      rw [List.length_cons]
      split <;> split <;> omega
theorem regs_le (T : List Tk) : (regs T).length ≤ T.length := by
  have := regs_len T 0 0 0 false
  simp only [Bool.false_eq_true, if_false, Nat.add_zero] at this
  exact this
def enc2 (x : Sn) : Array Value := #[.agg #[.int .i64 x.a, .int .i64 x.b]]

set_option maxRecDepth 100000 in
set_option maxHeartbeats 1000000 in
theorem regions_any (v : Value) (w : World) (h1 : ∃ o n c, v = .slice o n c) :
    Calls Try.prog 20 #[v] w fun e w' => e = .returned (.func (.func 25) #[] #[.pointer (some ⟨w.heap.size, 0, none⟩)]) ∧ w' = w.alloc (.cells #[v] 22) := by
  obtain ⟨o, n, c, rfl⟩ := h1
  go_enter Try.func20, Try.ntmps20
  go_wp2_with fail
  go_ret
  exact ⟨rfl, rfl⟩

/-- What a round keeps: what lay below a number, and the closure's own box. -/
def Kp (n₀ Bs : Nat) (W W' : World) : Prop := Below n₀ W W' ∧ W'.heap[Bs]? = W.heap[Bs]?
theorem kp_t {n₀ Bs : Nat} {A B C : World} (h : Kp n₀ Bs A B) (k : Kp n₀ Bs B C) : Kp n₀ Bs A C := ⟨h.1.trans k.1, k.2.trans h.2⟩
attribute [local go_sem] Oper.semAt_some
set_option maxRecDepth 100000 in
set_option maxHeartbeats 4000000 in
/-- The closure: for every loop body that keeps what lay below n₀. -/
theorem regions1_in (n : Nat) (hn1 : 1 ≤ n) (l Bs n₀ : Nat) (v : Value) (T : List Tk) (hlen : T.length ≤ 140737488355328) (J Jx : List Sn → World → Prop) (W : World)
    (hJ : AbidesFrom W.heap.size J)
    (hY : ∀ pre x W, J pre W → pre.length < (regs T).length → YieldAt Fence.wide (n - 1) Try.prog l (enc2 x) W fun e W' =>
      (e = .returned (.bool true) ∧ J (pre ++ [x]) W' ∧ Kp n₀ Bs W W') ∨ (e = .returned (.bool false) ∧ Jx (pre ++ [x]) W'))
    (hB : Bs < W.heap.size) (hn0 : n₀ ≤ W.heap.size) (hBs : W.cell? ⟨Bs, 0, none⟩ = some v) (hr : ∀ W', Below n₀ W W' → Row tk W' v T) (h0 : J [] W) :
    CallsIn Fence.wide n Try.prog 25 #[.func (.yield l) #[] #[], .pointer (some ⟨Bs, 0, none⟩)] W fun e W' => (∃ v, e = .returned v) ∧
      ((∃ ys, ys = regs T ∧ J ys W') ∨ (∃ pre, pre <+: regs T ∧ Jx pre W')) := by
  obtain ⟨o, cap, hv⟩ := (hr W (Below.refl _ _)).len
  have HR := Lib.hid hr
  have HY := Lib.hid hY
  obtain ⟨len, hle⟩ : ∃ len, T.length = len := ⟨_, rfl⟩
  rw [hle] at hlen hv
  subst hv
  have HN := Lib.hid hle
  clear hr hY hle
  refine callsIn_of_wp Try.func25 rfl trivial ?_ rfl
  simp only [Try.ntmps25, List.size_toArray, List.length_cons, List.length_nil, Nat.reduceAdd, Nat.reduceSub, Array.replicate_succ, Array.replicate_zero, List.push_toArray, List.append_toArray, List.nil_append, List.cons_append]
  gi_wp2
  gi_loopw [3] (fun p wr => ∃ (k : Nat) (pre : List Sn), k ≤ len ∧ p = .int .i64 k ∧ pre ++ rcut k k 0 false (T.drop k) = regs T ∧ J pre wr ∧ Kp n₀ Bs W wr) (fun p _ => len - (intOf p).toNat)
  case atStart => exact ⟨0, [], Nat.zero_le _, rfl, rfl, h0, Below.refl _ _, rfl⟩
  case round =>
    obtain ⟨k, pre, hk, rfl, hpre, hJs, hb⟩ := hrel
    have hc : wr.cell? ⟨Bs, 0, none⟩ = some (.slice o len cap) := (World.cell?_of_block (a := ⟨Bs, 0, none⟩) hb.2).trans hBs
    have HB := Lib.hid hb
    have HP := Lib.hid hpre
    have hsz := hb.1.size
    clear hb hpre
    by_cases hlt : k < len
    · have hltT : k < T.length := by rw [HN.out]; exact hlt
      have hd : decide ((k : Int) < (len : Int)) = true := decide_eq_true (by omega)
      have hrow := HR.out wr HB.out.1
      obtain ⟨v1, hs1, hr1⟩ := hrow.from k (by rw [HN.out]; omega)
      have hw := width_any v1 (T.drop k) wr hr1 (by rw [List.length_drop, HN.out]; omega)
      have hwp : 0 < wid 0 (T.drop k) := wid_pos 0 (by intro h; have := congrArg List.length h; rw [List.length_drop, HN.out] at this; simp at this; omega)
      have hwl : k + wid 0 (T.drop k) ≤ len := by have := wid_le (T.drop k) 0; rw [List.length_drop, HN.out] at this; omega
      have hstep := rcut_step (T.drop k) k k 0 false
      rw [Bool.false_or, List.drop_drop] at hstep
      rw [hstep] at HP
      generalize wid 0 (T.drop k) = m at *
      obtain ⟨v2, hs2, hr2⟩ := hrow.mid k (k + m) (by omega) (by rw [HN.out]; omega)
      rw [show k + m - k = m by omega] at hr2
      have hf := first_any v2 ((T.drop k).take m) wr hr2 (by rw [List.length_take, List.length_drop, HN.out]; omega)
      have e2 : ((k + m : Nat) : Int) = (k : Int) + (m : Int) := by omega
      rw [e2] at hs2
      have HW := Lib.hid hw
      have HF := Lib.hid hf
      have hs1 : ∀ u, (Instr.slice 22 (.slice o len cap) (some (.int .i64 (k : Int))) none none).run Try.prog u = .ok v1 u := hs1
      have hs2 : ∀ u, (Instr.slice 22 (.slice o len cap) (some (.int .i64 (k : Int))) (some (.int .i64 ((k : Int) + (m : Int)))) none).run Try.prog u = .ok v2 u := hs2
      clear hw hf hstep hr1 hr2 hrow hltT e2
      cases hwg : (fst ((T.drop k).take m)).2 with
      | false =>
        rw [show weigh ((T.drop k).take m) = false from hwg, if_neg (by simp), List.append_nil] at HP
        rw [hwg] at HF
        clear hwg
        gi_wp2_with (refine ⟨trivial, ?_⟩; first | (gi_at_call 26; refine (callsIn_wide.2 HW.out).mono ?_; rintro e w' ⟨rfl, rfl⟩) | (gi_at_call 23; refine (callsIn_wide.2 HF.out).mono ?_; rintro e w2 ⟨rfl, hg⟩; have hJ2 := hJ _ _ _ _ hJs hg (fun r e => by cases e); clear hg))
        refine ⟨fun _ h => (by cases h), ?_⟩
        gi_wp2_with fail
        refine bodyPost_ret (results_none rfl _ _ _) rfl ?_
        exact ⟨⟨_, rfl⟩, .inl ⟨pre, HP.out, hJ2⟩⟩
      | true =>
        rw [show weigh ((T.drop k).take m) = true from hwg, if_pos rfl] at HP
        rw [hwg] at HF
        clear hwg
        gi_wp2_with (refine ⟨trivial, ?_⟩; first | (gi_at_call 26; refine (callsIn_wide.2 HW.out).mono ?_; rintro e w' ⟨rfl, rfl⟩) | (gi_at_call 23; refine (callsIn_wide.2 HF.out).mono ?_; rintro e w2 ⟨rfl, hg⟩; have hJ2 := hJ _ _ _ _ hJs hg (fun r e => by cases e); have HG := Lib.hid hg; obtain ⟨fn, tmps, assign, body, hy, hR⟩ := HY.out pre ⟨(k : Int), (k : Int) + (m : Int)⟩ w2 hJ2 (by rw [← HP.out]; simp); dsimp only [enc2] at hy; clear hg))
        refine hR.mono ?_
        rintro e W3 (⟨rfl, hJ3, hk3⟩ | ⟨rfl, hJx3⟩)
        · gi_wp2_with fail
          go_roundw
          case rel => exact ⟨k + m, pre ++ [⟨(k : Int), (k : Int) + (m : Int)⟩], by omega, by go_num, by rw [← HP.out]; simp, hJ3, kp_t ⟨HB.out.1.grown HG.out (by omega) (fun r e => by cases e), (HG.out.block Bs (by omega) (fun e => by cases e)).trans HB.out.2⟩ hk3⟩
          case measure => simp [intOf]; omega
        · gi_wp2_with fail
          refine bodyPost_ret (results_none rfl _ _ _) rfl ?_
          exact ⟨⟨_, rfl⟩, .inr ⟨pre ++ [⟨(k : Int), (k : Int) + (m : Int)⟩], ⟨_, by rw [List.append_assoc]; exact HP.out⟩, hJx3⟩⟩
    · have hd : decide ((k : Int) < (len : Int)) = false := decide_eq_false (by omega)
      have hD : T.drop k = [] := List.drop_of_length_le (by rw [HN.out]; omega)
      rw [hD, rcut, if_neg (by simp), List.append_nil] at HP
      gi_wp2_with fail
      go_end0
      exact ⟨⟨_, rfl⟩, .inl ⟨pre, HP.out, hJs⟩⟩
/-- The closure keeps to the contract of an iterator that reads memory. -/
theorem regions_stops (n : Nat) (hn1 : 1 ≤ n) (Bs n₀ : Nat) (v : Value) (T : List Tk) (hlen : T.length ≤ 140737488355328) (w : World) (hB : Bs < w.heap.size) (hn0 : n₀ ≤ w.heap.size) (hBs : w.cell? ⟨Bs, 0, none⟩ = some v) (hr : ∀ W', Below n₀ w W' → Row tk W' v T) :
    SeqStopsK Fence.wide n Try.prog 25 #[.pointer (some ⟨Bs, 0, none⟩)] enc2 (Kp n₀ Bs) (fun ys => ys = regs T) (fun pre => pre <+: regs T) (regs T).length w := fun l J Jx W hW hJ _ hY h0 =>
  regions1_in n hn1 l Bs n₀ v T hlen J Jx W hJ hY (Nat.lt_of_lt_of_le hB hW.size) (Nat.le_trans hn0 hW.size) ((hW.cell (p := ⟨Bs, 0, none⟩) hB).trans hBs) (fun W' hb => hr W' ((hW.mono hn0).trans hb)) h0
end Go.Proofs.Ytlemecnmjhhbiaa.ck
