/-
  The contracts of the closure, doSlow, Do and begins.
-/
import Derived.Test.YteocdcknfhlfgaaOnce
import Derived.Laws.NewBlocks
namespace Go.Proofs.Yteocdcknfhlfgaa.buf
open Go.RowKit

/-- The closure: what the captured variable's buffer has for pieces is gone through, and where its lines begin is laid. -/
def Laid (B g : Nat) (pv : Value) (n : Int) (d s : Int) (T : List UInt8) (w w' : World) : Prop :=
  ∃ v, Six w' g pv (.int .i64 n) (.int .u32 d) (.int .i32 s) (.int .u32 0) v ∧ Ints w' 0 v (begins T) ∧ Save B g w w'

set_option maxRecDepth 100000 in
set_option maxHeartbeats 1600000 in
theorem closure_any (g q : Nat) (pv p0 : Value) (ps : List ByteArray) (n d s : Int) (w : World) (hq : w.cell? ⟨q, 0, none⟩ = some (.pointer (some ⟨g, 0, none⟩)))
    (h6 : Six w g pv (.int .i64 n) (.int .u32 d) (.int .i32 s) (.int .u32 0) p0) (hps : Strs w 0 pv ps) (hp : ps.length ≤ 64) (ht : (textOf ps).length ≤ 16384) :
    Calls Try.prog 44 #[.pointer (some ⟨q, 0, none⟩)] w fun e w' => e = .returned (.tuple #[]) ∧ Laid w.heap.size g pv n d s (textOf ps) w w' := by
  obtain ⟨oa, cap, rfl⟩ := hps.slice
  have c0 := h6.cells.1
  have hz := h6.lt
  have hqz : q < w.heap.size := World.block_lt_of_cell? _ _ hq
  have H6 := Lib.hid h6
  have HP := Lib.hid hps
  have fE : ∀ W : World, Below w.heap.size w W → Calls Try.prog 45 #[.slice oa ps.length cap] W fun e w' => ∃ oa' cap', e = .returned (.slice oa' (begins (textOf ps)).length cap') ∧ Ints w' 0 (.slice oa' (begins (textOf ps)).length cap') (begins (textOf ps)) ∧ Below w.heap.size w w' ∧ w'.cell? ⟨g, 5, none⟩ = some p0 ∧ w'.frozen? ⟨g, 5, none⟩ = false ∧ w'.cell? ⟨q, 0, none⟩ = some (.pointer (some ⟨g, 0, none⟩)) := fun W hW => by
    refine (find_row _ ps W (row_below HP.out hW) (by omega) (by omega)).mono ?_
    rintro e w' ⟨v, he, hi, hb⟩
    have hWw := hW.trans (hb.mono hW.size)
    have hs6 : Six w' g _ _ _ _ _ _ := (hWw.block g hz).trans H6.out
    have hsh : ∃ oa' cap', v = .slice oa' (begins (textOf ps)).length cap' := by
      rcases hi.2 with ⟨a, b⟩ | ⟨k, cap, cur, a, _⟩
      · exact ⟨none, 0, by rw [a, b]⟩
      · exact ⟨_, cap, a⟩
    obtain ⟨oa', cap', rfl⟩ := hsh
    exact ⟨oa', cap', he, own_base hi (Nat.zero_le _), hWw, hs6.cells.2.2.2.2.2, hs6.free.2.2.2.2.2, (hWw.cell (p := ⟨q, 0, none⟩) hqz).trans hq⟩
  have FE := Lib.hid fE
  clear h6 hps fE
  go_enter Try.func44, Try.ntmps44
  go_wp2_with fail
  go_region_with (go_at_call 45; refine (FE.out _ ?_).mono ?_; exact (Below.refl _ _).drew; rintro e w3 ⟨oa', cap', rfl, r1, r2, r3, r4, r5⟩)
  all_goals
    have R1 := Lib.hid r1
    have R2 := Lib.hid r2
    go_wp2_with fail
    go_end0
  all_goals
    have hs6 : Six w3 g _ _ _ _ _ _ := (R2.out.block g hz).trans H6.out
    exact ⟨rfl, _, hs6.set5 _, ownsRow_setCell R1.out (row_ne R1.out hs6 (by decide)) _ _, (Save.of R2.out).setCell 5 _⟩

set_option maxRecDepth 100000 in
set_option maxHeartbeats 1600000 in
theorem slow_any (g q : Nat) (pv p0 : Value) (ps : List ByteArray) (n : Int) (w : World) (hq : w.cell? ⟨q, 0, none⟩ = some (.pointer (some ⟨g, 0, none⟩))) (hqg : q ≠ g)
    (h6 : Six w g pv (.int .i64 n) (.int .u32 0) (.int .i32 0) (.int .u32 0) p0) (hps : Strs w 0 pv ps) (hp : ps.length ≤ 64) (ht : (textOf ps).length ≤ 16384) :
    Calls Try.prog 51 #[.pointer (some ⟨g, 2, none⟩), .func (.func 44) #[] #[.pointer (some ⟨q, 0, none⟩)]] w fun e w' => e = .returned (.tuple #[]) ∧ Laid w.heap.size g pv n 1 0 (textOf ps) w w' := by
  have hne : pv.ownBlock ≠ some g := row_ne hps h6 (by decide)
  have h61 : Six (w.setCell ⟨g, 3, none⟩ (.int .i32 1)) g pv (.int .i64 n) (.int .u32 0) (.int .i32 1) (.int .u32 0) p0 := h6.set3 _
  have hps1 : Strs (w.setCell ⟨g, 3, none⟩ (.int .i32 1)) 0 pv ps := ownsRow_setCell hps hne _ _
  have hq1 : (w.setCell ⟨g, 3, none⟩ (.int .i32 1)).cell? ⟨q, 0, none⟩ = some (.pointer (some ⟨g, 0, none⟩)) := (World.cell?_setCell_other _ ⟨g, 3, none⟩ ⟨q, 0, none⟩ _ (fun h => hqg (congrArg Addr.block h).symm)).trans hq
  have hl := run_call_load (P := Try.prog) Try.func55 (by kernel_rfl) (by kernel_rfl) (by kernel_rfl) .u32 (by kernel_rfl) (w := w.setCell ⟨g, 3, none⟩ (.int .i32 1)) (a := ⟨g, 2, none⟩) (x := 0) h61.cells.2.2.1
  have hnot : ∀ (x : Bool) (w : World), (Op.unary .not (.bool x)).run Try.prog w = .ok (.bool (!x)) w := fun _ _ => rfl
  have s3 := h6.cells.2.2.2.1
  have f3 := h6.free.2.2.2.1
  have H61 := Lib.hid h61
  have HS1 := Lib.hid hps1
  have HQ1 := Lib.hid hq1
  clear h6 hps h61 hps1 hq1 hq
  go_enter_defers Try.func51, Try.ntmps51
  go_wp2_with (first | (go_at_call 56; refine (lock_free ⟨g, 3, none⟩ _ s3 f3).mono ?_; rintro e w' ⟨rfl, rfl⟩) | (go_at_call 50; go_in))
  refine (closure_any g q pv p0 ps n 0 1 _ HQ1.out H61.out HS1.out hp ht).mono ?_
  rintro e w3 ⟨rfl, v, k6, ki, ks⟩
  have K6 := Lib.hid k6
  have KI := Lib.hid ki
  have KS := Lib.hid ks
  clear k6 ki ks
  go_wp2_with fail
  refine leaves_cons (f := 58) (args := #[.pointer (some ⟨g, 2, none⟩), .bool true]) (by simp) (by simp [go_sem]) ?_
  refine (done_deferred ⟨g, 2, none⟩ (.int .u32 0) .returning _ K6.out.cells.2.2.1 K6.out.free.2.2.1).mono ?_
  rintro e u' w'' ⟨rfl, rfl, rfl⟩
  have m6 : Six (w3.drew.setCell ⟨g, 2, none⟩ (.int .u32 1)) g pv (.int .i64 n) (.int .u32 1) (.int .i32 1) (.int .u32 0) v := Six.set2 (w := w3.drew) K6.out _
  refine leaves_cons (f := 57) (args := #[.pointer (some ⟨g, 3, none⟩)]) (by simp [settle]) (by simp [go_sem]) ?_
  refine (unlock_deferred ⟨g, 3, none⟩ _ _ m6.cells.2.2.2.1 m6.free.2.2.2.1).mono ?_
  rintro e u' w'' ⟨rfl, rfl, rfl⟩
  have hni : v.ownBlock ≠ some g := row_ne KI.out K6.out (by decide)
  have R : Laid w.heap.size g pv n 1 0 (textOf ps) w ((w3.drew.setCell ⟨g, 2, none⟩ (.int .u32 1)).setCell ⟨g, 3, none⟩ (.int .i32 0)) :=
    ⟨v, m6.set3 _, ownsRow_setCell (ownsRow_setCell (w := w3.drew) KI.out hni _ _) hni _ _, ((((((Save.refl w.heap.size g w).setCell 3 _).trans (KS.out.mono (by simp))).drewN 1).setCell 2 _).setCell 3 _)⟩
  have HR := Lib.hid R
  clear R
  simp [Leaves, settle, results, Try.results51]
  exact HR.out

set_option maxRecDepth 100000 in
set_option maxHeartbeats 1600000 in
theorem do_first (g q : Nat) (pv p0 : Value) (ps : List ByteArray) (n : Int) (w : World) (hq : w.cell? ⟨q, 0, none⟩ = some (.pointer (some ⟨g, 0, none⟩))) (hqg : q ≠ g)
    (h6 : Six w g pv (.int .i64 n) (.int .u32 0) (.int .i32 0) (.int .u32 0) p0) (hps : Strs w 0 pv ps) (hp : ps.length ≤ 64) (ht : (textOf ps).length ≤ 16384) :
    Calls Try.prog 43 #[.pointer (some ⟨g, 2, none⟩), .func (.func 44) #[] #[.pointer (some ⟨q, 0, none⟩)]] w fun e w' => e = .returned (.tuple #[]) ∧ Laid w.heap.size g pv n 1 0 (textOf ps) w w' := by
  have hl := run_call_load (P := Try.prog) Try.func55 (by kernel_rfl) (by kernel_rfl) (by kernel_rfl) .u32 (by kernel_rfl) (w := w) (a := ⟨g, 2, none⟩) (x := 0) h6.cells.2.2.1
  have hnot : ∀ (x : Bool) (w : World), (Op.unary .not (.bool x)).run Try.prog w = .ok (.bool (!x)) w := fun _ _ => rfl
  have H6 := Lib.hid h6
  have HP := Lib.hid hps
  have HQ := Lib.hid hq
  clear h6 hps hq
  go_enter Try.func43, Try.ntmps43
  go_wp2_with (first | (go_at_call 51; refine (slow_any g q pv p0 ps n _ HQ.out hqg H6.out HP.out hp ht).mono ?_; rintro e w' ⟨rfl, r⟩) | (go_at_call 50; go_in))
  go_end0
  exact ⟨rfl, r⟩

set_option maxRecDepth 100000 in
set_option maxHeartbeats 1600000 in
theorem do_done (g : Nat) (fv : Value) (w : World) (h0 : w.cell? ⟨g, 2, none⟩ = some (.int .u32 1)) :
    Calls Try.prog 43 #[.pointer (some ⟨g, 2, none⟩), fv] w fun e w' => e = .returned (.tuple #[]) ∧ w = w' := by
  have hl := run_call_load (P := Try.prog) Try.func55 (by kernel_rfl) (by kernel_rfl) (by kernel_rfl) .u32 (by kernel_rfl) (w := w) (a := ⟨g, 2, none⟩) (x := 1) h0
  have hnot : ∀ (x : Bool) (w : World), (Op.unary .not (.bool x)).run Try.prog w = .ok (.bool (!x)) w := fun _ _ => rfl
  clear h0
  go_enter Try.func43, Try.ntmps43
  go_wp2_with (go_at_call 50; go_in)
  go_end0
  exact ⟨rfl, rfl⟩

/-- What begins leaves: the buffer's text is as it was, and its lines are known and handed back. -/
def Begun (g : Nat) (T : List UInt8) (w : World) (e : Ending) (w' : World) : Prop :=
  ∃ v, e = .returned v ∧ Ints w' 0 v (begins T) ∧ BufAt w' g T ∧ Save w.heap.size g w w'

set_option maxRecDepth 100000 in
set_option maxHeartbeats 1600000 in
theorem begins_any (g : Nat) (T : List UInt8) (w : World) (h : BufAt w g T) :
    Calls Try.prog 29 #[.pointer (some ⟨g, 0, none⟩)] w (Begun g T w) := by
  have hgz := h.lt
  have H := Lib.hid h
  have hmf : ∀ (fn : Fn) (first cap : Array Value) (w : World), (Instr.makeFunc fn first cap).run Try.prog w = .ok (.func fn first cap) w := fun _ _ _ _ => rfl
  obtain ⟨pv, ps, d, p, h6, hv, hl, ht, hT, hk⟩ := h
  have hbx : Below w.heap.size w (w.alloc (.cells #[.pointer (some ⟨g, 0, none⟩)] 22)) := (Below.refl _ _).alloc (Nat.le_refl _) _
  have k6 : Six (w.alloc (.cells #[.pointer (some ⟨g, 0, none⟩)] 22)) g _ _ _ _ _ _ := (hbx.block g hgz).trans h6
  have kv : Strs (w.alloc (.cells #[.pointer (some ⟨g, 0, none⟩)] 22)) 0 pv ps := row_below hv hbx
  have kq : (w.alloc (.cells #[.pointer (some ⟨g, 0, none⟩)] 22)).cell? ⟨w.heap.size, 0, none⟩ = some (.pointer (some ⟨g, 0, none⟩)) := by simp
  have hqg : w.heap.size ≠ g := by omega
  have HBX := Lib.hid hbx
  have K6 := Lib.hid k6
  have KV := Lib.hid kv
  have KQ := Lib.hid kq
  have HT := Lib.hid ht
  rcases hk with ⟨rfl, rfl⟩ | ⟨rfl, hk⟩
  · clear h6 hv ht hbx k6 kv kq
    go_enter Try.func29, Try.ntmps29
    go_wp2_with fail
    refine (do_first g w.heap.size pv _ ps _ _ KQ.out hqg K6.out KV.out hl (by rw [HT.out]; exact hT)).mono ?_
    rintro e w3 ⟨rfl, v, r6, ri, rs⟩
    rw [HT.out] at ri
    have hsh : ∃ oa' cap', v = .slice oa' (begins T).length cap' := by
      rcases ri.2 with ⟨a, b⟩ | ⟨k, cap, cur, a, _⟩
      · exact ⟨none, 0, by rw [a, b]⟩
      · exact ⟨_, cap, a⟩
    obtain ⟨oa', cap', rfl⟩ := hsh
    have q3 : w3.cell? ⟨w.heap.size, 0, none⟩ = some (.pointer (some ⟨g, 0, none⟩)) := (World.cell?_of_block (w := w.alloc (.cells #[.pointer (some ⟨g, 0, none⟩)] 22)) (rs.block w.heap.size (by simp) hqg)).trans KQ.out
    have c5 := r6.cells.2.2.2.2.2
    have R6 := Lib.hid r6
    have RI := Lib.hid ri
    have RS := Lib.hid rs
    have KV3 := Lib.hid (show Strs w3 0 pv ps from row_kept KV.out rs.block (row_ne KV.out K6.out (by decide)))
    clear r6 ri rs
    go_wp2_with fail
    go_ret
    exact ⟨_, rfl, RI.out, ⟨pv, ps, 1, _, R6.out, KV3.out, hl, HT.out, hT, .inr ⟨rfl, RI.out⟩⟩, (Save.of HBX.out).trans (RS.out.mono (by simp))⟩
  · have hsh : ∃ oa' cap', p = .slice oa' (begins T).length cap' := by
      rcases hk.2 with ⟨a, b⟩ | ⟨k, cap, cur, a, _⟩
      · exact ⟨none, 0, by rw [a, b]⟩
      · exact ⟨_, cap, a⟩
    obtain ⟨oa', cap', rfl⟩ := hsh
    have HK := Lib.hid hk
    have c2 := k6.cells.2.2.1
    have c5 := k6.cells.2.2.2.2.2
    clear h6 hv ht hbx k6 kv hk
    go_enter Try.func29, Try.ntmps29
    go_wp2_with fail
    refine (do_done g _ _ c2).mono ?_
    rintro e w3 ⟨rfl, rfl⟩
    go_wp2_with fail
    go_ret
    exact ⟨_, rfl, row_below HK.out HBX.out, H.out.below HBX.out, Save.of HBX.out⟩
end Go.Proofs.Yteocdcknfhlfgaa.buf
