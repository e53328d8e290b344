/-
  Layer 8: the program's pool: numbers unpacked.
-/
import Derived.Test.YtnnffcfdokejbaaTg
namespace Go.Proofs.Ytnnffcfdokejbaa.rd
open Go.RowKit

/-- Numbers of which so many bytes are read. -/
def upL (i : Nat) : Nat → List Int → List Int
  | _, [] => []
  | q, x :: l => x % 256 ^ (i - 4 * q) :: upL i (q + 1) l
theorem upL_len (i : Nat) : ∀ (l : List Int) (q : Nat), (upL i q l).length = l.length
  | [], _ => rfl
  | x :: l, q => by show (upL i (q + 1) l).length + 1 = l.length + 1; rw [upL_len i l]
theorem upL_get (i : Nat) : ∀ (l : List Int) (q n : Nat) (h : n < l.length), (upL i q l)[n]'(by rw [upL_len]; exact h) = l[n] % 256 ^ (i - 4 * (q + n))
  | [], _, _, h => by simp at h
  | x :: l, q, 0, _ => rfl
  | x :: l, q, n + 1, h => by
    show (upL i (q + 1) l)[n]'_ = l[n]'_ % 256 ^ (i - 4 * (q + (n + 1)))
    rw [upL_get i l (q + 1) n (by simpa using h), show q + 1 + n = q + (n + 1) by omega]
def Small (l : List Int) : Prop := ∀ x ∈ l, 0 ≤ x ∧ x < 4294967296
theorem mod_all {x : Int} (h : 0 ≤ x ∧ x < 4294967296) {m : Nat} (hm : 4 ≤ m) : x % 256 ^ m = x := by
  refine Int.emod_eq_of_lt h.1 (Int.lt_of_lt_of_le h.2 ?_)
  have : (256 : Int) ^ 4 ≤ 256 ^ m := by
    have h2 : ((256 ^ 4 : Nat) : Int) ≤ ((256 ^ m : Nat) : Int) := Int.ofNat_le.2 (Nat.pow_le_pow_right (by decide) hm)
    rw [Int.natCast_pow, Int.natCast_pow] at h2
    exact h2
  exact Int.le_trans (by decide) this
theorem upL_zero (l : List Int) : upL 0 0 l = List.replicate l.length 0 := by
  apply List.ext_getElem
  · rw [upL_len, List.length_replicate]
  · intro n h1 h2
    rw [upL_get 0 l 0 n (by rw [upL_len] at h1; exact h1), List.getElem_replicate]
    simp [Int.emod_one]
theorem upL_all {l : List Int} (h : Small l) {i : Nat} (hi : 4 * l.length ≤ i) : upL i 0 l = l := by
  apply List.ext_getElem
  · rw [upL_len]
  · intro n h1 h2
    rw [upL_get i l 0 n h2]
    exact mod_all (h _ (List.getElem_mem h2)) (by omega)
theorem upL_step {l : List Int} (h : Small l) {q m : Nat} (hq : q < l.length) (hm : m < 4) : upL (4 * q + m + 1) 0 l = (upL (4 * q + m) 0 l).set q (l[q] % 256 ^ (m + 1)) := by
  apply List.ext_getElem
  · rw [List.length_set, upL_len, upL_len]
  · intro n h1 h2
    have hn : n < l.length := by rw [upL_len] at h1; exact h1
    rw [upL_get _ l 0 n hn, List.getElem_set]
    split
    · rename_i e
      subst e
      rw [show 4 * q + m + 1 - 4 * (0 + q) = m + 1 by omega]
    · rename_i e
      rw [upL_get _ l 0 n hn]
      rcases Nat.lt_or_gt_of_ne e with h3 | h3
      · rw [show 4 * q + m + 1 - 4 * (0 + n) = 0 by omega, show 4 * q + m - 4 * (0 + n) = 0 by omega]
      · rw [mod_all (h _ (List.getElem_mem hn)) (by omega), mod_all (h _ (List.getElem_mem hn)) (by omega)]
theorem packL_get {l : List Int} : ∀ {q m : Nat} (hq : q < l.length) (hm : m < 4), (packL l)[4 * q + m]'(by rw [packL_len]; omega) = idByte l[q] m := by
  induction l with
  | nil => intro q m hq; simp at hq
  | cons x l ih =>
    intro q m hq hm
    have e : packL (x :: l) = idByte x 0 :: idByte x 1 :: idByte x 2 :: idByte x 3 :: packL l := rfl
    cases q with
    | zero =>
      simp only [e]
      rcases (by omega : m = 0 ∨ m = 1 ∨ m = 2 ∨ m = 3) with rfl | rfl | rfl | rfl <;> rfl
    | succ q =>
      simp only [e, List.getElem_cons_succ]
      have := ih (q := q) (m := m) (by simpa using hq) hm
      simp only [show 4 * (q + 1) + m = 4 * q + m + 1 + 1 + 1 + 1 by omega, List.getElem_cons_succ]
      exact this
theorem i64_or (a b : Int) (m : Nat) (ha : 0 ≤ a) (ha2 : a < 256 ^ m) (hb : 0 ≤ b) (hb2 : b < 256) (hm : m < 4) : bits .or .i64 a (b * 256 ^ m) = a + b * 256 ^ m := by
  obtain ⟨x, rfl⟩ := Int.eq_ofNat_of_zero_le ha
  obtain ⟨y, rfl⟩ := Int.eq_ofNat_of_zero_le hb
  have hx : x < 2 ^ (8 * m) := by
    have : x < 256 ^ m := by
      rw [show (256 : Int) ^ m = ((256 ^ m : Nat) : Int) from (Int.natCast_pow 256 m).symm] at ha2
      exact Int.ofNat_lt.1 ha2
    rw [Nat.pow_mul]
    exact this
  have hy : y < 256 := by omega
  have e : ((y : Int) * 256 ^ m) = ((y * 2 ^ (8 * m) : Nat) : Int) := by
    rw [Nat.pow_mul]
    simp
  rw [e]
  have hpm : 2 ^ (8 * m) ≤ 2 ^ 24 := Nat.pow_le_pow_right (by decide) (by omega)
  have hpb : y * 2 ^ (8 * m) ≤ 255 * 2 ^ 24 := Nat.mul_le_mul (by omega) hpm
  have h1 : (BitVec.ofInt 64 (x : Int)).toNat = x := by
    rw [BitVec.toNat_ofInt]
    have : x < 2 ^ 24 := Nat.lt_of_lt_of_le hx hpm
    omega
  have h2 : (BitVec.ofInt 64 ((y * 2 ^ (8 * m) : Nat) : Int)).toNat = y * 2 ^ (8 * m) := by
    rw [BitVec.toNat_ofInt]
    omega
  show IntKind.i64.wrap ((BitVec.ofInt 64 (x : Int) ||| BitVec.ofInt 64 ((y * 2 ^ (8 * m) : Nat) : Int)).toNat : Nat) = _
  rw [BitVec.toNat_or, h1, h2, Nat.or_comm, ← Nat.shiftLeft_eq, ← Nat.shiftLeft_add_eq_or_of_lt hx, Nat.shiftLeft_eq, IntKind.wrap_i64]
  have : x < 2 ^ 24 := Nat.lt_of_lt_of_le hx hpm
  omega
theorem shl_eq (y : Int) (hy : 0 ≤ y ∧ y < 256) (m : Nat) (hm : m < 4) (k : Int) (hk : k = 8 * (m : Int)) (z : Int) (hz : z = y * 256 ^ m) : Op.shift BinOp.shl IntKind.i64 y IntKind.i64 k = pure (.int .i64 z) := by
  subst hk hz
  unfold Op.shift
  rw [if_neg (by omega)]
  have e1 : (8 * (m : Int)).toNat = 8 * m := by omega
  have e2 : min (8 * m) IntKind.i64.bits = 8 * m := Nat.min_eq_left (by show 8 * m ≤ 64; omega)
  have e3 : ((2 : Int) ^ (8 * m)) = 256 ^ m := by rw [Int.pow_mul]; rfl
  have e4 : (256 : Int) ^ m ≤ 16777216 := by
    rcases (by omega : m = 0 ∨ m = 1 ∨ m = 2 ∨ m = 3) with rfl | rfl | rfl | rfl <;> decide
  have e5 : 0 ≤ y * 256 ^ m := Int.mul_nonneg hy.1 (Int.pow_nonneg (by decide))
  have e6 : y * 256 ^ m ≤ 255 * 16777216 := Int.mul_le_mul (by omega) e4 (Int.pow_nonneg (by decide)) (by decide)
  simp only [e1, e2, e3]
  rw [IntKind.wrap_i64]
  congr 2
  omega
theorem or_eq (a b : Int) (m : Nat) (ha : 0 ≤ a) (ha2 : a < 256 ^ m) (hb : 0 ≤ b ∧ b < 256) (hm : m < 4) (c : Int) (hc : c = b * 256 ^ m) (z : Int) (hz : z = a + b * 256 ^ m) : Op.intBits BinOp.or IntKind.i64 a c = pure (.int .i64 z) := by
  subst hc hz
  rw [← i64_or a b m ha ha2 hb.1 hb.2 hm]
  rfl
theorem mod_step (x : Int) (hx : 0 ≤ x) (m : Nat) (hm : m < 4) : x % 256 ^ m + ((idByte x m).toNat : Int) * 256 ^ m = x % 256 ^ (m + 1) := by
  have e := byte_int (id := x) m _ rfl
  rw [e]
  rcases (by omega : m = 0 ∨ m = 1 ∨ m = 2 ∨ m = 3) with rfl | rfl | rfl | rfl
  · show x % 1 + ((x.toNat / 1 % 256 : Nat) : Int) * 1 = x % 256
    omega
  · show x % 256 + ((x.toNat / 256 % 256 : Nat) : Int) * 256 = x % 65536
    omega
  · show x % 65536 + ((x.toNat / 65536 % 256 : Nat) : Int) * 65536 = x % 16777216
    omega
  · show x % 16777216 + ((x.toNat / 16777216 % 256 : Nat) : Int) * 16777216 = x % 4294967296
    omega
theorem Mine.put_it {w : World} {B g cap m : Nat} {T : List Int} (h : Mine it w B (.slice (some ⟨g, 0, none⟩) m cap) T) (hm : T.length = m) (n : Nat) (hn : n < T.length) (z : Int) : Mine it (w.setCell ⟨g, n, none⟩ (.int .i64 z)) B (.slice (some ⟨g, 0, none⟩) m cap) (T.set n z) := by
  have e : flat it (T.set n z) = (flat it T).set n (.int .i64 z) := by
    clear h hm
    induction T generalizing n with
    | nil => simp at hn
    | cons d T ih =>
      cases n with
      | zero => rfl
      | succ n =>
        rw [List.set_cons_succ, flat_cons, flat_cons, ih n (by simpa using hn)]
        rfl
  unfold Mine at *
  rw [List.length_set, e, hm]
  rw [hm] at h
  exact (h.stored _ _).1
theorem index_at (s : ByteArray) (z : Int) (k : Nat) (hz : z = (k : Int)) (h : k < s.size) (u : World) : (Instr.index 9 (.string s) (.int .i64 z)).run Try.prog u = .ok (.int .u8 (s[k].toNat : Int)) u := by
  subst hz
  simp [Instr.index, asIntOf, run_underlying Try.underlying9, h]

set_option maxRecDepth 100000 in
set_option maxHeartbeats 4000000 in
theorem unpacked_any (w : World) (ids : List Int) (hs : Small ids) (hl : ids.length ≤ 17592186044416) :
    Calls Try.prog 49 #[.string (B (packL ids))] w fun e w' => ∃ v, e = .returned v ∧ Below w.heap.size w w' ∧ Mine it w' w.heap.size v ids := by
  have hmk := run_make_kd (F := it) 0 rfl w ids.length (by show ids.length * 8 ≤ _; omega) (by simp [maxLen]; omega)
  have hmd := Mine.made (F := it) 0 w ids.length w.heap.size (Nat.le_refl _) (by simp [maxLen]; omega)
  obtain ⟨W1, hW1⟩ : ∃ W1, w.alloc (.cells (flat it (List.replicate ids.length 0)).toArray it.e) = W1 := ⟨_, rfl⟩
  have hb1 : Below w.heap.size w W1 := by rw [← hW1]; exact (Below.refl _ _).alloc (Nat.le_refl _) _
  rw [hW1] at hmk hmd
  rw [← upL_zero] at hmd
  obtain ⟨st, hst⟩ : ∃ st, B (packL ids) = st := ⟨_, rfl⟩
  obtain ⟨n, hn⟩ : ∃ n, ids.length = n := ⟨_, rfl⟩
  have hsz : st.size = 4 * n := by rw [← hst, bsize, packL_len, hn]
  have hquo : IntKind.i64.wrap ((st.size : Int).tdiv 4) = (n : Int) := by
    rw [hsz, Int.tdiv_eq_ediv_of_nonneg (by omega), IntKind.wrap_i64]
    omega
  rw [hn] at hmk hmd hl
  have hl2 : (n : Int) ≤ 17592186044416 := by omega
  obtain ⟨X, hX⟩ : ∃ X, w.heap.size = X := ⟨_, rfl⟩
  rw [hX] at hmk hmd
  have hmk' : (Instr.makeSlice 32 (.int .i64 (n : Int)) (.int .i64 (n : Int))).run Try.prog w = .ok (.slice (some ⟨X, 0, none⟩) n n) W1 := hmk
  have HX := Lib.hid hX
  have HN := Lib.hid hn
  have HS := Lib.hid hst
  have HD := Lib.hid (And.intro hmd hb1)
  have HSZ := Lib.hid hsz
  have HSM := Lib.hid hs
  rw [hst]
  clear hst hn hX hmk hmd hb1 hW1 hs
  go_enter Try.func49, Try.ntmps49
  go_wp2_with fail
  clear hmk' hquo
  go_loopw [11] (fun p wr => ∃ (i : Nat), i ≤ 4 * n ∧ p = .int .i64 (i : Int) ∧ Below w.heap.size w wr ∧ Mine it wr X (.slice (some ⟨X, 0, none⟩) n n) (upL i 0 ids)) (fun p _ => 4 * n - (intOf p).toNat)
  case atStart => exact ⟨0, by omega, rfl, HD.out.2, HD.out.1⟩
  case round =>
    obtain ⟨i, hi, rfl, hb, hm⟩ := hrel
    by_cases hlt : i < 4 * n
    · obtain ⟨q, m, hqm, hm4⟩ : ∃ q m, i = 4 * q + m ∧ m < 4 := ⟨i / 4, i % 4, by omega, by omega⟩
      have hq : q < n := by omega
      have hqi : q < ids.length := by rw [HN.out]; exact hq
      have hul : (upL i 0 ids).length = n := by rw [upL_len]; exact HN.out
      have hx := HSM.out ids[q] (List.getElem_mem hqi)
      obtain ⟨x, hxe⟩ : ∃ x, ids[q] = x := ⟨_, rfl⟩
      have hget := upL_get i ids 0 q hqi
      have hpk := packL_get hqi hm4
      have hstep := upL_step HSM.out hqi hm4
      rw [← hqm] at hstep
      rw [hxe] at hx hget hpk hstep
      rw [show i - 4 * (0 + q) = m by omega] at hget
      have c0 := cells_it (Mine.cells hm) q (by rw [hul]; exact hq)
      rw [hget, Nat.zero_add] at c0
      have hfr := hm.free q
      have hil : i < st.size := by rw [HSZ.out]; exact hlt
      have hidx : st[i] = idByte x m := by
        rw [← hpk]
        have h1 := HS.out
        subst h1
        simp only [← hqm]
        rfl
      obtain ⟨y, hy⟩ : ∃ y, st[i] = y := ⟨_, rfl⟩
      have hy0 := hidx
      rw [hy] at hy0
      have hXz := World.ownsRow.lt hm X rfl
      have hd : decide ((i : Int) < 4 * (n : Int)) = true := decide_eq_true (by omega)
      have hd' : decide (i < 4 * n) = true := decide_eq_true hlt
      obtain ⟨u, hu⟩ : ∃ u, x % 256 ^ m = u := ⟨_, rfl⟩
      rw [hu] at c0
      have hub : 0 ≤ u ∧ u < 256 ^ m := by rw [← hu]; exact ⟨Int.emod_nonneg _ (by have := Int.pow_pos (n := 256) (m := m) (by decide); omega), Int.emod_lt_of_pos _ (Int.pow_pos (by decide))⟩
      have HI := Lib.hid hqm
      have hi4 : (i : Int) / 4 = (q : Int) := by omega
      have hi4m : (i : Int) % 4 = (m : Int) := by omega
      have HM := Lib.hid hm
      have HZV := Lib.hid (show u + ((y.toNat : Nat) : Int) * 256 ^ m = x % 256 ^ (m + 1) by rw [hy0, ← hu]; exact mod_step x hx.1 m hm4)
      have HSTEP := Lib.hid hstep
      have HBB := Lib.hid hb
      clear hm hget hpk hstep hx hxe hy0 hidx hu hqm hb hsz
      have hix : ∀ w, (Instr.index 9 (.string st) (.int .i64 (i : Int))).run Try.prog w = .ok (.int .u8 (y.toNat : Int)) w := fun w => by
        rw [← hy]
        exact index_at st i i rfl hil w
      obtain ⟨yv, hyv⟩ : ∃ z, (y.toNat : Int) = z := ⟨_, rfl⟩
      rw [hyv] at hix HZV
      have hyb : 0 ≤ yv ∧ yv < 256 := by
        have := UInt8.toNat_lt y
        omega
      clear hy hil hyv y
      have hwq : IntKind.i64.wrap (q : Int) = (q : Int) := by rw [IntKind.wrap_i64]; omega
      have hq0 : (0 : Int) ≤ (q : Int) := by omega
      have hqn : (q : Int) < (n : Int) := by omega
      have hqn' : q < n := hq
      have htm : (i : Int).tmod 4 = (m : Int) := by rw [Int.tmod_eq_emod_of_nonneg (by omega)]; exact hi4m
      go_wp2_with fail
      have hwy : IntKind.i64.wrap yv = yv := by rw [IntKind.wrap_i64]; omega
      obtain ⟨z, hz⟩ : ∃ z, z = u + yv * 256 ^ m := ⟨_, rfl⟩
      obtain ⟨c, hcc⟩ : ∃ c, c = yv * 256 ^ m := ⟨_, rfl⟩
      have hor := or_eq u yv m hub.1 hub.2 hyb hm4 c hcc z hz
      have hZ := Lib.hid (And.intro hz hcc)
      obtain ⟨k8, hk8⟩ : ∃ k : Int, k = 8 * (m : Int) := ⟨_, rfl⟩
      have hsh := shl_eq yv hyb m hm4 k8 hk8 c hcc
      have hw8 : IntKind.i64.wrap (8 * (m : Int)) = k8 := by rw [hk8, IntKind.wrap_i64]; omega
      have hput := Mine.put_it HM.out hul q (by rw [hul]; exact hq) z
      rw [hz, HZV.out, ← HSTEP.out, ← HZV.out, ← hz] at hput
      have HPUT : Hid (Below w.heap.size w (wr.setCell ⟨X, q, none⟩ (.int .i64 z)) ∧ Mine it (wr.setCell ⟨X, q, none⟩ (.int .i64 z)) X (.slice (some ⟨X, 0, none⟩) n n) (upL (i + 1) 0 ids)) := Lib.hid ⟨by
        have hbw := HBB.out
        have hx0 := HX.out
        exact ⟨hbw.os, hbw.tape, hbw.output, by rw [size_set]; exact hbw.size, fun k hk => (set_one _ _ _ _ _ (by omega)).trans (hbw.block k hk)⟩, hput⟩
      clear hz hcc hk8 hput hyb hub hul hi4m
      go_region_law fail
      all_goals (try go_wp2_with fail)
      all_goals (go_roundw; (case rel => first | exact ⟨i + 1, by omega, by go_num, HPUT.out.1.drew, HPUT.out.2.below (Below.refl _ _).drew⟩ | exact ⟨i + 1, by omega, by go_num, HPUT.out.1, HPUT.out.2⟩); (case measure => simp [intOf]; omega))
    · obtain rfl : i = 4 * n := by omega
      rw [upL_all HSM.out (by rw [HN.out]; exact Nat.le_refl _)] at hm
      have HE := Lib.hid (And.intro hb hm)
      have hd : decide (((4 * n : Nat) : Int) < ((4 * n : Nat) : Int)) = false := decide_eq_false (by omega)
      clear hb hm
      go_wp2_with fail
      go_ret
      exact ⟨_, rfl, HE.out.1, by rw [HX.out]; exact HE.out.2⟩
end Go.Proofs.Ytnnffcfdokejbaa.rd
