/-
  Layer 8: the program's pool: its rows; numbers packed.
-/
import Derived.Test.YtnnffcfdokejbaaNs
import Derived.Test.YtnnffcfdokejbaaPb
import Derived.Test.YtnnffcfdokejbaaTb
namespace Go.Proofs.Ytnnffcfdokejbaa.rd
open Go.RowKit

/-- A node of the program's pool, in memory. -/
structure Gk where
  (k : Int) (x y : ByteArray) (wd : Int)
def gk : Kd Gk where
  c t := [.int .i64 t.k, .string t.x, .string t.y, .int .i64 t.wd]
  k := 4
  e := 90
  t := 79
  z := .agg #[.int .i64 0, .string .empty, .string .empty, .int .i64 0]
  bytes := 48
  len _ := rfl
  one x u hu := by simp only [List.mem_cons, List.not_mem_nil, or_false] at hu; rcases hu with rfl | rfl | rfl | rfl <;> rfl
  ht := Try.underlying79
  hi := by kernel_rfl
  hz := rfl
  hk := by decide
  ht' := by kernel_rfl
  hs _ := by kernel_rfl
def by8 : Kd UInt8 where
  c t := [.int .u8 (t.toNat : Int)]
  k := 1
  e := 5
  t := 93
  z := .int .u8 0
  bytes := 1
  len _ := rfl
  one x u hu := by simp only [List.mem_cons, List.not_mem_nil, or_false] at hu; subst hu; rfl
  ht := Try.underlying93
  hi := by kernel_rfl
  hz := rfl
  hk := by decide
  ht' := by kernel_rfl
  hs _ := by kernel_rfl
theorem cells_gk {w : World} {g off : Nat} {T : List Gk} (h : Cells gk w g off T) (n : Nat) (hn : n < T.length) : w.cell? ⟨g, off + n * 4, none⟩ = some (.int .i64 T[n].k) ∧ w.cell? ⟨g, off + n * 4 + 1, none⟩ = some (.string T[n].x) ∧ w.cell? ⟨g, off + n * 4 + 2, none⟩ = some (.string T[n].y) ∧ w.cell? ⟨g, off + n * 4 + 3, none⟩ = some (.int .i64 T[n].wd) :=
  ⟨h _ _ (flat_at gk T n hn 0 (by decide)), h _ _ (flat_at gk T n hn 1 (by decide)), h _ _ (flat_at gk T n hn 2 (by decide)), h _ _ (flat_at gk T n hn 3 (by decide))⟩
/-- One byte of a number. -/
def idByte (id : Int) (q : Nat) : UInt8 := UInt8.ofNat (id.toNat / 256 ^ q)
/-- A number, packed. -/
def idB (id : Int) : List UInt8 := [idByte id 0, idByte id 1, idByte id 2, idByte id 3]
theorem byte_int {id : Int} (q : Nat) (z : Int) (hz : ((id.toNat / 256 ^ q % 256 : Nat) : Int) = z) : ((idByte id q).toNat : Int) = z := by
  unfold idByte
  rw [UInt8.toNat_ofNat', ← hz]
def packL (l : List Int) : List UInt8 := l.flatMap idB
theorem packL_len (l : List Int) : (packL l).length = 4 * l.length := by
  induction l with
  | nil => rfl
  | cons x l ih =>
    show (idB x ++ packL l).length = _
    rw [List.length_append, ih, List.length_cons]
    show 4 + _ = _
    omega
theorem packL_snoc (l : List Int) (x : Int) : packL (l ++ [x]) = packL l ++ idB x := by unfold packL; simp
theorem byte_push {w wr : World} {B0 : Nat} {v0 v : Value} {T : List UInt8} (hB : B0 ≤ w.heap.size) (h : Mine by8 wr B0 v T) (hm : Marked (fun q => v0.ownBlock = some q) w wr) (ho : ∀ q, v.ownBlock = some q → v0.ownBlock = some q ∨ w.heap.size ≤ q) (hl : T.length + 1 ≤ 140737488355328) (x : UInt8) (z : Int) (hx : (x.toNat : Int) = z) :
    ∃ v' w', (∀ ty, (Builtin.append_ #[93, 93] ty #[v, .slice (some ⟨wr.heap.size, 0, none⟩) 1 1]).run Try.prog (wr.alloc (.cells #[.int .u8 z] 5)) = .ok v' w') ∧ Mine by8 w' B0 v' (T ++ [x]) ∧ Marked (fun q => v0.ownBlock = some q) w w' ∧ ∀ q, v'.ownBlock = some q → v0.ownBlock = some q ∨ w.heap.size ≤ q := by
  subst hx
  have hu : Below wr.heap.size wr (wr.alloc (.cells #[.int .u8 (x.toNat : Int)] 5)) := (Below.refl _ _).alloc (Nat.le_refl _) _
  have had := heap_alloc_last wr (.cells #[.int .u8 (x.toNat : Int)] 5)
  have hz := hm.size
  obtain ⟨g', cap', w', h3, h4, h5, h6⟩ := app_lies (F := by8) (x := x) (h.below hu) had (by have := hu.size; omega) (by simp [maxLen]; omega) (by show (T.length + 1) * 1 ≤ _; omega)
  refine ⟨_, w', h3, h4, ?_, ?_⟩
  · have m1 := hm.trans (Marked.of_below (D := fun q => v0.ownBlock = some q) hu) (fun _ hk => .inl hk)
    exact ⟨h5.os.trans m1.os, h5.tape.trans m1.tape, h5.output.trans m1.output, Nat.le_trans m1.size h5.size, fun k hk hn => (h5.block k (Nat.lt_of_lt_of_le hk m1.size) (fun e => by
      rcases ho k e.symm with h | h
      · exact hn h
      · omega)).trans (m1.keep k hk hn)⟩
  · intro q hq
    simp only [Value.ownBlock, Option.some.injEq] at hq
    subst hq
    rcases h6 with h6 | h6
    · exact ho _ h6
    · rw [h6]
      have := hu.size
      exact .inr (by omega)
set_option maxRecDepth 100000 in
set_option maxHeartbeats 4000000 in
theorem appendID_any (w : World) (v0 : Value) (T : List UInt8) (B0 : Nat) (id : Int) (h : Mine by8 w B0 v0 T) (hB : B0 ≤ w.heap.size) (hid : 0 ≤ id) (hl : T.length + 4 ≤ 140737488355328) :
    Calls Try.prog 71 #[v0, .int .i64 id] w fun e w' => ∃ v', e = .returned v' ∧ Mine by8 w' B0 v' (T ++ idB id) ∧ Marked (fun q => v0.ownBlock = some q) w w' ∧ ∀ q, v'.ownBlock = some q → v0.ownBlock = some q ∨ w.heap.size ≤ q := by
  have HP := Lib.hid (fun wr v q => byte_push (w := w) (wr := wr) (v0 := v0) (v := v) (T := T ++ (idB id).take q) hB)
  have HL := Lib.hid hl
  have HM := Lib.hid h
  clear h hB hl
  go_enter Try.func71, Try.ntmps71
  go_wp2_with fail
  go_loopw [6, 0] (fun p a wr => ∃ (q : Nat) (v : Value), q ≤ 4 ∧ p = .int .i64 (q : Int) ∧ v = a ∧ Mine by8 wr B0 v (T ++ (idB id).take q) ∧ Marked (fun q => v0.ownBlock = some q) w wr ∧ ∀ q, v.ownBlock = some q → v0.ownBlock = some q ∨ w.heap.size ≤ q) (fun p _ _ => 4 - (intOf p).toNat)
  case atStart => exact ⟨0, v0, by omega, rfl, rfl, by rw [List.take_zero, List.append_nil]; exact HM.out, Marked.of_below (Below.refl _ _), fun q hq => .inl hq⟩
  case round =>
    obtain ⟨q, v, hq4, rfl, rfl, hm, hmk, hvo⟩ := hrel
    rcases (by omega : q = 0 ∨ q = 1 ∨ q = 2 ∨ q = 3 ∨ q = 4) with rfl | rfl | rfl | rfl | rfl
    · obtain ⟨v', w', hrun, h1, h2, h3⟩ := HP.out wr v 0 hm hmk hvo (by have := HL.out; rw [List.length_append]; simp [idB]; omega) (idByte id 0) (id % 256) (byte_int 0 _ (by omega))
      rw [List.append_assoc] at h1
      have HRUN := Lib.hid hrun
      have HE := Lib.hid (And.intro h1 (And.intro h2 h3))
      clear hrun h1 h2 h3 hm hmk hvo
      go_wp2_with (at_builtin; refine Lib.wpList_append_run _ rfl _ _ _ _ rfl _ _ rfl rfl _ _ (HRUN.out _) ?_)
      go_roundw
      case rel => exact ⟨1, _, by omega, by rfl, rfl, HE.out.1, HE.out.2.1, HE.out.2.2⟩
      case measure => simp [intOf]
    · obtain ⟨v', w', hrun, h1, h2, h3⟩ := HP.out wr v 1 hm hmk hvo (by have := HL.out; rw [List.length_append]; simp [idB]; omega) (idByte id 1) (id / 256 % 256) (byte_int 1 _ (by omega))
      rw [List.append_assoc] at h1
      have HRUN := Lib.hid hrun
      have HE := Lib.hid (And.intro h1 (And.intro h2 h3))
      clear hrun h1 h2 h3 hm hmk hvo
      go_wp2_with (at_builtin; refine Lib.wpList_append_run _ rfl _ _ _ _ rfl _ _ rfl rfl _ _ (HRUN.out _) ?_)
      go_roundw
      case rel => exact ⟨2, _, by omega, by rfl, rfl, HE.out.1, HE.out.2.1, HE.out.2.2⟩
      case measure => simp [intOf]
    · obtain ⟨v', w', hrun, h1, h2, h3⟩ := HP.out wr v 2 hm hmk hvo (by have := HL.out; rw [List.length_append]; simp [idB]; omega) (idByte id 2) (id / 65536 % 256) (byte_int 2 _ (by omega))
      rw [List.append_assoc] at h1
      have HRUN := Lib.hid hrun
      have HE := Lib.hid (And.intro h1 (And.intro h2 h3))
      clear hrun h1 h2 h3 hm hmk hvo
      go_wp2_with (at_builtin; refine Lib.wpList_append_run _ rfl _ _ _ _ rfl _ _ rfl rfl _ _ (HRUN.out _) ?_)
      go_roundw
      case rel => exact ⟨3, _, by omega, by rfl, rfl, HE.out.1, HE.out.2.1, HE.out.2.2⟩
      case measure => simp [intOf]
    · obtain ⟨v', w', hrun, h1, h2, h3⟩ := HP.out wr v 3 hm hmk hvo (by have := HL.out; rw [List.length_append]; simp [idB]; omega) (idByte id 3) (id / 16777216 % 256) (byte_int 3 _ (by omega))
      rw [List.append_assoc] at h1
      have HRUN := Lib.hid hrun
      have HE := Lib.hid (And.intro h1 (And.intro h2 h3))
      clear hrun h1 h2 h3 hm hmk hvo
      go_wp2_with (at_builtin; refine Lib.wpList_append_run _ rfl _ _ _ _ rfl _ _ rfl rfl _ _ (HRUN.out _) ?_)
      go_roundw
      case rel => exact ⟨4, _, by omega, by rfl, rfl, HE.out.1, HE.out.2.1, HE.out.2.2⟩
      case measure => simp [intOf]
    · have HE := Lib.hid (And.intro hm (And.intro hmk hvo))
      clear hm hmk hvo
      go_wp2_with fail
      go_ret
      exact ⟨_, rfl, HE.out.1, HE.out.2.1, HE.out.2.2⟩
end Go.Proofs.Ytnnffcfdokejbaa.rd
