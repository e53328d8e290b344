/-
  (escape).appendTo.
-/
import Derived.Test.YtjbamlmdeopcaaaDoorEscAt
namespace Go.Proofs.YtjbamlmdeopcaaaDoor.tok
open Go.RowKit

/-- The bytes that an escape says. -/
def escB (v : Esc) : List UInt8 := if v.2.1 then Lib.encodeRune v.1 else [v.1.toNat.toUInt8]
/-- What an escape's number may be. -/
def EscOk (v : Esc) : Prop := (v.2.1 = true → 0 ≤ v.1 ∧ v.1 ≤ 1114111) ∧ (v.2.1 = false → 0 ≤ v.1 ∧ v.1 ≤ 255)
def Grew (B0 : Nat) (x : Value) (l : List UInt8) (w : World) (e : Ending) (w' : World) : Prop :=
  ∃ v', e = .returned v' ∧ Bytes w' B0 v' l ∧ Below B0 w w' ∧ ∀ k, k < w.heap.size → x.ownBlock ≠ some k → w'.heap[k]? = w.heap[k]?
theorem kept_blocks {w w' : World} {o o' : Obj} {x : Value} (hg : ((w.alloc o).alloc o').grownBy w' x.ownBlock) : ∀ k, k < w.heap.size → x.ownBlock ≠ some k → w'.heap[k]? = w.heap[k]? := fun k hk hne => by
  rw [hg.block k (by simp; omega) (fun e => hne e.symm)]
  exact (((Below.refl w.heap.size w).alloc (Nat.le_refl _) o).alloc (by simp) o').block k hk
theorem byte_cell {n : Int} (h0 : 0 ≤ n) (h1 : n ≤ 255) : Lib.byteCells [n.toNat.toUInt8] = [.int .u8 n] := by
  have : (n.toNat.toUInt8.toNat : Int) = n := by
    rw [Nat.toUInt8, UInt8.toNat_ofNat', Nat.mod_eq_of_lt (by omega)]
    omega
  simp only [Lib.byteCells, List.map_cons, List.map_nil, this]

set_option maxRecDepth 100000 in
set_option maxHeartbeats 1000000 in
theorem appendTo_any (v : Esc) (x : Value) (l : List UInt8) (B0 : Nat) (w : World) (hv : EscOk v) (hown : Bytes w B0 x l) (hB : B0 ≤ w.heap.size) (hl : l.length + 4 ≤ 140737488355328) :
    Calls Tryd.prog 61 #[.agg #[.int .i64 v.1, .bool v.2.1, .int .i64 v.2.2], x] w (Grew B0 x (l ++ escB v) w) := by
  obtain ⟨n, r, wd⟩ := v
  obtain ⟨i0, hi, hz0, hz1, hz2⟩ := info_parts infoB
  simp only []
  have HO := Lib.hid hown
  have hlt := World.ownsRow.lt hown
  have HL := Lib.hid hlt
  clear hown hlt
  cases r with
  | true =>
    have hn := hv.1 rfl
    simp only [] at hn
    obtain ⟨hn0, hn1⟩ := hn
    have HE : Hid (escB (n, true, wd) = Lib.encodeRune n) := Lib.hid rfl
    clear hv
    go_enter Tryd.func61, Tryd.ntmps61
    go_wp2_with (go_at_call 65; refine (Tryd.utf8_AppendRune_plain B0 x l.length (Lib.byteCells l) n (by omega) (by omega) _ (World.ownsRow.alloc HO.out _) hl (by simp; omega)).mono ?_; rintro e w1 ⟨v', rfl, ho, o, hg⟩; have HR := Lib.hid ho; have HG := Lib.hid hg; clear ho hg)
    go_ret
    refine ⟨v', rfl, ?_, ?_, kept_blocks HG.out⟩
    · rw [HE.out]
      have := HR.out
      unfold Bytes
      rw [List.length_append]
      have e2 : Lib.byteCells (l ++ Lib.encodeRune n) = Lib.byteCells l ++ Lib.runeCells n := by rw [← Lib.byteCells_encodeRune]; simp [Lib.byteCells]
      rw [e2, ← Lib.runeCells_length]
      exact this
    · exact (((Below.refl _ _).alloc hB _).alloc (by simp; omega) _).grown HG.out (by simp; omega) (fun k hk => (HL.out k hk).1)
  | false =>
    have hn := hv.2 rfl
    simp only [] at hn
    obtain ⟨hn0, hn1⟩ := hn
    have HE : Hid (escB (n, false, wd) = [n.toNat.toUInt8]) := Lib.hid rfl
    clear hv
    go_enter Tryd.func61, Tryd.ntmps61
    go_wp2_with (at_builtin; refine wpList_append_own _ rfl _ _ 74 rfl B0 5 i0 (.int .u8 0) 1 1 Tryd.underlying74 hi hz0 hz1 hz2 rfl (by decide) _ _ _ rfl (World.ownsRow.alloc (World.ownsRow.alloc HO.out _) _) ⟨w.heap.size + 1, 0, none⟩ 1 1 [.int .u8 n] rfl rfl ?c1 ?c2 ?c3 ?c4 ?c5 ?_)
    case c1 =>
      intro j u hj
      match j, hj with
      | 0, hj => simp at hj; subst hj; simp [Addr.add]
      | (j + 1), hj => simp at hj
    case c2 => intro u hu; simp only [List.mem_cons, List.not_mem_nil, or_false] at hu; subst hu; rfl
    case c3 => unfold maxLen; omega
    case c4 => omega
    case c5 => simp; omega
    intro v' w2 hown2 hg _
    have HR := Lib.hid hown2
    have HG := Lib.hid hg
    clear hown2 hg
    go_wp2
    go_ret
    refine ⟨v', rfl, ?_, ?_, kept_blocks HG.out⟩
    · rw [HE.out]
      have := HR.out
      unfold Bytes
      rw [List.length_append]
      have e2 : Lib.byteCells (l ++ [n.toNat.toUInt8]) = Lib.byteCells l ++ [.int .u8 n] := by rw [← byte_cell hn0 hn1]; simp [Lib.byteCells]
      rw [e2]
      exact this
    · exact (((Below.refl _ _).alloc hB _).alloc (by simp; omega) _).grown HG.out (by simp; omega) (fun k hk => (HL.out k hk).1)
end Go.Proofs.YtjbamlmdeopcaaaDoor.tok
