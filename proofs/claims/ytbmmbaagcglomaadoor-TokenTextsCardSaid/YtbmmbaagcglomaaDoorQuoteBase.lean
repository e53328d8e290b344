/-
  The law TokenQuotes: what its rounds ask.
-/
import Derived.Test.YtbmmbaagcglomaaDoorQuoteFacts
import Derived.Test.YtbmmbaagcglomaaDoorBackBase
import Derived.BigQuiet
import Derived.Deep.QuietTactic
namespace Go.Proofs.YtbmmbaagcglomaaDoor.tok
open Go.RowKit

theorem hex_piece (c : UInt8) : ({ data := #[92, 120] } : ByteArray) ++ ({ data := #[48, 49, 50, 51, 52, 53, 54, 55, 56, 57, 97, 98, 99, 100, 101, 102] } : ByteArray).extract (c.toNat / 16) (c.toNat / 16 + 1) ++ ({ data := #[48, 49, 50, 51, 52, 53, 54, 55, 56, 57, 97, 98, 99, 100, 101, 102] } : ByteArray).extract (c.toNat % 16) (c.toNat % 16 + 1) = B (escL false c) := by
  have : allB (fun c => ([92, 120] ++ (([48, 49, 50, 51, 52, 53, 54, 55, 56, 57, 97, 98, 99, 100, 101, 102] : List UInt8).drop (c.toNat / 16)).take 1 ++ (([48, 49, 50, 51, 52, 53, 54, 55, 56, 57, 97, 98, 99, 100, 101, 102] : List UInt8).drop (c.toNat % 16)).take 1) == escL false c) := by unfold allB; decide +kernel
  have := of_all this c
  simp only [beq_iff_eq] at this
  rw [b_extract, b_extract, show c.toNat / 16 + 1 - c.toNat / 16 = 1 by omega, show c.toNat % 16 + 1 - c.toNat % 16 = 1 by omega]
  show B [92, 120] ++ B _ ++ B _ = _
  rw [b_append, b_append]
  exact congrArg B this
theorem oct_piece (c : UInt8) : ({ data := #[92] } : ByteArray) ++ ({ data := #[48, 49, 50, 51, 52, 53, 54, 55, 56, 57, 97, 98, 99, 100, 101, 102] } : ByteArray).extract (c.toNat / 64) (c.toNat / 64 + 1) ++ ({ data := #[48, 49, 50, 51, 52, 53, 54, 55, 56, 57, 97, 98, 99, 100, 101, 102] } : ByteArray).extract (c.toNat / 8 % 8) (c.toNat / 8 % 8 + 1) ++ ({ data := #[48, 49, 50, 51, 52, 53, 54, 55, 56, 57, 97, 98, 99, 100, 101, 102] } : ByteArray).extract (c.toNat % 8) (c.toNat % 8 + 1) = B (escL true c) := by
  have : allB (fun c => ([92] ++ (([48, 49, 50, 51, 52, 53, 54, 55, 56, 57, 97, 98, 99, 100, 101, 102] : List UInt8).drop (c.toNat / 64)).take 1 ++ (([48, 49, 50, 51, 52, 53, 54, 55, 56, 57, 97, 98, 99, 100, 101, 102] : List UInt8).drop (c.toNat / 8 % 8)).take 1 ++ (([48, 49, 50, 51, 52, 53, 54, 55, 56, 57, 97, 98, 99, 100, 101, 102] : List UInt8).drop (c.toNat % 8)).take 1) == escL true c) := by unfold allB; decide +kernel
  have := of_all this c
  simp only [beq_iff_eq] at this
  rw [b_extract, b_extract, b_extract, show c.toNat / 64 + 1 - c.toNat / 64 = 1 by omega, show c.toNat / 8 % 8 + 1 - c.toNat / 8 % 8 = 1 by omega, show c.toNat % 8 + 1 - c.toNat % 8 = 1 by omega]
  show B [92] ++ B _ ++ B _ ++ B _ = _
  rw [b_append, b_append, b_append]
  exact congrArg B this
/-- The bytes so far, with how each is written. -/
def pairs (bs : List UInt8) (fl : Nat → Bool) (k : Nat) : List (UInt8 × Bool) := (List.range k).map fun i => (bs.getD i 0, fl i)
theorem pairs_succ (bs : List UInt8) (fl : Nat → Bool) (k : Nat) (h : k < bs.length) : pairs bs fl (k + 1) = pairs bs fl k ++ [(bs[k], fl k)] := by
  unfold pairs
  rw [List.range_succ, List.map_append]
  simp [h]
theorem pairs_first (bs : List UInt8) (fl : Nat → Bool) : (pairs bs fl bs.length).map Prod.fst = bs := by
  unfold pairs
  rw [List.map_map]
  apply List.ext_getElem
  · simp
  · intro i h1 h2; simp [h2]
theorem escs_snoc (l : List (UInt8 × Bool)) (c : UInt8) (o : Bool) : escs (l ++ [(c, o)]) = escs l ++ escL o c := by simp [escs]
theorem escs_length (l : List (UInt8 × Bool)) : (escs l).length = 4 * l.length := by
  induction l with
  | nil => rfl
  | cons x l ih =>
    have : escs (x :: l) = escL x.2 x.1 ++ escs l := rfl
    rw [this, List.length_append, escL_length, ih, List.length_cons]; omega
theorem pairs_length (bs : List UInt8) (fl : Nat → Bool) (k : Nat) : (pairs bs fl k).length = k := by simp [pairs]
def noBQ (l : List UInt8) : List UInt8 := l.filter fun c => c != 96
theorem noBQ_mem {l : List UInt8} : ∀ c ∈ noBQ l, c ≠ 96 := by
  intro c hc
  simp [noBQ] at hc
  exact hc.2
theorem noBQ_snoc (bs : List UInt8) (k : Nat) (h : k < bs.length) : noBQ (bs.take (k + 1)) = noBQ (bs.take k) ++ (if bs[k] = 96 then [] else [bs[k]]) := by
  unfold noBQ
  rw [List.take_succ_eq_append_getElem h, List.filter_append]
  congr 1
  by_cases e : bs[k] = 96
  · rw [if_pos e, e]; rfl
  · rw [if_neg e]; simp [e]
theorem noCR_snoc (l : List UInt8) (c : UInt8) : noCR (l ++ [c]) = noCR l ++ (if c = 13 then [] else [c]) := by
  unfold noCR
  rw [List.filter_append]
  congr 1
  by_cases e : c = 13
  · rw [if_pos e, e]; rfl
  · rw [if_neg e]; simp [e]
theorem noBQ_few (l : List UInt8) : (noBQ l).length ≤ l.length := List.length_filter_le _ _
theorem noCR_few (l : List UInt8) : (noCR l).length ≤ l.length := List.length_filter_le _ _
theorem conv_one (c : UInt8) (u : World) : (convert 38 9 (.slice (some ⟨u.heap.size, 0, none⟩) 1 1)).run Tryd.prog (u.alloc (.cells #[.int .u8 (c.toNat : Int)] 5)) = .ok (.string (B [c])) (u.alloc (.cells #[.int .u8 (c.toNat : Int)] 5)) := by
  refine run_convert_bytes_back _ _ _ _ ⟨u.heap.size, 0, none⟩ 1 [c] Tryd.underlying38 Tryd.underlying5 Tryd.underlying9 (fun j hj => ?_)
  match j, hj with
  | 0, _ => simp [Addr.add]
def RuneCalls (x : List UInt8) (n : Int) : Prop := Hid (∀ u : World, Env u → Calls Tryd.prog 29 #[.string (B x)] u (Gives (.tuple #[.int .i64 n, .int .i64 0, .int .i64 0]) u))
theorem rune_calls (o : Bool) (c : UInt8) : RuneCalls ([39] ++ escL o c ++ [39]) (c.toNat : Int) := Lib.hid (fun u hE => by
  have := rune_any (B ([39] ++ escL o c ++ [39])) u hE (by rw [bsize]; simp [escL_length])
  rw [bdata, rune_said] at this
  exact this)
def UnqCalls (x t : List UInt8) (code : Int) : Prop := Hid (∀ u : World, Env u → Calls Tryd.prog 27 #[.string (B x)] u (Gives (.tuple #[.string (B t), .int .i64 code, .int .i64 0]) u))
theorem unq_calls {x t : List UInt8} {code : Int} (hx : x.length < 4294967281) (h : unqOf x = (t, code, 0)) : UnqCalls x t code := Lib.hid (fun u hE => by
  have := unquote_any (B x) u hE (by rw [bsize]; exact hx)
  rw [bdata, h] at this
  exact this)
theorem env_drewN {w : World} (h : Env w) : ∀ {n : Nat}, Env (w.drewN n) := fun {_} => ⟨h.tabs, h.most⟩
end Go.Proofs.YtbmmbaagcglomaaDoor.tok
