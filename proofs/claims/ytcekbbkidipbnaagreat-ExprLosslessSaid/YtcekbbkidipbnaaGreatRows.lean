/-
  No cell of these rows narrows 'for every input' (looked for: loops, veiled, ifaces, maps, wideKeys, modest, calm, conditions, laid).
  DERIVED. THE GIVEN ROWS OF THIS SEAT. 5 by the template 'for every input the law returns true; each argument reads behind the call as it read before'; 0 by the template 'total and deterministic' (their statements: YtcekbbkidipbnaaGreatTotals.lean).
  GIVEN WITH THE SEED: the statements are not yours to turn. If you find one false, say at which input.
  Laid BY PROGRAM, IN A SANDBOX (cutbox-rows.mjs): the forced cells as the released guide's own fill.sh prints them over the translation d5c9b1ae0fa8fa99… (all of the seat's roots in one cut). By AI agents, Wed Nov 11 2026. No macro, syntax, notation, axiom, sorry.
-/
import Derived.Test.YtcekbbkidipbnaaGreatChecked
import GoSem.Claim
import GoSem.ClaimJoined
import GoSem.ClaimMapViews
import Derived.JoinedTies
import Derived.KernelRfl
namespace Go.Proofs.YtcekbbkidipbnaaGreat
/- THE CELL 'sum', in the pinned program and in every row, IS THE sha256 OF THE DUMP (.gsa) THAT YtcekbbkidipbnaaGreatProg.lean LOADS. Nothing in Lean hashes anything: it is a label: what it is worth is what the hold of that sum in a sandbox is worth. -/
noncomputable def Tryz.pinned : Pinned := { name := "ytcekbbkidipbnaagreat", sum := "d5c9b1ae0fa8fa9955d05e59404048c902a5631ef6a45d511aa51a8f46e8b5d7", checked := Tryz.checked }
namespace Rows
def none {H : Type} : Left H := { results := [], args := [] }

/-- 'scholiastlaw05.ExprReader': WHATEVER THE INPUT: true; the input reads as it did. -/
def exprReaderSpec : ChangeSpec := { name := "exprReader", fn := fun _ => fun
  | [d1, d2] => { results := [.lit (.bool true)], args := [d1, d2] }
  | _ => none }
def exprReaderRow : OpenClaim := { program := "ytcekbbkidipbnaagreat", sum := "d5c9b1ae0fa8fa9955d05e59404048c902a5631ef6a45d511aa51a8f46e8b5d7", func := "scholiast/scholiastlaw05.ExprReader", spec := "exprReader", inPlace := ["slices.overlaps[scholiast/expr.built]"], unfollowed := true, recurses := true, apart := false }
def ExprReaderSaid : Prop := exprReaderRow.holds Tryz.pinned (OpenSpec.ofChange exprReaderSpec)

/-- ITS FALSE NEIGHBOUR: 'it returns false'. Refute it at one input. -/
def exprReaderWrong : ChangeSpec := { name := "exprReader", fn := fun _ => fun
  | [d1, d2] => { results := [.lit (.bool false)], args := [d1, d2] }
  | _ => none }
def ExprReaderWrongFalsely : Prop := exprReaderRow.holds Tryz.pinned (OpenSpec.ofChange exprReaderWrong)

/-- 'scholiastlaw05.ExprParses': WHATEVER THE INPUT: true; the input reads as it did. -/
def exprParsesSpec : ChangeSpec := { name := "exprParses", fn := fun _ => fun
  | [d] => { results := [.lit (.bool true)], args := [d] }
  | _ => none }
def exprParsesRow : OpenClaim := { program := "ytcekbbkidipbnaagreat", sum := "d5c9b1ae0fa8fa9955d05e59404048c902a5631ef6a45d511aa51a8f46e8b5d7", func := "scholiast/scholiastlaw05.ExprParses", spec := "exprParses", unfollowed := true, recurses := true, apart := false }
def ExprParsesSaid : Prop := exprParsesRow.holds Tryz.pinned (OpenSpec.ofChange exprParsesSpec)

/-- ITS FALSE NEIGHBOUR: 'it returns false'. Refute it at one input. -/
def exprParsesWrong : ChangeSpec := { name := "exprParses", fn := fun _ => fun
  | [d] => { results := [.lit (.bool false)], args := [d] }
  | _ => none }
def ExprParsesWrongFalsely : Prop := exprParsesRow.holds Tryz.pinned (OpenSpec.ofChange exprParsesWrong)

/-- 'scholiastlaw05.ExprTexts': WHATEVER THE INPUT: true; the input reads as it did. -/
def exprTextsSpec : ChangeSpec := { name := "exprTexts", fn := fun _ => fun
  | [d] => { results := [.lit (.bool true)], args := [d] }
  | _ => none }
def exprTextsRow : OpenClaim := { program := "ytcekbbkidipbnaagreat", sum := "d5c9b1ae0fa8fa9955d05e59404048c902a5631ef6a45d511aa51a8f46e8b5d7", func := "scholiast/scholiastlaw05.ExprTexts", spec := "exprTexts", unfollowed := true, recurses := true, apart := false }
def ExprTextsSaid : Prop := exprTextsRow.holds Tryz.pinned (OpenSpec.ofChange exprTextsSpec)

/-- ITS FALSE NEIGHBOUR: 'it returns false'. Refute it at one input. -/
def exprTextsWrong : ChangeSpec := { name := "exprTexts", fn := fun _ => fun
  | [d] => { results := [.lit (.bool false)], args := [d] }
  | _ => none }
def ExprTextsWrongFalsely : Prop := exprTextsRow.holds Tryz.pinned (OpenSpec.ofChange exprTextsWrong)

/-- 'scholiastlaw05.ExprLossless': WHATEVER THE INPUT: true; the input reads as it did. -/
def exprLosslessSpec : ChangeSpec := { name := "exprLossless", fn := fun _ => fun
  | [d1, d2] => { results := [.lit (.bool true)], args := [d1, d2] }
  | _ => none }
def exprLosslessRow : OpenClaim := { program := "ytcekbbkidipbnaagreat", sum := "d5c9b1ae0fa8fa9955d05e59404048c902a5631ef6a45d511aa51a8f46e8b5d7", func := "scholiast/scholiastlaw05.ExprLossless", spec := "exprLossless", unfollowed := true, recurses := true, apart := false }
def ExprLosslessSaid : Prop := exprLosslessRow.holds Tryz.pinned (OpenSpec.ofChange exprLosslessSpec)

/-- ITS FALSE NEIGHBOUR: 'it returns false'. Refute it at one input. -/
def exprLosslessWrong : ChangeSpec := { name := "exprLossless", fn := fun _ => fun
  | [d1, d2] => { results := [.lit (.bool false)], args := [d1, d2] }
  | _ => none }
def ExprLosslessWrongFalsely : Prop := exprLosslessRow.holds Tryz.pinned (OpenSpec.ofChange exprLosslessWrong)

/-- 'scholiastlaw05.ExprDeep': WHATEVER THE INPUT: true; the input reads as it did. -/
def exprDeepSpec : ChangeSpec := { name := "exprDeep", fn := fun _ => fun
  | [d1, d2, d3] => { results := [.lit (.bool true)], args := [d1, d2, d3] }
  | _ => none }
def exprDeepRow : OpenClaim := { program := "ytcekbbkidipbnaagreat", sum := "d5c9b1ae0fa8fa9955d05e59404048c902a5631ef6a45d511aa51a8f46e8b5d7", func := "scholiast/scholiastlaw05.ExprDeep", spec := "exprDeep", unfollowed := true, recurses := true, apart := false }
def ExprDeepSaid : Prop := exprDeepRow.holds Tryz.pinned (OpenSpec.ofChange exprDeepSpec)

/-- ITS FALSE NEIGHBOUR: 'it returns false'. Refute it at one input. -/
def exprDeepWrong : ChangeSpec := { name := "exprDeep", fn := fun _ => fun
  | [d1, d2, d3] => { results := [.lit (.bool false)], args := [d1, d2, d3] }
  | _ => none }
def ExprDeepWrongFalsely : Prop := exprDeepRow.holds Tryz.pinned (OpenSpec.ofChange exprDeepWrong)

/- THE SECOND FORM. 'bulk': how many values and letters a reading holds, each counted each time it is reached (what is shared counts as often as it is met; a slice's spare places count too). A statement '..UptoSaid' is the law's where the arguments, and the package variables that the reading takes, are together of bulk at most 1048576: NARROWER than '..Said'. Prove '..Said' where nothing that the law and all that it calls make is longer than what came in: it says more and counts as full. Else prove '..UptoSaid'. A law counts once. -/
mutual
def uptoBulk {H : Type} : DataW H → Nat
  | .lit (.string bytes) => bytes.length + 1
  | .lit _ => 1
  | .nil => 1
  | .ptr d => uptoBulk d + 1
  | .slice elems spare => uptoBulkAll elems + uptoBulkAll spare + 1
  | .agg parts => uptoBulkAll parts + 1
  | .iface _ d => uptoBulk d + 1
  | .map entries => uptoBulkEntries entries + 1
  | .held _ => 1
def uptoBulkAll {H : Type} : List (DataW H) → Nat
  | [] => 0
  | d :: r => uptoBulk d + uptoBulkAll r
def uptoBulkEntries {H : Type} : List (Lit × DataW H) → Nat
  | [] => 0
  | x :: r => uptoBulkEntry x + uptoBulkEntries r
def uptoBulkEntry {H : Type} : Lit × DataW H → Nat
  | (.string bytes, d) => bytes.length + uptoBulk d + 1
  | (_, d) => uptoBulk d + 1
 end
def uptoSmall : (H : Type) → List (DataW H) → Bool := fun _ ds => decide (uptoBulkAll ds ≤ 1048576)
def OpenSpec.upto (s : _root_.Go.ChangeSpec) : _root_.Go.OpenSpec := { _root_.Go.OpenSpec.ofChange s with cond := some uptoSmall }

/-- 'scholiastlaw05.ExprReader', WHERE WHAT IT READS IS OF BULK AT MOST 1048576: true; the input reads as it did. -/
def exprReaderUptoRow : OpenClaim := { program := "ytcekbbkidipbnaagreat", sum := "d5c9b1ae0fa8fa9955d05e59404048c902a5631ef6a45d511aa51a8f46e8b5d7", func := "scholiast/scholiastlaw05.ExprReader", spec := "exprReader", inPlace := ["slices.overlaps[scholiast/expr.built]"], unfollowed := true, recurses := true, apart := false, narrowed := true }
def ExprReaderUptoSaid : Prop := exprReaderUptoRow.holds Tryz.pinned (OpenSpec.upto exprReaderSpec)

/-- 'scholiastlaw05.ExprParses', WHERE WHAT IT READS IS OF BULK AT MOST 1048576: true; the input reads as it did. -/
def exprParsesUptoRow : OpenClaim := { program := "ytcekbbkidipbnaagreat", sum := "d5c9b1ae0fa8fa9955d05e59404048c902a5631ef6a45d511aa51a8f46e8b5d7", func := "scholiast/scholiastlaw05.ExprParses", spec := "exprParses", unfollowed := true, recurses := true, apart := false, narrowed := true }
def ExprParsesUptoSaid : Prop := exprParsesUptoRow.holds Tryz.pinned (OpenSpec.upto exprParsesSpec)

/-- 'scholiastlaw05.ExprTexts', WHERE WHAT IT READS IS OF BULK AT MOST 1048576: true; the input reads as it did. -/
def exprTextsUptoRow : OpenClaim := { program := "ytcekbbkidipbnaagreat", sum := "d5c9b1ae0fa8fa9955d05e59404048c902a5631ef6a45d511aa51a8f46e8b5d7", func := "scholiast/scholiastlaw05.ExprTexts", spec := "exprTexts", unfollowed := true, recurses := true, apart := false, narrowed := true }
def ExprTextsUptoSaid : Prop := exprTextsUptoRow.holds Tryz.pinned (OpenSpec.upto exprTextsSpec)

/-- 'scholiastlaw05.ExprLossless', WHERE WHAT IT READS IS OF BULK AT MOST 1048576: true; the input reads as it did. -/
def exprLosslessUptoRow : OpenClaim := { program := "ytcekbbkidipbnaagreat", sum := "d5c9b1ae0fa8fa9955d05e59404048c902a5631ef6a45d511aa51a8f46e8b5d7", func := "scholiast/scholiastlaw05.ExprLossless", spec := "exprLossless", unfollowed := true, recurses := true, apart := false, narrowed := true }
def ExprLosslessUptoSaid : Prop := exprLosslessUptoRow.holds Tryz.pinned (OpenSpec.upto exprLosslessSpec)

/-- 'scholiastlaw05.ExprDeep', WHERE WHAT IT READS IS OF BULK AT MOST 1048576: true; the input reads as it did. -/
def exprDeepUptoRow : OpenClaim := { program := "ytcekbbkidipbnaagreat", sum := "d5c9b1ae0fa8fa9955d05e59404048c902a5631ef6a45d511aa51a8f46e8b5d7", func := "scholiast/scholiastlaw05.ExprDeep", spec := "exprDeep", unfollowed := true, recurses := true, apart := false, narrowed := true }
def ExprDeepUptoSaid : Prop := exprDeepUptoRow.holds Tryz.pinned (OpenSpec.upto exprDeepSpec)

end Rows
end Go.Proofs.YtcekbbkidipbnaaGreat
