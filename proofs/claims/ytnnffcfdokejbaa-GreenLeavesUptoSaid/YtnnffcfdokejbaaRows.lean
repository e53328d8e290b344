/-
  NARROWER THAN 'FOR EVERY INPUT', by the rows' own cells (each row's printed sentence says how): GreenChecks: loops · GreenPuts: loops · GreenOnce: loops · GreenLeaves: loops · GreenText: loops · GreenFinds: loops · GreenTells: loops.
  DERIVED. THE GIVEN ROWS OF THIS SEAT. 7 by the template 'for every input the law returns true; each argument reads behind the call as it read before'; 0 by the template 'total and deterministic' (their statements: YtnnffcfdokejbaaTotals.lean).
  GIVEN WITH THE SEED: the statements are not yours to turn. If you find one false, say at which input.
  Laid BY PROGRAM, IN A SANDBOX (cutbox-rows.mjs): the forced cells as the released guide's own fill.sh prints them over the translation ce15db4bfcc7b4f7… (all of the seat's roots in one cut). By AI agents, Wed Nov 11 2026. No macro, syntax, notation, axiom, sorry.
-/
import Derived.Test.YtnnffcfdokejbaaChecked
import GoSem.Claim
import GoSem.ClaimJoined
import GoSem.ClaimMapViews
import Derived.JoinedTies
import Derived.KernelRfl
namespace Go.Proofs.Ytnnffcfdokejbaa
/- THE CELL 'sum', in the pinned program and in every row, IS THE sha256 OF THE DUMP (.gsa) THAT YtnnffcfdokejbaaProg.lean LOADS. Nothing in Lean hashes anything: it is a label: what it is worth is what the hold of that sum in a sandbox is worth. -/
noncomputable def Try.pinned : Pinned := { name := "ytnnffcfdokejbaa", sum := "ce15db4bfcc7b4f77af295506e7544fb80560c088643a28061c9357480cf69cd", checked := Try.checked }
namespace Rows
def none {H : Type} : Left H := { results := [], args := [] }

/-- 'scholiastlaw08.GreenChecks': WHATEVER THE INPUT: true; the input reads as it did. -/
def greenChecksSpec : ChangeSpec := { name := "greenChecks", fn := fun _ => fun
  | [d1, d2] => { results := [.lit (.bool true)], args := [d1, d2] }
  | _ => none }
def greenChecksRow : OpenClaim := { program := "ytnnffcfdokejbaa", sum := "ce15db4bfcc7b4f77af295506e7544fb80560c088643a28061c9357480cf69cd", func := "scholiast/scholiastlaw08.GreenChecks", spec := "greenChecks", inPlace := ["internal/abi.NoEscape", "internal/bytealg.MakeNoZero"], unfollowed := true, recurses := true, loops := true, plainKeys := false, apart := false }
def GreenChecksSaid : Prop := greenChecksRow.holds Try.pinned (OpenSpec.ofChange greenChecksSpec)

/-- ITS FALSE NEIGHBOUR: 'it returns false'. Refute it at one input. -/
def greenChecksWrong : ChangeSpec := { name := "greenChecks", fn := fun _ => fun
  | [d1, d2] => { results := [.lit (.bool false)], args := [d1, d2] }
  | _ => none }
def GreenChecksWrongFalsely : Prop := greenChecksRow.holds Try.pinned (OpenSpec.ofChange greenChecksWrong)

/-- 'scholiastlaw08.GreenPuts': WHATEVER THE INPUT: true; the input reads as it did. -/
def greenPutsSpec : ChangeSpec := { name := "greenPuts", fn := fun _ => fun
  | [d1, d2, d3] => { results := [.lit (.bool true)], args := [d1, d2, d3] }
  | _ => none }
def greenPutsRow : OpenClaim := { program := "ytnnffcfdokejbaa", sum := "ce15db4bfcc7b4f77af295506e7544fb80560c088643a28061c9357480cf69cd", func := "scholiast/scholiastlaw08.GreenPuts", spec := "greenPuts", inPlace := ["internal/abi.NoEscape", "internal/bytealg.MakeNoZero"], unfollowed := true, recurses := true, loops := true, plainKeys := false, apart := false }
def GreenPutsSaid : Prop := greenPutsRow.holds Try.pinned (OpenSpec.ofChange greenPutsSpec)

/-- ITS FALSE NEIGHBOUR: 'it returns false'. Refute it at one input. -/
def greenPutsWrong : ChangeSpec := { name := "greenPuts", fn := fun _ => fun
  | [d1, d2, d3] => { results := [.lit (.bool false)], args := [d1, d2, d3] }
  | _ => none }
def GreenPutsWrongFalsely : Prop := greenPutsRow.holds Try.pinned (OpenSpec.ofChange greenPutsWrong)

/-- 'scholiastlaw08.GreenOnce': WHATEVER THE INPUT: true; the input reads as it did. -/
def greenOnceSpec : ChangeSpec := { name := "greenOnce", fn := fun _ => fun
  | [d1, d2, d3] => { results := [.lit (.bool true)], args := [d1, d2, d3] }
  | _ => none }
def greenOnceRow : OpenClaim := { program := "ytnnffcfdokejbaa", sum := "ce15db4bfcc7b4f77af295506e7544fb80560c088643a28061c9357480cf69cd", func := "scholiast/scholiastlaw08.GreenOnce", spec := "greenOnce", inPlace := ["internal/abi.NoEscape", "internal/bytealg.MakeNoZero"], unfollowed := true, recurses := true, loops := true, plainKeys := false, apart := false }
def GreenOnceSaid : Prop := greenOnceRow.holds Try.pinned (OpenSpec.ofChange greenOnceSpec)

/-- ITS FALSE NEIGHBOUR: 'it returns false'. Refute it at one input. -/
def greenOnceWrong : ChangeSpec := { name := "greenOnce", fn := fun _ => fun
  | [d1, d2, d3] => { results := [.lit (.bool false)], args := [d1, d2, d3] }
  | _ => none }
def GreenOnceWrongFalsely : Prop := greenOnceRow.holds Try.pinned (OpenSpec.ofChange greenOnceWrong)

/-- 'scholiastlaw08.GreenLeaves': WHATEVER THE INPUT: true; the input reads as it did. -/
def greenLeavesSpec : ChangeSpec := { name := "greenLeaves", fn := fun _ => fun
  | [d1, d2] => { results := [.lit (.bool true)], args := [d1, d2] }
  | _ => none }
def greenLeavesRow : OpenClaim := { program := "ytnnffcfdokejbaa", sum := "ce15db4bfcc7b4f77af295506e7544fb80560c088643a28061c9357480cf69cd", func := "scholiast/scholiastlaw08.GreenLeaves", spec := "greenLeaves", inPlace := ["internal/abi.NoEscape", "internal/bytealg.MakeNoZero"], unfollowed := true, recurses := true, loops := true, plainKeys := false, apart := false }
def GreenLeavesSaid : Prop := greenLeavesRow.holds Try.pinned (OpenSpec.ofChange greenLeavesSpec)

/-- ITS FALSE NEIGHBOUR: 'it returns false'. Refute it at one input. -/
def greenLeavesWrong : ChangeSpec := { name := "greenLeaves", fn := fun _ => fun
  | [d1, d2] => { results := [.lit (.bool false)], args := [d1, d2] }
  | _ => none }
def GreenLeavesWrongFalsely : Prop := greenLeavesRow.holds Try.pinned (OpenSpec.ofChange greenLeavesWrong)

/-- 'scholiastlaw08.GreenText': WHATEVER THE INPUT: true; the input reads as it did. -/
def greenTextSpec : ChangeSpec := { name := "greenText", fn := fun _ => fun
  | [d] => { results := [.lit (.bool true)], args := [d] }
  | _ => none }
def greenTextRow : OpenClaim := { program := "ytnnffcfdokejbaa", sum := "ce15db4bfcc7b4f77af295506e7544fb80560c088643a28061c9357480cf69cd", func := "scholiast/scholiastlaw08.GreenText", spec := "greenText", inPlace := ["internal/abi.NoEscape", "internal/bytealg.MakeNoZero"], unfollowed := true, recurses := true, loops := true, plainKeys := false, apart := false }
def GreenTextSaid : Prop := greenTextRow.holds Try.pinned (OpenSpec.ofChange greenTextSpec)

/-- ITS FALSE NEIGHBOUR: 'it returns false'. Refute it at one input. -/
def greenTextWrong : ChangeSpec := { name := "greenText", fn := fun _ => fun
  | [d] => { results := [.lit (.bool false)], args := [d] }
  | _ => none }
def GreenTextWrongFalsely : Prop := greenTextRow.holds Try.pinned (OpenSpec.ofChange greenTextWrong)

/-- 'scholiastlaw08.GreenFinds': WHATEVER THE INPUT: true; the input reads as it did. -/
def greenFindsSpec : ChangeSpec := { name := "greenFinds", fn := fun _ => fun
  | [d1, d2, d3] => { results := [.lit (.bool true)], args := [d1, d2, d3] }
  | _ => none }
def greenFindsRow : OpenClaim := { program := "ytnnffcfdokejbaa", sum := "ce15db4bfcc7b4f77af295506e7544fb80560c088643a28061c9357480cf69cd", func := "scholiast/scholiastlaw08.GreenFinds", spec := "greenFinds", inPlace := ["internal/abi.NoEscape", "internal/bytealg.MakeNoZero"], unfollowed := true, recurses := true, loops := true, plainKeys := false, apart := false }
def GreenFindsSaid : Prop := greenFindsRow.holds Try.pinned (OpenSpec.ofChange greenFindsSpec)

/-- ITS FALSE NEIGHBOUR: 'it returns false'. Refute it at one input. -/
def greenFindsWrong : ChangeSpec := { name := "greenFinds", fn := fun _ => fun
  | [d1, d2, d3] => { results := [.lit (.bool false)], args := [d1, d2, d3] }
  | _ => none }
def GreenFindsWrongFalsely : Prop := greenFindsRow.holds Try.pinned (OpenSpec.ofChange greenFindsWrong)

/-- 'scholiastlaw08.GreenTells': WHATEVER THE INPUT: true; the input reads as it did. -/
def greenTellsSpec : ChangeSpec := { name := "greenTells", fn := fun _ => fun
  | [d1, d2, d3] => { results := [.lit (.bool true)], args := [d1, d2, d3] }
  | _ => none }
def greenTellsRow : OpenClaim := { program := "ytnnffcfdokejbaa", sum := "ce15db4bfcc7b4f77af295506e7544fb80560c088643a28061c9357480cf69cd", func := "scholiast/scholiastlaw08.GreenTells", spec := "greenTells", inPlace := ["internal/abi.NoEscape", "internal/bytealg.MakeNoZero"], unfollowed := true, recurses := true, loops := true, plainKeys := false, apart := false }
def GreenTellsSaid : Prop := greenTellsRow.holds Try.pinned (OpenSpec.ofChange greenTellsSpec)

/-- ITS FALSE NEIGHBOUR: 'it returns false'. Refute it at one input. -/
def greenTellsWrong : ChangeSpec := { name := "greenTells", fn := fun _ => fun
  | [d1, d2, d3] => { results := [.lit (.bool false)], args := [d1, d2, d3] }
  | _ => none }
def GreenTellsWrongFalsely : Prop := greenTellsRow.holds Try.pinned (OpenSpec.ofChange greenTellsWrong)

/- THE SECOND FORM. 'bulk': how many values and letters a reading holds, each counted each time it is reached (what is shared counts as often as it is met; a slice's spare places count too). A statement '..UptoSaid' is the law's where the arguments, and the package variables that the reading takes, are together of bulk at most 1048576: NARROWER than '..Said'. Prove '..Said' where nothing that the law and all that it calls make is longer than what came in: it says more and counts as full. Else prove '..UptoSaid'. A law counts once. -/
mutual
def uptoBulk {H : Type} : DataW H → Nat
  | .lit (.string bytes) => bytes.length + 1
  | .lit _ => 1
  | .nil => 1
  | .ptr d => uptoBulk d + 1
  | .slice elems spare => uptoBulkAll elems + uptoBulkAll spare + 1
  | .agg parts => uptoBulkAll parts + 1
  | .iface _ d => uptoBulk d + 1
  | .map entries => uptoBulkEntries entries + 1
  | .held _ => 1
def uptoBulkAll {H : Type} : List (DataW H) → Nat
  | [] => 0
  | d :: r => uptoBulk d + uptoBulkAll r
def uptoBulkEntries {H : Type} : List (Lit × DataW H) → Nat
  | [] => 0
  | x :: r => uptoBulkEntry x + uptoBulkEntries r
def uptoBulkEntry {H : Type} : Lit × DataW H → Nat
  | (.string bytes, d) => bytes.length + uptoBulk d + 1
  | (_, d) => uptoBulk d + 1
 end
def uptoSmall : (H : Type) → List (DataW H) → Bool := fun _ ds => decide (uptoBulkAll ds ≤ 1048576)
def OpenSpec.upto (s : _root_.Go.ChangeSpec) : _root_.Go.OpenSpec := { _root_.Go.OpenSpec.ofChange s with cond := some uptoSmall }

/-- 'scholiastlaw08.GreenChecks', WHERE WHAT IT READS IS OF BULK AT MOST 1048576: true; the input reads as it did. -/
def greenChecksUptoRow : OpenClaim := { program := "ytnnffcfdokejbaa", sum := "ce15db4bfcc7b4f77af295506e7544fb80560c088643a28061c9357480cf69cd", func := "scholiast/scholiastlaw08.GreenChecks", spec := "greenChecks", inPlace := ["internal/abi.NoEscape", "internal/bytealg.MakeNoZero"], unfollowed := true, recurses := true, loops := true, plainKeys := false, apart := false, narrowed := true }
def GreenChecksUptoSaid : Prop := greenChecksUptoRow.holds Try.pinned (OpenSpec.upto greenChecksSpec)

/-- 'scholiastlaw08.GreenPuts', WHERE WHAT IT READS IS OF BULK AT MOST 1048576: true; the input reads as it did. -/
def greenPutsUptoRow : OpenClaim := { program := "ytnnffcfdokejbaa", sum := "ce15db4bfcc7b4f77af295506e7544fb80560c088643a28061c9357480cf69cd", func := "scholiast/scholiastlaw08.GreenPuts", spec := "greenPuts", inPlace := ["internal/abi.NoEscape", "internal/bytealg.MakeNoZero"], unfollowed := true, recurses := true, loops := true, plainKeys := false, apart := false, narrowed := true }
def GreenPutsUptoSaid : Prop := greenPutsUptoRow.holds Try.pinned (OpenSpec.upto greenPutsSpec)

/-- 'scholiastlaw08.GreenOnce', WHERE WHAT IT READS IS OF BULK AT MOST 1048576: true; the input reads as it did. -/
def greenOnceUptoRow : OpenClaim := { program := "ytnnffcfdokejbaa", sum := "ce15db4bfcc7b4f77af295506e7544fb80560c088643a28061c9357480cf69cd", func := "scholiast/scholiastlaw08.GreenOnce", spec := "greenOnce", inPlace := ["internal/abi.NoEscape", "internal/bytealg.MakeNoZero"], unfollowed := true, recurses := true, loops := true, plainKeys := false, apart := false, narrowed := true }
def GreenOnceUptoSaid : Prop := greenOnceUptoRow.holds Try.pinned (OpenSpec.upto greenOnceSpec)

/-- 'scholiastlaw08.GreenLeaves', WHERE WHAT IT READS IS OF BULK AT MOST 1048576: true; the input reads as it did. -/
def greenLeavesUptoRow : OpenClaim := { program := "ytnnffcfdokejbaa", sum := "ce15db4bfcc7b4f77af295506e7544fb80560c088643a28061c9357480cf69cd", func := "scholiast/scholiastlaw08.GreenLeaves", spec := "greenLeaves", inPlace := ["internal/abi.NoEscape", "internal/bytealg.MakeNoZero"], unfollowed := true, recurses := true, loops := true, plainKeys := false, apart := false, narrowed := true }
def GreenLeavesUptoSaid : Prop := greenLeavesUptoRow.holds Try.pinned (OpenSpec.upto greenLeavesSpec)

/-- 'scholiastlaw08.GreenText', WHERE WHAT IT READS IS OF BULK AT MOST 1048576: true; the input reads as it did. -/
def greenTextUptoRow : OpenClaim := { program := "ytnnffcfdokejbaa", sum := "ce15db4bfcc7b4f77af295506e7544fb80560c088643a28061c9357480cf69cd", func := "scholiast/scholiastlaw08.GreenText", spec := "greenText", inPlace := ["internal/abi.NoEscape", "internal/bytealg.MakeNoZero"], unfollowed := true, recurses := true, loops := true, plainKeys := false, apart := false, narrowed := true }
def GreenTextUptoSaid : Prop := greenTextUptoRow.holds Try.pinned (OpenSpec.upto greenTextSpec)

/-- 'scholiastlaw08.GreenFinds', WHERE WHAT IT READS IS OF BULK AT MOST 1048576: true; the input reads as it did. -/
def greenFindsUptoRow : OpenClaim := { program := "ytnnffcfdokejbaa", sum := "ce15db4bfcc7b4f77af295506e7544fb80560c088643a28061c9357480cf69cd", func := "scholiast/scholiastlaw08.GreenFinds", spec := "greenFinds", inPlace := ["internal/abi.NoEscape", "internal/bytealg.MakeNoZero"], unfollowed := true, recurses := true, loops := true, plainKeys := false, apart := false, narrowed := true }
def GreenFindsUptoSaid : Prop := greenFindsUptoRow.holds Try.pinned (OpenSpec.upto greenFindsSpec)

/-- 'scholiastlaw08.GreenTells', WHERE WHAT IT READS IS OF BULK AT MOST 1048576: true; the input reads as it did. -/
def greenTellsUptoRow : OpenClaim := { program := "ytnnffcfdokejbaa", sum := "ce15db4bfcc7b4f77af295506e7544fb80560c088643a28061c9357480cf69cd", func := "scholiast/scholiastlaw08.GreenTells", spec := "greenTells", inPlace := ["internal/abi.NoEscape", "internal/bytealg.MakeNoZero"], unfollowed := true, recurses := true, loops := true, plainKeys := false, apart := false, narrowed := true }
def GreenTellsUptoSaid : Prop := greenTellsUptoRow.holds Try.pinned (OpenSpec.upto greenTellsSpec)

end Rows
end Go.Proofs.Ytnnffcfdokejbaa
