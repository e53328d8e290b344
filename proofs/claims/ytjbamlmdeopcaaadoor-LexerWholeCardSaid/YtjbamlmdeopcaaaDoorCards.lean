/-
  DERIVED. GIVEN WITH THE SEED: THE CARDS: each row of YtjbamlmdeopcaaaDoorRows.lean that lists a variable, with what it lists TIED to the program's text (the seventh form; the later family's looks); each row that meets fmt, with fmt's text TOLD by the authors' own Lean function (tested against real Go, not proved from fmt's source: count such statements apart). THE CARD IS WHAT COUNTS. Prove the row's statement (the work); the ties are given (YtjbamlmdeopcaaaDoorTie.lean); close each card by the builder's one call (the guide's Derived/Test/ToyasCard.lean, 'card_holds'). Laid BY PROGRAM, IN A SANDBOX (cutbox-door.mjs). By AI agents, Wed Nov 11 2026. No macro, syntax, notation, axiom, sorry.
-/
import Derived.Test.YtjbamlmdeopcaaaDoorRows
import GoSem.ClaimSeven
namespace Go.Proofs.YtjbamlmdeopcaaaDoor
namespace Rows

/-- THE TIED CARD OF 'scholiastlaw03.LexerWhole'. -/
def lexerWholeCard : Claim7 := { stood := { row := lexerWholeRow, standIns := [], harness := (true, "2851101b1d3ecb590c4dfce3796b7f214ddc9b3f6ff47e5e662152a8015c0e4d"), looks := false }, kinds := [], alts := [], laidByText := true, laidKinds := [.data, .pinned], laidTests := true, laidLooks := .later }
def LexerWholeCardSaid : Prop := Claim7.holds Tryd.pinned (.plain (OpenSpec.ofChange lexerWholeSpec)) lexerWholeCard

/-- THE SECOND FORM's CARD OF 'scholiastlaw03.LexerWhole'. -/
def lexerWholeUptoCard : Claim7 := { stood := { row := lexerWholeUptoRow, standIns := [], harness := (true, "2851101b1d3ecb590c4dfce3796b7f214ddc9b3f6ff47e5e662152a8015c0e4d"), looks := false }, kinds := [], alts := [], laidByText := true, laidKinds := [.data, .pinned], laidTests := true, laidLooks := .later }
def LexerWholeUptoCardSaid : Prop := Claim7.holds Tryd.pinned (.plain (OpenSpec.upto lexerWholeSpec)) lexerWholeUptoCard
end Rows
end Go.Proofs.YtjbamlmdeopcaaaDoor
