/-
  DERIVED. GIVEN WITH THE SEED: THE CARDS: each row of YtjbamlmdeopcaaaGreatDoorRows.lean that lists a variable, with what it lists TIED to the program's text (the seventh form; the later family's looks); each row that meets fmt, with fmt's text TOLD by the authors' own Lean function (tested against real Go, not proved from fmt's source: count such statements apart). THE CARD IS WHAT COUNTS. Prove the row's statement (the work); the ties are given (YtjbamlmdeopcaaaGreatDoorTie.lean); close each card by the builder's one call (the guide's Derived/Test/ToyasCard.lean, 'card_holds'). Laid BY PROGRAM, IN A SANDBOX (cutbox-door.mjs). By AI agents, Wed Nov 11 2026. No macro, syntax, notation, axiom, sorry.
-/
import Derived.Test.YtjbamlmdeopcaaaGreatDoorRows
import GoSem.ClaimSeven
namespace Go.Proofs.YtjbamlmdeopcaaaGreatDoor
namespace Rows

/-- THE TIED CARD OF 'scholiastlaw03.LexerLines'. -/
def lexerLinesCard : Claim7 := { stood := { row := lexerLinesRow, standIns := [], harness := (true, "0fc1f4968fcbe18f07cc07bafcfe45713a526d907727f1389e0ae0ac2cb11ce8"), looks := false }, kinds := [], alts := [], laidByText := true, laidKinds := [.data, .pinned], laidTests := true, laidLooks := .later }
def LexerLinesCardSaid : Prop := Claim7.holds Tryz.pinned (.plain (OpenSpec.ofChange lexerLinesSpec)) lexerLinesCard

/-- THE TIED CARD OF 'scholiastlaw03.LexerScans'. -/
def lexerScansCard : Claim7 := { stood := { row := lexerScansRow, standIns := [], harness := (true, "0fc1f4968fcbe18f07cc07bafcfe45713a526d907727f1389e0ae0ac2cb11ce8"), looks := false }, kinds := [], alts := [], laidByText := true, laidKinds := [.data, .pinned], laidTests := true, laidLooks := .later }
def LexerScansCardSaid : Prop := Claim7.holds Tryz.pinned (.plain (OpenSpec.ofChange lexerScansSpec)) lexerScansCard

/-- THE TIED CARD OF 'scholiastlaw03.LexerAgain'. -/
def lexerAgainCard : Claim7 := { stood := { row := lexerAgainRow, standIns := [], harness := (true, "0fc1f4968fcbe18f07cc07bafcfe45713a526d907727f1389e0ae0ac2cb11ce8"), looks := false }, kinds := [], alts := [], laidByText := true, laidKinds := [.data, .pinned], laidTests := true, laidLooks := .later }
def LexerAgainCardSaid : Prop := Claim7.holds Tryz.pinned (.plain (OpenSpec.ofChange lexerAgainSpec)) lexerAgainCard

/-- THE TIED CARD OF 'scholiastlaw03.LexerEdits'. -/
def lexerEditsCard : Claim7 := { stood := { row := lexerEditsRow, standIns := [], harness := (true, "0fc1f4968fcbe18f07cc07bafcfe45713a526d907727f1389e0ae0ac2cb11ce8"), looks := false }, kinds := [], alts := [], laidByText := true, laidKinds := [.data, .pinned], laidTests := true, laidLooks := .later }
def LexerEditsCardSaid : Prop := Claim7.holds Tryz.pinned (.plain (OpenSpec.ofChange lexerEditsSpec)) lexerEditsCard

/-- THE SECOND FORM's CARD OF 'scholiastlaw03.LexerLines'. -/
def lexerLinesUptoCard : Claim7 := { stood := { row := lexerLinesUptoRow, standIns := [], harness := (true, "0fc1f4968fcbe18f07cc07bafcfe45713a526d907727f1389e0ae0ac2cb11ce8"), looks := false }, kinds := [], alts := [], laidByText := true, laidKinds := [.data, .pinned], laidTests := true, laidLooks := .later }
def LexerLinesUptoCardSaid : Prop := Claim7.holds Tryz.pinned (.plain (OpenSpec.upto lexerLinesSpec)) lexerLinesUptoCard

/-- THE SECOND FORM's CARD OF 'scholiastlaw03.LexerScans'. -/
def lexerScansUptoCard : Claim7 := { stood := { row := lexerScansUptoRow, standIns := [], harness := (true, "0fc1f4968fcbe18f07cc07bafcfe45713a526d907727f1389e0ae0ac2cb11ce8"), looks := false }, kinds := [], alts := [], laidByText := true, laidKinds := [.data, .pinned], laidTests := true, laidLooks := .later }
def LexerScansUptoCardSaid : Prop := Claim7.holds Tryz.pinned (.plain (OpenSpec.upto lexerScansSpec)) lexerScansUptoCard

/-- THE SECOND FORM's CARD OF 'scholiastlaw03.LexerAgain'. -/
def lexerAgainUptoCard : Claim7 := { stood := { row := lexerAgainUptoRow, standIns := [], harness := (true, "0fc1f4968fcbe18f07cc07bafcfe45713a526d907727f1389e0ae0ac2cb11ce8"), looks := false }, kinds := [], alts := [], laidByText := true, laidKinds := [.data, .pinned], laidTests := true, laidLooks := .later }
def LexerAgainUptoCardSaid : Prop := Claim7.holds Tryz.pinned (.plain (OpenSpec.upto lexerAgainSpec)) lexerAgainUptoCard

/-- THE SECOND FORM's CARD OF 'scholiastlaw03.LexerEdits'. -/
def lexerEditsUptoCard : Claim7 := { stood := { row := lexerEditsUptoRow, standIns := [], harness := (true, "0fc1f4968fcbe18f07cc07bafcfe45713a526d907727f1389e0ae0ac2cb11ce8"), looks := false }, kinds := [], alts := [], laidByText := true, laidKinds := [.data, .pinned], laidTests := true, laidLooks := .later }
def LexerEditsUptoCardSaid : Prop := Claim7.holds Tryz.pinned (.plain (OpenSpec.upto lexerEditsSpec)) lexerEditsUptoCard
end Rows
end Go.Proofs.YtjbamlmdeopcaaaGreatDoor
