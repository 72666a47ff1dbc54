/-
  DERIVED. GIVEN WITH THE SEED: THE CARDS: each row of YtimjgebiffemnaaDoorRows.lean that lists a variable, with what it lists TIED to the program's text (the seventh form; the later family's looks); each row that meets fmt, with fmt's text TOLD by the authors' own Lean function (tested against real Go, not proved from fmt's source: count such statements apart). THE CARD IS WHAT COUNTS. Prove the row's statement (the work); the ties are given (YtimjgebiffemnaaDoorTie.lean); close each card by the builder's one call (the guide's Derived/Test/ToyasCard.lean, 'card_holds'). Laid BY PROGRAM, IN A SANDBOX (cutbox-door.mjs). By AI agents, Wed Nov 11 2026. No macro, syntax, notation, axiom, sorry.
-/
import Derived.Test.YtimjgebiffemnaaDoorRows
import GoSem.ClaimSeven
namespace Go.Proofs.YtimjgebiffemnaaDoor
namespace Rows

/-- THE TIED CARD OF 'sigillaw11.ExprChecks'. -/
def exprChecksCard : Claim7 := { stood := { row := exprChecksRow, standIns := [], harness := (true, "b5cd371974f986a2637e760674ec024890668f31a997469a5c1e76fef4bdcd59"), looks := true }, kinds := [], alts := [], laidByText := true, laidKinds := [.data], laidTests := true, laidLooks := .later }
def ExprChecksCardSaid : Prop := Claim7.holds Tryd.pinned (.plain (OpenSpec.ofChange exprChecksSpec)) exprChecksCard

/-- THE TIED CARD OF 'sigillaw11.ExprValues'. -/
def exprValuesCard : Claim7 := { stood := { row := exprValuesRow, standIns := [], harness := (true, "b5cd371974f986a2637e760674ec024890668f31a997469a5c1e76fef4bdcd59"), looks := true }, kinds := [], alts := [], laidByText := true, laidKinds := [.data], laidTests := true, laidLooks := .later }
def ExprValuesCardSaid : Prop := Claim7.holds Tryd.pinned (.plain (OpenSpec.ofChange exprValuesSpec)) exprValuesCard

/-- THE TIED CARD OF 'sigillaw11.ExprCones'. -/
def exprConesCard : Claim7 := { stood := { row := exprConesRow, standIns := [], harness := (true, "b5cd371974f986a2637e760674ec024890668f31a997469a5c1e76fef4bdcd59"), looks := true }, kinds := [], alts := [], laidByText := true, laidKinds := [.data], laidTests := true, laidLooks := .later }
def ExprConesCardSaid : Prop := Claim7.holds Tryd.pinned (.plain (OpenSpec.ofChange exprConesSpec)) exprConesCard

/-- THE TIED CARD OF 'sigillaw11.ExprLinear'. -/
def exprLinearCard : Claim7 := { stood := { row := exprLinearRow, standIns := [], harness := (true, "b5cd371974f986a2637e760674ec024890668f31a997469a5c1e76fef4bdcd59"), looks := true }, kinds := [], alts := [], laidByText := true, laidKinds := [.data], laidTests := true, laidLooks := .later }
def ExprLinearCardSaid : Prop := Claim7.holds Tryd.pinned (.plain (OpenSpec.ofChange exprLinearSpec)) exprLinearCard

/-- THE TIED CARD OF 'sigillaw11.ExprMemory'. -/
def exprMemoryCard : Claim7 := { stood := { row := exprMemoryRow, standIns := [], harness := (true, "b5cd371974f986a2637e760674ec024890668f31a997469a5c1e76fef4bdcd59"), looks := true }, kinds := [], alts := [], laidByText := true, laidKinds := [.data], laidTests := true, laidLooks := .later }
def ExprMemoryCardSaid : Prop := Claim7.holds Tryd.pinned (.plain (OpenSpec.ofChange exprMemorySpec)) exprMemoryCard

/-- THE SECOND FORM's CARD OF 'sigillaw11.ExprChecks'. -/
def exprChecksUptoCard : Claim7 := { stood := { row := exprChecksUptoRow, standIns := [], harness := (true, "b5cd371974f986a2637e760674ec024890668f31a997469a5c1e76fef4bdcd59"), looks := true }, kinds := [], alts := [], laidByText := true, laidKinds := [.data], laidTests := true, laidLooks := .later }
def ExprChecksUptoCardSaid : Prop := Claim7.holds Tryd.pinned (.plain (OpenSpec.upto exprChecksSpec)) exprChecksUptoCard

/-- THE SECOND FORM's CARD OF 'sigillaw11.ExprValues'. -/
def exprValuesUptoCard : Claim7 := { stood := { row := exprValuesUptoRow, standIns := [], harness := (true, "b5cd371974f986a2637e760674ec024890668f31a997469a5c1e76fef4bdcd59"), looks := true }, kinds := [], alts := [], laidByText := true, laidKinds := [.data], laidTests := true, laidLooks := .later }
def ExprValuesUptoCardSaid : Prop := Claim7.holds Tryd.pinned (.plain (OpenSpec.upto exprValuesSpec)) exprValuesUptoCard

/-- THE SECOND FORM's CARD OF 'sigillaw11.ExprCones'. -/
def exprConesUptoCard : Claim7 := { stood := { row := exprConesUptoRow, standIns := [], harness := (true, "b5cd371974f986a2637e760674ec024890668f31a997469a5c1e76fef4bdcd59"), looks := true }, kinds := [], alts := [], laidByText := true, laidKinds := [.data], laidTests := true, laidLooks := .later }
def ExprConesUptoCardSaid : Prop := Claim7.holds Tryd.pinned (.plain (OpenSpec.upto exprConesSpec)) exprConesUptoCard

/-- THE SECOND FORM's CARD OF 'sigillaw11.ExprLinear'. -/
def exprLinearUptoCard : Claim7 := { stood := { row := exprLinearUptoRow, standIns := [], harness := (true, "b5cd371974f986a2637e760674ec024890668f31a997469a5c1e76fef4bdcd59"), looks := true }, kinds := [], alts := [], laidByText := true, laidKinds := [.data], laidTests := true, laidLooks := .later }
def ExprLinearUptoCardSaid : Prop := Claim7.holds Tryd.pinned (.plain (OpenSpec.upto exprLinearSpec)) exprLinearUptoCard

/-- THE SECOND FORM's CARD OF 'sigillaw11.ExprMemory'. -/
def exprMemoryUptoCard : Claim7 := { stood := { row := exprMemoryUptoRow, standIns := [], harness := (true, "b5cd371974f986a2637e760674ec024890668f31a997469a5c1e76fef4bdcd59"), looks := true }, kinds := [], alts := [], laidByText := true, laidKinds := [.data], laidTests := true, laidLooks := .later }
def ExprMemoryUptoCardSaid : Prop := Claim7.holds Tryd.pinned (.plain (OpenSpec.upto exprMemorySpec)) exprMemoryUptoCard
end Rows
end Go.Proofs.YtimjgebiffemnaaDoor
