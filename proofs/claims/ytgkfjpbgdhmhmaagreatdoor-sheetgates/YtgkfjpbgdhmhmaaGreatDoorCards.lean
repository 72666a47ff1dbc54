/-
  DERIVED. GIVEN WITH THE SEED: THE CARDS: each row of YtgkfjpbgdhmhmaaGreatDoorRows.lean that lists a variable, with what it lists TIED to the program's text (the seventh form; the later family's looks); each row that meets fmt, with fmt's text TOLD by the authors' own Lean function (tested against real Go, not proved from fmt's source: count such statements apart). THE CARD IS WHAT COUNTS. Prove the row's statement (the work); the ties are given (YtgkfjpbgdhmhmaaGreatDoorTie.lean); close each card by the builder's one call (the guide's Derived/Test/ToyasCard.lean, 'card_holds'). Laid BY PROGRAM, IN A SANDBOX (cutbox-door.mjs). By AI agents, Wed Nov 11 2026. No macro, syntax, notation, axiom, sorry.
-/
import Derived.Test.YtgkfjpbgdhmhmaaGreatDoorRows
import GoSem.ClaimSeven
namespace Go.Proofs.YtgkfjpbgdhmhmaaGreatDoor
namespace Rows

/-- THE TIED CARD OF 'sigillaw13.SheetFits'. -/
def sheetFitsCard : Claim7 := { stood := { row := sheetFitsRow, standIns := [], harness := (true, "495f0adf8124499b426f7de31c5ce4777543312b3105de0570319235eebb03e9"), looks := true }, kinds := [], alts := [], laidByText := true, laidKinds := [.data], laidTests := true, laidLooks := .later }
def SheetFitsCardSaid : Prop := Claim7.holds Tryz.pinned (.plain (OpenSpec.ofChange sheetFitsSpec)) sheetFitsCard

/-- THE TIED CARD OF 'sigillaw13.SheetFaults'. -/
def sheetFaultsCard : Claim7 := { stood := { row := sheetFaultsRow, standIns := [], harness := (true, "495f0adf8124499b426f7de31c5ce4777543312b3105de0570319235eebb03e9"), looks := true }, kinds := [], alts := [], laidByText := true, laidKinds := [.data], laidTests := true, laidLooks := .later }
def SheetFaultsCardSaid : Prop := Claim7.holds Tryz.pinned (.plain (OpenSpec.ofChange sheetFaultsSpec)) sheetFaultsCard

/-- THE TIED CARD OF 'sigillaw13.SheetGates'. -/
def sheetGatesCard : Claim7 := { stood := { row := sheetGatesRow, standIns := [], harness := (true, "495f0adf8124499b426f7de31c5ce4777543312b3105de0570319235eebb03e9"), looks := true }, kinds := [], alts := [], laidByText := true, laidKinds := [.data], laidTests := true, laidLooks := .later }
def SheetGatesCardSaid : Prop := Claim7.holds Tryz.pinned (.plain (OpenSpec.ofChange sheetGatesSpec)) sheetGatesCard

/-- THE TIED CARD OF 'sigillaw13.SheetParts'. -/
def sheetPartsCard : Claim7 := { stood := { row := sheetPartsRow, standIns := [], harness := (true, "495f0adf8124499b426f7de31c5ce4777543312b3105de0570319235eebb03e9"), looks := true }, kinds := [], alts := [], laidByText := true, laidKinds := [.data], laidTests := true, laidLooks := .later }
def SheetPartsCardSaid : Prop := Claim7.holds Tryz.pinned (.plain (OpenSpec.ofChange sheetPartsSpec)) sheetPartsCard

/-- THE TIED CARD OF 'sigillaw13.SheetMods'. -/
def sheetModsCard : Claim7 := { stood := { row := sheetModsRow, standIns := [], harness := (true, "495f0adf8124499b426f7de31c5ce4777543312b3105de0570319235eebb03e9"), looks := true }, kinds := [], alts := [], laidByText := true, laidKinds := [.data], laidTests := true, laidLooks := .later }
def SheetModsCardSaid : Prop := Claim7.holds Tryz.pinned (.plain (OpenSpec.ofChange sheetModsSpec)) sheetModsCard

/-- THE SECOND FORM's CARD OF 'sigillaw13.SheetFits'. -/
def sheetFitsUptoCard : Claim7 := { stood := { row := sheetFitsUptoRow, standIns := [], harness := (true, "495f0adf8124499b426f7de31c5ce4777543312b3105de0570319235eebb03e9"), looks := true }, kinds := [], alts := [], laidByText := true, laidKinds := [.data], laidTests := true, laidLooks := .later }
def SheetFitsUptoCardSaid : Prop := Claim7.holds Tryz.pinned (.plain (OpenSpec.upto sheetFitsSpec)) sheetFitsUptoCard

/-- THE SECOND FORM's CARD OF 'sigillaw13.SheetFaults'. -/
def sheetFaultsUptoCard : Claim7 := { stood := { row := sheetFaultsUptoRow, standIns := [], harness := (true, "495f0adf8124499b426f7de31c5ce4777543312b3105de0570319235eebb03e9"), looks := true }, kinds := [], alts := [], laidByText := true, laidKinds := [.data], laidTests := true, laidLooks := .later }
def SheetFaultsUptoCardSaid : Prop := Claim7.holds Tryz.pinned (.plain (OpenSpec.upto sheetFaultsSpec)) sheetFaultsUptoCard

/-- THE SECOND FORM's CARD OF 'sigillaw13.SheetGates'. -/
def sheetGatesUptoCard : Claim7 := { stood := { row := sheetGatesUptoRow, standIns := [], harness := (true, "495f0adf8124499b426f7de31c5ce4777543312b3105de0570319235eebb03e9"), looks := true }, kinds := [], alts := [], laidByText := true, laidKinds := [.data], laidTests := true, laidLooks := .later }
def SheetGatesUptoCardSaid : Prop := Claim7.holds Tryz.pinned (.plain (OpenSpec.upto sheetGatesSpec)) sheetGatesUptoCard

/-- THE SECOND FORM's CARD OF 'sigillaw13.SheetParts'. -/
def sheetPartsUptoCard : Claim7 := { stood := { row := sheetPartsUptoRow, standIns := [], harness := (true, "495f0adf8124499b426f7de31c5ce4777543312b3105de0570319235eebb03e9"), looks := true }, kinds := [], alts := [], laidByText := true, laidKinds := [.data], laidTests := true, laidLooks := .later }
def SheetPartsUptoCardSaid : Prop := Claim7.holds Tryz.pinned (.plain (OpenSpec.upto sheetPartsSpec)) sheetPartsUptoCard

/-- THE SECOND FORM's CARD OF 'sigillaw13.SheetMods'. -/
def sheetModsUptoCard : Claim7 := { stood := { row := sheetModsUptoRow, standIns := [], harness := (true, "495f0adf8124499b426f7de31c5ce4777543312b3105de0570319235eebb03e9"), looks := true }, kinds := [], alts := [], laidByText := true, laidKinds := [.data], laidTests := true, laidLooks := .later }
def SheetModsUptoCardSaid : Prop := Claim7.holds Tryz.pinned (.plain (OpenSpec.upto sheetModsSpec)) sheetModsUptoCard
end Rows
end Go.Proofs.YtgkfjpbgdhmhmaaGreatDoor
