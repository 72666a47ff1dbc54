/-
  DERIVED. GIVEN WITH THE SEED: THE CARDS: each row of YtgldibfpidmfhaaGreatDoorRows.lean that lists a variable, with what it lists TIED to the program's text (the seventh form; the later family's looks); each row that meets fmt, with fmt's text TOLD by the authors' own Lean function (tested against real Go, not proved from fmt's source: count such statements apart). THE CARD IS WHAT COUNTS. Prove the row's statement (the work); the ties are given (YtgldibfpidmfhaaGreatDoorTie.lean); close each card by the builder's one call (the guide's Derived/Test/ToyasCard.lean, 'card_holds'). Laid BY PROGRAM, IN A SANDBOX (cutbox-door.mjs). By AI agents, Wed Nov 11 2026. No macro, syntax, notation, axiom, sorry.
-/
import Derived.Test.YtgldibfpidmfhaaGreatDoorRows
import GoSem.ClaimSeven
namespace Go.Proofs.YtgldibfpidmfhaaGreatDoor
namespace Rows

/-- THE TIED CARD OF 'sigillaw13.SheetFaults'. -/
def sheetFaultsCard : Claim7 := { stood := { row := sheetFaultsRow, standIns := [], harness := (true, "06edae16499d8d6ccf6f19365f4e752c0d2e22ee39e54a24d1a59170f5f3b09c"), looks := true }, kinds := [], alts := [], laidByText := true, laidKinds := [.data], laidTests := true, laidLooks := .later }
def SheetFaultsCardSaid : Prop := Claim7.holds Tryz.pinned (.plain (OpenSpec.ofChange sheetFaultsSpec)) sheetFaultsCard

/-- THE TIED CARD OF 'sigillaw13.SheetMods'. -/
def sheetModsCard : Claim7 := { stood := { row := sheetModsRow, standIns := [], harness := (true, "06edae16499d8d6ccf6f19365f4e752c0d2e22ee39e54a24d1a59170f5f3b09c"), looks := true }, kinds := [], alts := [], laidByText := true, laidKinds := [.data], laidTests := true, laidLooks := .later }
def SheetModsCardSaid : Prop := Claim7.holds Tryz.pinned (.plain (OpenSpec.ofChange sheetModsSpec)) sheetModsCard

/-- THE SECOND FORM's CARD OF 'sigillaw13.SheetFaults'. -/
def sheetFaultsUptoCard : Claim7 := { stood := { row := sheetFaultsUptoRow, standIns := [], harness := (true, "06edae16499d8d6ccf6f19365f4e752c0d2e22ee39e54a24d1a59170f5f3b09c"), looks := true }, kinds := [], alts := [], laidByText := true, laidKinds := [.data], laidTests := true, laidLooks := .later }
def SheetFaultsUptoCardSaid : Prop := Claim7.holds Tryz.pinned (.plain (OpenSpec.upto sheetFaultsSpec)) sheetFaultsUptoCard

/-- THE SECOND FORM's CARD OF 'sigillaw13.SheetMods'. -/
def sheetModsUptoCard : Claim7 := { stood := { row := sheetModsUptoRow, standIns := [], harness := (true, "06edae16499d8d6ccf6f19365f4e752c0d2e22ee39e54a24d1a59170f5f3b09c"), looks := true }, kinds := [], alts := [], laidByText := true, laidKinds := [.data], laidTests := true, laidLooks := .later }
def SheetModsUptoCardSaid : Prop := Claim7.holds Tryz.pinned (.plain (OpenSpec.upto sheetModsSpec)) sheetModsUptoCard
end Rows
end Go.Proofs.YtgldibfpidmfhaaGreatDoor
