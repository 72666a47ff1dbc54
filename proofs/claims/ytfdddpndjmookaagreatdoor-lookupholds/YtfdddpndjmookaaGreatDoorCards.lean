/-
  DERIVED. GIVEN WITH THE SEED: THE CARDS: each row of YtfdddpndjmookaaGreatDoorRows.lean that lists a variable, with what it lists TIED to the program's text (the seventh form; the later family's looks); each row that meets fmt, with fmt's text TOLD by the authors' own Lean function (tested against real Go, not proved from fmt's source: count such statements apart). THE CARD IS WHAT COUNTS. Prove the row's statement (the work); the ties are given (YtfdddpndjmookaaGreatDoorTie.lean); close each card by the builder's one call (the guide's Derived/Test/ToyasCard.lean, 'card_holds'). Laid BY PROGRAM, IN A SANDBOX (cutbox-door.mjs). By AI agents, Wed Nov 11 2026. No macro, syntax, notation, axiom, sorry.
-/
import Derived.Test.YtfdddpndjmookaaGreatDoorRows
import GoSem.ClaimSeven
namespace Go.Proofs.YtfdddpndjmookaaGreatDoor
namespace Rows

/-- THE TIED CARD OF 'sigillaw17.LookupHolds'. -/
def lookupHoldsCard : Claim7 := { stood := { row := lookupHoldsRow, standIns := [], harness := (true, "17539092a15b1073ad4227ee9ef35af474b23f1c07e3b1df0205721210249028"), looks := false }, kinds := [], alts := [], laidByText := true, laidKinds := [.data, .data, .data], laidTests := true, laidLooks := .later }
def LookupHoldsCardSaid : Prop := Claim7.holds Tryz.pinned (.plain (OpenSpec.ofChange lookupHoldsSpec)) lookupHoldsCard

/-- THE SECOND FORM's CARD OF 'sigillaw17.LookupHolds'. -/
def lookupHoldsUptoCard : Claim7 := { stood := { row := lookupHoldsUptoRow, standIns := [], harness := (true, "17539092a15b1073ad4227ee9ef35af474b23f1c07e3b1df0205721210249028"), looks := false }, kinds := [], alts := [], laidByText := true, laidKinds := [.data, .data, .data], laidTests := true, laidLooks := .later }
def LookupHoldsUptoCardSaid : Prop := Claim7.holds Tryz.pinned (.plain (OpenSpec.upto lookupHoldsSpec)) lookupHoldsUptoCard
end Rows
end Go.Proofs.YtfdddpndjmookaaGreatDoor
