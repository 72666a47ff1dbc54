/-
  DERIVED. GIVEN WITH THE SEED: THE CARDS: each row of YteheloagjkengaaDoorRows.lean that lists a variable, with what it lists TIED to the program's text (the seventh form; the later family's looks); each row that meets fmt, with fmt's text TOLD by the authors' own Lean function (tested against real Go, not proved from fmt's source: count such statements apart). THE CARD IS WHAT COUNTS. Prove the row's statement (the work); the ties are given (YteheloagjkengaaDoorTie.lean); close each card by the builder's one call (the guide's Derived/Test/ToyasCard.lean, 'card_holds'). Laid BY PROGRAM, IN A SANDBOX (cutbox-door.mjs). By AI agents, Wed Nov 11 2026. No macro, syntax, notation, axiom, sorry.
-/
import Derived.Test.YteheloagjkengaaDoorRows
import GoSem.ClaimSeven
namespace Go.Proofs.YteheloagjkengaaDoor
namespace Rows

/-- THE TIED CARD OF 'sigillaw17.LookupProducts'. -/
def lookupProductsCard : Claim7 := { stood := { row := lookupProductsRow, standIns := [], harness := (true, "f9ffed294983cb2775ab2e89ce4857eca40c68e1cb4bb58ecc31db3a18d5f6a4"), looks := false }, kinds := [], alts := [], laidByText := true, laidKinds := [.data, .data], laidTests := true, laidLooks := .later }
def LookupProductsCardSaid : Prop := Claim7.holds Tryd.pinned (.plain (OpenSpec.ofChange lookupProductsSpec)) lookupProductsCard

/-- THE SECOND FORM's CARD OF 'sigillaw17.LookupProducts'. -/
def lookupProductsUptoCard : Claim7 := { stood := { row := lookupProductsUptoRow, standIns := [], harness := (true, "f9ffed294983cb2775ab2e89ce4857eca40c68e1cb4bb58ecc31db3a18d5f6a4"), looks := false }, kinds := [], alts := [], laidByText := true, laidKinds := [.data, .data], laidTests := true, laidLooks := .later }
def LookupProductsUptoCardSaid : Prop := Claim7.holds Tryd.pinned (.plain (OpenSpec.upto lookupProductsSpec)) lookupProductsUptoCard
end Rows
end Go.Proofs.YteheloagjkengaaDoor
