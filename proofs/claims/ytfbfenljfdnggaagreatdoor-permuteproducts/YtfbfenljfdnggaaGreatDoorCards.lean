/-
  DERIVED. GIVEN WITH THE SEED: THE CARDS: each row of YtfbfenljfdnggaaGreatDoorRows.lean that lists a variable, with what it lists TIED to the program's text (the seventh form; the later family's looks); each row that meets fmt, with fmt's text TOLD by the authors' own Lean function (tested against real Go, not proved from fmt's source: count such statements apart). THE CARD IS WHAT COUNTS. Prove the row's statement (the work); the ties are given (YtfbfenljfdnggaaGreatDoorTie.lean); close each card by the builder's one call (the guide's Derived/Test/ToyasCard.lean, 'card_holds'). Laid BY PROGRAM, IN A SANDBOX (cutbox-door.mjs). By AI agents, Wed Nov 11 2026. No macro, syntax, notation, axiom, sorry.
-/
import Derived.Test.YtfbfenljfdnggaaGreatDoorRows
import GoSem.ClaimSeven
namespace Go.Proofs.YtfbfenljfdnggaaGreatDoor
namespace Rows

/-- THE TIED CARD OF 'sigillaw16.PermuteProducts'. -/
def permuteProductsCard : Claim7 := { stood := { row := permuteProductsRow, standIns := [], harness := (true, "ace28510dd02553f297c09bd137e75fc657229e3d70e1b2e22a0b3b1900e2f2d"), looks := true }, kinds := [], alts := [], laidByText := true, laidKinds := [.data, .data, .data], laidTests := true, laidLooks := .later }
def PermuteProductsCardSaid : Prop := Claim7.holds Tryz.pinned (.plain (OpenSpec.ofChange permuteProductsSpec)) permuteProductsCard

/-- THE TIED CARD OF 'sigillaw16.PermuteHolds'. -/
def permuteHoldsCard : Claim7 := { stood := { row := permuteHoldsRow, standIns := [], harness := (true, "ace28510dd02553f297c09bd137e75fc657229e3d70e1b2e22a0b3b1900e2f2d"), looks := true }, kinds := [], alts := [], laidByText := true, laidKinds := [.data, .data, .data], laidTests := true, laidLooks := .later }
def PermuteHoldsCardSaid : Prop := Claim7.holds Tryz.pinned (.plain (OpenSpec.ofChange permuteHoldsSpec)) permuteHoldsCard

/-- THE SECOND FORM's CARD OF 'sigillaw16.PermuteProducts'. -/
def permuteProductsUptoCard : Claim7 := { stood := { row := permuteProductsUptoRow, standIns := [], harness := (true, "ace28510dd02553f297c09bd137e75fc657229e3d70e1b2e22a0b3b1900e2f2d"), looks := true }, kinds := [], alts := [], laidByText := true, laidKinds := [.data, .data, .data], laidTests := true, laidLooks := .later }
def PermuteProductsUptoCardSaid : Prop := Claim7.holds Tryz.pinned (.plain (OpenSpec.upto permuteProductsSpec)) permuteProductsUptoCard

/-- THE SECOND FORM's CARD OF 'sigillaw16.PermuteHolds'. -/
def permuteHoldsUptoCard : Claim7 := { stood := { row := permuteHoldsUptoRow, standIns := [], harness := (true, "ace28510dd02553f297c09bd137e75fc657229e3d70e1b2e22a0b3b1900e2f2d"), looks := true }, kinds := [], alts := [], laidByText := true, laidKinds := [.data, .data, .data], laidTests := true, laidLooks := .later }
def PermuteHoldsUptoCardSaid : Prop := Claim7.holds Tryz.pinned (.plain (OpenSpec.upto permuteHoldsSpec)) permuteHoldsUptoCard
end Rows
end Go.Proofs.YtfbfenljfdnggaaGreatDoor
