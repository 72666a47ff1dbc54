/-
  DERIVED. GIVEN WITH THE SEED: THE CARDS: each row of YtfahhohhpjlhnaaDoorRows.lean that lists a variable, with what it lists TIED to the program's text (the seventh form; the later family's looks); each row that meets fmt, with fmt's text TOLD by the authors' own Lean function (tested against real Go, not proved from fmt's source: count such statements apart). THE CARD IS WHAT COUNTS. Prove the row's statement (the work); the ties are given (YtfahhohhpjlhnaaDoorTie.lean); close each card by the builder's one call (the guide's Derived/Test/ToyasCard.lean, 'card_holds'). Laid BY PROGRAM, IN A SANDBOX (cutbox-door.mjs). By AI agents, Wed Nov 11 2026. No macro, syntax, notation, axiom, sorry.
-/
import Derived.Test.YtfahhohhpjlhnaaDoorRows
import GoSem.ClaimSeven
namespace Go.Proofs.YtfahhohhpjlhnaaDoor
namespace Rows

/-- THE TIED CARD OF 'sigillaw07.PolyPoints'. -/
def polyPointsCard : Claim7 := { stood := { row := polyPointsRow, standIns := [], harness := (true, "46f80b7480c12667d38ab2d786d87ece953a358174aa93e6fad1aecddf984c18"), looks := false }, kinds := [], alts := [], laidByText := true, laidKinds := [.data, .data], laidTests := true, laidLooks := .later }
def PolyPointsCardSaid : Prop := Claim7.holds Tryd.pinned (.plain (OpenSpec.ofChange polyPointsSpec)) polyPointsCard

/-- THE TIED CARD OF 'sigillaw07.PolyMeets'. -/
def polyMeetsCard : Claim7 := { stood := { row := polyMeetsRow, standIns := [], harness := (true, "46f80b7480c12667d38ab2d786d87ece953a358174aa93e6fad1aecddf984c18"), looks := false }, kinds := [], alts := [], laidByText := true, laidKinds := [.data, .data], laidTests := true, laidLooks := .later }
def PolyMeetsCardSaid : Prop := Claim7.holds Tryd.pinned (.plain (OpenSpec.ofChange polyMeetsSpec)) polyMeetsCard

/-- THE SECOND FORM's CARD OF 'sigillaw07.PolyPoints'. -/
def polyPointsUptoCard : Claim7 := { stood := { row := polyPointsUptoRow, standIns := [], harness := (true, "46f80b7480c12667d38ab2d786d87ece953a358174aa93e6fad1aecddf984c18"), looks := false }, kinds := [], alts := [], laidByText := true, laidKinds := [.data, .data], laidTests := true, laidLooks := .later }
def PolyPointsUptoCardSaid : Prop := Claim7.holds Tryd.pinned (.plain (OpenSpec.upto polyPointsSpec)) polyPointsUptoCard

/-- THE SECOND FORM's CARD OF 'sigillaw07.PolyMeets'. -/
def polyMeetsUptoCard : Claim7 := { stood := { row := polyMeetsUptoRow, standIns := [], harness := (true, "46f80b7480c12667d38ab2d786d87ece953a358174aa93e6fad1aecddf984c18"), looks := false }, kinds := [], alts := [], laidByText := true, laidKinds := [.data, .data], laidTests := true, laidLooks := .later }
def PolyMeetsUptoCardSaid : Prop := Claim7.holds Tryd.pinned (.plain (OpenSpec.upto polyMeetsSpec)) polyMeetsUptoCard
end Rows
end Go.Proofs.YtfahhohhpjlhnaaDoor
