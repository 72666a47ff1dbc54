/-
  DERIVED. GIVEN WITH THE SEED: THE CARDS: each row of YtmpgillbjnpahaaDoorRows.lean that lists a variable, with what it lists TIED to the program's text (the seventh form; the later family's looks); each row that meets fmt, with fmt's text TOLD by the authors' own Lean function (tested against real Go, not proved from fmt's source: count such statements apart). THE CARD IS WHAT COUNTS. Prove the row's statement (the work); the ties are given (YtmpgillbjnpahaaDoorTie.lean); close each card by the builder's one call (the guide's Derived/Test/ToyasCard.lean, 'card_holds'). Laid BY PROGRAM, IN A SANDBOX (cutbox-door.mjs). By AI agents, Wed Nov 11 2026. No macro, syntax, notation, axiom, sorry.
-/
import Derived.Test.YtmpgillbjnpahaaDoorRows
import GoSem.ClaimSeven
namespace Go.Proofs.YtmpgillbjnpahaaDoor
namespace Rows

/-- THE TIED CARD OF 'sigillaw05.MsmOrder'. -/
def msmOrderCard : Claim7 := { stood := { row := msmOrderRow, standIns := [], harness := (true, "b859d99c2bb4f6590d7d5b7adc3b80e8cf3b8d878df3499d31c198cf278dfc0a"), looks := false }, kinds := [], alts := [], laidByText := true, laidKinds := [.data, .data, .data], laidTests := true, laidLooks := .later }
def MsmOrderCardSaid : Prop := Claim7.holds Tryd.pinned (.plain (OpenSpec.ofChange msmOrderSpec)) msmOrderCard

/-- THE SECOND FORM's CARD OF 'sigillaw05.MsmOrder'. -/
def msmOrderUptoCard : Claim7 := { stood := { row := msmOrderUptoRow, standIns := [], harness := (true, "b859d99c2bb4f6590d7d5b7adc3b80e8cf3b8d878df3499d31c198cf278dfc0a"), looks := false }, kinds := [], alts := [], laidByText := true, laidKinds := [.data, .data, .data], laidTests := true, laidLooks := .later }
def MsmOrderUptoCardSaid : Prop := Claim7.holds Tryd.pinned (.plain (OpenSpec.upto msmOrderSpec)) msmOrderUptoCard
end Rows
end Go.Proofs.YtmpgillbjnpahaaDoor
