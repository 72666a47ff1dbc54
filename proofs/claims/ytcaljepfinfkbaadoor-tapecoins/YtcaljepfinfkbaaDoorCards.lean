/-
  DERIVED. GIVEN WITH THE SEED: THE CARDS: each row of YtcaljepfinfkbaaDoorRows.lean that lists a variable, with what it lists TIED to the program's text (the seventh form; the later family's looks); each row that meets fmt, with fmt's text TOLD by the authors' own Lean function (tested against real Go, not proved from fmt's source: count such statements apart). THE CARD IS WHAT COUNTS. Prove the row's statement (the work); the ties are given (YtcaljepfinfkbaaDoorTie.lean); close each card by the builder's one call (the guide's Derived/Test/ToyasCard.lean, 'card_holds'). Laid BY PROGRAM, IN A SANDBOX (cutbox-door.mjs). By AI agents, Wed Nov 11 2026. No macro, syntax, notation, axiom, sorry.
-/
import Derived.Test.YtcaljepfinfkbaaDoorRows
import GoSem.ClaimSeven
namespace Go.Proofs.YtcaljepfinfkbaaDoor
namespace Rows

/-- THE TIED CARD OF 'sigillaw08.TapeCoins'. -/
def tapeCoinsCard : Claim7 := { stood := { row := tapeCoinsRow, standIns := [], harness := (true, "d52d4512ad56c94da1bbdf6944cf048ae012d3fbabb37f20282018e84bfc82ed"), looks := false }, kinds := [], alts := [], laidByText := true, laidKinds := [.data, .data, .data], laidTests := true, laidLooks := .later }
def TapeCoinsCardSaid : Prop := Claim7.holds Tryd.pinned (.plain (OpenSpec.ofChange tapeCoinsSpec)) tapeCoinsCard

/-- THE SECOND FORM's CARD OF 'sigillaw08.TapeCoins'. -/
def tapeCoinsUptoCard : Claim7 := { stood := { row := tapeCoinsUptoRow, standIns := [], harness := (true, "d52d4512ad56c94da1bbdf6944cf048ae012d3fbabb37f20282018e84bfc82ed"), looks := false }, kinds := [], alts := [], laidByText := true, laidKinds := [.data, .data, .data], laidTests := true, laidLooks := .later }
def TapeCoinsUptoCardSaid : Prop := Claim7.holds Tryd.pinned (.plain (OpenSpec.upto tapeCoinsSpec)) tapeCoinsUptoCard
end Rows
end Go.Proofs.YtcaljepfinfkbaaDoor
