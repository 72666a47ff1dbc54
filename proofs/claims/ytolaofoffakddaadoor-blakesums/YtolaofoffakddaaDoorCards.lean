/-
  DERIVED. GIVEN WITH THE SEED: THE CARDS: each row of YtolaofoffakddaaDoorRows.lean that lists a variable, with what it lists TIED to the program's text (the seventh form; the later family's looks); each row that meets fmt, with fmt's text TOLD by the authors' own Lean function (tested against real Go, not proved from fmt's source: count such statements apart). THE CARD IS WHAT COUNTS. Prove the row's statement (the work); the ties are given (YtolaofoffakddaaDoorTie.lean); close each card by the builder's one call (the guide's Derived/Test/ToyasCard.lean, 'card_holds'). Laid BY PROGRAM, IN A SANDBOX (cutbox-door.mjs). By AI agents, Wed Nov 11 2026. No macro, syntax, notation, axiom, sorry.
-/
import Derived.Test.YtolaofoffakddaaDoorRows
import GoSem.ClaimSeven
namespace Go.Proofs.YtolaofoffakddaaDoor
namespace Rows

/-- THE TIED CARD OF 'sigillaw03.BlakeSums'. -/
def blakeSumsCard : Claim7 := { stood := { row := blakeSumsRow, standIns := [], harness := (true, "6b09db40578791603e1387f4c44ba02b12d42f501eaf74f1920a4d7c286f20d0"), looks := false }, kinds := [], alts := [], laidByText := true, laidKinds := [.data, .data], laidTests := true, laidLooks := .later }
def BlakeSumsCardSaid : Prop := Claim7.holds Tryd.pinned (.plain (OpenSpec.ofChange blakeSumsSpec)) blakeSumsCard

/-- THE TIED CARD OF 'sigillaw03.BlakePieces'. -/
def blakePiecesCard : Claim7 := { stood := { row := blakePiecesRow, standIns := [], harness := (true, "6b09db40578791603e1387f4c44ba02b12d42f501eaf74f1920a4d7c286f20d0"), looks := false }, kinds := [], alts := [], laidByText := true, laidKinds := [.data, .data], laidTests := true, laidLooks := .later }
def BlakePiecesCardSaid : Prop := Claim7.holds Tryd.pinned (.plain (OpenSpec.ofChange blakePiecesSpec)) blakePiecesCard

/-- THE TIED CARD OF 'sigillaw03.BlakeTwo'. -/
def blakeTwoCard : Claim7 := { stood := { row := blakeTwoRow, standIns := [], harness := (true, "6b09db40578791603e1387f4c44ba02b12d42f501eaf74f1920a4d7c286f20d0"), looks := false }, kinds := [], alts := [], laidByText := true, laidKinds := [.data, .data], laidTests := true, laidLooks := .later }
def BlakeTwoCardSaid : Prop := Claim7.holds Tryd.pinned (.plain (OpenSpec.ofChange blakeTwoSpec)) blakeTwoCard

/-- THE SECOND FORM's CARD OF 'sigillaw03.BlakeSums'. -/
def blakeSumsUptoCard : Claim7 := { stood := { row := blakeSumsUptoRow, standIns := [], harness := (true, "6b09db40578791603e1387f4c44ba02b12d42f501eaf74f1920a4d7c286f20d0"), looks := false }, kinds := [], alts := [], laidByText := true, laidKinds := [.data, .data], laidTests := true, laidLooks := .later }
def BlakeSumsUptoCardSaid : Prop := Claim7.holds Tryd.pinned (.plain (OpenSpec.upto blakeSumsSpec)) blakeSumsUptoCard

/-- THE SECOND FORM's CARD OF 'sigillaw03.BlakePieces'. -/
def blakePiecesUptoCard : Claim7 := { stood := { row := blakePiecesUptoRow, standIns := [], harness := (true, "6b09db40578791603e1387f4c44ba02b12d42f501eaf74f1920a4d7c286f20d0"), looks := false }, kinds := [], alts := [], laidByText := true, laidKinds := [.data, .data], laidTests := true, laidLooks := .later }
def BlakePiecesUptoCardSaid : Prop := Claim7.holds Tryd.pinned (.plain (OpenSpec.upto blakePiecesSpec)) blakePiecesUptoCard

/-- THE SECOND FORM's CARD OF 'sigillaw03.BlakeTwo'. -/
def blakeTwoUptoCard : Claim7 := { stood := { row := blakeTwoUptoRow, standIns := [], harness := (true, "6b09db40578791603e1387f4c44ba02b12d42f501eaf74f1920a4d7c286f20d0"), looks := false }, kinds := [], alts := [], laidByText := true, laidKinds := [.data, .data], laidTests := true, laidLooks := .later }
def BlakeTwoUptoCardSaid : Prop := Claim7.holds Tryd.pinned (.plain (OpenSpec.upto blakeTwoSpec)) blakeTwoUptoCard
end Rows
end Go.Proofs.YtolaofoffakddaaDoor
