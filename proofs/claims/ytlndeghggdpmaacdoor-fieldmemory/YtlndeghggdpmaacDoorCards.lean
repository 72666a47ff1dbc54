/-
  DERIVED. GIVEN WITH THE SEED: THE CARDS: each row of YtlndeghggdpmaacDoorRows.lean that lists a variable, with what it lists TIED to the program's text (the seventh form; the later family's looks); each row that meets fmt, with fmt's text TOLD by the authors' own Lean function (tested against real Go, not proved from fmt's source: count such statements apart). THE CARD IS WHAT COUNTS. Prove the row's statement (the work); the ties are given (YtlndeghggdpmaacDoorTie.lean); close each card by the builder's one call (the guide's Derived/Test/ToyasCard.lean, 'card_holds'). Laid BY PROGRAM, IN A SANDBOX (cutbox-door.mjs). By AI agents, Wed Nov 11 2026. No macro, syntax, notation, axiom, sorry.
-/
import Derived.Test.YtlndeghggdpmaacDoorRows
import GoSem.ClaimSeven
namespace Go.Proofs.YtlndeghggdpmaacDoor
namespace Rows

/-- THE TIED CARD OF 'sigillaw02.FieldCodecs'. -/
def fieldCodecsCard : Claim7 := { stood := { row := fieldCodecsRow, standIns := [], harness := (true, "e331d06c005ab9c43cf56f0cf308c2d96d74feb4a58810f62a1b028bb588ff33"), looks := false }, kinds := [], alts := [], laidByText := true, laidKinds := [.data, .data], laidTests := true, laidLooks := .later }
def FieldCodecsCardSaid : Prop := Claim7.holds Tryd.pinned (.plain (OpenSpec.ofChange fieldCodecsSpec)) fieldCodecsCard

/-- THE TIED CARD OF 'sigillaw02.FieldLaws'. -/
def fieldLawsCard : Claim7 := { stood := { row := fieldLawsRow, standIns := [], harness := (true, "e331d06c005ab9c43cf56f0cf308c2d96d74feb4a58810f62a1b028bb588ff33"), looks := false }, kinds := [], alts := [], laidByText := true, laidKinds := [.data, .data], laidTests := true, laidLooks := .later }
def FieldLawsCardSaid : Prop := Claim7.holds Tryd.pinned (.plain (OpenSpec.ofChange fieldLawsSpec)) fieldLawsCard

/-- THE TIED CARD OF 'sigillaw02.FieldSquares'. -/
def fieldSquaresCard : Claim7 := { stood := { row := fieldSquaresRow, standIns := [], harness := (true, "e331d06c005ab9c43cf56f0cf308c2d96d74feb4a58810f62a1b028bb588ff33"), looks := false }, kinds := [], alts := [], laidByText := true, laidKinds := [.data, .data], laidTests := true, laidLooks := .later }
def FieldSquaresCardSaid : Prop := Claim7.holds Tryd.pinned (.plain (OpenSpec.ofChange fieldSquaresSpec)) fieldSquaresCard

/-- THE TIED CARD OF 'sigillaw02.FieldRound'. -/
def fieldRoundCard : Claim7 := { stood := { row := fieldRoundRow, standIns := [], harness := (true, "e331d06c005ab9c43cf56f0cf308c2d96d74feb4a58810f62a1b028bb588ff33"), looks := false }, kinds := [], alts := [], laidByText := true, laidKinds := [.data, .data], laidTests := true, laidLooks := .later }
def FieldRoundCardSaid : Prop := Claim7.holds Tryd.pinned (.plain (OpenSpec.ofChange fieldRoundSpec)) fieldRoundCard

/-- THE TIED CARD OF 'sigillaw02.FieldMemory'. -/
def fieldMemoryCard : Claim7 := { stood := { row := fieldMemoryRow, standIns := [], harness := (true, "e331d06c005ab9c43cf56f0cf308c2d96d74feb4a58810f62a1b028bb588ff33"), looks := false }, kinds := [], alts := [], laidByText := true, laidKinds := [.data, .data], laidTests := true, laidLooks := .later }
def FieldMemoryCardSaid : Prop := Claim7.holds Tryd.pinned (.plain (OpenSpec.ofChange fieldMemorySpec)) fieldMemoryCard

/-- THE SECOND FORM's CARD OF 'sigillaw02.FieldCodecs'. -/
def fieldCodecsUptoCard : Claim7 := { stood := { row := fieldCodecsUptoRow, standIns := [], harness := (true, "e331d06c005ab9c43cf56f0cf308c2d96d74feb4a58810f62a1b028bb588ff33"), looks := false }, kinds := [], alts := [], laidByText := true, laidKinds := [.data, .data], laidTests := true, laidLooks := .later }
def FieldCodecsUptoCardSaid : Prop := Claim7.holds Tryd.pinned (.plain (OpenSpec.upto fieldCodecsSpec)) fieldCodecsUptoCard

/-- THE SECOND FORM's CARD OF 'sigillaw02.FieldLaws'. -/
def fieldLawsUptoCard : Claim7 := { stood := { row := fieldLawsUptoRow, standIns := [], harness := (true, "e331d06c005ab9c43cf56f0cf308c2d96d74feb4a58810f62a1b028bb588ff33"), looks := false }, kinds := [], alts := [], laidByText := true, laidKinds := [.data, .data], laidTests := true, laidLooks := .later }
def FieldLawsUptoCardSaid : Prop := Claim7.holds Tryd.pinned (.plain (OpenSpec.upto fieldLawsSpec)) fieldLawsUptoCard

/-- THE SECOND FORM's CARD OF 'sigillaw02.FieldSquares'. -/
def fieldSquaresUptoCard : Claim7 := { stood := { row := fieldSquaresUptoRow, standIns := [], harness := (true, "e331d06c005ab9c43cf56f0cf308c2d96d74feb4a58810f62a1b028bb588ff33"), looks := false }, kinds := [], alts := [], laidByText := true, laidKinds := [.data, .data], laidTests := true, laidLooks := .later }
def FieldSquaresUptoCardSaid : Prop := Claim7.holds Tryd.pinned (.plain (OpenSpec.upto fieldSquaresSpec)) fieldSquaresUptoCard

/-- THE SECOND FORM's CARD OF 'sigillaw02.FieldRound'. -/
def fieldRoundUptoCard : Claim7 := { stood := { row := fieldRoundUptoRow, standIns := [], harness := (true, "e331d06c005ab9c43cf56f0cf308c2d96d74feb4a58810f62a1b028bb588ff33"), looks := false }, kinds := [], alts := [], laidByText := true, laidKinds := [.data, .data], laidTests := true, laidLooks := .later }
def FieldRoundUptoCardSaid : Prop := Claim7.holds Tryd.pinned (.plain (OpenSpec.upto fieldRoundSpec)) fieldRoundUptoCard

/-- THE SECOND FORM's CARD OF 'sigillaw02.FieldMemory'. -/
def fieldMemoryUptoCard : Claim7 := { stood := { row := fieldMemoryUptoRow, standIns := [], harness := (true, "e331d06c005ab9c43cf56f0cf308c2d96d74feb4a58810f62a1b028bb588ff33"), looks := false }, kinds := [], alts := [], laidByText := true, laidKinds := [.data, .data], laidTests := true, laidLooks := .later }
def FieldMemoryUptoCardSaid : Prop := Claim7.holds Tryd.pinned (.plain (OpenSpec.upto fieldMemorySpec)) fieldMemoryUptoCard
end Rows
end Go.Proofs.YtlndeghggdpmaacDoor
