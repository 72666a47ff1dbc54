/-
  DERIVED. GIVEN WITH THE SEED: THE CARDS: each row of YtokoknacolmhgaaGreatDoorRows.lean that lists a variable, with what it lists TIED to the program's text (the seventh form; the later family's looks); each row that meets fmt, with fmt's text TOLD by the authors' own Lean function (tested against real Go, not proved from fmt's source: count such statements apart). THE CARD IS WHAT COUNTS. Prove the row's statement (the work); the ties are given (YtokoknacolmhgaaGreatDoorTie.lean); close each card by the builder's one call (the guide's Derived/Test/ToyasCard.lean, 'card_holds'). Laid BY PROGRAM, IN A SANDBOX (cutbox-door.mjs). By AI agents, Wed Nov 11 2026. No macro, syntax, notation, axiom, sorry.
-/
import Derived.Test.YtokoknacolmhgaaGreatDoorRows
import GoSem.ClaimSeven
namespace Go.Proofs.YtokoknacolmhgaaGreatDoor
namespace Rows

/-- THE TIED CARD OF 'sigillaw05.MsmSums'. -/
def msmSumsCard : Claim7 := { stood := { row := msmSumsRow, standIns := [], harness := (true, "1caefdd27b5d352156a54170720e4dafe2cec5fa440c114d99297d2a1e49aec9"), looks := false }, kinds := [], alts := [], laidByText := true, laidKinds := [.data, .data, .data], laidTests := true, laidLooks := .later }
def MsmSumsCardSaid : Prop := Claim7.holds Tryz.pinned (.plain (OpenSpec.ofChange msmSumsSpec)) msmSumsCard

/-- THE TIED CARD OF 'sigillaw05.MsmSteps'. -/
def msmStepsCard : Claim7 := { stood := { row := msmStepsRow, standIns := [], harness := (true, "1caefdd27b5d352156a54170720e4dafe2cec5fa440c114d99297d2a1e49aec9"), looks := false }, kinds := [], alts := [], laidByText := true, laidKinds := [.data, .data, .data], laidTests := true, laidLooks := .later }
def MsmStepsCardSaid : Prop := Claim7.holds Tryz.pinned (.plain (OpenSpec.ofChange msmStepsSpec)) msmStepsCard

/-- THE TIED CARD OF 'sigillaw05.MsmLinear'. -/
def msmLinearCard : Claim7 := { stood := { row := msmLinearRow, standIns := [], harness := (true, "1caefdd27b5d352156a54170720e4dafe2cec5fa440c114d99297d2a1e49aec9"), looks := false }, kinds := [], alts := [], laidByText := true, laidKinds := [.data, .data, .data], laidTests := true, laidLooks := .later }
def MsmLinearCardSaid : Prop := Claim7.holds Tryz.pinned (.plain (OpenSpec.ofChange msmLinearSpec)) msmLinearCard

/-- THE TIED CARD OF 'sigillaw05.MsmOther'. -/
def msmOtherCard : Claim7 := { stood := { row := msmOtherRow, standIns := [], harness := (true, "1caefdd27b5d352156a54170720e4dafe2cec5fa440c114d99297d2a1e49aec9"), looks := false }, kinds := [], alts := [], laidByText := true, laidKinds := [.data, .data, .data], laidTests := true, laidLooks := .later }
def MsmOtherCardSaid : Prop := Claim7.holds Tryz.pinned (.plain (OpenSpec.ofChange msmOtherSpec)) msmOtherCard

/-- THE TIED CARD OF 'sigillaw05.MsmMemory'. -/
def msmMemoryCard : Claim7 := { stood := { row := msmMemoryRow, standIns := [], harness := (true, "1caefdd27b5d352156a54170720e4dafe2cec5fa440c114d99297d2a1e49aec9"), looks := false }, kinds := [], alts := [], laidByText := true, laidKinds := [.data, .data, .data], laidTests := true, laidLooks := .later }
def MsmMemoryCardSaid : Prop := Claim7.holds Tryz.pinned (.plain (OpenSpec.ofChange msmMemorySpec)) msmMemoryCard

/-- THE SECOND FORM's CARD OF 'sigillaw05.MsmSums'. -/
def msmSumsUptoCard : Claim7 := { stood := { row := msmSumsUptoRow, standIns := [], harness := (true, "1caefdd27b5d352156a54170720e4dafe2cec5fa440c114d99297d2a1e49aec9"), looks := false }, kinds := [], alts := [], laidByText := true, laidKinds := [.data, .data, .data], laidTests := true, laidLooks := .later }
def MsmSumsUptoCardSaid : Prop := Claim7.holds Tryz.pinned (.plain (OpenSpec.upto msmSumsSpec)) msmSumsUptoCard

/-- THE SECOND FORM's CARD OF 'sigillaw05.MsmSteps'. -/
def msmStepsUptoCard : Claim7 := { stood := { row := msmStepsUptoRow, standIns := [], harness := (true, "1caefdd27b5d352156a54170720e4dafe2cec5fa440c114d99297d2a1e49aec9"), looks := false }, kinds := [], alts := [], laidByText := true, laidKinds := [.data, .data, .data], laidTests := true, laidLooks := .later }
def MsmStepsUptoCardSaid : Prop := Claim7.holds Tryz.pinned (.plain (OpenSpec.upto msmStepsSpec)) msmStepsUptoCard

/-- THE SECOND FORM's CARD OF 'sigillaw05.MsmLinear'. -/
def msmLinearUptoCard : Claim7 := { stood := { row := msmLinearUptoRow, standIns := [], harness := (true, "1caefdd27b5d352156a54170720e4dafe2cec5fa440c114d99297d2a1e49aec9"), looks := false }, kinds := [], alts := [], laidByText := true, laidKinds := [.data, .data, .data], laidTests := true, laidLooks := .later }
def MsmLinearUptoCardSaid : Prop := Claim7.holds Tryz.pinned (.plain (OpenSpec.upto msmLinearSpec)) msmLinearUptoCard

/-- THE SECOND FORM's CARD OF 'sigillaw05.MsmOther'. -/
def msmOtherUptoCard : Claim7 := { stood := { row := msmOtherUptoRow, standIns := [], harness := (true, "1caefdd27b5d352156a54170720e4dafe2cec5fa440c114d99297d2a1e49aec9"), looks := false }, kinds := [], alts := [], laidByText := true, laidKinds := [.data, .data, .data], laidTests := true, laidLooks := .later }
def MsmOtherUptoCardSaid : Prop := Claim7.holds Tryz.pinned (.plain (OpenSpec.upto msmOtherSpec)) msmOtherUptoCard

/-- THE SECOND FORM's CARD OF 'sigillaw05.MsmMemory'. -/
def msmMemoryUptoCard : Claim7 := { stood := { row := msmMemoryUptoRow, standIns := [], harness := (true, "1caefdd27b5d352156a54170720e4dafe2cec5fa440c114d99297d2a1e49aec9"), looks := false }, kinds := [], alts := [], laidByText := true, laidKinds := [.data, .data, .data], laidTests := true, laidLooks := .later }
def MsmMemoryUptoCardSaid : Prop := Claim7.holds Tryz.pinned (.plain (OpenSpec.upto msmMemorySpec)) msmMemoryUptoCard
end Rows
end Go.Proofs.YtokoknacolmhgaaGreatDoor
