/-
  DERIVED. GIVEN WITH THE SEED: THE CARDS: each row of YtfkdfngegeeciaaDoorRows.lean that lists a variable, with what it lists TIED to the program's text (the seventh form; the later family's looks); each row that meets fmt, with fmt's text TOLD by the authors' own Lean function (tested against real Go, not proved from fmt's source: count such statements apart). THE CARD IS WHAT COUNTS. Prove the row's statement (the work); the ties are given (YtfkdfngegeeciaaDoorTie.lean); close each card by the builder's one call (the guide's Derived/Test/ToyasCard.lean, 'card_holds'). Laid BY PROGRAM, IN A SANDBOX (cutbox-door.mjs). By AI agents, Wed Nov 11 2026. No macro, syntax, notation, axiom, sorry.
-/
import Derived.Test.YtfkdfngegeeciaaDoorRows
import GoSem.ClaimSeven
namespace Go.Proofs.YtfkdfngegeeciaaDoor
namespace Rows

/-- THE TIED CARD OF 'sigillaw06.DomainPoints'. -/
def domainPointsCard : Claim7 := { stood := { row := domainPointsRow, standIns := [], harness := (true, "8611424bb60d9d1a9343366327d97874386e148f3f7eb836d7c1b027726c08c5"), looks := false }, kinds := [], alts := [], laidByText := true, laidKinds := [.data, .data, .data], laidTests := true, laidLooks := .later }
def DomainPointsCardSaid : Prop := Claim7.holds Tryd.pinned (.plain (OpenSpec.ofChange domainPointsSpec)) domainPointsCard

/-- THE TIED CARD OF 'sigillaw06.DomainValues'. -/
def domainValuesCard : Claim7 := { stood := { row := domainValuesRow, standIns := [], harness := (true, "8611424bb60d9d1a9343366327d97874386e148f3f7eb836d7c1b027726c08c5"), looks := false }, kinds := [], alts := [], laidByText := true, laidKinds := [.data, .data, .data], laidTests := true, laidLooks := .later }
def DomainValuesCardSaid : Prop := Claim7.holds Tryd.pinned (.plain (OpenSpec.ofChange domainValuesSpec)) domainValuesCard

/-- THE TIED CARD OF 'sigillaw06.DomainRound'. -/
def domainRoundCard : Claim7 := { stood := { row := domainRoundRow, standIns := [], harness := (true, "8611424bb60d9d1a9343366327d97874386e148f3f7eb836d7c1b027726c08c5"), looks := false }, kinds := [], alts := [], laidByText := true, laidKinds := [.data, .data, .data], laidTests := true, laidLooks := .later }
def DomainRoundCardSaid : Prop := Claim7.holds Tryd.pinned (.plain (OpenSpec.ofChange domainRoundSpec)) domainRoundCard

/-- THE TIED CARD OF 'sigillaw06.DomainSums'. -/
def domainSumsCard : Claim7 := { stood := { row := domainSumsRow, standIns := [], harness := (true, "8611424bb60d9d1a9343366327d97874386e148f3f7eb836d7c1b027726c08c5"), looks := false }, kinds := [], alts := [], laidByText := true, laidKinds := [.data, .data, .data], laidTests := true, laidLooks := .later }
def DomainSumsCardSaid : Prop := Claim7.holds Tryd.pinned (.plain (OpenSpec.ofChange domainSumsSpec)) domainSumsCard

/-- THE TIED CARD OF 'sigillaw06.DomainZeros'. -/
def domainZerosCard : Claim7 := { stood := { row := domainZerosRow, standIns := [], harness := (true, "8611424bb60d9d1a9343366327d97874386e148f3f7eb836d7c1b027726c08c5"), looks := false }, kinds := [], alts := [], laidByText := true, laidKinds := [.data, .data, .data], laidTests := true, laidLooks := .later }
def DomainZerosCardSaid : Prop := Claim7.holds Tryd.pinned (.plain (OpenSpec.ofChange domainZerosSpec)) domainZerosCard

/-- THE TIED CARD OF 'sigillaw06.DomainMemory'. -/
def domainMemoryCard : Claim7 := { stood := { row := domainMemoryRow, standIns := [], harness := (true, "8611424bb60d9d1a9343366327d97874386e148f3f7eb836d7c1b027726c08c5"), looks := false }, kinds := [], alts := [], laidByText := true, laidKinds := [.data, .data, .data], laidTests := true, laidLooks := .later }
def DomainMemoryCardSaid : Prop := Claim7.holds Tryd.pinned (.plain (OpenSpec.ofChange domainMemorySpec)) domainMemoryCard

/-- THE SECOND FORM's CARD OF 'sigillaw06.DomainPoints'. -/
def domainPointsUptoCard : Claim7 := { stood := { row := domainPointsUptoRow, standIns := [], harness := (true, "8611424bb60d9d1a9343366327d97874386e148f3f7eb836d7c1b027726c08c5"), looks := false }, kinds := [], alts := [], laidByText := true, laidKinds := [.data, .data, .data], laidTests := true, laidLooks := .later }
def DomainPointsUptoCardSaid : Prop := Claim7.holds Tryd.pinned (.plain (OpenSpec.upto domainPointsSpec)) domainPointsUptoCard

/-- THE SECOND FORM's CARD OF 'sigillaw06.DomainValues'. -/
def domainValuesUptoCard : Claim7 := { stood := { row := domainValuesUptoRow, standIns := [], harness := (true, "8611424bb60d9d1a9343366327d97874386e148f3f7eb836d7c1b027726c08c5"), looks := false }, kinds := [], alts := [], laidByText := true, laidKinds := [.data, .data, .data], laidTests := true, laidLooks := .later }
def DomainValuesUptoCardSaid : Prop := Claim7.holds Tryd.pinned (.plain (OpenSpec.upto domainValuesSpec)) domainValuesUptoCard

/-- THE SECOND FORM's CARD OF 'sigillaw06.DomainRound'. -/
def domainRoundUptoCard : Claim7 := { stood := { row := domainRoundUptoRow, standIns := [], harness := (true, "8611424bb60d9d1a9343366327d97874386e148f3f7eb836d7c1b027726c08c5"), looks := false }, kinds := [], alts := [], laidByText := true, laidKinds := [.data, .data, .data], laidTests := true, laidLooks := .later }
def DomainRoundUptoCardSaid : Prop := Claim7.holds Tryd.pinned (.plain (OpenSpec.upto domainRoundSpec)) domainRoundUptoCard

/-- THE SECOND FORM's CARD OF 'sigillaw06.DomainSums'. -/
def domainSumsUptoCard : Claim7 := { stood := { row := domainSumsUptoRow, standIns := [], harness := (true, "8611424bb60d9d1a9343366327d97874386e148f3f7eb836d7c1b027726c08c5"), looks := false }, kinds := [], alts := [], laidByText := true, laidKinds := [.data, .data, .data], laidTests := true, laidLooks := .later }
def DomainSumsUptoCardSaid : Prop := Claim7.holds Tryd.pinned (.plain (OpenSpec.upto domainSumsSpec)) domainSumsUptoCard

/-- THE SECOND FORM's CARD OF 'sigillaw06.DomainZeros'. -/
def domainZerosUptoCard : Claim7 := { stood := { row := domainZerosUptoRow, standIns := [], harness := (true, "8611424bb60d9d1a9343366327d97874386e148f3f7eb836d7c1b027726c08c5"), looks := false }, kinds := [], alts := [], laidByText := true, laidKinds := [.data, .data, .data], laidTests := true, laidLooks := .later }
def DomainZerosUptoCardSaid : Prop := Claim7.holds Tryd.pinned (.plain (OpenSpec.upto domainZerosSpec)) domainZerosUptoCard

/-- THE SECOND FORM's CARD OF 'sigillaw06.DomainMemory'. -/
def domainMemoryUptoCard : Claim7 := { stood := { row := domainMemoryUptoRow, standIns := [], harness := (true, "8611424bb60d9d1a9343366327d97874386e148f3f7eb836d7c1b027726c08c5"), looks := false }, kinds := [], alts := [], laidByText := true, laidKinds := [.data, .data, .data], laidTests := true, laidLooks := .later }
def DomainMemoryUptoCardSaid : Prop := Claim7.holds Tryd.pinned (.plain (OpenSpec.upto domainMemorySpec)) domainMemoryUptoCard
end Rows
end Go.Proofs.YtfkdfngegeeciaaDoor
