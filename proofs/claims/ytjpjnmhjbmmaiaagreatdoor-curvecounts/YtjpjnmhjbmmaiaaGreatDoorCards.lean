/-
  DERIVED. GIVEN WITH THE SEED: THE CARDS: each row of YtjpjnmhjbmmaiaaGreatDoorRows.lean that lists a variable, with what it lists TIED to the program's text (the seventh form; the later family's looks); each row that meets fmt, with fmt's text TOLD by the authors' own Lean function (tested against real Go, not proved from fmt's source: count such statements apart). THE CARD IS WHAT COUNTS. Prove the row's statement (the work); the ties are given (YtjpjnmhjbmmaiaaGreatDoorTie.lean); close each card by the builder's one call (the guide's Derived/Test/ToyasCard.lean, 'card_holds'). Laid BY PROGRAM, IN A SANDBOX (cutbox-door.mjs). By AI agents, Wed Nov 11 2026. No macro, syntax, notation, axiom, sorry.
-/
import Derived.Test.YtjpjnmhjbmmaiaaGreatDoorRows
import GoSem.ClaimSeven
namespace Go.Proofs.YtjpjnmhjbmmaiaaGreatDoor
namespace Rows

/-- THE TIED CARD OF 'sigillaw04.CurveSums'. -/
def curveSumsCard : Claim7 := { stood := { row := curveSumsRow, standIns := [], harness := (true, "d6b1a17f3adb34549f99fe127985d28b5b25d0c9775b581e7ab338ee6360b3b7"), looks := false }, kinds := [], alts := [], laidByText := true, laidKinds := [.data, .data, .data], laidTests := true, laidLooks := .later }
def CurveSumsCardSaid : Prop := Claim7.holds Tryz.pinned (.plain (OpenSpec.ofChange curveSumsSpec)) curveSumsCard

/-- THE TIED CARD OF 'sigillaw04.CurveProducts'. -/
def curveProductsCard : Claim7 := { stood := { row := curveProductsRow, standIns := [], harness := (true, "d6b1a17f3adb34549f99fe127985d28b5b25d0c9775b581e7ab338ee6360b3b7"), looks := false }, kinds := [], alts := [], laidByText := true, laidKinds := [.data, .data, .data], laidTests := true, laidLooks := .later }
def CurveProductsCardSaid : Prop := Claim7.holds Tryz.pinned (.plain (OpenSpec.ofChange curveProductsSpec)) curveProductsCard

/-- THE TIED CARD OF 'sigillaw04.CurveCodecs'. -/
def curveCodecsCard : Claim7 := { stood := { row := curveCodecsRow, standIns := [], harness := (true, "d6b1a17f3adb34549f99fe127985d28b5b25d0c9775b581e7ab338ee6360b3b7"), looks := false }, kinds := [], alts := [], laidByText := true, laidKinds := [.data, .data, .data], laidTests := true, laidLooks := .later }
def CurveCodecsCardSaid : Prop := Claim7.holds Tryz.pinned (.plain (OpenSpec.ofChange curveCodecsSpec)) curveCodecsCard

/-- THE TIED CARD OF 'sigillaw04.CurveGroup'. -/
def curveGroupCard : Claim7 := { stood := { row := curveGroupRow, standIns := [], harness := (true, "d6b1a17f3adb34549f99fe127985d28b5b25d0c9775b581e7ab338ee6360b3b7"), looks := false }, kinds := [], alts := [], laidByText := true, laidKinds := [.data, .data, .data], laidTests := true, laidLooks := .later }
def CurveGroupCardSaid : Prop := Claim7.holds Tryz.pinned (.plain (OpenSpec.ofChange curveGroupSpec)) curveGroupCard

/-- THE TIED CARD OF 'sigillaw04.CurveCounts'. -/
def curveCountsCard : Claim7 := { stood := { row := curveCountsRow, standIns := [], harness := (true, "d6b1a17f3adb34549f99fe127985d28b5b25d0c9775b581e7ab338ee6360b3b7"), looks := false }, kinds := [], alts := [], laidByText := true, laidKinds := [.data, .data, .data], laidTests := true, laidLooks := .later }
def CurveCountsCardSaid : Prop := Claim7.holds Tryz.pinned (.plain (OpenSpec.ofChange curveCountsSpec)) curveCountsCard

/-- THE TIED CARD OF 'sigillaw04.CurveRound'. -/
def curveRoundCard : Claim7 := { stood := { row := curveRoundRow, standIns := [], harness := (true, "d6b1a17f3adb34549f99fe127985d28b5b25d0c9775b581e7ab338ee6360b3b7"), looks := false }, kinds := [], alts := [], laidByText := true, laidKinds := [.data, .data, .data], laidTests := true, laidLooks := .later }
def CurveRoundCardSaid : Prop := Claim7.holds Tryz.pinned (.plain (OpenSpec.ofChange curveRoundSpec)) curveRoundCard

/-- THE SECOND FORM's CARD OF 'sigillaw04.CurveSums'. -/
def curveSumsUptoCard : Claim7 := { stood := { row := curveSumsUptoRow, standIns := [], harness := (true, "d6b1a17f3adb34549f99fe127985d28b5b25d0c9775b581e7ab338ee6360b3b7"), looks := false }, kinds := [], alts := [], laidByText := true, laidKinds := [.data, .data, .data], laidTests := true, laidLooks := .later }
def CurveSumsUptoCardSaid : Prop := Claim7.holds Tryz.pinned (.plain (OpenSpec.upto curveSumsSpec)) curveSumsUptoCard

/-- THE SECOND FORM's CARD OF 'sigillaw04.CurveProducts'. -/
def curveProductsUptoCard : Claim7 := { stood := { row := curveProductsUptoRow, standIns := [], harness := (true, "d6b1a17f3adb34549f99fe127985d28b5b25d0c9775b581e7ab338ee6360b3b7"), looks := false }, kinds := [], alts := [], laidByText := true, laidKinds := [.data, .data, .data], laidTests := true, laidLooks := .later }
def CurveProductsUptoCardSaid : Prop := Claim7.holds Tryz.pinned (.plain (OpenSpec.upto curveProductsSpec)) curveProductsUptoCard

/-- THE SECOND FORM's CARD OF 'sigillaw04.CurveCodecs'. -/
def curveCodecsUptoCard : Claim7 := { stood := { row := curveCodecsUptoRow, standIns := [], harness := (true, "d6b1a17f3adb34549f99fe127985d28b5b25d0c9775b581e7ab338ee6360b3b7"), looks := false }, kinds := [], alts := [], laidByText := true, laidKinds := [.data, .data, .data], laidTests := true, laidLooks := .later }
def CurveCodecsUptoCardSaid : Prop := Claim7.holds Tryz.pinned (.plain (OpenSpec.upto curveCodecsSpec)) curveCodecsUptoCard

/-- THE SECOND FORM's CARD OF 'sigillaw04.CurveGroup'. -/
def curveGroupUptoCard : Claim7 := { stood := { row := curveGroupUptoRow, standIns := [], harness := (true, "d6b1a17f3adb34549f99fe127985d28b5b25d0c9775b581e7ab338ee6360b3b7"), looks := false }, kinds := [], alts := [], laidByText := true, laidKinds := [.data, .data, .data], laidTests := true, laidLooks := .later }
def CurveGroupUptoCardSaid : Prop := Claim7.holds Tryz.pinned (.plain (OpenSpec.upto curveGroupSpec)) curveGroupUptoCard

/-- THE SECOND FORM's CARD OF 'sigillaw04.CurveCounts'. -/
def curveCountsUptoCard : Claim7 := { stood := { row := curveCountsUptoRow, standIns := [], harness := (true, "d6b1a17f3adb34549f99fe127985d28b5b25d0c9775b581e7ab338ee6360b3b7"), looks := false }, kinds := [], alts := [], laidByText := true, laidKinds := [.data, .data, .data], laidTests := true, laidLooks := .later }
def CurveCountsUptoCardSaid : Prop := Claim7.holds Tryz.pinned (.plain (OpenSpec.upto curveCountsSpec)) curveCountsUptoCard

/-- THE SECOND FORM's CARD OF 'sigillaw04.CurveRound'. -/
def curveRoundUptoCard : Claim7 := { stood := { row := curveRoundUptoRow, standIns := [], harness := (true, "d6b1a17f3adb34549f99fe127985d28b5b25d0c9775b581e7ab338ee6360b3b7"), looks := false }, kinds := [], alts := [], laidByText := true, laidKinds := [.data, .data, .data], laidTests := true, laidLooks := .later }
def CurveRoundUptoCardSaid : Prop := Claim7.holds Tryz.pinned (.plain (OpenSpec.upto curveRoundSpec)) curveRoundUptoCard
end Rows
end Go.Proofs.YtjpjnmhjbmmaiaaGreatDoor
