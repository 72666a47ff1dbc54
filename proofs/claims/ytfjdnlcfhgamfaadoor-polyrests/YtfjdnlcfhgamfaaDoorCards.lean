/-
  DERIVED. GIVEN WITH THE SEED: THE CARDS: each row of YtfjdnlcfhgamfaaDoorRows.lean that lists a variable, with what it lists TIED to the program's text (the seventh form; the later family's looks); each row that meets fmt, with fmt's text TOLD by the authors' own Lean function (tested against real Go, not proved from fmt's source: count such statements apart). THE CARD IS WHAT COUNTS. Prove the row's statement (the work); the ties are given (YtfjdnlcfhgamfaaDoorTie.lean); close each card by the builder's one call (the guide's Derived/Test/ToyasCard.lean, 'card_holds'). Laid BY PROGRAM, IN A SANDBOX (cutbox-door.mjs). By AI agents, Wed Nov 11 2026. No macro, syntax, notation, axiom, sorry.
-/
import Derived.Test.YtfjdnlcfhgamfaaDoorRows
import GoSem.ClaimSeven
namespace Go.Proofs.YtfjdnlcfhgamfaaDoor
namespace Rows

/-- THE TIED CARD OF 'sigillaw07.PolySums'. -/
def polySumsCard : Claim7 := { stood := { row := polySumsRow, standIns := [], harness := (true, "ba6ed86d502c188d9f3d8b20094d235eec41821d21ba21fbf0703873137cd930"), looks := false }, kinds := [], alts := [], laidByText := true, laidKinds := [.data], laidTests := true, laidLooks := .later }
def PolySumsCardSaid : Prop := Claim7.holds Tryd.pinned (.plain (OpenSpec.ofChange polySumsSpec)) polySumsCard

/-- THE TIED CARD OF 'sigillaw07.PolyProducts'. -/
def polyProductsCard : Claim7 := { stood := { row := polyProductsRow, standIns := [], harness := (true, "ba6ed86d502c188d9f3d8b20094d235eec41821d21ba21fbf0703873137cd930"), looks := false }, kinds := [], alts := [], laidByText := true, laidKinds := [.data, .data], laidTests := true, laidLooks := .later }
def PolyProductsCardSaid : Prop := Claim7.holds Tryd.pinned (.plain (OpenSpec.ofChange polyProductsSpec)) polyProductsCard

/-- THE TIED CARD OF 'sigillaw07.PolyPoints'. -/
def polyPointsCard : Claim7 := { stood := { row := polyPointsRow, standIns := [], harness := (true, "ba6ed86d502c188d9f3d8b20094d235eec41821d21ba21fbf0703873137cd930"), looks := false }, kinds := [], alts := [], laidByText := true, laidKinds := [.data, .data], laidTests := true, laidLooks := .later }
def PolyPointsCardSaid : Prop := Claim7.holds Tryd.pinned (.plain (OpenSpec.ofChange polyPointsSpec)) polyPointsCard

/-- THE TIED CARD OF 'sigillaw07.PolyLimits'. -/
def polyLimitsCard : Claim7 := { stood := { row := polyLimitsRow, standIns := [], harness := (true, "ba6ed86d502c188d9f3d8b20094d235eec41821d21ba21fbf0703873137cd930"), looks := false }, kinds := [], alts := [], laidByText := true, laidKinds := [.data, .data], laidTests := true, laidLooks := .later }
def PolyLimitsCardSaid : Prop := Claim7.holds Tryd.pinned (.plain (OpenSpec.ofChange polyLimitsSpec)) polyLimitsCard

/-- THE TIED CARD OF 'sigillaw07.PolyLaws'. -/
def polyLawsCard : Claim7 := { stood := { row := polyLawsRow, standIns := [], harness := (true, "ba6ed86d502c188d9f3d8b20094d235eec41821d21ba21fbf0703873137cd930"), looks := false }, kinds := [], alts := [], laidByText := true, laidKinds := [.data, .data], laidTests := true, laidLooks := .later }
def PolyLawsCardSaid : Prop := Claim7.holds Tryd.pinned (.plain (OpenSpec.ofChange polyLawsSpec)) polyLawsCard

/-- THE TIED CARD OF 'sigillaw07.PolyRests'. -/
def polyRestsCard : Claim7 := { stood := { row := polyRestsRow, standIns := [], harness := (true, "ba6ed86d502c188d9f3d8b20094d235eec41821d21ba21fbf0703873137cd930"), looks := false }, kinds := [], alts := [], laidByText := true, laidKinds := [.data, .data], laidTests := true, laidLooks := .later }
def PolyRestsCardSaid : Prop := Claim7.holds Tryd.pinned (.plain (OpenSpec.ofChange polyRestsSpec)) polyRestsCard

/-- THE SECOND FORM's CARD OF 'sigillaw07.PolySums'. -/
def polySumsUptoCard : Claim7 := { stood := { row := polySumsUptoRow, standIns := [], harness := (true, "ba6ed86d502c188d9f3d8b20094d235eec41821d21ba21fbf0703873137cd930"), looks := false }, kinds := [], alts := [], laidByText := true, laidKinds := [.data], laidTests := true, laidLooks := .later }
def PolySumsUptoCardSaid : Prop := Claim7.holds Tryd.pinned (.plain (OpenSpec.upto polySumsSpec)) polySumsUptoCard

/-- THE SECOND FORM's CARD OF 'sigillaw07.PolyProducts'. -/
def polyProductsUptoCard : Claim7 := { stood := { row := polyProductsUptoRow, standIns := [], harness := (true, "ba6ed86d502c188d9f3d8b20094d235eec41821d21ba21fbf0703873137cd930"), looks := false }, kinds := [], alts := [], laidByText := true, laidKinds := [.data, .data], laidTests := true, laidLooks := .later }
def PolyProductsUptoCardSaid : Prop := Claim7.holds Tryd.pinned (.plain (OpenSpec.upto polyProductsSpec)) polyProductsUptoCard

/-- THE SECOND FORM's CARD OF 'sigillaw07.PolyPoints'. -/
def polyPointsUptoCard : Claim7 := { stood := { row := polyPointsUptoRow, standIns := [], harness := (true, "ba6ed86d502c188d9f3d8b20094d235eec41821d21ba21fbf0703873137cd930"), looks := false }, kinds := [], alts := [], laidByText := true, laidKinds := [.data, .data], laidTests := true, laidLooks := .later }
def PolyPointsUptoCardSaid : Prop := Claim7.holds Tryd.pinned (.plain (OpenSpec.upto polyPointsSpec)) polyPointsUptoCard

/-- THE SECOND FORM's CARD OF 'sigillaw07.PolyLimits'. -/
def polyLimitsUptoCard : Claim7 := { stood := { row := polyLimitsUptoRow, standIns := [], harness := (true, "ba6ed86d502c188d9f3d8b20094d235eec41821d21ba21fbf0703873137cd930"), looks := false }, kinds := [], alts := [], laidByText := true, laidKinds := [.data, .data], laidTests := true, laidLooks := .later }
def PolyLimitsUptoCardSaid : Prop := Claim7.holds Tryd.pinned (.plain (OpenSpec.upto polyLimitsSpec)) polyLimitsUptoCard

/-- THE SECOND FORM's CARD OF 'sigillaw07.PolyLaws'. -/
def polyLawsUptoCard : Claim7 := { stood := { row := polyLawsUptoRow, standIns := [], harness := (true, "ba6ed86d502c188d9f3d8b20094d235eec41821d21ba21fbf0703873137cd930"), looks := false }, kinds := [], alts := [], laidByText := true, laidKinds := [.data, .data], laidTests := true, laidLooks := .later }
def PolyLawsUptoCardSaid : Prop := Claim7.holds Tryd.pinned (.plain (OpenSpec.upto polyLawsSpec)) polyLawsUptoCard

/-- THE SECOND FORM's CARD OF 'sigillaw07.PolyRests'. -/
def polyRestsUptoCard : Claim7 := { stood := { row := polyRestsUptoRow, standIns := [], harness := (true, "ba6ed86d502c188d9f3d8b20094d235eec41821d21ba21fbf0703873137cd930"), looks := false }, kinds := [], alts := [], laidByText := true, laidKinds := [.data, .data], laidTests := true, laidLooks := .later }
def PolyRestsUptoCardSaid : Prop := Claim7.holds Tryd.pinned (.plain (OpenSpec.upto polyRestsSpec)) polyRestsUptoCard
end Rows
end Go.Proofs.YtfjdnlcfhgamfaaDoor
