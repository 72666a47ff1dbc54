/-
  DERIVED. GIVEN WITH THE SEED: THE CARDS: each row of YtobeeoelfmfpdaaDoorRows.lean that lists a variable, with what it lists TIED to the program's text (the seventh form; the later family's looks); each row that meets fmt, with fmt's text TOLD by the authors' own Lean function (tested against real Go, not proved from fmt's source: count such statements apart). THE CARD IS WHAT COUNTS. Prove the row's statement (the work); the ties are given (YtobeeoelfmfpdaaDoorTie.lean); close each card by the builder's one call (the guide's Derived/Test/ToyasCard.lean, 'card_holds'). Laid BY PROGRAM, IN A SANDBOX (cutbox-door.mjs). By AI agents, Wed Nov 11 2026. No macro, syntax, notation, axiom, sorry.
-/
import Derived.Test.YtobeeoelfmfpdaaDoorRows
import GoSem.ClaimSeven
namespace Go.Proofs.YtobeeoelfmfpdaaDoor
namespace Rows

/-- THE TIED CARD OF 'sigillaw17.LookupPermutes'. -/
def lookupPermutesCard : Claim7 := { stood := { row := lookupPermutesRow, standIns := [], harness := (true, "0d6a5f5b982bc067b6e25aa548b1fc376203abfe4a7c9dc4a68810846ebc2020"), looks := false }, kinds := [], alts := [], laidByText := true, laidKinds := [.data], laidTests := true, laidLooks := .later }
def LookupPermutesCardSaid : Prop := Claim7.holds Tryd.pinned (.plain (OpenSpec.ofChange lookupPermutesSpec)) lookupPermutesCard

/-- THE TIED CARD OF 'sigillaw17.LookupProducts'. -/
def lookupProductsCard : Claim7 := { stood := { row := lookupProductsRow, standIns := [], harness := (true, "0d6a5f5b982bc067b6e25aa548b1fc376203abfe4a7c9dc4a68810846ebc2020"), looks := false }, kinds := [], alts := [], laidByText := true, laidKinds := [.data, .data], laidTests := true, laidLooks := .later }
def LookupProductsCardSaid : Prop := Claim7.holds Tryd.pinned (.plain (OpenSpec.ofChange lookupProductsSpec)) lookupProductsCard

/-- THE TIED CARD OF 'sigillaw17.LookupChecks'. -/
def lookupChecksCard : Claim7 := { stood := { row := lookupChecksRow, standIns := [], harness := (true, "0d6a5f5b982bc067b6e25aa548b1fc376203abfe4a7c9dc4a68810846ebc2020"), looks := false }, kinds := [], alts := [], laidByText := true, laidKinds := [.data], laidTests := true, laidLooks := .later }
def LookupChecksCardSaid : Prop := Claim7.holds Tryd.pinned (.plain (OpenSpec.ofChange lookupChecksSpec)) lookupChecksCard

/-- THE TIED CARD OF 'sigillaw17.LookupOrders'. -/
def lookupOrdersCard : Claim7 := { stood := { row := lookupOrdersRow, standIns := [], harness := (true, "0d6a5f5b982bc067b6e25aa548b1fc376203abfe4a7c9dc4a68810846ebc2020"), looks := false }, kinds := [], alts := [], laidByText := true, laidKinds := [.data], laidTests := true, laidLooks := .later }
def LookupOrdersCardSaid : Prop := Claim7.holds Tryd.pinned (.plain (OpenSpec.ofChange lookupOrdersSpec)) lookupOrdersCard

/-- THE TIED CARD OF 'sigillaw17.LookupCompress'. -/
def lookupCompressCard : Claim7 := { stood := { row := lookupCompressRow, standIns := [], harness := (true, "0d6a5f5b982bc067b6e25aa548b1fc376203abfe4a7c9dc4a68810846ebc2020"), looks := false }, kinds := [], alts := [], laidByText := true, laidKinds := [.data], laidTests := true, laidLooks := .later }
def LookupCompressCardSaid : Prop := Claim7.holds Tryd.pinned (.plain (OpenSpec.ofChange lookupCompressSpec)) lookupCompressCard

/-- THE SECOND FORM's CARD OF 'sigillaw17.LookupPermutes'. -/
def lookupPermutesUptoCard : Claim7 := { stood := { row := lookupPermutesUptoRow, standIns := [], harness := (true, "0d6a5f5b982bc067b6e25aa548b1fc376203abfe4a7c9dc4a68810846ebc2020"), looks := false }, kinds := [], alts := [], laidByText := true, laidKinds := [.data], laidTests := true, laidLooks := .later }
def LookupPermutesUptoCardSaid : Prop := Claim7.holds Tryd.pinned (.plain (OpenSpec.upto lookupPermutesSpec)) lookupPermutesUptoCard

/-- THE SECOND FORM's CARD OF 'sigillaw17.LookupProducts'. -/
def lookupProductsUptoCard : Claim7 := { stood := { row := lookupProductsUptoRow, standIns := [], harness := (true, "0d6a5f5b982bc067b6e25aa548b1fc376203abfe4a7c9dc4a68810846ebc2020"), looks := false }, kinds := [], alts := [], laidByText := true, laidKinds := [.data, .data], laidTests := true, laidLooks := .later }
def LookupProductsUptoCardSaid : Prop := Claim7.holds Tryd.pinned (.plain (OpenSpec.upto lookupProductsSpec)) lookupProductsUptoCard

/-- THE SECOND FORM's CARD OF 'sigillaw17.LookupChecks'. -/
def lookupChecksUptoCard : Claim7 := { stood := { row := lookupChecksUptoRow, standIns := [], harness := (true, "0d6a5f5b982bc067b6e25aa548b1fc376203abfe4a7c9dc4a68810846ebc2020"), looks := false }, kinds := [], alts := [], laidByText := true, laidKinds := [.data], laidTests := true, laidLooks := .later }
def LookupChecksUptoCardSaid : Prop := Claim7.holds Tryd.pinned (.plain (OpenSpec.upto lookupChecksSpec)) lookupChecksUptoCard

/-- THE SECOND FORM's CARD OF 'sigillaw17.LookupOrders'. -/
def lookupOrdersUptoCard : Claim7 := { stood := { row := lookupOrdersUptoRow, standIns := [], harness := (true, "0d6a5f5b982bc067b6e25aa548b1fc376203abfe4a7c9dc4a68810846ebc2020"), looks := false }, kinds := [], alts := [], laidByText := true, laidKinds := [.data], laidTests := true, laidLooks := .later }
def LookupOrdersUptoCardSaid : Prop := Claim7.holds Tryd.pinned (.plain (OpenSpec.upto lookupOrdersSpec)) lookupOrdersUptoCard

/-- THE SECOND FORM's CARD OF 'sigillaw17.LookupCompress'. -/
def lookupCompressUptoCard : Claim7 := { stood := { row := lookupCompressUptoRow, standIns := [], harness := (true, "0d6a5f5b982bc067b6e25aa548b1fc376203abfe4a7c9dc4a68810846ebc2020"), looks := false }, kinds := [], alts := [], laidByText := true, laidKinds := [.data], laidTests := true, laidLooks := .later }
def LookupCompressUptoCardSaid : Prop := Claim7.holds Tryd.pinned (.plain (OpenSpec.upto lookupCompressSpec)) lookupCompressUptoCard
end Rows
end Go.Proofs.YtobeeoelfmfpdaaDoor
