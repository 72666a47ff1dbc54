/-
  DERIVED. GIVEN WITH THE SEED: THE CARDS: each row of YtoipnjfajandmaaDoorRows.lean that lists a variable, with what it lists TIED to the program's text (the seventh form; the later family's looks); each row that meets fmt, with fmt's text TOLD by the authors' own Lean function (tested against real Go, not proved from fmt's source: count such statements apart). THE CARD IS WHAT COUNTS. Prove the row's statement (the work); the ties are given (YtoipnjfajandmaaDoorTie.lean); close each card by the builder's one call (the guide's Derived/Test/ToyasCard.lean, 'card_holds'). Laid BY PROGRAM, IN A SANDBOX (cutbox-door.mjs). By AI agents, Wed Nov 11 2026. No macro, syntax, notation, axiom, sorry.
-/
import Derived.Test.YtoipnjfajandmaaDoorRows
import GoSem.ClaimSeven
namespace Go.Proofs.YtoipnjfajandmaaDoor
namespace Rows

/-- THE TIED CARD OF 'sigillaw16.PermutePlaces'. -/
def permutePlacesCard : Claim7 := { stood := { row := permutePlacesRow, standIns := [], harness := (true, "bf11201d1cc83c65c7df0a1d98285c263207e5aab2d557d69c7fce00c62e3387"), looks := false }, kinds := [], alts := [], laidByText := true, laidKinds := [.data, .data, .data], laidTests := true, laidLooks := .later }
def PermutePlacesCardSaid : Prop := Claim7.holds Tryd.pinned (.plain (OpenSpec.ofChange permutePlacesSpec)) permutePlacesCard

/-- THE TIED CARD OF 'sigillaw16.PermuteChecks'. -/
def permuteChecksCard : Claim7 := { stood := { row := permuteChecksRow, standIns := [], harness := (true, "bf11201d1cc83c65c7df0a1d98285c263207e5aab2d557d69c7fce00c62e3387"), looks := false }, kinds := [], alts := [], laidByText := true, laidKinds := [.data, .data, .data], laidTests := true, laidLooks := .later }
def PermuteChecksCardSaid : Prop := Claim7.holds Tryd.pinned (.plain (OpenSpec.ofChange permuteChecksSpec)) permuteChecksCard

/-- THE TIED CARD OF 'sigillaw16.PermuteTells'. -/
def permuteTellsCard : Claim7 := { stood := { row := permuteTellsRow, standIns := [], harness := (true, "bf11201d1cc83c65c7df0a1d98285c263207e5aab2d557d69c7fce00c62e3387"), looks := false }, kinds := [], alts := [], laidByText := true, laidKinds := [.data, .data, .data], laidTests := true, laidLooks := .later }
def PermuteTellsCardSaid : Prop := Claim7.holds Tryd.pinned (.plain (OpenSpec.ofChange permuteTellsSpec)) permuteTellsCard

/-- THE SECOND FORM's CARD OF 'sigillaw16.PermutePlaces'. -/
def permutePlacesUptoCard : Claim7 := { stood := { row := permutePlacesUptoRow, standIns := [], harness := (true, "bf11201d1cc83c65c7df0a1d98285c263207e5aab2d557d69c7fce00c62e3387"), looks := false }, kinds := [], alts := [], laidByText := true, laidKinds := [.data, .data, .data], laidTests := true, laidLooks := .later }
def PermutePlacesUptoCardSaid : Prop := Claim7.holds Tryd.pinned (.plain (OpenSpec.upto permutePlacesSpec)) permutePlacesUptoCard

/-- THE SECOND FORM's CARD OF 'sigillaw16.PermuteChecks'. -/
def permuteChecksUptoCard : Claim7 := { stood := { row := permuteChecksUptoRow, standIns := [], harness := (true, "bf11201d1cc83c65c7df0a1d98285c263207e5aab2d557d69c7fce00c62e3387"), looks := false }, kinds := [], alts := [], laidByText := true, laidKinds := [.data, .data, .data], laidTests := true, laidLooks := .later }
def PermuteChecksUptoCardSaid : Prop := Claim7.holds Tryd.pinned (.plain (OpenSpec.upto permuteChecksSpec)) permuteChecksUptoCard

/-- THE SECOND FORM's CARD OF 'sigillaw16.PermuteTells'. -/
def permuteTellsUptoCard : Claim7 := { stood := { row := permuteTellsUptoRow, standIns := [], harness := (true, "bf11201d1cc83c65c7df0a1d98285c263207e5aab2d557d69c7fce00c62e3387"), looks := false }, kinds := [], alts := [], laidByText := true, laidKinds := [.data, .data, .data], laidTests := true, laidLooks := .later }
def PermuteTellsUptoCardSaid : Prop := Claim7.holds Tryd.pinned (.plain (OpenSpec.upto permuteTellsSpec)) permuteTellsUptoCard
end Rows
end Go.Proofs.YtoipnjfajandmaaDoor
