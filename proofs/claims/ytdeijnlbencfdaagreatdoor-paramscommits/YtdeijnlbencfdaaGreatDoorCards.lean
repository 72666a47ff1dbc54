/-
  DERIVED. GIVEN WITH THE SEED: THE CARDS: each row of YtdeijnlbencfdaaGreatDoorRows.lean that lists a variable, with what it lists TIED to the program's text (the seventh form; the later family's looks); each row that meets fmt, with fmt's text TOLD by the authors' own Lean function (tested against real Go, not proved from fmt's source: count such statements apart). THE CARD IS WHAT COUNTS. Prove the row's statement (the work); the ties are given (YtdeijnlbencfdaaGreatDoorTie.lean); close each card by the builder's one call (the guide's Derived/Test/ToyasCard.lean, 'card_holds'). Laid BY PROGRAM, IN A SANDBOX (cutbox-door.mjs). By AI agents, Wed Nov 11 2026. No macro, syntax, notation, axiom, sorry.
-/
import Derived.Test.YtdeijnlbencfdaaGreatDoorRows
import GoSem.ClaimSeven
namespace Go.Proofs.YtdeijnlbencfdaaGreatDoor
namespace Rows

/-- THE TIED CARD OF 'sigillaw09.ParamsChecks'. -/
def paramsChecksCard : Claim7 := { stood := { row := paramsChecksRow, standIns := [], harness := (true, "631a5e59bffec5565a94ab14f45ae0082b95593ad19580290bd2c62cea6c2e6e"), looks := false }, kinds := [], alts := [], laidByText := true, laidKinds := [.data, .data, .data, .data, .data], laidTests := true, laidLooks := .later }
def ParamsChecksCardSaid : Prop := Claim7.holds Tryz.pinned (.plain (OpenSpec.ofChange paramsChecksSpec)) paramsChecksCard

/-- THE TIED CARD OF 'sigillaw09.ParamsCommits'. -/
def paramsCommitsCard : Claim7 := { stood := { row := paramsCommitsRow, standIns := [], harness := (true, "631a5e59bffec5565a94ab14f45ae0082b95593ad19580290bd2c62cea6c2e6e"), looks := false }, kinds := [], alts := [], laidByText := true, laidKinds := [.data, .data, .data, .data, .data], laidTests := true, laidLooks := .later }
def ParamsCommitsCardSaid : Prop := Claim7.holds Tryz.pinned (.plain (OpenSpec.ofChange paramsCommitsSpec)) paramsCommitsCard

/-- THE TIED CARD OF 'sigillaw09.ParamsLinear'. -/
def paramsLinearCard : Claim7 := { stood := { row := paramsLinearRow, standIns := [], harness := (true, "631a5e59bffec5565a94ab14f45ae0082b95593ad19580290bd2c62cea6c2e6e"), looks := false }, kinds := [], alts := [], laidByText := true, laidKinds := [.data, .data, .data, .data, .data], laidTests := true, laidLooks := .later }
def ParamsLinearCardSaid : Prop := Claim7.holds Tryz.pinned (.plain (OpenSpec.ofChange paramsLinearSpec)) paramsLinearCard

/-- THE SECOND FORM's CARD OF 'sigillaw09.ParamsChecks'. -/
def paramsChecksUptoCard : Claim7 := { stood := { row := paramsChecksUptoRow, standIns := [], harness := (true, "631a5e59bffec5565a94ab14f45ae0082b95593ad19580290bd2c62cea6c2e6e"), looks := false }, kinds := [], alts := [], laidByText := true, laidKinds := [.data, .data, .data, .data, .data], laidTests := true, laidLooks := .later }
def ParamsChecksUptoCardSaid : Prop := Claim7.holds Tryz.pinned (.plain (OpenSpec.upto paramsChecksSpec)) paramsChecksUptoCard

/-- THE SECOND FORM's CARD OF 'sigillaw09.ParamsCommits'. -/
def paramsCommitsUptoCard : Claim7 := { stood := { row := paramsCommitsUptoRow, standIns := [], harness := (true, "631a5e59bffec5565a94ab14f45ae0082b95593ad19580290bd2c62cea6c2e6e"), looks := false }, kinds := [], alts := [], laidByText := true, laidKinds := [.data, .data, .data, .data, .data], laidTests := true, laidLooks := .later }
def ParamsCommitsUptoCardSaid : Prop := Claim7.holds Tryz.pinned (.plain (OpenSpec.upto paramsCommitsSpec)) paramsCommitsUptoCard

/-- THE SECOND FORM's CARD OF 'sigillaw09.ParamsLinear'. -/
def paramsLinearUptoCard : Claim7 := { stood := { row := paramsLinearUptoRow, standIns := [], harness := (true, "631a5e59bffec5565a94ab14f45ae0082b95593ad19580290bd2c62cea6c2e6e"), looks := false }, kinds := [], alts := [], laidByText := true, laidKinds := [.data, .data, .data, .data, .data], laidTests := true, laidLooks := .later }
def ParamsLinearUptoCardSaid : Prop := Claim7.holds Tryz.pinned (.plain (OpenSpec.upto paramsLinearSpec)) paramsLinearUptoCard
end Rows
end Go.Proofs.YtdeijnlbencfdaaGreatDoor
