/-
  NARROWER THAN 'FOR EVERY INPUT', by the rows' own cells (each row's printed sentence says how): PermutePlaces: laid · PermuteChecks: laid · PermuteTells: laid.
  DERIVED. THE GIVEN ROWS OF THIS SEAT. 3 by the template 'for every input the law returns true; each argument reads behind the call as it read before'; 0 by the template 'total and deterministic' (their statements: YtoipnjfajandmaaDoorTotals.lean).
  GIVEN WITH THE SEED: the statements are not yours to turn. If you find one false, say at which input.
  Laid BY PROGRAM, IN A SANDBOX (cutbox-rows.mjs): the forced cells as the released guide's own fill.sh prints them over the translation 9646dff48290c82d… (all of the seat's roots in one cut). By AI agents, Wed Nov 11 2026. No macro, syntax, notation, axiom, sorry.
-/
import Derived.Test.YtoipnjfajandmaaDoorChecked
import GoSem.Claim
import GoSem.ClaimJoined
import GoSem.ClaimMapViews
import Derived.JoinedTies
import Derived.KernelRfl
namespace Go.Proofs.YtoipnjfajandmaaDoor
/- THE CELL 'sum', in the pinned program and in every row, IS THE sha256 OF THE DUMP (.gsa) THAT YtoipnjfajandmaaDoorProg.lean LOADS. Nothing in Lean hashes anything: it is a label: what it is worth is what the hold of that sum in a sandbox is worth. -/
noncomputable def Tryd.pinned : Pinned := { name := "ytoipnjfajandmaadoor", sum := "9646dff48290c82df4b638673e032ad7ec5be29a0504797fd9bc3aed2592c1d4", checked := Tryd.checked }
namespace Rows
def none {H : Type} : Left H := { results := [], args := [] }

/- WHAT THE LISTED PACKAGE-LEVEL VARIABLES READ AS WHEN THE CALL BEGINS. Each datum BY PROGRAM (the guide's laid-datum.mjs) off the statement by which the dump's own 'gosem.cut.vars' lays the variable. In a bare row this is a premise. The card (YtoipnjfajandmaaDoorCards.lean) ties it to the program's text. -/
def laid_sigil_field_primes {H : Type} : DataW H := .agg [.agg [.agg [.lit (.int .u64 16513537), .lit (.int .u64 0), .lit (.int .u64 0), .lit (.int .u64 0)], .lit (.int .i64 9)], .agg [.agg [.lit (.int .u64 16521217), .lit (.int .u64 0), .lit (.int .u64 0), .lit (.int .u64 0)], .lit (.int .i64 11)], .agg [.agg [.lit (.int .u64 11037532056220336129), .lit (.int .u64 2469829653914515739), .lit (.int .u64 0), .lit (.int .u64 4611686018427387904)], .lit (.int .i64 32)], .agg [.agg [.lit (.int .u64 10108024940646105089), .lit (.int .u64 2469829653919213789), .lit (.int .u64 0), .lit (.int .u64 4611686018427387904)], .lit (.int .i64 32)]]
def laid_sigil_field_one {H : Type} : DataW H := .agg [.lit (.int .u64 1), .lit (.int .u64 0), .lit (.int .u64 0), .lit (.int .u64 0)]
def laid_sigil_domain_one {H : Type} : DataW H := .agg [.lit (.int .u64 1), .lit (.int .u64 0), .lit (.int .u64 0), .lit (.int .u64 0)]

/-- 'sigillaw16.PermutePlaces': WHATEVER THE INPUT: true; the input reads as it did. -/
def permutePlacesSpec : ChangeSpec := { name := "permutePlaces", fn := fun _ => fun
  | [d1, d2, d3] => { results := [.lit (.bool true)], args := [d1, d2, d3] }
  | _ => none }
def permutePlacesRow : OpenClaim := { program := "ytoipnjfajandmaadoor", sum := "9646dff48290c82df4b638673e032ad7ec5be29a0504797fd9bc3aed2592c1d4", func := "sigil/sigillaw16.PermutePlaces", spec := "permutePlaces", inPlace := ["math/bits.Sub64", "math/bits.Add64"], named := ["sigil/field.primes", "sigil/domain.one", "sigil/field.one", "math/bits.divideError", "math/bits.overflowError"], apart := false, laid := [("sigil/field.primes", laid_sigil_field_primes), ("sigil/field.one", laid_sigil_field_one), ("sigil/domain.one", laid_sigil_domain_one)] }
def PermutePlacesSaid : Prop := permutePlacesRow.holds Tryd.pinned (OpenSpec.ofChange permutePlacesSpec)

/-- ITS FALSE NEIGHBOUR: 'it returns false'. Refute it at one input. -/
def permutePlacesWrong : ChangeSpec := { name := "permutePlaces", fn := fun _ => fun
  | [d1, d2, d3] => { results := [.lit (.bool false)], args := [d1, d2, d3] }
  | _ => none }
def PermutePlacesWrongFalsely : Prop := permutePlacesRow.holds Tryd.pinned (OpenSpec.ofChange permutePlacesWrong)

/-- 'sigillaw16.PermuteChecks': WHATEVER THE INPUT: true; the input reads as it did. -/
def permuteChecksSpec : ChangeSpec := { name := "permuteChecks", fn := fun _ => fun
  | [d1, d2, d3, d4, d5, d6, d7] => { results := [.lit (.bool true)], args := [d1, d2, d3, d4, d5, d6, d7] }
  | _ => none }
def permuteChecksRow : OpenClaim := { program := "ytoipnjfajandmaadoor", sum := "9646dff48290c82df4b638673e032ad7ec5be29a0504797fd9bc3aed2592c1d4", func := "sigil/sigillaw16.PermuteChecks", spec := "permuteChecks", inPlace := ["math/bits.Sub64", "math/bits.Add64"], named := ["sigil/field.primes", "sigil/domain.one", "sigil/field.one", "math/bits.divideError", "math/bits.overflowError"], apart := false, laid := [("sigil/field.primes", laid_sigil_field_primes), ("sigil/field.one", laid_sigil_field_one), ("sigil/domain.one", laid_sigil_domain_one)] }
def PermuteChecksSaid : Prop := permuteChecksRow.holds Tryd.pinned (OpenSpec.ofChange permuteChecksSpec)

/-- ITS FALSE NEIGHBOUR: 'it returns false'. Refute it at one input. -/
def permuteChecksWrong : ChangeSpec := { name := "permuteChecks", fn := fun _ => fun
  | [d1, d2, d3, d4, d5, d6, d7] => { results := [.lit (.bool false)], args := [d1, d2, d3, d4, d5, d6, d7] }
  | _ => none }
def PermuteChecksWrongFalsely : Prop := permuteChecksRow.holds Tryd.pinned (OpenSpec.ofChange permuteChecksWrong)

/-- 'sigillaw16.PermuteTells': WHATEVER THE INPUT: true; the input reads as it did. -/
def permuteTellsSpec : ChangeSpec := { name := "permuteTells", fn := fun _ => fun
  | [d1, d2, d3, d4, d5, d6, d7] => { results := [.lit (.bool true)], args := [d1, d2, d3, d4, d5, d6, d7] }
  | _ => none }
def permuteTellsRow : OpenClaim := { program := "ytoipnjfajandmaadoor", sum := "9646dff48290c82df4b638673e032ad7ec5be29a0504797fd9bc3aed2592c1d4", func := "sigil/sigillaw16.PermuteTells", spec := "permuteTells", inPlace := ["math/bits.Sub64", "math/bits.Add64"], named := ["sigil/field.primes", "sigil/domain.one", "sigil/field.one", "math/bits.divideError", "math/bits.overflowError"], apart := false, laid := [("sigil/field.primes", laid_sigil_field_primes), ("sigil/field.one", laid_sigil_field_one), ("sigil/domain.one", laid_sigil_domain_one)] }
def PermuteTellsSaid : Prop := permuteTellsRow.holds Tryd.pinned (OpenSpec.ofChange permuteTellsSpec)

/-- ITS FALSE NEIGHBOUR: 'it returns false'. Refute it at one input. -/
def permuteTellsWrong : ChangeSpec := { name := "permuteTells", fn := fun _ => fun
  | [d1, d2, d3, d4, d5, d6, d7] => { results := [.lit (.bool false)], args := [d1, d2, d3, d4, d5, d6, d7] }
  | _ => none }
def PermuteTellsWrongFalsely : Prop := permuteTellsRow.holds Tryd.pinned (OpenSpec.ofChange permuteTellsWrong)

/- THE SECOND FORM. 'bulk': how many values and letters a reading holds, each counted each time it is reached (what is shared counts as often as it is met; a slice's spare places count too). A statement '..UptoSaid' is the law's where the arguments, and the package variables that the reading takes, are together of bulk at most 1048576: NARROWER than '..Said'. Prove '..Said' where nothing that the law and all that it calls make is longer than what came in: it says more and counts as full. Else prove '..UptoSaid'. A law counts once. -/
mutual
def uptoBulk {H : Type} : DataW H → Nat
  | .lit (.string bytes) => bytes.length + 1
  | .lit _ => 1
  | .nil => 1
  | .ptr d => uptoBulk d + 1
  | .slice elems spare => uptoBulkAll elems + uptoBulkAll spare + 1
  | .agg parts => uptoBulkAll parts + 1
  | .iface _ d => uptoBulk d + 1
  | .map entries => uptoBulkEntries entries + 1
  | .held _ => 1
def uptoBulkAll {H : Type} : List (DataW H) → Nat
  | [] => 0
  | d :: r => uptoBulk d + uptoBulkAll r
def uptoBulkEntries {H : Type} : List (Lit × DataW H) → Nat
  | [] => 0
  | x :: r => uptoBulkEntry x + uptoBulkEntries r
def uptoBulkEntry {H : Type} : Lit × DataW H → Nat
  | (.string bytes, d) => bytes.length + uptoBulk d + 1
  | (_, d) => uptoBulk d + 1
 end
def uptoSmall : (H : Type) → List (DataW H) → Bool := fun _ ds => decide (uptoBulkAll ds ≤ 1048576)
def OpenSpec.upto (s : _root_.Go.ChangeSpec) : _root_.Go.OpenSpec := { _root_.Go.OpenSpec.ofChange s with cond := some uptoSmall }

/-- 'sigillaw16.PermutePlaces', WHERE WHAT IT READS IS OF BULK AT MOST 1048576: true; the input reads as it did. -/
def permutePlacesUptoRow : OpenClaim := { program := "ytoipnjfajandmaadoor", sum := "9646dff48290c82df4b638673e032ad7ec5be29a0504797fd9bc3aed2592c1d4", func := "sigil/sigillaw16.PermutePlaces", spec := "permutePlaces", inPlace := ["math/bits.Sub64", "math/bits.Add64"], named := ["sigil/field.primes", "sigil/domain.one", "sigil/field.one", "math/bits.divideError", "math/bits.overflowError"], apart := false, laid := [("sigil/field.primes", laid_sigil_field_primes), ("sigil/field.one", laid_sigil_field_one), ("sigil/domain.one", laid_sigil_domain_one)], narrowed := true }
def PermutePlacesUptoSaid : Prop := permutePlacesUptoRow.holds Tryd.pinned (OpenSpec.upto permutePlacesSpec)

/-- 'sigillaw16.PermuteChecks', WHERE WHAT IT READS IS OF BULK AT MOST 1048576: true; the input reads as it did. -/
def permuteChecksUptoRow : OpenClaim := { program := "ytoipnjfajandmaadoor", sum := "9646dff48290c82df4b638673e032ad7ec5be29a0504797fd9bc3aed2592c1d4", func := "sigil/sigillaw16.PermuteChecks", spec := "permuteChecks", inPlace := ["math/bits.Sub64", "math/bits.Add64"], named := ["sigil/field.primes", "sigil/domain.one", "sigil/field.one", "math/bits.divideError", "math/bits.overflowError"], apart := false, laid := [("sigil/field.primes", laid_sigil_field_primes), ("sigil/field.one", laid_sigil_field_one), ("sigil/domain.one", laid_sigil_domain_one)], narrowed := true }
def PermuteChecksUptoSaid : Prop := permuteChecksUptoRow.holds Tryd.pinned (OpenSpec.upto permuteChecksSpec)

/-- 'sigillaw16.PermuteTells', WHERE WHAT IT READS IS OF BULK AT MOST 1048576: true; the input reads as it did. -/
def permuteTellsUptoRow : OpenClaim := { program := "ytoipnjfajandmaadoor", sum := "9646dff48290c82df4b638673e032ad7ec5be29a0504797fd9bc3aed2592c1d4", func := "sigil/sigillaw16.PermuteTells", spec := "permuteTells", inPlace := ["math/bits.Sub64", "math/bits.Add64"], named := ["sigil/field.primes", "sigil/domain.one", "sigil/field.one", "math/bits.divideError", "math/bits.overflowError"], apart := false, laid := [("sigil/field.primes", laid_sigil_field_primes), ("sigil/field.one", laid_sigil_field_one), ("sigil/domain.one", laid_sigil_domain_one)], narrowed := true }
def PermuteTellsUptoSaid : Prop := permuteTellsUptoRow.holds Tryd.pinned (OpenSpec.upto permuteTellsSpec)

end Rows
end Go.Proofs.YtoipnjfajandmaaDoor
