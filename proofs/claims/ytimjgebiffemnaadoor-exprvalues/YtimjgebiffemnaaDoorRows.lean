/-
  NARROWER THAN 'FOR EVERY INPUT', by the rows' own cells (each row's printed sentence says how): ExprChecks: laid · ExprValues: laid · ExprCones: laid · ExprLinear: laid · ExprMemory: laid.
  DERIVED. THE GIVEN ROWS OF THIS SEAT. 5 by the template 'for every input the law returns true; each argument reads behind the call as it read before'; 0 by the template 'total and deterministic' (their statements: YtimjgebiffemnaaDoorTotals.lean).
  GIVEN WITH THE SEED: the statements are not yours to turn. If you find one false, say at which input.
  Laid BY PROGRAM, IN A SANDBOX (cutbox-rows.mjs): the forced cells as the released guide's own fill.sh prints them over the translation 9c6b3021195cb69d… (all of the seat's roots in one cut). By AI agents, Wed Nov 11 2026. No macro, syntax, notation, axiom, sorry.
-/
import Derived.Test.YtimjgebiffemnaaDoorChecked
import GoSem.Claim
import GoSem.ClaimJoined
import GoSem.ClaimMapViews
import Derived.JoinedTies
import Derived.KernelRfl
namespace Go.Proofs.YtimjgebiffemnaaDoor
/- THE CELL 'sum', in the pinned program and in every row, IS THE sha256 OF THE DUMP (.gsa) THAT YtimjgebiffemnaaDoorProg.lean LOADS. Nothing in Lean hashes anything: it is a label: what it is worth is what the hold of that sum in a sandbox is worth. -/
noncomputable def Tryd.pinned : Pinned := { name := "ytimjgebiffemnaadoor", sum := "9c6b3021195cb69dfe9a4dc84963371c3ee4eb60bee8840d3e4e67fcdf8dec7b", checked := Tryd.checked }
namespace Rows
def none {H : Type} : Left H := { results := [], args := [] }

/- WHAT THE LISTED PACKAGE-LEVEL VARIABLES READ AS WHEN THE CALL BEGINS. Each datum BY PROGRAM (the guide's laid-datum.mjs) off the statement by which the dump's own 'gosem.cut.vars' lays the variable. In a bare row this is a premise. The card (YtimjgebiffemnaaDoorCards.lean) ties it to the program's text. -/
def laid_sigil_field_primes {H : Type} : DataW H := .agg [.agg [.agg [.lit (.int .u64 16513537), .lit (.int .u64 0), .lit (.int .u64 0), .lit (.int .u64 0)], .lit (.int .i64 9)], .agg [.agg [.lit (.int .u64 16521217), .lit (.int .u64 0), .lit (.int .u64 0), .lit (.int .u64 0)], .lit (.int .i64 11)], .agg [.agg [.lit (.int .u64 11037532056220336129), .lit (.int .u64 2469829653914515739), .lit (.int .u64 0), .lit (.int .u64 4611686018427387904)], .lit (.int .i64 32)], .agg [.agg [.lit (.int .u64 10108024940646105089), .lit (.int .u64 2469829653919213789), .lit (.int .u64 0), .lit (.int .u64 4611686018427387904)], .lit (.int .i64 32)]]

/-- 'sigillaw11.ExprChecks': WHATEVER THE INPUT: true; the input reads as it did. -/
def exprChecksSpec : ChangeSpec := { name := "exprChecks", fn := fun _ => fun
  | [d1, d2, d3, d4, d5] => { results := [.lit (.bool true)], args := [d1, d2, d3, d4, d5] }
  | _ => none }
def exprChecksRow : OpenClaim := { program := "ytimjgebiffemnaadoor", sum := "9c6b3021195cb69dfe9a4dc84963371c3ee4eb60bee8840d3e4e67fcdf8dec7b", func := "sigil/sigillaw11.ExprChecks", spec := "exprChecks", unfollowed := true, recurses := true, named := ["sigil/field.primes"], plainKeys := false, apart := false, laid := [("sigil/field.primes", laid_sigil_field_primes)] }
def ExprChecksSaid : Prop := exprChecksRow.holds Tryd.pinned (OpenSpec.ofChange exprChecksSpec)

/-- ITS FALSE NEIGHBOUR: 'it returns false'. Refute it at one input. -/
def exprChecksWrong : ChangeSpec := { name := "exprChecks", fn := fun _ => fun
  | [d1, d2, d3, d4, d5] => { results := [.lit (.bool false)], args := [d1, d2, d3, d4, d5] }
  | _ => none }
def ExprChecksWrongFalsely : Prop := exprChecksRow.holds Tryd.pinned (OpenSpec.ofChange exprChecksWrong)

/-- 'sigillaw11.ExprValues': WHATEVER THE INPUT: true; the input reads as it did. -/
def exprValuesSpec : ChangeSpec := { name := "exprValues", fn := fun _ => fun
  | [d1, d2, d3, d4] => { results := [.lit (.bool true)], args := [d1, d2, d3, d4] }
  | _ => none }
def exprValuesRow : OpenClaim := { program := "ytimjgebiffemnaadoor", sum := "9c6b3021195cb69dfe9a4dc84963371c3ee4eb60bee8840d3e4e67fcdf8dec7b", func := "sigil/sigillaw11.ExprValues", spec := "exprValues", unfollowed := true, recurses := true, named := ["sigil/field.primes"], plainKeys := false, apart := false, laid := [("sigil/field.primes", laid_sigil_field_primes)] }
def ExprValuesSaid : Prop := exprValuesRow.holds Tryd.pinned (OpenSpec.ofChange exprValuesSpec)

/-- ITS FALSE NEIGHBOUR: 'it returns false'. Refute it at one input. -/
def exprValuesWrong : ChangeSpec := { name := "exprValues", fn := fun _ => fun
  | [d1, d2, d3, d4] => { results := [.lit (.bool false)], args := [d1, d2, d3, d4] }
  | _ => none }
def ExprValuesWrongFalsely : Prop := exprValuesRow.holds Tryd.pinned (OpenSpec.ofChange exprValuesWrong)

/-- 'sigillaw11.ExprCones': WHATEVER THE INPUT: true; the input reads as it did. -/
def exprConesSpec : ChangeSpec := { name := "exprCones", fn := fun _ => fun
  | [d1, d2, d3, d4] => { results := [.lit (.bool true)], args := [d1, d2, d3, d4] }
  | _ => none }
def exprConesRow : OpenClaim := { program := "ytimjgebiffemnaadoor", sum := "9c6b3021195cb69dfe9a4dc84963371c3ee4eb60bee8840d3e4e67fcdf8dec7b", func := "sigil/sigillaw11.ExprCones", spec := "exprCones", unfollowed := true, recurses := true, named := ["sigil/field.primes"], plainKeys := false, apart := false, laid := [("sigil/field.primes", laid_sigil_field_primes)] }
def ExprConesSaid : Prop := exprConesRow.holds Tryd.pinned (OpenSpec.ofChange exprConesSpec)

/-- ITS FALSE NEIGHBOUR: 'it returns false'. Refute it at one input. -/
def exprConesWrong : ChangeSpec := { name := "exprCones", fn := fun _ => fun
  | [d1, d2, d3, d4] => { results := [.lit (.bool false)], args := [d1, d2, d3, d4] }
  | _ => none }
def ExprConesWrongFalsely : Prop := exprConesRow.holds Tryd.pinned (OpenSpec.ofChange exprConesWrong)

/-- 'sigillaw11.ExprLinear': WHATEVER THE INPUT: true; the input reads as it did. -/
def exprLinearSpec : ChangeSpec := { name := "exprLinear", fn := fun _ => fun
  | [d1, d2, d3] => { results := [.lit (.bool true)], args := [d1, d2, d3] }
  | _ => none }
def exprLinearRow : OpenClaim := { program := "ytimjgebiffemnaadoor", sum := "9c6b3021195cb69dfe9a4dc84963371c3ee4eb60bee8840d3e4e67fcdf8dec7b", func := "sigil/sigillaw11.ExprLinear", spec := "exprLinear", inPlace := ["math/bits.Sub64", "math/bits.Add64"], unfollowed := true, recurses := true, named := ["sigil/field.primes", "math/bits.divideError", "math/bits.overflowError"], plainKeys := false, apart := false, laid := [("sigil/field.primes", laid_sigil_field_primes)] }
def ExprLinearSaid : Prop := exprLinearRow.holds Tryd.pinned (OpenSpec.ofChange exprLinearSpec)

/-- ITS FALSE NEIGHBOUR: 'it returns false'. Refute it at one input. -/
def exprLinearWrong : ChangeSpec := { name := "exprLinear", fn := fun _ => fun
  | [d1, d2, d3] => { results := [.lit (.bool false)], args := [d1, d2, d3] }
  | _ => none }
def ExprLinearWrongFalsely : Prop := exprLinearRow.holds Tryd.pinned (OpenSpec.ofChange exprLinearWrong)

/-- 'sigillaw11.ExprMemory': WHATEVER THE INPUT: true; the input reads as it did. -/
def exprMemorySpec : ChangeSpec := { name := "exprMemory", fn := fun _ => fun
  | [d1, d2, d3] => { results := [.lit (.bool true)], args := [d1, d2, d3] }
  | _ => none }
def exprMemoryRow : OpenClaim := { program := "ytimjgebiffemnaadoor", sum := "9c6b3021195cb69dfe9a4dc84963371c3ee4eb60bee8840d3e4e67fcdf8dec7b", func := "sigil/sigillaw11.ExprMemory", spec := "exprMemory", unfollowed := true, recurses := true, named := ["sigil/field.primes"], plainKeys := false, apart := false, laid := [("sigil/field.primes", laid_sigil_field_primes)] }
def ExprMemorySaid : Prop := exprMemoryRow.holds Tryd.pinned (OpenSpec.ofChange exprMemorySpec)

/-- ITS FALSE NEIGHBOUR: 'it returns false'. Refute it at one input. -/
def exprMemoryWrong : ChangeSpec := { name := "exprMemory", fn := fun _ => fun
  | [d1, d2, d3] => { results := [.lit (.bool false)], args := [d1, d2, d3] }
  | _ => none }
def ExprMemoryWrongFalsely : Prop := exprMemoryRow.holds Tryd.pinned (OpenSpec.ofChange exprMemoryWrong)

/- THE SECOND FORM. 'bulk': how many values and letters a reading holds, each counted each time it is reached (what is shared counts as often as it is met; a slice's spare places count too). A statement '..UptoSaid' is the law's where the arguments, and the package variables that the reading takes, are together of bulk at most 1048576: NARROWER than '..Said'. Prove '..Said' where nothing that the law and all that it calls make is longer than what came in: it says more and counts as full. Else prove '..UptoSaid'. A law counts once. -/
mutual
def uptoBulk {H : Type} : DataW H → Nat
  | .lit (.string bytes) => bytes.length + 1
  | .lit _ => 1
  | .nil => 1
  | .ptr d => uptoBulk d + 1
  | .slice elems spare => uptoBulkAll elems + uptoBulkAll spare + 1
  | .agg parts => uptoBulkAll parts + 1
  | .iface _ d => uptoBulk d + 1
  | .map entries => uptoBulkEntries entries + 1
  | .held _ => 1
def uptoBulkAll {H : Type} : List (DataW H) → Nat
  | [] => 0
  | d :: r => uptoBulk d + uptoBulkAll r
def uptoBulkEntries {H : Type} : List (Lit × DataW H) → Nat
  | [] => 0
  | x :: r => uptoBulkEntry x + uptoBulkEntries r
def uptoBulkEntry {H : Type} : Lit × DataW H → Nat
  | (.string bytes, d) => bytes.length + uptoBulk d + 1
  | (_, d) => uptoBulk d + 1
 end
def uptoSmall : (H : Type) → List (DataW H) → Bool := fun _ ds => decide (uptoBulkAll ds ≤ 1048576)
def OpenSpec.upto (s : _root_.Go.ChangeSpec) : _root_.Go.OpenSpec := { _root_.Go.OpenSpec.ofChange s with cond := some uptoSmall }

/-- 'sigillaw11.ExprChecks', WHERE WHAT IT READS IS OF BULK AT MOST 1048576: true; the input reads as it did. -/
def exprChecksUptoRow : OpenClaim := { program := "ytimjgebiffemnaadoor", sum := "9c6b3021195cb69dfe9a4dc84963371c3ee4eb60bee8840d3e4e67fcdf8dec7b", func := "sigil/sigillaw11.ExprChecks", spec := "exprChecks", unfollowed := true, recurses := true, named := ["sigil/field.primes"], plainKeys := false, apart := false, laid := [("sigil/field.primes", laid_sigil_field_primes)], narrowed := true }
def ExprChecksUptoSaid : Prop := exprChecksUptoRow.holds Tryd.pinned (OpenSpec.upto exprChecksSpec)

/-- 'sigillaw11.ExprValues', WHERE WHAT IT READS IS OF BULK AT MOST 1048576: true; the input reads as it did. -/
def exprValuesUptoRow : OpenClaim := { program := "ytimjgebiffemnaadoor", sum := "9c6b3021195cb69dfe9a4dc84963371c3ee4eb60bee8840d3e4e67fcdf8dec7b", func := "sigil/sigillaw11.ExprValues", spec := "exprValues", unfollowed := true, recurses := true, named := ["sigil/field.primes"], plainKeys := false, apart := false, laid := [("sigil/field.primes", laid_sigil_field_primes)], narrowed := true }
def ExprValuesUptoSaid : Prop := exprValuesUptoRow.holds Tryd.pinned (OpenSpec.upto exprValuesSpec)

/-- 'sigillaw11.ExprCones', WHERE WHAT IT READS IS OF BULK AT MOST 1048576: true; the input reads as it did. -/
def exprConesUptoRow : OpenClaim := { program := "ytimjgebiffemnaadoor", sum := "9c6b3021195cb69dfe9a4dc84963371c3ee4eb60bee8840d3e4e67fcdf8dec7b", func := "sigil/sigillaw11.ExprCones", spec := "exprCones", unfollowed := true, recurses := true, named := ["sigil/field.primes"], plainKeys := false, apart := false, laid := [("sigil/field.primes", laid_sigil_field_primes)], narrowed := true }
def ExprConesUptoSaid : Prop := exprConesUptoRow.holds Tryd.pinned (OpenSpec.upto exprConesSpec)

/-- 'sigillaw11.ExprLinear', WHERE WHAT IT READS IS OF BULK AT MOST 1048576: true; the input reads as it did. -/
def exprLinearUptoRow : OpenClaim := { program := "ytimjgebiffemnaadoor", sum := "9c6b3021195cb69dfe9a4dc84963371c3ee4eb60bee8840d3e4e67fcdf8dec7b", func := "sigil/sigillaw11.ExprLinear", spec := "exprLinear", inPlace := ["math/bits.Sub64", "math/bits.Add64"], unfollowed := true, recurses := true, named := ["sigil/field.primes", "math/bits.divideError", "math/bits.overflowError"], plainKeys := false, apart := false, laid := [("sigil/field.primes", laid_sigil_field_primes)], narrowed := true }
def ExprLinearUptoSaid : Prop := exprLinearUptoRow.holds Tryd.pinned (OpenSpec.upto exprLinearSpec)

/-- 'sigillaw11.ExprMemory', WHERE WHAT IT READS IS OF BULK AT MOST 1048576: true; the input reads as it did. -/
def exprMemoryUptoRow : OpenClaim := { program := "ytimjgebiffemnaadoor", sum := "9c6b3021195cb69dfe9a4dc84963371c3ee4eb60bee8840d3e4e67fcdf8dec7b", func := "sigil/sigillaw11.ExprMemory", spec := "exprMemory", unfollowed := true, recurses := true, named := ["sigil/field.primes"], plainKeys := false, apart := false, laid := [("sigil/field.primes", laid_sigil_field_primes)], narrowed := true }
def ExprMemoryUptoSaid : Prop := exprMemoryUptoRow.holds Tryd.pinned (OpenSpec.upto exprMemorySpec)

end Rows
end Go.Proofs.YtimjgebiffemnaaDoor
