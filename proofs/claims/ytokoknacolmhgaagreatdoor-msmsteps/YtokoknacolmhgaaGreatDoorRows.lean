/-
  NARROWER THAN 'FOR EVERY INPUT', by the rows' own cells (each row's printed sentence says how): MsmSums: laid · MsmSteps: laid · MsmLinear: laid · MsmOther: laid · MsmMemory: laid.
  DERIVED. THE GIVEN ROWS OF THIS SEAT. 5 by the template 'for every input the law returns true; each argument reads behind the call as it read before'; 0 by the template 'total and deterministic' (their statements: YtokoknacolmhgaaGreatDoorTotals.lean).
  GIVEN WITH THE SEED: the statements are not yours to turn. If you find one false, say at which input.
  Laid BY PROGRAM, IN A SANDBOX (cutbox-rows.mjs): the forced cells as the released guide's own fill.sh prints them over the translation a743e5e5cc26bcc0… (all of the seat's roots in one cut). By AI agents, Wed Nov 11 2026. No macro, syntax, notation, axiom, sorry.
-/
import Derived.Test.YtokoknacolmhgaaGreatDoorChecked
import GoSem.Claim
import GoSem.ClaimJoined
import GoSem.ClaimMapViews
import Derived.JoinedTies
import Derived.KernelRfl
namespace Go.Proofs.YtokoknacolmhgaaGreatDoor
/- THE CELL 'sum', in the pinned program and in every row, IS THE sha256 OF THE DUMP (.gsa) THAT YtokoknacolmhgaaGreatDoorProg.lean LOADS. Nothing in Lean hashes anything: it is a label: what it is worth is what the hold of that sum in a sandbox is worth. -/
noncomputable def Tryz.pinned : Pinned := { name := "ytokoknacolmhgaagreatdoor", sum := "a743e5e5cc26bcc03b6db44357ea795a0431d83709e2718bfc7c94437e8964c7", checked := Tryz.checked }
namespace Rows
def none {H : Type} : Left H := { results := [], args := [] }

/- WHAT THE LISTED PACKAGE-LEVEL VARIABLES READ AS WHEN THE CALL BEGINS. Each datum BY PROGRAM (the guide's laid-datum.mjs) off the statement by which the dump's own 'gosem.cut.vars' lays the variable. In a bare row this is a premise. The card (YtokoknacolmhgaaGreatDoorCards.lean) ties it to the program's text. -/
def laid_sigil_field_primes {H : Type} : DataW H := .agg [.agg [.agg [.lit (.int .u64 16513537), .lit (.int .u64 0), .lit (.int .u64 0), .lit (.int .u64 0)], .lit (.int .i64 9)], .agg [.agg [.lit (.int .u64 16521217), .lit (.int .u64 0), .lit (.int .u64 0), .lit (.int .u64 0)], .lit (.int .i64 11)], .agg [.agg [.lit (.int .u64 11037532056220336129), .lit (.int .u64 2469829653914515739), .lit (.int .u64 0), .lit (.int .u64 4611686018427387904)], .lit (.int .i64 32)], .agg [.agg [.lit (.int .u64 10108024940646105089), .lit (.int .u64 2469829653919213789), .lit (.int .u64 0), .lit (.int .u64 4611686018427387904)], .lit (.int .i64 32)]]
def laid_sigil_field_one {H : Type} : DataW H := .agg [.lit (.int .u64 1), .lit (.int .u64 0), .lit (.int .u64 0), .lit (.int .u64 0)]
def laid_sigil_curve_constants {H : Type} : DataW H := .agg [.lit (.int .u64 23), .lit (.int .u64 21), .lit (.int .u64 5), .lit (.int .u64 5)]

/-- 'sigillaw05.MsmSums': WHATEVER THE INPUT: true; the input reads as it did. -/
def msmSumsSpec : ChangeSpec := { name := "msmSums", fn := fun _ => fun
  | [d1, d2] => { results := [.lit (.bool true)], args := [d1, d2] }
  | _ => none }
def msmSumsRow : OpenClaim := { program := "ytokoknacolmhgaagreatdoor", sum := "a743e5e5cc26bcc03b6db44357ea795a0431d83709e2718bfc7c94437e8964c7", func := "sigil/sigillaw05.MsmSums", spec := "msmSums", inPlace := ["math/bits.Sub64", "math/bits.Add64"], unfollowed := true, recurses := true, named := ["sigil/field.primes", "math/bits.divideError", "math/bits.overflowError", "sigil/curve.constants", "sigil/field.one"], apart := false, laid := [("sigil/field.primes", laid_sigil_field_primes), ("sigil/field.one", laid_sigil_field_one), ("sigil/curve.constants", laid_sigil_curve_constants)] }
def MsmSumsSaid : Prop := msmSumsRow.holds Tryz.pinned (OpenSpec.ofChange msmSumsSpec)

/-- ITS FALSE NEIGHBOUR: 'it returns false'. Refute it at one input. -/
def msmSumsWrong : ChangeSpec := { name := "msmSums", fn := fun _ => fun
  | [d1, d2] => { results := [.lit (.bool false)], args := [d1, d2] }
  | _ => none }
def MsmSumsWrongFalsely : Prop := msmSumsRow.holds Tryz.pinned (OpenSpec.ofChange msmSumsWrong)

/-- 'sigillaw05.MsmSteps': WHATEVER THE INPUT: true; the input reads as it did. -/
def msmStepsSpec : ChangeSpec := { name := "msmSteps", fn := fun _ => fun
  | [d1, d2] => { results := [.lit (.bool true)], args := [d1, d2] }
  | _ => none }
def msmStepsRow : OpenClaim := { program := "ytokoknacolmhgaagreatdoor", sum := "a743e5e5cc26bcc03b6db44357ea795a0431d83709e2718bfc7c94437e8964c7", func := "sigil/sigillaw05.MsmSteps", spec := "msmSteps", inPlace := ["math/bits.Sub64", "math/bits.Add64"], unfollowed := true, recurses := true, named := ["sigil/field.primes", "math/bits.divideError", "math/bits.overflowError", "sigil/curve.constants", "sigil/field.one"], apart := false, laid := [("sigil/field.primes", laid_sigil_field_primes), ("sigil/field.one", laid_sigil_field_one), ("sigil/curve.constants", laid_sigil_curve_constants)] }
def MsmStepsSaid : Prop := msmStepsRow.holds Tryz.pinned (OpenSpec.ofChange msmStepsSpec)

/-- ITS FALSE NEIGHBOUR: 'it returns false'. Refute it at one input. -/
def msmStepsWrong : ChangeSpec := { name := "msmSteps", fn := fun _ => fun
  | [d1, d2] => { results := [.lit (.bool false)], args := [d1, d2] }
  | _ => none }
def MsmStepsWrongFalsely : Prop := msmStepsRow.holds Tryz.pinned (OpenSpec.ofChange msmStepsWrong)

/-- 'sigillaw05.MsmLinear': WHATEVER THE INPUT: true; the input reads as it did. -/
def msmLinearSpec : ChangeSpec := { name := "msmLinear", fn := fun _ => fun
  | [d1, d2, d3, d4] => { results := [.lit (.bool true)], args := [d1, d2, d3, d4] }
  | _ => none }
def msmLinearRow : OpenClaim := { program := "ytokoknacolmhgaagreatdoor", sum := "a743e5e5cc26bcc03b6db44357ea795a0431d83709e2718bfc7c94437e8964c7", func := "sigil/sigillaw05.MsmLinear", spec := "msmLinear", inPlace := ["math/bits.Sub64", "math/bits.Add64"], unfollowed := true, recurses := true, named := ["sigil/field.primes", "math/bits.divideError", "math/bits.overflowError", "sigil/curve.constants", "sigil/field.one"], apart := false, laid := [("sigil/field.primes", laid_sigil_field_primes), ("sigil/field.one", laid_sigil_field_one), ("sigil/curve.constants", laid_sigil_curve_constants)] }
def MsmLinearSaid : Prop := msmLinearRow.holds Tryz.pinned (OpenSpec.ofChange msmLinearSpec)

/-- ITS FALSE NEIGHBOUR: 'it returns false'. Refute it at one input. -/
def msmLinearWrong : ChangeSpec := { name := "msmLinear", fn := fun _ => fun
  | [d1, d2, d3, d4] => { results := [.lit (.bool false)], args := [d1, d2, d3, d4] }
  | _ => none }
def MsmLinearWrongFalsely : Prop := msmLinearRow.holds Tryz.pinned (OpenSpec.ofChange msmLinearWrong)

/-- 'sigillaw05.MsmOther': WHATEVER THE INPUT: true; the input reads as it did. -/
def msmOtherSpec : ChangeSpec := { name := "msmOther", fn := fun _ => fun
  | [d1, d2, d3, d4] => { results := [.lit (.bool true)], args := [d1, d2, d3, d4] }
  | _ => none }
def msmOtherRow : OpenClaim := { program := "ytokoknacolmhgaagreatdoor", sum := "a743e5e5cc26bcc03b6db44357ea795a0431d83709e2718bfc7c94437e8964c7", func := "sigil/sigillaw05.MsmOther", spec := "msmOther", inPlace := ["math/bits.Sub64", "math/bits.Add64"], unfollowed := true, recurses := true, named := ["sigil/field.primes", "math/bits.divideError", "math/bits.overflowError", "sigil/curve.constants", "sigil/field.one"], apart := false, laid := [("sigil/field.primes", laid_sigil_field_primes), ("sigil/field.one", laid_sigil_field_one), ("sigil/curve.constants", laid_sigil_curve_constants)] }
def MsmOtherSaid : Prop := msmOtherRow.holds Tryz.pinned (OpenSpec.ofChange msmOtherSpec)

/-- ITS FALSE NEIGHBOUR: 'it returns false'. Refute it at one input. -/
def msmOtherWrong : ChangeSpec := { name := "msmOther", fn := fun _ => fun
  | [d1, d2, d3, d4] => { results := [.lit (.bool false)], args := [d1, d2, d3, d4] }
  | _ => none }
def MsmOtherWrongFalsely : Prop := msmOtherRow.holds Tryz.pinned (OpenSpec.ofChange msmOtherWrong)

/-- 'sigillaw05.MsmMemory': WHATEVER THE INPUT: true; the input reads as it did. -/
def msmMemorySpec : ChangeSpec := { name := "msmMemory", fn := fun _ => fun
  | [d1, d2] => { results := [.lit (.bool true)], args := [d1, d2] }
  | _ => none }
def msmMemoryRow : OpenClaim := { program := "ytokoknacolmhgaagreatdoor", sum := "a743e5e5cc26bcc03b6db44357ea795a0431d83709e2718bfc7c94437e8964c7", func := "sigil/sigillaw05.MsmMemory", spec := "msmMemory", inPlace := ["math/bits.Sub64", "math/bits.Add64"], unfollowed := true, recurses := true, named := ["sigil/field.primes", "math/bits.divideError", "math/bits.overflowError", "sigil/curve.constants", "sigil/field.one"], apart := false, laid := [("sigil/field.primes", laid_sigil_field_primes), ("sigil/field.one", laid_sigil_field_one), ("sigil/curve.constants", laid_sigil_curve_constants)] }
def MsmMemorySaid : Prop := msmMemoryRow.holds Tryz.pinned (OpenSpec.ofChange msmMemorySpec)

/-- ITS FALSE NEIGHBOUR: 'it returns false'. Refute it at one input. -/
def msmMemoryWrong : ChangeSpec := { name := "msmMemory", fn := fun _ => fun
  | [d1, d2] => { results := [.lit (.bool false)], args := [d1, d2] }
  | _ => none }
def MsmMemoryWrongFalsely : Prop := msmMemoryRow.holds Tryz.pinned (OpenSpec.ofChange msmMemoryWrong)

/- THE SECOND FORM. 'bulk': how many values and letters a reading holds, each counted each time it is reached (what is shared counts as often as it is met; a slice's spare places count too). A statement '..UptoSaid' is the law's where the arguments, and the package variables that the reading takes, are together of bulk at most 1048576: NARROWER than '..Said'. Prove '..Said' where nothing that the law and all that it calls make is longer than what came in: it says more and counts as full. Else prove '..UptoSaid'. A law counts once. -/
mutual
def uptoBulk {H : Type} : DataW H → Nat
  | .lit (.string bytes) => bytes.length + 1
  | .lit _ => 1
  | .nil => 1
  | .ptr d => uptoBulk d + 1
  | .slice elems spare => uptoBulkAll elems + uptoBulkAll spare + 1
  | .agg parts => uptoBulkAll parts + 1
  | .iface _ d => uptoBulk d + 1
  | .map entries => uptoBulkEntries entries + 1
  | .held _ => 1
def uptoBulkAll {H : Type} : List (DataW H) → Nat
  | [] => 0
  | d :: r => uptoBulk d + uptoBulkAll r
def uptoBulkEntries {H : Type} : List (Lit × DataW H) → Nat
  | [] => 0
  | x :: r => uptoBulkEntry x + uptoBulkEntries r
def uptoBulkEntry {H : Type} : Lit × DataW H → Nat
  | (.string bytes, d) => bytes.length + uptoBulk d + 1
  | (_, d) => uptoBulk d + 1
 end
def uptoSmall : (H : Type) → List (DataW H) → Bool := fun _ ds => decide (uptoBulkAll ds ≤ 1048576)
def OpenSpec.upto (s : _root_.Go.ChangeSpec) : _root_.Go.OpenSpec := { _root_.Go.OpenSpec.ofChange s with cond := some uptoSmall }

/-- 'sigillaw05.MsmSums', WHERE WHAT IT READS IS OF BULK AT MOST 1048576: true; the input reads as it did. -/
def msmSumsUptoRow : OpenClaim := { program := "ytokoknacolmhgaagreatdoor", sum := "a743e5e5cc26bcc03b6db44357ea795a0431d83709e2718bfc7c94437e8964c7", func := "sigil/sigillaw05.MsmSums", spec := "msmSums", inPlace := ["math/bits.Sub64", "math/bits.Add64"], unfollowed := true, recurses := true, named := ["sigil/field.primes", "math/bits.divideError", "math/bits.overflowError", "sigil/curve.constants", "sigil/field.one"], apart := false, laid := [("sigil/field.primes", laid_sigil_field_primes), ("sigil/field.one", laid_sigil_field_one), ("sigil/curve.constants", laid_sigil_curve_constants)], narrowed := true }
def MsmSumsUptoSaid : Prop := msmSumsUptoRow.holds Tryz.pinned (OpenSpec.upto msmSumsSpec)

/-- 'sigillaw05.MsmSteps', WHERE WHAT IT READS IS OF BULK AT MOST 1048576: true; the input reads as it did. -/
def msmStepsUptoRow : OpenClaim := { program := "ytokoknacolmhgaagreatdoor", sum := "a743e5e5cc26bcc03b6db44357ea795a0431d83709e2718bfc7c94437e8964c7", func := "sigil/sigillaw05.MsmSteps", spec := "msmSteps", inPlace := ["math/bits.Sub64", "math/bits.Add64"], unfollowed := true, recurses := true, named := ["sigil/field.primes", "math/bits.divideError", "math/bits.overflowError", "sigil/curve.constants", "sigil/field.one"], apart := false, laid := [("sigil/field.primes", laid_sigil_field_primes), ("sigil/field.one", laid_sigil_field_one), ("sigil/curve.constants", laid_sigil_curve_constants)], narrowed := true }
def MsmStepsUptoSaid : Prop := msmStepsUptoRow.holds Tryz.pinned (OpenSpec.upto msmStepsSpec)

/-- 'sigillaw05.MsmLinear', WHERE WHAT IT READS IS OF BULK AT MOST 1048576: true; the input reads as it did. -/
def msmLinearUptoRow : OpenClaim := { program := "ytokoknacolmhgaagreatdoor", sum := "a743e5e5cc26bcc03b6db44357ea795a0431d83709e2718bfc7c94437e8964c7", func := "sigil/sigillaw05.MsmLinear", spec := "msmLinear", inPlace := ["math/bits.Sub64", "math/bits.Add64"], unfollowed := true, recurses := true, named := ["sigil/field.primes", "math/bits.divideError", "math/bits.overflowError", "sigil/curve.constants", "sigil/field.one"], apart := false, laid := [("sigil/field.primes", laid_sigil_field_primes), ("sigil/field.one", laid_sigil_field_one), ("sigil/curve.constants", laid_sigil_curve_constants)], narrowed := true }
def MsmLinearUptoSaid : Prop := msmLinearUptoRow.holds Tryz.pinned (OpenSpec.upto msmLinearSpec)

/-- 'sigillaw05.MsmOther', WHERE WHAT IT READS IS OF BULK AT MOST 1048576: true; the input reads as it did. -/
def msmOtherUptoRow : OpenClaim := { program := "ytokoknacolmhgaagreatdoor", sum := "a743e5e5cc26bcc03b6db44357ea795a0431d83709e2718bfc7c94437e8964c7", func := "sigil/sigillaw05.MsmOther", spec := "msmOther", inPlace := ["math/bits.Sub64", "math/bits.Add64"], unfollowed := true, recurses := true, named := ["sigil/field.primes", "math/bits.divideError", "math/bits.overflowError", "sigil/curve.constants", "sigil/field.one"], apart := false, laid := [("sigil/field.primes", laid_sigil_field_primes), ("sigil/field.one", laid_sigil_field_one), ("sigil/curve.constants", laid_sigil_curve_constants)], narrowed := true }
def MsmOtherUptoSaid : Prop := msmOtherUptoRow.holds Tryz.pinned (OpenSpec.upto msmOtherSpec)

/-- 'sigillaw05.MsmMemory', WHERE WHAT IT READS IS OF BULK AT MOST 1048576: true; the input reads as it did. -/
def msmMemoryUptoRow : OpenClaim := { program := "ytokoknacolmhgaagreatdoor", sum := "a743e5e5cc26bcc03b6db44357ea795a0431d83709e2718bfc7c94437e8964c7", func := "sigil/sigillaw05.MsmMemory", spec := "msmMemory", inPlace := ["math/bits.Sub64", "math/bits.Add64"], unfollowed := true, recurses := true, named := ["sigil/field.primes", "math/bits.divideError", "math/bits.overflowError", "sigil/curve.constants", "sigil/field.one"], apart := false, laid := [("sigil/field.primes", laid_sigil_field_primes), ("sigil/field.one", laid_sigil_field_one), ("sigil/curve.constants", laid_sigil_curve_constants)], narrowed := true }
def MsmMemoryUptoSaid : Prop := msmMemoryUptoRow.holds Tryz.pinned (OpenSpec.upto msmMemorySpec)

end Rows
end Go.Proofs.YtokoknacolmhgaaGreatDoor
