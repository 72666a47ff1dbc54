/-
  NARROWER THAN 'FOR EVERY INPUT', by the rows' own cells (each row's printed sentence says how): FieldCodecs: laid · FieldLaws: laid · FieldSquares: laid · FieldRound: laid · FieldMemory: laid.
  DERIVED. THE GIVEN ROWS OF THIS SEAT. 5 by the template 'for every input the law returns true; each argument reads behind the call as it read before'; 0 by the template 'total and deterministic' (their statements: YtlndeghggdpmaacDoorTotals.lean).
  GIVEN WITH THE SEED: the statements are not yours to turn. If you find one false, say at which input.
  Laid BY PROGRAM, IN A SANDBOX (cutbox-rows.mjs): the forced cells as the released guide's own fill.sh prints them over the translation e55807e1543e1f68… (all of the seat's roots in one cut). By AI agents, Wed Nov 11 2026. No macro, syntax, notation, axiom, sorry.
-/
import Derived.Test.YtlndeghggdpmaacDoorChecked
import GoSem.Claim
import GoSem.ClaimJoined
import GoSem.ClaimMapViews
import Derived.JoinedTies
import Derived.KernelRfl
namespace Go.Proofs.YtlndeghggdpmaacDoor
/- THE CELL 'sum', in the pinned program and in every row, IS THE sha256 OF THE DUMP (.gsa) THAT YtlndeghggdpmaacDoorProg.lean LOADS. Nothing in Lean hashes anything: it is a label: what it is worth is what the hold of that sum in a sandbox is worth. -/
noncomputable def Tryd.pinned : Pinned := { name := "ytlndeghggdpmaacdoor", sum := "e55807e1543e1f6885c635e2123079a4766c42bf159dc15469ae5a2f45c0506e", checked := Tryd.checked }
namespace Rows
def none {H : Type} : Left H := { results := [], args := [] }

/- WHAT THE LISTED PACKAGE-LEVEL VARIABLES READ AS WHEN THE CALL BEGINS. Each datum BY PROGRAM (the guide's laid-datum.mjs) off the statement by which the dump's own 'gosem.cut.vars' lays the variable. In a bare row this is a premise. The card (YtlndeghggdpmaacDoorCards.lean) ties it to the program's text. -/
def laid_sigil_field_primes {H : Type} : DataW H := .agg [.agg [.agg [.lit (.int .u64 16513537), .lit (.int .u64 0), .lit (.int .u64 0), .lit (.int .u64 0)], .lit (.int .i64 9)], .agg [.agg [.lit (.int .u64 16521217), .lit (.int .u64 0), .lit (.int .u64 0), .lit (.int .u64 0)], .lit (.int .i64 11)], .agg [.agg [.lit (.int .u64 11037532056220336129), .lit (.int .u64 2469829653914515739), .lit (.int .u64 0), .lit (.int .u64 4611686018427387904)], .lit (.int .i64 32)], .agg [.agg [.lit (.int .u64 10108024940646105089), .lit (.int .u64 2469829653919213789), .lit (.int .u64 0), .lit (.int .u64 4611686018427387904)], .lit (.int .i64 32)]]
def laid_sigil_field_one {H : Type} : DataW H := .agg [.lit (.int .u64 1), .lit (.int .u64 0), .lit (.int .u64 0), .lit (.int .u64 0)]

/-- 'sigillaw02.FieldCodecs': WHATEVER THE INPUT: true; the input reads as it did. -/
def fieldCodecsSpec : ChangeSpec := { name := "fieldCodecs", fn := fun _ => fun
  | [d1, d2, d3] => { results := [.lit (.bool true)], args := [d1, d2, d3] }
  | _ => none }
def fieldCodecsRow : OpenClaim := { program := "ytlndeghggdpmaacdoor", sum := "e55807e1543e1f6885c635e2123079a4766c42bf159dc15469ae5a2f45c0506e", func := "sigil/sigillaw02.FieldCodecs", spec := "fieldCodecs", inPlace := ["math/bits.Sub64", "math/bits.Add64"], named := ["sigil/field.primes", "math/bits.divideError", "math/bits.overflowError", "sigil/field.one"], apart := false, laid := [("sigil/field.primes", laid_sigil_field_primes), ("sigil/field.one", laid_sigil_field_one)] }
def FieldCodecsSaid : Prop := fieldCodecsRow.holds Tryd.pinned (OpenSpec.ofChange fieldCodecsSpec)

/-- ITS FALSE NEIGHBOUR: 'it returns false'. Refute it at one input. -/
def fieldCodecsWrong : ChangeSpec := { name := "fieldCodecs", fn := fun _ => fun
  | [d1, d2, d3] => { results := [.lit (.bool false)], args := [d1, d2, d3] }
  | _ => none }
def FieldCodecsWrongFalsely : Prop := fieldCodecsRow.holds Tryd.pinned (OpenSpec.ofChange fieldCodecsWrong)

/-- 'sigillaw02.FieldLaws': WHATEVER THE INPUT: true; the input reads as it did. -/
def fieldLawsSpec : ChangeSpec := { name := "fieldLaws", fn := fun _ => fun
  | [d1, d2, d3, d4] => { results := [.lit (.bool true)], args := [d1, d2, d3, d4] }
  | _ => none }
def fieldLawsRow : OpenClaim := { program := "ytlndeghggdpmaacdoor", sum := "e55807e1543e1f6885c635e2123079a4766c42bf159dc15469ae5a2f45c0506e", func := "sigil/sigillaw02.FieldLaws", spec := "fieldLaws", inPlace := ["math/bits.Sub64", "math/bits.Add64"], named := ["sigil/field.primes", "math/bits.divideError", "math/bits.overflowError", "sigil/field.one"], apart := false, laid := [("sigil/field.primes", laid_sigil_field_primes), ("sigil/field.one", laid_sigil_field_one)] }
def FieldLawsSaid : Prop := fieldLawsRow.holds Tryd.pinned (OpenSpec.ofChange fieldLawsSpec)

/-- ITS FALSE NEIGHBOUR: 'it returns false'. Refute it at one input. -/
def fieldLawsWrong : ChangeSpec := { name := "fieldLaws", fn := fun _ => fun
  | [d1, d2, d3, d4] => { results := [.lit (.bool false)], args := [d1, d2, d3, d4] }
  | _ => none }
def FieldLawsWrongFalsely : Prop := fieldLawsRow.holds Tryd.pinned (OpenSpec.ofChange fieldLawsWrong)

/-- 'sigillaw02.FieldSquares': WHATEVER THE INPUT: true; the input reads as it did. -/
def fieldSquaresSpec : ChangeSpec := { name := "fieldSquares", fn := fun _ => fun
  | [d1, d2] => { results := [.lit (.bool true)], args := [d1, d2] }
  | _ => none }
def fieldSquaresRow : OpenClaim := { program := "ytlndeghggdpmaacdoor", sum := "e55807e1543e1f6885c635e2123079a4766c42bf159dc15469ae5a2f45c0506e", func := "sigil/sigillaw02.FieldSquares", spec := "fieldSquares", inPlace := ["math/bits.Sub64", "math/bits.Add64"], named := ["sigil/field.primes", "math/bits.divideError", "math/bits.overflowError", "sigil/field.one"], apart := false, laid := [("sigil/field.primes", laid_sigil_field_primes), ("sigil/field.one", laid_sigil_field_one)] }
def FieldSquaresSaid : Prop := fieldSquaresRow.holds Tryd.pinned (OpenSpec.ofChange fieldSquaresSpec)

/-- ITS FALSE NEIGHBOUR: 'it returns false'. Refute it at one input. -/
def fieldSquaresWrong : ChangeSpec := { name := "fieldSquares", fn := fun _ => fun
  | [d1, d2] => { results := [.lit (.bool false)], args := [d1, d2] }
  | _ => none }
def FieldSquaresWrongFalsely : Prop := fieldSquaresRow.holds Tryd.pinned (OpenSpec.ofChange fieldSquaresWrong)

/-- 'sigillaw02.FieldRound': WHATEVER THE INPUT: true; the input reads as it did. -/
def fieldRoundSpec : ChangeSpec := { name := "fieldRound", fn := fun _ => fun
  | [d1, d2, d3, d4] => { results := [.lit (.bool true)], args := [d1, d2, d3, d4] }
  | _ => none }
def fieldRoundRow : OpenClaim := { program := "ytlndeghggdpmaacdoor", sum := "e55807e1543e1f6885c635e2123079a4766c42bf159dc15469ae5a2f45c0506e", func := "sigil/sigillaw02.FieldRound", spec := "fieldRound", inPlace := ["math/bits.Sub64", "math/bits.Add64"], named := ["sigil/field.primes", "math/bits.divideError", "math/bits.overflowError", "sigil/field.one"], apart := false, laid := [("sigil/field.primes", laid_sigil_field_primes), ("sigil/field.one", laid_sigil_field_one)] }
def FieldRoundSaid : Prop := fieldRoundRow.holds Tryd.pinned (OpenSpec.ofChange fieldRoundSpec)

/-- ITS FALSE NEIGHBOUR: 'it returns false'. Refute it at one input. -/
def fieldRoundWrong : ChangeSpec := { name := "fieldRound", fn := fun _ => fun
  | [d1, d2, d3, d4] => { results := [.lit (.bool false)], args := [d1, d2, d3, d4] }
  | _ => none }
def FieldRoundWrongFalsely : Prop := fieldRoundRow.holds Tryd.pinned (OpenSpec.ofChange fieldRoundWrong)

/-- 'sigillaw02.FieldMemory': WHATEVER THE INPUT: true; the input reads as it did. -/
def fieldMemorySpec : ChangeSpec := { name := "fieldMemory", fn := fun _ => fun
  | [d1, d2, d3] => { results := [.lit (.bool true)], args := [d1, d2, d3] }
  | _ => none }
def fieldMemoryRow : OpenClaim := { program := "ytlndeghggdpmaacdoor", sum := "e55807e1543e1f6885c635e2123079a4766c42bf159dc15469ae5a2f45c0506e", func := "sigil/sigillaw02.FieldMemory", spec := "fieldMemory", inPlace := ["math/bits.Sub64", "math/bits.Add64"], named := ["sigil/field.primes", "math/bits.divideError", "math/bits.overflowError", "sigil/field.one"], apart := false, laid := [("sigil/field.primes", laid_sigil_field_primes), ("sigil/field.one", laid_sigil_field_one)] }
def FieldMemorySaid : Prop := fieldMemoryRow.holds Tryd.pinned (OpenSpec.ofChange fieldMemorySpec)

/-- ITS FALSE NEIGHBOUR: 'it returns false'. Refute it at one input. -/
def fieldMemoryWrong : ChangeSpec := { name := "fieldMemory", fn := fun _ => fun
  | [d1, d2, d3] => { results := [.lit (.bool false)], args := [d1, d2, d3] }
  | _ => none }
def FieldMemoryWrongFalsely : Prop := fieldMemoryRow.holds Tryd.pinned (OpenSpec.ofChange fieldMemoryWrong)

/- THE SECOND FORM. 'bulk': how many values and letters a reading holds, each counted each time it is reached (what is shared counts as often as it is met; a slice's spare places count too). A statement '..UptoSaid' is the law's where the arguments, and the package variables that the reading takes, are together of bulk at most 1048576: NARROWER than '..Said'. Prove '..Said' where nothing that the law and all that it calls make is longer than what came in: it says more and counts as full. Else prove '..UptoSaid'. A law counts once. -/
mutual
def uptoBulk {H : Type} : DataW H → Nat
  | .lit (.string bytes) => bytes.length + 1
  | .lit _ => 1
  | .nil => 1
  | .ptr d => uptoBulk d + 1
  | .slice elems spare => uptoBulkAll elems + uptoBulkAll spare + 1
  | .agg parts => uptoBulkAll parts + 1
  | .iface _ d => uptoBulk d + 1
  | .map entries => uptoBulkEntries entries + 1
  | .held _ => 1
def uptoBulkAll {H : Type} : List (DataW H) → Nat
  | [] => 0
  | d :: r => uptoBulk d + uptoBulkAll r
def uptoBulkEntries {H : Type} : List (Lit × DataW H) → Nat
  | [] => 0
  | x :: r => uptoBulkEntry x + uptoBulkEntries r
def uptoBulkEntry {H : Type} : Lit × DataW H → Nat
  | (.string bytes, d) => bytes.length + uptoBulk d + 1
  | (_, d) => uptoBulk d + 1
 end
def uptoSmall : (H : Type) → List (DataW H) → Bool := fun _ ds => decide (uptoBulkAll ds ≤ 1048576)
def OpenSpec.upto (s : _root_.Go.ChangeSpec) : _root_.Go.OpenSpec := { _root_.Go.OpenSpec.ofChange s with cond := some uptoSmall }

/-- 'sigillaw02.FieldCodecs', WHERE WHAT IT READS IS OF BULK AT MOST 1048576: true; the input reads as it did. -/
def fieldCodecsUptoRow : OpenClaim := { program := "ytlndeghggdpmaacdoor", sum := "e55807e1543e1f6885c635e2123079a4766c42bf159dc15469ae5a2f45c0506e", func := "sigil/sigillaw02.FieldCodecs", spec := "fieldCodecs", inPlace := ["math/bits.Sub64", "math/bits.Add64"], named := ["sigil/field.primes", "math/bits.divideError", "math/bits.overflowError", "sigil/field.one"], apart := false, laid := [("sigil/field.primes", laid_sigil_field_primes), ("sigil/field.one", laid_sigil_field_one)], narrowed := true }
def FieldCodecsUptoSaid : Prop := fieldCodecsUptoRow.holds Tryd.pinned (OpenSpec.upto fieldCodecsSpec)

/-- 'sigillaw02.FieldLaws', WHERE WHAT IT READS IS OF BULK AT MOST 1048576: true; the input reads as it did. -/
def fieldLawsUptoRow : OpenClaim := { program := "ytlndeghggdpmaacdoor", sum := "e55807e1543e1f6885c635e2123079a4766c42bf159dc15469ae5a2f45c0506e", func := "sigil/sigillaw02.FieldLaws", spec := "fieldLaws", inPlace := ["math/bits.Sub64", "math/bits.Add64"], named := ["sigil/field.primes", "math/bits.divideError", "math/bits.overflowError", "sigil/field.one"], apart := false, laid := [("sigil/field.primes", laid_sigil_field_primes), ("sigil/field.one", laid_sigil_field_one)], narrowed := true }
def FieldLawsUptoSaid : Prop := fieldLawsUptoRow.holds Tryd.pinned (OpenSpec.upto fieldLawsSpec)

/-- 'sigillaw02.FieldSquares', WHERE WHAT IT READS IS OF BULK AT MOST 1048576: true; the input reads as it did. -/
def fieldSquaresUptoRow : OpenClaim := { program := "ytlndeghggdpmaacdoor", sum := "e55807e1543e1f6885c635e2123079a4766c42bf159dc15469ae5a2f45c0506e", func := "sigil/sigillaw02.FieldSquares", spec := "fieldSquares", inPlace := ["math/bits.Sub64", "math/bits.Add64"], named := ["sigil/field.primes", "math/bits.divideError", "math/bits.overflowError", "sigil/field.one"], apart := false, laid := [("sigil/field.primes", laid_sigil_field_primes), ("sigil/field.one", laid_sigil_field_one)], narrowed := true }
def FieldSquaresUptoSaid : Prop := fieldSquaresUptoRow.holds Tryd.pinned (OpenSpec.upto fieldSquaresSpec)

/-- 'sigillaw02.FieldRound', WHERE WHAT IT READS IS OF BULK AT MOST 1048576: true; the input reads as it did. -/
def fieldRoundUptoRow : OpenClaim := { program := "ytlndeghggdpmaacdoor", sum := "e55807e1543e1f6885c635e2123079a4766c42bf159dc15469ae5a2f45c0506e", func := "sigil/sigillaw02.FieldRound", spec := "fieldRound", inPlace := ["math/bits.Sub64", "math/bits.Add64"], named := ["sigil/field.primes", "math/bits.divideError", "math/bits.overflowError", "sigil/field.one"], apart := false, laid := [("sigil/field.primes", laid_sigil_field_primes), ("sigil/field.one", laid_sigil_field_one)], narrowed := true }
def FieldRoundUptoSaid : Prop := fieldRoundUptoRow.holds Tryd.pinned (OpenSpec.upto fieldRoundSpec)

/-- 'sigillaw02.FieldMemory', WHERE WHAT IT READS IS OF BULK AT MOST 1048576: true; the input reads as it did. -/
def fieldMemoryUptoRow : OpenClaim := { program := "ytlndeghggdpmaacdoor", sum := "e55807e1543e1f6885c635e2123079a4766c42bf159dc15469ae5a2f45c0506e", func := "sigil/sigillaw02.FieldMemory", spec := "fieldMemory", inPlace := ["math/bits.Sub64", "math/bits.Add64"], named := ["sigil/field.primes", "math/bits.divideError", "math/bits.overflowError", "sigil/field.one"], apart := false, laid := [("sigil/field.primes", laid_sigil_field_primes), ("sigil/field.one", laid_sigil_field_one)], narrowed := true }
def FieldMemoryUptoSaid : Prop := fieldMemoryUptoRow.holds Tryd.pinned (OpenSpec.upto fieldMemorySpec)

end Rows
end Go.Proofs.YtlndeghggdpmaacDoor
