/-
  NARROWER THAN 'FOR EVERY INPUT', by the rows' own cells (each row's printed sentence says how): CurveSums: laid · CurveProducts: laid · CurveCodecs: laid · CurveGroup: laid · CurveCounts: laid · CurveRound: laid.
  DERIVED. THE GIVEN ROWS OF THIS SEAT. 6 by the template 'for every input the law returns true; each argument reads behind the call as it read before'; 0 by the template 'total and deterministic' (their statements: YtjpjnmhjbmmaiaaGreatDoorTotals.lean).
  GIVEN WITH THE SEED: the statements are not yours to turn. If you find one false, say at which input.
  Laid BY PROGRAM, IN A SANDBOX (cutbox-rows.mjs): the forced cells as the released guide's own fill.sh prints them over the translation bc9fd644a5a3da31… (all of the seat's roots in one cut). By AI agents, Wed Nov 11 2026. No macro, syntax, notation, axiom, sorry.
-/
import Derived.Test.YtjpjnmhjbmmaiaaGreatDoorChecked
import GoSem.Claim
import GoSem.ClaimJoined
import GoSem.ClaimMapViews
import Derived.JoinedTies
import Derived.KernelRfl
namespace Go.Proofs.YtjpjnmhjbmmaiaaGreatDoor
/- THE CELL 'sum', in the pinned program and in every row, IS THE sha256 OF THE DUMP (.gsa) THAT YtjpjnmhjbmmaiaaGreatDoorProg.lean LOADS. Nothing in Lean hashes anything: it is a label: what it is worth is what the hold of that sum in a sandbox is worth. -/
noncomputable def Tryz.pinned : Pinned := { name := "ytjpjnmhjbmmaiaagreatdoor", sum := "bc9fd644a5a3da3175b574ee9e7a13217acb6b1b9b43584e296385ceb982f98c", checked := Tryz.checked }
namespace Rows
def none {H : Type} : Left H := { results := [], args := [] }

/- WHAT THE LISTED PACKAGE-LEVEL VARIABLES READ AS WHEN THE CALL BEGINS. Each datum BY PROGRAM (the guide's laid-datum.mjs) off the statement by which the dump's own 'gosem.cut.vars' lays the variable. In a bare row this is a premise. The card (YtjpjnmhjbmmaiaaGreatDoorCards.lean) ties it to the program's text. -/
def laid_sigil_field_primes {H : Type} : DataW H := .agg [.agg [.agg [.lit (.int .u64 16513537), .lit (.int .u64 0), .lit (.int .u64 0), .lit (.int .u64 0)], .lit (.int .i64 9)], .agg [.agg [.lit (.int .u64 16521217), .lit (.int .u64 0), .lit (.int .u64 0), .lit (.int .u64 0)], .lit (.int .i64 11)], .agg [.agg [.lit (.int .u64 11037532056220336129), .lit (.int .u64 2469829653914515739), .lit (.int .u64 0), .lit (.int .u64 4611686018427387904)], .lit (.int .i64 32)], .agg [.agg [.lit (.int .u64 10108024940646105089), .lit (.int .u64 2469829653919213789), .lit (.int .u64 0), .lit (.int .u64 4611686018427387904)], .lit (.int .i64 32)]]
def laid_sigil_field_one {H : Type} : DataW H := .agg [.lit (.int .u64 1), .lit (.int .u64 0), .lit (.int .u64 0), .lit (.int .u64 0)]
def laid_sigil_curve_constants {H : Type} : DataW H := .agg [.lit (.int .u64 23), .lit (.int .u64 21), .lit (.int .u64 5), .lit (.int .u64 5)]

/-- 'sigillaw04.CurveSums': WHATEVER THE INPUT: true; the input reads as it did. -/
def curveSumsSpec : ChangeSpec := { name := "curveSums", fn := fun _ => fun
  | [d1, d2, d3] => { results := [.lit (.bool true)], args := [d1, d2, d3] }
  | _ => none }
def curveSumsRow : OpenClaim := { program := "ytjpjnmhjbmmaiaagreatdoor", sum := "bc9fd644a5a3da3175b574ee9e7a13217acb6b1b9b43584e296385ceb982f98c", func := "sigil/sigillaw04.CurveSums", spec := "curveSums", inPlace := ["math/bits.Sub64", "math/bits.Add64"], unfollowed := true, recurses := true, named := ["sigil/field.primes", "sigil/curve.constants", "math/bits.divideError", "math/bits.overflowError", "sigil/field.one"], apart := false, laid := [("sigil/field.primes", laid_sigil_field_primes), ("sigil/field.one", laid_sigil_field_one), ("sigil/curve.constants", laid_sigil_curve_constants)] }
def CurveSumsSaid : Prop := curveSumsRow.holds Tryz.pinned (OpenSpec.ofChange curveSumsSpec)

/-- ITS FALSE NEIGHBOUR: 'it returns false'. Refute it at one input. -/
def curveSumsWrong : ChangeSpec := { name := "curveSums", fn := fun _ => fun
  | [d1, d2, d3] => { results := [.lit (.bool false)], args := [d1, d2, d3] }
  | _ => none }
def CurveSumsWrongFalsely : Prop := curveSumsRow.holds Tryz.pinned (OpenSpec.ofChange curveSumsWrong)

/-- 'sigillaw04.CurveProducts': WHATEVER THE INPUT: true; the input reads as it did. -/
def curveProductsSpec : ChangeSpec := { name := "curveProducts", fn := fun _ => fun
  | [d1, d2, d3] => { results := [.lit (.bool true)], args := [d1, d2, d3] }
  | _ => none }
def curveProductsRow : OpenClaim := { program := "ytjpjnmhjbmmaiaagreatdoor", sum := "bc9fd644a5a3da3175b574ee9e7a13217acb6b1b9b43584e296385ceb982f98c", func := "sigil/sigillaw04.CurveProducts", spec := "curveProducts", inPlace := ["math/bits.Sub64", "math/bits.Add64"], unfollowed := true, recurses := true, named := ["sigil/field.primes", "sigil/curve.constants", "math/bits.divideError", "math/bits.overflowError", "sigil/field.one"], apart := false, laid := [("sigil/field.primes", laid_sigil_field_primes), ("sigil/field.one", laid_sigil_field_one), ("sigil/curve.constants", laid_sigil_curve_constants)] }
def CurveProductsSaid : Prop := curveProductsRow.holds Tryz.pinned (OpenSpec.ofChange curveProductsSpec)

/-- ITS FALSE NEIGHBOUR: 'it returns false'. Refute it at one input. -/
def curveProductsWrong : ChangeSpec := { name := "curveProducts", fn := fun _ => fun
  | [d1, d2, d3] => { results := [.lit (.bool false)], args := [d1, d2, d3] }
  | _ => none }
def CurveProductsWrongFalsely : Prop := curveProductsRow.holds Tryz.pinned (OpenSpec.ofChange curveProductsWrong)

/-- 'sigillaw04.CurveCodecs': WHATEVER THE INPUT: true; the input reads as it did. -/
def curveCodecsSpec : ChangeSpec := { name := "curveCodecs", fn := fun _ => fun
  | [d1, d2, d3] => { results := [.lit (.bool true)], args := [d1, d2, d3] }
  | _ => none }
def curveCodecsRow : OpenClaim := { program := "ytjpjnmhjbmmaiaagreatdoor", sum := "bc9fd644a5a3da3175b574ee9e7a13217acb6b1b9b43584e296385ceb982f98c", func := "sigil/sigillaw04.CurveCodecs", spec := "curveCodecs", inPlace := ["math/bits.Sub64", "math/bits.Add64"], unfollowed := true, recurses := true, named := ["sigil/field.primes", "sigil/curve.constants", "math/bits.divideError", "math/bits.overflowError", "sigil/field.one"], apart := false, laid := [("sigil/field.primes", laid_sigil_field_primes), ("sigil/field.one", laid_sigil_field_one), ("sigil/curve.constants", laid_sigil_curve_constants)] }
def CurveCodecsSaid : Prop := curveCodecsRow.holds Tryz.pinned (OpenSpec.ofChange curveCodecsSpec)

/-- ITS FALSE NEIGHBOUR: 'it returns false'. Refute it at one input. -/
def curveCodecsWrong : ChangeSpec := { name := "curveCodecs", fn := fun _ => fun
  | [d1, d2, d3] => { results := [.lit (.bool false)], args := [d1, d2, d3] }
  | _ => none }
def CurveCodecsWrongFalsely : Prop := curveCodecsRow.holds Tryz.pinned (OpenSpec.ofChange curveCodecsWrong)

/-- 'sigillaw04.CurveGroup': WHATEVER THE INPUT: true; the input reads as it did. -/
def curveGroupSpec : ChangeSpec := { name := "curveGroup", fn := fun _ => fun
  | [d1, d2, d3, d4] => { results := [.lit (.bool true)], args := [d1, d2, d3, d4] }
  | _ => none }
def curveGroupRow : OpenClaim := { program := "ytjpjnmhjbmmaiaagreatdoor", sum := "bc9fd644a5a3da3175b574ee9e7a13217acb6b1b9b43584e296385ceb982f98c", func := "sigil/sigillaw04.CurveGroup", spec := "curveGroup", inPlace := ["math/bits.Sub64", "math/bits.Add64"], unfollowed := true, recurses := true, named := ["sigil/field.primes", "sigil/curve.constants", "math/bits.divideError", "math/bits.overflowError", "sigil/field.one"], apart := false, laid := [("sigil/field.primes", laid_sigil_field_primes), ("sigil/field.one", laid_sigil_field_one), ("sigil/curve.constants", laid_sigil_curve_constants)] }
def CurveGroupSaid : Prop := curveGroupRow.holds Tryz.pinned (OpenSpec.ofChange curveGroupSpec)

/-- ITS FALSE NEIGHBOUR: 'it returns false'. Refute it at one input. -/
def curveGroupWrong : ChangeSpec := { name := "curveGroup", fn := fun _ => fun
  | [d1, d2, d3, d4] => { results := [.lit (.bool false)], args := [d1, d2, d3, d4] }
  | _ => none }
def CurveGroupWrongFalsely : Prop := curveGroupRow.holds Tryz.pinned (OpenSpec.ofChange curveGroupWrong)

/-- 'sigillaw04.CurveCounts': WHATEVER THE INPUT: true; the input reads as it did. -/
def curveCountsSpec : ChangeSpec := { name := "curveCounts", fn := fun _ => fun
  | [d1, d2, d3, d4] => { results := [.lit (.bool true)], args := [d1, d2, d3, d4] }
  | _ => none }
def curveCountsRow : OpenClaim := { program := "ytjpjnmhjbmmaiaagreatdoor", sum := "bc9fd644a5a3da3175b574ee9e7a13217acb6b1b9b43584e296385ceb982f98c", func := "sigil/sigillaw04.CurveCounts", spec := "curveCounts", inPlace := ["math/bits.Sub64", "math/bits.Add64"], unfollowed := true, recurses := true, named := ["sigil/field.primes", "sigil/curve.constants", "math/bits.divideError", "math/bits.overflowError", "sigil/field.one"], apart := false, laid := [("sigil/field.primes", laid_sigil_field_primes), ("sigil/field.one", laid_sigil_field_one), ("sigil/curve.constants", laid_sigil_curve_constants)] }
def CurveCountsSaid : Prop := curveCountsRow.holds Tryz.pinned (OpenSpec.ofChange curveCountsSpec)

/-- ITS FALSE NEIGHBOUR: 'it returns false'. Refute it at one input. -/
def curveCountsWrong : ChangeSpec := { name := "curveCounts", fn := fun _ => fun
  | [d1, d2, d3, d4] => { results := [.lit (.bool false)], args := [d1, d2, d3, d4] }
  | _ => none }
def CurveCountsWrongFalsely : Prop := curveCountsRow.holds Tryz.pinned (OpenSpec.ofChange curveCountsWrong)

/-- 'sigillaw04.CurveRound': WHATEVER THE INPUT: true; the input reads as it did. -/
def curveRoundSpec : ChangeSpec := { name := "curveRound", fn := fun _ => fun
  | [d1, d2, d3] => { results := [.lit (.bool true)], args := [d1, d2, d3] }
  | _ => none }
def curveRoundRow : OpenClaim := { program := "ytjpjnmhjbmmaiaagreatdoor", sum := "bc9fd644a5a3da3175b574ee9e7a13217acb6b1b9b43584e296385ceb982f98c", func := "sigil/sigillaw04.CurveRound", spec := "curveRound", inPlace := ["math/bits.Sub64", "math/bits.Add64"], unfollowed := true, recurses := true, named := ["sigil/field.primes", "sigil/curve.constants", "math/bits.divideError", "math/bits.overflowError", "sigil/field.one"], apart := false, laid := [("sigil/field.primes", laid_sigil_field_primes), ("sigil/field.one", laid_sigil_field_one), ("sigil/curve.constants", laid_sigil_curve_constants)] }
def CurveRoundSaid : Prop := curveRoundRow.holds Tryz.pinned (OpenSpec.ofChange curveRoundSpec)

/-- ITS FALSE NEIGHBOUR: 'it returns false'. Refute it at one input. -/
def curveRoundWrong : ChangeSpec := { name := "curveRound", fn := fun _ => fun
  | [d1, d2, d3] => { results := [.lit (.bool false)], args := [d1, d2, d3] }
  | _ => none }
def CurveRoundWrongFalsely : Prop := curveRoundRow.holds Tryz.pinned (OpenSpec.ofChange curveRoundWrong)

/- THE SECOND FORM. 'bulk': how many values and letters a reading holds, each counted each time it is reached (what is shared counts as often as it is met; a slice's spare places count too). A statement '..UptoSaid' is the law's where the arguments, and the package variables that the reading takes, are together of bulk at most 1048576: NARROWER than '..Said'. Prove '..Said' where nothing that the law and all that it calls make is longer than what came in: it says more and counts as full. Else prove '..UptoSaid'. A law counts once. -/
mutual
def uptoBulk {H : Type} : DataW H → Nat
  | .lit (.string bytes) => bytes.length + 1
  | .lit _ => 1
  | .nil => 1
  | .ptr d => uptoBulk d + 1
  | .slice elems spare => uptoBulkAll elems + uptoBulkAll spare + 1
  | .agg parts => uptoBulkAll parts + 1
  | .iface _ d => uptoBulk d + 1
  | .map entries => uptoBulkEntries entries + 1
  | .held _ => 1
def uptoBulkAll {H : Type} : List (DataW H) → Nat
  | [] => 0
  | d :: r => uptoBulk d + uptoBulkAll r
def uptoBulkEntries {H : Type} : List (Lit × DataW H) → Nat
  | [] => 0
  | x :: r => uptoBulkEntry x + uptoBulkEntries r
def uptoBulkEntry {H : Type} : Lit × DataW H → Nat
  | (.string bytes, d) => bytes.length + uptoBulk d + 1
  | (_, d) => uptoBulk d + 1
 end
def uptoSmall : (H : Type) → List (DataW H) → Bool := fun _ ds => decide (uptoBulkAll ds ≤ 1048576)
def OpenSpec.upto (s : _root_.Go.ChangeSpec) : _root_.Go.OpenSpec := { _root_.Go.OpenSpec.ofChange s with cond := some uptoSmall }

/-- 'sigillaw04.CurveSums', WHERE WHAT IT READS IS OF BULK AT MOST 1048576: true; the input reads as it did. -/
def curveSumsUptoRow : OpenClaim := { program := "ytjpjnmhjbmmaiaagreatdoor", sum := "bc9fd644a5a3da3175b574ee9e7a13217acb6b1b9b43584e296385ceb982f98c", func := "sigil/sigillaw04.CurveSums", spec := "curveSums", inPlace := ["math/bits.Sub64", "math/bits.Add64"], unfollowed := true, recurses := true, named := ["sigil/field.primes", "sigil/curve.constants", "math/bits.divideError", "math/bits.overflowError", "sigil/field.one"], apart := false, laid := [("sigil/field.primes", laid_sigil_field_primes), ("sigil/field.one", laid_sigil_field_one), ("sigil/curve.constants", laid_sigil_curve_constants)], narrowed := true }
def CurveSumsUptoSaid : Prop := curveSumsUptoRow.holds Tryz.pinned (OpenSpec.upto curveSumsSpec)

/-- 'sigillaw04.CurveProducts', WHERE WHAT IT READS IS OF BULK AT MOST 1048576: true; the input reads as it did. -/
def curveProductsUptoRow : OpenClaim := { program := "ytjpjnmhjbmmaiaagreatdoor", sum := "bc9fd644a5a3da3175b574ee9e7a13217acb6b1b9b43584e296385ceb982f98c", func := "sigil/sigillaw04.CurveProducts", spec := "curveProducts", inPlace := ["math/bits.Sub64", "math/bits.Add64"], unfollowed := true, recurses := true, named := ["sigil/field.primes", "sigil/curve.constants", "math/bits.divideError", "math/bits.overflowError", "sigil/field.one"], apart := false, laid := [("sigil/field.primes", laid_sigil_field_primes), ("sigil/field.one", laid_sigil_field_one), ("sigil/curve.constants", laid_sigil_curve_constants)], narrowed := true }
def CurveProductsUptoSaid : Prop := curveProductsUptoRow.holds Tryz.pinned (OpenSpec.upto curveProductsSpec)

/-- 'sigillaw04.CurveCodecs', WHERE WHAT IT READS IS OF BULK AT MOST 1048576: true; the input reads as it did. -/
def curveCodecsUptoRow : OpenClaim := { program := "ytjpjnmhjbmmaiaagreatdoor", sum := "bc9fd644a5a3da3175b574ee9e7a13217acb6b1b9b43584e296385ceb982f98c", func := "sigil/sigillaw04.CurveCodecs", spec := "curveCodecs", inPlace := ["math/bits.Sub64", "math/bits.Add64"], unfollowed := true, recurses := true, named := ["sigil/field.primes", "sigil/curve.constants", "math/bits.divideError", "math/bits.overflowError", "sigil/field.one"], apart := false, laid := [("sigil/field.primes", laid_sigil_field_primes), ("sigil/field.one", laid_sigil_field_one), ("sigil/curve.constants", laid_sigil_curve_constants)], narrowed := true }
def CurveCodecsUptoSaid : Prop := curveCodecsUptoRow.holds Tryz.pinned (OpenSpec.upto curveCodecsSpec)

/-- 'sigillaw04.CurveGroup', WHERE WHAT IT READS IS OF BULK AT MOST 1048576: true; the input reads as it did. -/
def curveGroupUptoRow : OpenClaim := { program := "ytjpjnmhjbmmaiaagreatdoor", sum := "bc9fd644a5a3da3175b574ee9e7a13217acb6b1b9b43584e296385ceb982f98c", func := "sigil/sigillaw04.CurveGroup", spec := "curveGroup", inPlace := ["math/bits.Sub64", "math/bits.Add64"], unfollowed := true, recurses := true, named := ["sigil/field.primes", "sigil/curve.constants", "math/bits.divideError", "math/bits.overflowError", "sigil/field.one"], apart := false, laid := [("sigil/field.primes", laid_sigil_field_primes), ("sigil/field.one", laid_sigil_field_one), ("sigil/curve.constants", laid_sigil_curve_constants)], narrowed := true }
def CurveGroupUptoSaid : Prop := curveGroupUptoRow.holds Tryz.pinned (OpenSpec.upto curveGroupSpec)

/-- 'sigillaw04.CurveCounts', WHERE WHAT IT READS IS OF BULK AT MOST 1048576: true; the input reads as it did. -/
def curveCountsUptoRow : OpenClaim := { program := "ytjpjnmhjbmmaiaagreatdoor", sum := "bc9fd644a5a3da3175b574ee9e7a13217acb6b1b9b43584e296385ceb982f98c", func := "sigil/sigillaw04.CurveCounts", spec := "curveCounts", inPlace := ["math/bits.Sub64", "math/bits.Add64"], unfollowed := true, recurses := true, named := ["sigil/field.primes", "sigil/curve.constants", "math/bits.divideError", "math/bits.overflowError", "sigil/field.one"], apart := false, laid := [("sigil/field.primes", laid_sigil_field_primes), ("sigil/field.one", laid_sigil_field_one), ("sigil/curve.constants", laid_sigil_curve_constants)], narrowed := true }
def CurveCountsUptoSaid : Prop := curveCountsUptoRow.holds Tryz.pinned (OpenSpec.upto curveCountsSpec)

/-- 'sigillaw04.CurveRound', WHERE WHAT IT READS IS OF BULK AT MOST 1048576: true; the input reads as it did. -/
def curveRoundUptoRow : OpenClaim := { program := "ytjpjnmhjbmmaiaagreatdoor", sum := "bc9fd644a5a3da3175b574ee9e7a13217acb6b1b9b43584e296385ceb982f98c", func := "sigil/sigillaw04.CurveRound", spec := "curveRound", inPlace := ["math/bits.Sub64", "math/bits.Add64"], unfollowed := true, recurses := true, named := ["sigil/field.primes", "sigil/curve.constants", "math/bits.divideError", "math/bits.overflowError", "sigil/field.one"], apart := false, laid := [("sigil/field.primes", laid_sigil_field_primes), ("sigil/field.one", laid_sigil_field_one), ("sigil/curve.constants", laid_sigil_curve_constants)], narrowed := true }
def CurveRoundUptoSaid : Prop := curveRoundUptoRow.holds Tryz.pinned (OpenSpec.upto curveRoundSpec)

end Rows
end Go.Proofs.YtjpjnmhjbmmaiaaGreatDoor
