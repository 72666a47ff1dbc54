/-
  NARROWER THAN 'FOR EVERY INPUT', by the rows' own cells (each row's printed sentence says how): PolySums: laid · PolyProducts: laid · PolyPoints: laid · PolyLimits: laid · PolyLaws: laid · PolyRests: laid.
  DERIVED. THE GIVEN ROWS OF THIS SEAT. 6 by the template 'for every input the law returns true; each argument reads behind the call as it read before'; 0 by the template 'total and deterministic' (their statements: YtfjdnlcfhgamfaaDoorTotals.lean).
  GIVEN WITH THE SEED: the statements are not yours to turn. If you find one false, say at which input.
  Laid BY PROGRAM, IN A SANDBOX (cutbox-rows.mjs): the forced cells as the released guide's own fill.sh prints them over the translation f030c8b1bbdc5ff1… (all of the seat's roots in one cut). By AI agents, Wed Nov 11 2026. No macro, syntax, notation, axiom, sorry.
-/
import Derived.Test.YtfjdnlcfhgamfaaDoorChecked
import GoSem.Claim
import GoSem.ClaimJoined
import GoSem.ClaimMapViews
import Derived.JoinedTies
import Derived.KernelRfl
namespace Go.Proofs.YtfjdnlcfhgamfaaDoor
/- THE CELL 'sum', in the pinned program and in every row, IS THE sha256 OF THE DUMP (.gsa) THAT YtfjdnlcfhgamfaaDoorProg.lean LOADS. Nothing in Lean hashes anything: it is a label: what it is worth is what the hold of that sum in a sandbox is worth. -/
noncomputable def Tryd.pinned : Pinned := { name := "ytfjdnlcfhgamfaadoor", sum := "f030c8b1bbdc5ff1815983a195019e1fd6fbd78e1ed054206c457ca1f726d163", checked := Tryd.checked }
namespace Rows
def none {H : Type} : Left H := { results := [], args := [] }

/- WHAT THE LISTED PACKAGE-LEVEL VARIABLES READ AS WHEN THE CALL BEGINS. Each datum BY PROGRAM (the guide's laid-datum.mjs) off the statement by which the dump's own 'gosem.cut.vars' lays the variable. In a bare row this is a premise. The card (YtfjdnlcfhgamfaaDoorCards.lean) ties it to the program's text. -/
def laid_sigil_field_primes {H : Type} : DataW H := .agg [.agg [.agg [.lit (.int .u64 16513537), .lit (.int .u64 0), .lit (.int .u64 0), .lit (.int .u64 0)], .lit (.int .i64 9)], .agg [.agg [.lit (.int .u64 16521217), .lit (.int .u64 0), .lit (.int .u64 0), .lit (.int .u64 0)], .lit (.int .i64 11)], .agg [.agg [.lit (.int .u64 11037532056220336129), .lit (.int .u64 2469829653914515739), .lit (.int .u64 0), .lit (.int .u64 4611686018427387904)], .lit (.int .i64 32)], .agg [.agg [.lit (.int .u64 10108024940646105089), .lit (.int .u64 2469829653919213789), .lit (.int .u64 0), .lit (.int .u64 4611686018427387904)], .lit (.int .i64 32)]]
def laid_sigil_field_one {H : Type} : DataW H := .agg [.lit (.int .u64 1), .lit (.int .u64 0), .lit (.int .u64 0), .lit (.int .u64 0)]

/-- 'sigillaw07.PolySums': WHATEVER THE INPUT: true; the input reads as it did. -/
def polySumsSpec : ChangeSpec := { name := "polySums", fn := fun _ => fun
  | [d1, d2, d3, d4] => { results := [.lit (.bool true)], args := [d1, d2, d3, d4] }
  | _ => none }
def polySumsRow : OpenClaim := { program := "ytfjdnlcfhgamfaadoor", sum := "f030c8b1bbdc5ff1815983a195019e1fd6fbd78e1ed054206c457ca1f726d163", func := "sigil/sigillaw07.PolySums", spec := "polySums", inPlace := ["math/bits.Sub64", "math/bits.Add64"], unfollowed := true, recurses := true, named := ["sigil/field.primes", "math/bits.divideError", "math/bits.overflowError"], apart := false, laid := [("sigil/field.primes", laid_sigil_field_primes)] }
def PolySumsSaid : Prop := polySumsRow.holds Tryd.pinned (OpenSpec.ofChange polySumsSpec)

/-- ITS FALSE NEIGHBOUR: 'it returns false'. Refute it at one input. -/
def polySumsWrong : ChangeSpec := { name := "polySums", fn := fun _ => fun
  | [d1, d2, d3, d4] => { results := [.lit (.bool false)], args := [d1, d2, d3, d4] }
  | _ => none }
def PolySumsWrongFalsely : Prop := polySumsRow.holds Tryd.pinned (OpenSpec.ofChange polySumsWrong)

/-- 'sigillaw07.PolyProducts': WHATEVER THE INPUT: true; the input reads as it did. -/
def polyProductsSpec : ChangeSpec := { name := "polyProducts", fn := fun _ => fun
  | [d1, d2, d3] => { results := [.lit (.bool true)], args := [d1, d2, d3] }
  | _ => none }
def polyProductsRow : OpenClaim := { program := "ytfjdnlcfhgamfaadoor", sum := "f030c8b1bbdc5ff1815983a195019e1fd6fbd78e1ed054206c457ca1f726d163", func := "sigil/sigillaw07.PolyProducts", spec := "polyProducts", inPlace := ["math/bits.Sub64", "math/bits.Add64"], unfollowed := true, recurses := true, named := ["sigil/field.primes", "math/bits.divideError", "math/bits.overflowError", "sigil/field.one"], apart := false, laid := [("sigil/field.primes", laid_sigil_field_primes), ("sigil/field.one", laid_sigil_field_one)] }
def PolyProductsSaid : Prop := polyProductsRow.holds Tryd.pinned (OpenSpec.ofChange polyProductsSpec)

/-- ITS FALSE NEIGHBOUR: 'it returns false'. Refute it at one input. -/
def polyProductsWrong : ChangeSpec := { name := "polyProducts", fn := fun _ => fun
  | [d1, d2, d3] => { results := [.lit (.bool false)], args := [d1, d2, d3] }
  | _ => none }
def PolyProductsWrongFalsely : Prop := polyProductsRow.holds Tryd.pinned (OpenSpec.ofChange polyProductsWrong)

/-- 'sigillaw07.PolyPoints': WHATEVER THE INPUT: true; the input reads as it did. -/
def polyPointsSpec : ChangeSpec := { name := "polyPoints", fn := fun _ => fun
  | [d1, d2, d3] => { results := [.lit (.bool true)], args := [d1, d2, d3] }
  | _ => none }
def polyPointsRow : OpenClaim := { program := "ytfjdnlcfhgamfaadoor", sum := "f030c8b1bbdc5ff1815983a195019e1fd6fbd78e1ed054206c457ca1f726d163", func := "sigil/sigillaw07.PolyPoints", spec := "polyPoints", inPlace := ["math/bits.Sub64", "math/bits.Add64"], unfollowed := true, recurses := true, named := ["sigil/field.primes", "math/bits.divideError", "math/bits.overflowError", "sigil/field.one"], apart := false, laid := [("sigil/field.primes", laid_sigil_field_primes), ("sigil/field.one", laid_sigil_field_one)] }
def PolyPointsSaid : Prop := polyPointsRow.holds Tryd.pinned (OpenSpec.ofChange polyPointsSpec)

/-- ITS FALSE NEIGHBOUR: 'it returns false'. Refute it at one input. -/
def polyPointsWrong : ChangeSpec := { name := "polyPoints", fn := fun _ => fun
  | [d1, d2, d3] => { results := [.lit (.bool false)], args := [d1, d2, d3] }
  | _ => none }
def PolyPointsWrongFalsely : Prop := polyPointsRow.holds Tryd.pinned (OpenSpec.ofChange polyPointsWrong)

/-- 'sigillaw07.PolyLimits': WHATEVER THE INPUT: true; the input reads as it did. -/
def polyLimitsSpec : ChangeSpec := { name := "polyLimits", fn := fun _ => fun
  | [d1, d2, d3] => { results := [.lit (.bool true)], args := [d1, d2, d3] }
  | _ => none }
def polyLimitsRow : OpenClaim := { program := "ytfjdnlcfhgamfaadoor", sum := "f030c8b1bbdc5ff1815983a195019e1fd6fbd78e1ed054206c457ca1f726d163", func := "sigil/sigillaw07.PolyLimits", spec := "polyLimits", inPlace := ["math/bits.Sub64", "math/bits.Add64"], unfollowed := true, recurses := true, named := ["sigil/field.primes", "math/bits.divideError", "math/bits.overflowError", "sigil/field.one"], apart := false, laid := [("sigil/field.primes", laid_sigil_field_primes), ("sigil/field.one", laid_sigil_field_one)] }
def PolyLimitsSaid : Prop := polyLimitsRow.holds Tryd.pinned (OpenSpec.ofChange polyLimitsSpec)

/-- ITS FALSE NEIGHBOUR: 'it returns false'. Refute it at one input. -/
def polyLimitsWrong : ChangeSpec := { name := "polyLimits", fn := fun _ => fun
  | [d1, d2, d3] => { results := [.lit (.bool false)], args := [d1, d2, d3] }
  | _ => none }
def PolyLimitsWrongFalsely : Prop := polyLimitsRow.holds Tryd.pinned (OpenSpec.ofChange polyLimitsWrong)

/-- 'sigillaw07.PolyLaws': WHATEVER THE INPUT: true; the input reads as it did. -/
def polyLawsSpec : ChangeSpec := { name := "polyLaws", fn := fun _ => fun
  | [d1, d2, d3, d4, d5] => { results := [.lit (.bool true)], args := [d1, d2, d3, d4, d5] }
  | _ => none }
def polyLawsRow : OpenClaim := { program := "ytfjdnlcfhgamfaadoor", sum := "f030c8b1bbdc5ff1815983a195019e1fd6fbd78e1ed054206c457ca1f726d163", func := "sigil/sigillaw07.PolyLaws", spec := "polyLaws", inPlace := ["math/bits.Sub64", "math/bits.Add64"], unfollowed := true, recurses := true, named := ["sigil/field.primes", "math/bits.divideError", "math/bits.overflowError", "sigil/field.one"], apart := false, laid := [("sigil/field.primes", laid_sigil_field_primes), ("sigil/field.one", laid_sigil_field_one)] }
def PolyLawsSaid : Prop := polyLawsRow.holds Tryd.pinned (OpenSpec.ofChange polyLawsSpec)

/-- ITS FALSE NEIGHBOUR: 'it returns false'. Refute it at one input. -/
def polyLawsWrong : ChangeSpec := { name := "polyLaws", fn := fun _ => fun
  | [d1, d2, d3, d4, d5] => { results := [.lit (.bool false)], args := [d1, d2, d3, d4, d5] }
  | _ => none }
def PolyLawsWrongFalsely : Prop := polyLawsRow.holds Tryd.pinned (OpenSpec.ofChange polyLawsWrong)

/-- 'sigillaw07.PolyRests': WHATEVER THE INPUT: true; the input reads as it did. -/
def polyRestsSpec : ChangeSpec := { name := "polyRests", fn := fun _ => fun
  | [d1, d2, d3, d4] => { results := [.lit (.bool true)], args := [d1, d2, d3, d4] }
  | _ => none }
def polyRestsRow : OpenClaim := { program := "ytfjdnlcfhgamfaadoor", sum := "f030c8b1bbdc5ff1815983a195019e1fd6fbd78e1ed054206c457ca1f726d163", func := "sigil/sigillaw07.PolyRests", spec := "polyRests", inPlace := ["math/bits.Sub64", "math/bits.Add64"], unfollowed := true, recurses := true, named := ["sigil/field.primes", "math/bits.divideError", "math/bits.overflowError", "sigil/field.one"], apart := false, laid := [("sigil/field.primes", laid_sigil_field_primes), ("sigil/field.one", laid_sigil_field_one)] }
def PolyRestsSaid : Prop := polyRestsRow.holds Tryd.pinned (OpenSpec.ofChange polyRestsSpec)

/-- ITS FALSE NEIGHBOUR: 'it returns false'. Refute it at one input. -/
def polyRestsWrong : ChangeSpec := { name := "polyRests", fn := fun _ => fun
  | [d1, d2, d3, d4] => { results := [.lit (.bool false)], args := [d1, d2, d3, d4] }
  | _ => none }
def PolyRestsWrongFalsely : Prop := polyRestsRow.holds Tryd.pinned (OpenSpec.ofChange polyRestsWrong)

/- THE SECOND FORM. 'bulk': how many values and letters a reading holds, each counted each time it is reached (what is shared counts as often as it is met; a slice's spare places count too). A statement '..UptoSaid' is the law's where the arguments, and the package variables that the reading takes, are together of bulk at most 1048576: NARROWER than '..Said'. Prove '..Said' where nothing that the law and all that it calls make is longer than what came in: it says more and counts as full. Else prove '..UptoSaid'. A law counts once. -/
mutual
def uptoBulk {H : Type} : DataW H → Nat
  | .lit (.string bytes) => bytes.length + 1
  | .lit _ => 1
  | .nil => 1
  | .ptr d => uptoBulk d + 1
  | .slice elems spare => uptoBulkAll elems + uptoBulkAll spare + 1
  | .agg parts => uptoBulkAll parts + 1
  | .iface _ d => uptoBulk d + 1
  | .map entries => uptoBulkEntries entries + 1
  | .held _ => 1
def uptoBulkAll {H : Type} : List (DataW H) → Nat
  | [] => 0
  | d :: r => uptoBulk d + uptoBulkAll r
def uptoBulkEntries {H : Type} : List (Lit × DataW H) → Nat
  | [] => 0
  | x :: r => uptoBulkEntry x + uptoBulkEntries r
def uptoBulkEntry {H : Type} : Lit × DataW H → Nat
  | (.string bytes, d) => bytes.length + uptoBulk d + 1
  | (_, d) => uptoBulk d + 1
 end
def uptoSmall : (H : Type) → List (DataW H) → Bool := fun _ ds => decide (uptoBulkAll ds ≤ 1048576)
def OpenSpec.upto (s : _root_.Go.ChangeSpec) : _root_.Go.OpenSpec := { _root_.Go.OpenSpec.ofChange s with cond := some uptoSmall }

/-- 'sigillaw07.PolySums', WHERE WHAT IT READS IS OF BULK AT MOST 1048576: true; the input reads as it did. -/
def polySumsUptoRow : OpenClaim := { program := "ytfjdnlcfhgamfaadoor", sum := "f030c8b1bbdc5ff1815983a195019e1fd6fbd78e1ed054206c457ca1f726d163", func := "sigil/sigillaw07.PolySums", spec := "polySums", inPlace := ["math/bits.Sub64", "math/bits.Add64"], unfollowed := true, recurses := true, named := ["sigil/field.primes", "math/bits.divideError", "math/bits.overflowError"], apart := false, laid := [("sigil/field.primes", laid_sigil_field_primes)], narrowed := true }
def PolySumsUptoSaid : Prop := polySumsUptoRow.holds Tryd.pinned (OpenSpec.upto polySumsSpec)

/-- 'sigillaw07.PolyProducts', WHERE WHAT IT READS IS OF BULK AT MOST 1048576: true; the input reads as it did. -/
def polyProductsUptoRow : OpenClaim := { program := "ytfjdnlcfhgamfaadoor", sum := "f030c8b1bbdc5ff1815983a195019e1fd6fbd78e1ed054206c457ca1f726d163", func := "sigil/sigillaw07.PolyProducts", spec := "polyProducts", inPlace := ["math/bits.Sub64", "math/bits.Add64"], unfollowed := true, recurses := true, named := ["sigil/field.primes", "math/bits.divideError", "math/bits.overflowError", "sigil/field.one"], apart := false, laid := [("sigil/field.primes", laid_sigil_field_primes), ("sigil/field.one", laid_sigil_field_one)], narrowed := true }
def PolyProductsUptoSaid : Prop := polyProductsUptoRow.holds Tryd.pinned (OpenSpec.upto polyProductsSpec)

/-- 'sigillaw07.PolyPoints', WHERE WHAT IT READS IS OF BULK AT MOST 1048576: true; the input reads as it did. -/
def polyPointsUptoRow : OpenClaim := { program := "ytfjdnlcfhgamfaadoor", sum := "f030c8b1bbdc5ff1815983a195019e1fd6fbd78e1ed054206c457ca1f726d163", func := "sigil/sigillaw07.PolyPoints", spec := "polyPoints", inPlace := ["math/bits.Sub64", "math/bits.Add64"], unfollowed := true, recurses := true, named := ["sigil/field.primes", "math/bits.divideError", "math/bits.overflowError", "sigil/field.one"], apart := false, laid := [("sigil/field.primes", laid_sigil_field_primes), ("sigil/field.one", laid_sigil_field_one)], narrowed := true }
def PolyPointsUptoSaid : Prop := polyPointsUptoRow.holds Tryd.pinned (OpenSpec.upto polyPointsSpec)

/-- 'sigillaw07.PolyLimits', WHERE WHAT IT READS IS OF BULK AT MOST 1048576: true; the input reads as it did. -/
def polyLimitsUptoRow : OpenClaim := { program := "ytfjdnlcfhgamfaadoor", sum := "f030c8b1bbdc5ff1815983a195019e1fd6fbd78e1ed054206c457ca1f726d163", func := "sigil/sigillaw07.PolyLimits", spec := "polyLimits", inPlace := ["math/bits.Sub64", "math/bits.Add64"], unfollowed := true, recurses := true, named := ["sigil/field.primes", "math/bits.divideError", "math/bits.overflowError", "sigil/field.one"], apart := false, laid := [("sigil/field.primes", laid_sigil_field_primes), ("sigil/field.one", laid_sigil_field_one)], narrowed := true }
def PolyLimitsUptoSaid : Prop := polyLimitsUptoRow.holds Tryd.pinned (OpenSpec.upto polyLimitsSpec)

/-- 'sigillaw07.PolyLaws', WHERE WHAT IT READS IS OF BULK AT MOST 1048576: true; the input reads as it did. -/
def polyLawsUptoRow : OpenClaim := { program := "ytfjdnlcfhgamfaadoor", sum := "f030c8b1bbdc5ff1815983a195019e1fd6fbd78e1ed054206c457ca1f726d163", func := "sigil/sigillaw07.PolyLaws", spec := "polyLaws", inPlace := ["math/bits.Sub64", "math/bits.Add64"], unfollowed := true, recurses := true, named := ["sigil/field.primes", "math/bits.divideError", "math/bits.overflowError", "sigil/field.one"], apart := false, laid := [("sigil/field.primes", laid_sigil_field_primes), ("sigil/field.one", laid_sigil_field_one)], narrowed := true }
def PolyLawsUptoSaid : Prop := polyLawsUptoRow.holds Tryd.pinned (OpenSpec.upto polyLawsSpec)

/-- 'sigillaw07.PolyRests', WHERE WHAT IT READS IS OF BULK AT MOST 1048576: true; the input reads as it did. -/
def polyRestsUptoRow : OpenClaim := { program := "ytfjdnlcfhgamfaadoor", sum := "f030c8b1bbdc5ff1815983a195019e1fd6fbd78e1ed054206c457ca1f726d163", func := "sigil/sigillaw07.PolyRests", spec := "polyRests", inPlace := ["math/bits.Sub64", "math/bits.Add64"], unfollowed := true, recurses := true, named := ["sigil/field.primes", "math/bits.divideError", "math/bits.overflowError", "sigil/field.one"], apart := false, laid := [("sigil/field.primes", laid_sigil_field_primes), ("sigil/field.one", laid_sigil_field_one)], narrowed := true }
def PolyRestsUptoSaid : Prop := polyRestsUptoRow.holds Tryd.pinned (OpenSpec.upto polyRestsSpec)

end Rows
end Go.Proofs.YtfjdnlcfhgamfaaDoor
