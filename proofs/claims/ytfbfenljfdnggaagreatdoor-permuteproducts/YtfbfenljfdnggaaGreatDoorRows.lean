/-
  NARROWER THAN 'FOR EVERY INPUT', by the rows' own cells (each row's printed sentence says how): PermuteProducts: laid · PermuteHolds: laid.
  DERIVED. THE GIVEN ROWS OF THIS SEAT. 2 by the template 'for every input the law returns true; each argument reads behind the call as it read before'; 0 by the template 'total and deterministic' (their statements: YtfbfenljfdnggaaGreatDoorTotals.lean).
  GIVEN WITH THE SEED: the statements are not yours to turn. If you find one false, say at which input.
  Laid BY PROGRAM, IN A SANDBOX (cutbox-rows.mjs): the forced cells as the released guide's own fill.sh prints them over the translation 87b61a01642e8fa3… (all of the seat's roots in one cut). By AI agents, Wed Nov 11 2026. No macro, syntax, notation, axiom, sorry.
-/
import Derived.Test.YtfbfenljfdnggaaGreatDoorChecked
import GoSem.Claim
import GoSem.ClaimJoined
import GoSem.ClaimMapViews
import Derived.JoinedTies
import Derived.KernelRfl
namespace Go.Proofs.YtfbfenljfdnggaaGreatDoor
/- THE CELL 'sum', in the pinned program and in every row, IS THE sha256 OF THE DUMP (.gsa) THAT YtfbfenljfdnggaaGreatDoorProg.lean LOADS. Nothing in Lean hashes anything: it is a label: what it is worth is what the hold of that sum in a sandbox is worth. -/
noncomputable def Tryz.pinned : Pinned := { name := "ytfbfenljfdnggaagreatdoor", sum := "87b61a01642e8fa38e8a2b8ca66222704fad6efe77f11a40e903e5457b38182f", checked := Tryz.checked }
namespace Rows
def none {H : Type} : Left H := { results := [], args := [] }

/- WHAT THE LISTED PACKAGE-LEVEL VARIABLES READ AS WHEN THE CALL BEGINS. Each datum BY PROGRAM (the guide's laid-datum.mjs) off the statement by which the dump's own 'gosem.cut.vars' lays the variable. In a bare row this is a premise. The card (YtfbfenljfdnggaaGreatDoorCards.lean) ties it to the program's text. -/
def laid_sigil_field_primes {H : Type} : DataW H := .agg [.agg [.agg [.lit (.int .u64 16513537), .lit (.int .u64 0), .lit (.int .u64 0), .lit (.int .u64 0)], .lit (.int .i64 9)], .agg [.agg [.lit (.int .u64 16521217), .lit (.int .u64 0), .lit (.int .u64 0), .lit (.int .u64 0)], .lit (.int .i64 11)], .agg [.agg [.lit (.int .u64 11037532056220336129), .lit (.int .u64 2469829653914515739), .lit (.int .u64 0), .lit (.int .u64 4611686018427387904)], .lit (.int .i64 32)], .agg [.agg [.lit (.int .u64 10108024940646105089), .lit (.int .u64 2469829653919213789), .lit (.int .u64 0), .lit (.int .u64 4611686018427387904)], .lit (.int .i64 32)]]
def laid_sigil_field_one {H : Type} : DataW H := .agg [.lit (.int .u64 1), .lit (.int .u64 0), .lit (.int .u64 0), .lit (.int .u64 0)]
def laid_sigil_domain_one {H : Type} : DataW H := .agg [.lit (.int .u64 1), .lit (.int .u64 0), .lit (.int .u64 0), .lit (.int .u64 0)]

/-- 'sigillaw16.PermuteProducts': WHATEVER THE INPUT: true; the input reads as it did. -/
def permuteProductsSpec : ChangeSpec := { name := "permuteProducts", fn := fun _ => fun
  | [d1, d2, d3, d4, d5, d6, d7] => { results := [.lit (.bool true)], args := [d1, d2, d3, d4, d5, d6, d7] }
  | _ => none }
def permuteProductsRow : OpenClaim := { program := "ytfbfenljfdnggaagreatdoor", sum := "87b61a01642e8fa38e8a2b8ca66222704fad6efe77f11a40e903e5457b38182f", func := "sigil/sigillaw16.PermuteProducts", spec := "permuteProducts", inPlace := ["math/bits.Sub64", "math/bits.Add64"], named := ["sigil/field.primes", "sigil/domain.one", "sigil/field.one", "math/bits.divideError", "math/bits.overflowError"], plainKeys := false, apart := false, laid := [("sigil/field.primes", laid_sigil_field_primes), ("sigil/field.one", laid_sigil_field_one), ("sigil/domain.one", laid_sigil_domain_one)] }
def PermuteProductsSaid : Prop := permuteProductsRow.holds Tryz.pinned (OpenSpec.ofChange permuteProductsSpec)

/-- ITS FALSE NEIGHBOUR: 'it returns false'. Refute it at one input. -/
def permuteProductsWrong : ChangeSpec := { name := "permuteProducts", fn := fun _ => fun
  | [d1, d2, d3, d4, d5, d6, d7] => { results := [.lit (.bool false)], args := [d1, d2, d3, d4, d5, d6, d7] }
  | _ => none }
def PermuteProductsWrongFalsely : Prop := permuteProductsRow.holds Tryz.pinned (OpenSpec.ofChange permuteProductsWrong)

/-- 'sigillaw16.PermuteHolds': WHATEVER THE INPUT: true; the input reads as it did. -/
def permuteHoldsSpec : ChangeSpec := { name := "permuteHolds", fn := fun _ => fun
  | [d1, d2, d3, d4, d5, d6, d7] => { results := [.lit (.bool true)], args := [d1, d2, d3, d4, d5, d6, d7] }
  | _ => none }
def permuteHoldsRow : OpenClaim := { program := "ytfbfenljfdnggaagreatdoor", sum := "87b61a01642e8fa38e8a2b8ca66222704fad6efe77f11a40e903e5457b38182f", func := "sigil/sigillaw16.PermuteHolds", spec := "permuteHolds", inPlace := ["math/bits.Sub64", "math/bits.Add64"], unfollowed := true, recurses := true, named := ["sigil/field.primes", "sigil/domain.one", "sigil/field.one", "math/bits.divideError", "math/bits.overflowError"], plainKeys := false, apart := false, laid := [("sigil/field.primes", laid_sigil_field_primes), ("sigil/field.one", laid_sigil_field_one), ("sigil/domain.one", laid_sigil_domain_one)] }
def PermuteHoldsSaid : Prop := permuteHoldsRow.holds Tryz.pinned (OpenSpec.ofChange permuteHoldsSpec)

/-- ITS FALSE NEIGHBOUR: 'it returns false'. Refute it at one input. -/
def permuteHoldsWrong : ChangeSpec := { name := "permuteHolds", fn := fun _ => fun
  | [d1, d2, d3, d4, d5, d6, d7] => { results := [.lit (.bool false)], args := [d1, d2, d3, d4, d5, d6, d7] }
  | _ => none }
def PermuteHoldsWrongFalsely : Prop := permuteHoldsRow.holds Tryz.pinned (OpenSpec.ofChange permuteHoldsWrong)

/- THE SECOND FORM. 'bulk': how many values and letters a reading holds, each counted each time it is reached (what is shared counts as often as it is met; a slice's spare places count too). A statement '..UptoSaid' is the law's where the arguments, and the package variables that the reading takes, are together of bulk at most 1048576: NARROWER than '..Said'. Prove '..Said' where nothing that the law and all that it calls make is longer than what came in: it says more and counts as full. Else prove '..UptoSaid'. A law counts once. -/
mutual
def uptoBulk {H : Type} : DataW H → Nat
  | .lit (.string bytes) => bytes.length + 1
  | .lit _ => 1
  | .nil => 1
  | .ptr d => uptoBulk d + 1
  | .slice elems spare => uptoBulkAll elems + uptoBulkAll spare + 1
  | .agg parts => uptoBulkAll parts + 1
  | .iface _ d => uptoBulk d + 1
  | .map entries => uptoBulkEntries entries + 1
  | .held _ => 1
def uptoBulkAll {H : Type} : List (DataW H) → Nat
  | [] => 0
  | d :: r => uptoBulk d + uptoBulkAll r
def uptoBulkEntries {H : Type} : List (Lit × DataW H) → Nat
  | [] => 0
  | x :: r => uptoBulkEntry x + uptoBulkEntries r
def uptoBulkEntry {H : Type} : Lit × DataW H → Nat
  | (.string bytes, d) => bytes.length + uptoBulk d + 1
  | (_, d) => uptoBulk d + 1
 end
def uptoSmall : (H : Type) → List (DataW H) → Bool := fun _ ds => decide (uptoBulkAll ds ≤ 1048576)
def OpenSpec.upto (s : _root_.Go.ChangeSpec) : _root_.Go.OpenSpec := { _root_.Go.OpenSpec.ofChange s with cond := some uptoSmall }

/-- 'sigillaw16.PermuteProducts', WHERE WHAT IT READS IS OF BULK AT MOST 1048576: true; the input reads as it did. -/
def permuteProductsUptoRow : OpenClaim := { program := "ytfbfenljfdnggaagreatdoor", sum := "87b61a01642e8fa38e8a2b8ca66222704fad6efe77f11a40e903e5457b38182f", func := "sigil/sigillaw16.PermuteProducts", spec := "permuteProducts", inPlace := ["math/bits.Sub64", "math/bits.Add64"], named := ["sigil/field.primes", "sigil/domain.one", "sigil/field.one", "math/bits.divideError", "math/bits.overflowError"], plainKeys := false, apart := false, laid := [("sigil/field.primes", laid_sigil_field_primes), ("sigil/field.one", laid_sigil_field_one), ("sigil/domain.one", laid_sigil_domain_one)], narrowed := true }
def PermuteProductsUptoSaid : Prop := permuteProductsUptoRow.holds Tryz.pinned (OpenSpec.upto permuteProductsSpec)

/-- 'sigillaw16.PermuteHolds', WHERE WHAT IT READS IS OF BULK AT MOST 1048576: true; the input reads as it did. -/
def permuteHoldsUptoRow : OpenClaim := { program := "ytfbfenljfdnggaagreatdoor", sum := "87b61a01642e8fa38e8a2b8ca66222704fad6efe77f11a40e903e5457b38182f", func := "sigil/sigillaw16.PermuteHolds", spec := "permuteHolds", inPlace := ["math/bits.Sub64", "math/bits.Add64"], unfollowed := true, recurses := true, named := ["sigil/field.primes", "sigil/domain.one", "sigil/field.one", "math/bits.divideError", "math/bits.overflowError"], plainKeys := false, apart := false, laid := [("sigil/field.primes", laid_sigil_field_primes), ("sigil/field.one", laid_sigil_field_one), ("sigil/domain.one", laid_sigil_domain_one)], narrowed := true }
def PermuteHoldsUptoSaid : Prop := permuteHoldsUptoRow.holds Tryz.pinned (OpenSpec.upto permuteHoldsSpec)

end Rows
end Go.Proofs.YtfbfenljfdnggaaGreatDoor
