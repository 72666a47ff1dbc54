/-
  NARROWER THAN 'FOR EVERY INPUT', by the rows' own cells (each row's printed sentence says how): TapeCoins: laid.
  DERIVED. THE GIVEN ROWS OF THIS SEAT. 1 by the template 'for every input the law returns true; each argument reads behind the call as it read before'; 0 by the template 'total and deterministic' (their statements: YtcaljepfinfkbaaDoorTotals.lean).
  GIVEN WITH THE SEED: the statements are not yours to turn. If you find one false, say at which input.
  Laid BY PROGRAM, IN A SANDBOX (cutbox-rows.mjs): the forced cells as the released guide's own fill.sh prints them over the translation ea5a112c3b9080b0… (all of the seat's roots in one cut). By AI agents, Wed Nov 11 2026. No macro, syntax, notation, axiom, sorry.
-/
import Derived.Test.YtcaljepfinfkbaaDoorChecked
import GoSem.Claim
import GoSem.ClaimJoined
import GoSem.ClaimMapViews
import Derived.JoinedTies
import Derived.KernelRfl
namespace Go.Proofs.YtcaljepfinfkbaaDoor
/- THE CELL 'sum', in the pinned program and in every row, IS THE sha256 OF THE DUMP (.gsa) THAT YtcaljepfinfkbaaDoorProg.lean LOADS. Nothing in Lean hashes anything: it is a label: what it is worth is what the hold of that sum in a sandbox is worth. -/
noncomputable def Tryd.pinned : Pinned := { name := "ytcaljepfinfkbaadoor", sum := "ea5a112c3b9080b0c99d5d41159a40ab215b6aaf9b2aed45b2fe513e6fe8a520", checked := Tryd.checked }
namespace Rows
def none {H : Type} : Left H := { results := [], args := [] }

/- WHAT THE LISTED PACKAGE-LEVEL VARIABLES READ AS WHEN THE CALL BEGINS. Each datum BY PROGRAM (the guide's laid-datum.mjs) off the statement by which the dump's own 'gosem.cut.vars' lays the variable. In a bare row this is a premise. The card (YtcaljepfinfkbaaDoorCards.lean) ties it to the program's text. -/
def laid_sigil_blake_firstWords {H : Type} : DataW H := .agg [.lit (.int .u64 7640891576956012808), .lit (.int .u64 13503953896175478587), .lit (.int .u64 4354685564936845355), .lit (.int .u64 11912009170470909681), .lit (.int .u64 5840696475078001361), .lit (.int .u64 11170449401992604703), .lit (.int .u64 2270897969802886507), .lit (.int .u64 6620516959819538809)]
def laid_sigil_field_primes {H : Type} : DataW H := .agg [.agg [.agg [.lit (.int .u64 16513537), .lit (.int .u64 0), .lit (.int .u64 0), .lit (.int .u64 0)], .lit (.int .i64 9)], .agg [.agg [.lit (.int .u64 16521217), .lit (.int .u64 0), .lit (.int .u64 0), .lit (.int .u64 0)], .lit (.int .i64 11)], .agg [.agg [.lit (.int .u64 11037532056220336129), .lit (.int .u64 2469829653914515739), .lit (.int .u64 0), .lit (.int .u64 4611686018427387904)], .lit (.int .i64 32)], .agg [.agg [.lit (.int .u64 10108024940646105089), .lit (.int .u64 2469829653919213789), .lit (.int .u64 0), .lit (.int .u64 4611686018427387904)], .lit (.int .i64 32)]]
def laid_sigil_curve_constants {H : Type} : DataW H := .agg [.lit (.int .u64 23), .lit (.int .u64 21), .lit (.int .u64 5), .lit (.int .u64 5)]

/-- 'sigillaw08.TapeCoins': WHATEVER THE INPUT: true; the input reads as it did. -/
def tapeCoinsSpec : ChangeSpec := { name := "tapeCoins", fn := fun _ => fun
  | [d] => { results := [.lit (.bool true)], args := [d] }
  | _ => none }
def tapeCoinsRow : OpenClaim := { program := "ytcaljepfinfkbaadoor", sum := "ea5a112c3b9080b0c99d5d41159a40ab215b6aaf9b2aed45b2fe513e6fe8a520", func := "sigil/sigillaw08.TapeCoins", spec := "tapeCoins", inPlace := ["math/bits.Sub64", "math/bits.Add64"], unfollowed := true, recurses := true, named := ["sigil/field.primes", "math/bits.divideError", "math/bits.overflowError", "sigil/curve.constants", "sigil/blake.firstWords"], apart := false, laid := [("sigil/blake.firstWords", laid_sigil_blake_firstWords), ("sigil/field.primes", laid_sigil_field_primes), ("sigil/curve.constants", laid_sigil_curve_constants)] }
def TapeCoinsSaid : Prop := tapeCoinsRow.holds Tryd.pinned (OpenSpec.ofChange tapeCoinsSpec)

/-- ITS FALSE NEIGHBOUR: 'it returns false'. Refute it at one input. -/
def tapeCoinsWrong : ChangeSpec := { name := "tapeCoins", fn := fun _ => fun
  | [d] => { results := [.lit (.bool false)], args := [d] }
  | _ => none }
def TapeCoinsWrongFalsely : Prop := tapeCoinsRow.holds Tryd.pinned (OpenSpec.ofChange tapeCoinsWrong)

/- THE SECOND FORM. 'bulk': how many values and letters a reading holds, each counted each time it is reached (what is shared counts as often as it is met; a slice's spare places count too). A statement '..UptoSaid' is the law's where the arguments, and the package variables that the reading takes, are together of bulk at most 1048576: NARROWER than '..Said'. Prove '..Said' where nothing that the law and all that it calls make is longer than what came in: it says more and counts as full. Else prove '..UptoSaid'. A law counts once. -/
mutual
def uptoBulk {H : Type} : DataW H → Nat
  | .lit (.string bytes) => bytes.length + 1
  | .lit _ => 1
  | .nil => 1
  | .ptr d => uptoBulk d + 1
  | .slice elems spare => uptoBulkAll elems + uptoBulkAll spare + 1
  | .agg parts => uptoBulkAll parts + 1
  | .iface _ d => uptoBulk d + 1
  | .map entries => uptoBulkEntries entries + 1
  | .held _ => 1
def uptoBulkAll {H : Type} : List (DataW H) → Nat
  | [] => 0
  | d :: r => uptoBulk d + uptoBulkAll r
def uptoBulkEntries {H : Type} : List (Lit × DataW H) → Nat
  | [] => 0
  | x :: r => uptoBulkEntry x + uptoBulkEntries r
def uptoBulkEntry {H : Type} : Lit × DataW H → Nat
  | (.string bytes, d) => bytes.length + uptoBulk d + 1
  | (_, d) => uptoBulk d + 1
 end
def uptoSmall : (H : Type) → List (DataW H) → Bool := fun _ ds => decide (uptoBulkAll ds ≤ 1048576)
def OpenSpec.upto (s : _root_.Go.ChangeSpec) : _root_.Go.OpenSpec := { _root_.Go.OpenSpec.ofChange s with cond := some uptoSmall }

/-- 'sigillaw08.TapeCoins', WHERE WHAT IT READS IS OF BULK AT MOST 1048576: true; the input reads as it did. -/
def tapeCoinsUptoRow : OpenClaim := { program := "ytcaljepfinfkbaadoor", sum := "ea5a112c3b9080b0c99d5d41159a40ab215b6aaf9b2aed45b2fe513e6fe8a520", func := "sigil/sigillaw08.TapeCoins", spec := "tapeCoins", inPlace := ["math/bits.Sub64", "math/bits.Add64"], unfollowed := true, recurses := true, named := ["sigil/field.primes", "math/bits.divideError", "math/bits.overflowError", "sigil/curve.constants", "sigil/blake.firstWords"], apart := false, laid := [("sigil/blake.firstWords", laid_sigil_blake_firstWords), ("sigil/field.primes", laid_sigil_field_primes), ("sigil/curve.constants", laid_sigil_curve_constants)], narrowed := true }
def TapeCoinsUptoSaid : Prop := tapeCoinsUptoRow.holds Tryd.pinned (OpenSpec.upto tapeCoinsSpec)

end Rows
end Go.Proofs.YtcaljepfinfkbaaDoor
