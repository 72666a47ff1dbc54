/-
  No cell of these rows narrows 'for every input' (looked for: loops, veiled, ifaces, maps, wideKeys, modest, calm, conditions, laid).
  DERIVED. THE GIVEN ROWS OF THIS SEAT. 5 by the template 'for every input the law returns true; each argument reads behind the call as it read before'; 0 by the template 'total and deterministic' (their statements: YtbhljgenicahoaaTotals.lean).
  GIVEN WITH THE SEED: the statements are not yours to turn. If you find one false, say at which input.
  Laid BY PROGRAM, IN A SANDBOX (cutbox-rows.mjs): the forced cells as the released guide's own fill.sh prints them over the translation ca1a7f4432959804… (all of the seat's roots in one cut). By AI agents, Wed Nov 11 2026. No macro, syntax, notation, axiom, sorry.
-/
import Derived.Test.YtbhljgenicahoaaChecked
import GoSem.Claim
import GoSem.ClaimJoined
import GoSem.ClaimMapViews
import Derived.JoinedTies
import Derived.KernelRfl
namespace Go.Proofs.Ytbhljgenicahoaa
/- THE CELL 'sum', in the pinned program and in every row, IS THE sha256 OF THE DUMP (.gsa) THAT YtbhljgenicahoaaProg.lean LOADS. Nothing in Lean hashes anything: it is a label: what it is worth is what the hold of that sum in a sandbox is worth. -/
noncomputable def Try.pinned : Pinned := { name := "ytbhljgenicahoaa", sum := "ca1a7f4432959804ffeb50886334e5554395e49a08e47a10419a48772770d7db", checked := Try.checked }
namespace Rows
def none {H : Type} : Left H := { results := [], args := [] }

/-- 'sigillaw12.CircuitChecks': WHATEVER THE INPUT: true; the input reads as it did. -/
def circuitChecksSpec : ChangeSpec := { name := "circuitChecks", fn := fun _ => fun
  | [d] => { results := [.lit (.bool true)], args := [d] }
  | _ => none }
def circuitChecksRow : OpenClaim := { program := "ytbhljgenicahoaa", sum := "ca1a7f4432959804ffeb50886334e5554395e49a08e47a10419a48772770d7db", func := "sigil/sigillaw12.CircuitChecks", spec := "circuitChecks", unfollowed := true, recurses := true, plainKeys := false, apart := false }
def CircuitChecksSaid : Prop := circuitChecksRow.holds Try.pinned (OpenSpec.ofChange circuitChecksSpec)

/-- ITS FALSE NEIGHBOUR: 'it returns false'. Refute it at one input. -/
def circuitChecksWrong : ChangeSpec := { name := "circuitChecks", fn := fun _ => fun
  | [d] => { results := [.lit (.bool false)], args := [d] }
  | _ => none }
def CircuitChecksWrongFalsely : Prop := circuitChecksRow.holds Try.pinned (OpenSpec.ofChange circuitChecksWrong)

/-- 'sigillaw12.CircuitRows': WHATEVER THE INPUT: true; the input reads as it did. -/
def circuitRowsSpec : ChangeSpec := { name := "circuitRows", fn := fun _ => fun
  | [d1, d2, d3] => { results := [.lit (.bool true)], args := [d1, d2, d3] }
  | _ => none }
def circuitRowsRow : OpenClaim := { program := "ytbhljgenicahoaa", sum := "ca1a7f4432959804ffeb50886334e5554395e49a08e47a10419a48772770d7db", func := "sigil/sigillaw12.CircuitRows", spec := "circuitRows", unfollowed := true, recurses := true, plainKeys := false, apart := false }
def CircuitRowsSaid : Prop := circuitRowsRow.holds Try.pinned (OpenSpec.ofChange circuitRowsSpec)

/-- ITS FALSE NEIGHBOUR: 'it returns false'. Refute it at one input. -/
def circuitRowsWrong : ChangeSpec := { name := "circuitRows", fn := fun _ => fun
  | [d1, d2, d3] => { results := [.lit (.bool false)], args := [d1, d2, d3] }
  | _ => none }
def CircuitRowsWrongFalsely : Prop := circuitRowsRow.holds Try.pinned (OpenSpec.ofChange circuitRowsWrong)

/-- 'sigillaw12.CircuitFits': WHATEVER THE INPUT: true; the input reads as it did. -/
def circuitFitsSpec : ChangeSpec := { name := "circuitFits", fn := fun _ => fun
  | [d1, d2, d3] => { results := [.lit (.bool true)], args := [d1, d2, d3] }
  | _ => none }
def circuitFitsRow : OpenClaim := { program := "ytbhljgenicahoaa", sum := "ca1a7f4432959804ffeb50886334e5554395e49a08e47a10419a48772770d7db", func := "sigil/sigillaw12.CircuitFits", spec := "circuitFits", unfollowed := true, recurses := true, plainKeys := false, apart := false }
def CircuitFitsSaid : Prop := circuitFitsRow.holds Try.pinned (OpenSpec.ofChange circuitFitsSpec)

/-- ITS FALSE NEIGHBOUR: 'it returns false'. Refute it at one input. -/
def circuitFitsWrong : ChangeSpec := { name := "circuitFits", fn := fun _ => fun
  | [d1, d2, d3] => { results := [.lit (.bool false)], args := [d1, d2, d3] }
  | _ => none }
def CircuitFitsWrongFalsely : Prop := circuitFitsRow.holds Try.pinned (OpenSpec.ofChange circuitFitsWrong)

/-- 'sigillaw12.CircuitDegree': WHATEVER THE INPUT: true; the input reads as it did. -/
def circuitDegreeSpec : ChangeSpec := { name := "circuitDegree", fn := fun _ => fun
  | [d] => { results := [.lit (.bool true)], args := [d] }
  | _ => none }
def circuitDegreeRow : OpenClaim := { program := "ytbhljgenicahoaa", sum := "ca1a7f4432959804ffeb50886334e5554395e49a08e47a10419a48772770d7db", func := "sigil/sigillaw12.CircuitDegree", spec := "circuitDegree", unfollowed := true, recurses := true, plainKeys := false, apart := false }
def CircuitDegreeSaid : Prop := circuitDegreeRow.holds Try.pinned (OpenSpec.ofChange circuitDegreeSpec)

/-- ITS FALSE NEIGHBOUR: 'it returns false'. Refute it at one input. -/
def circuitDegreeWrong : ChangeSpec := { name := "circuitDegree", fn := fun _ => fun
  | [d] => { results := [.lit (.bool false)], args := [d] }
  | _ => none }
def CircuitDegreeWrongFalsely : Prop := circuitDegreeRow.holds Try.pinned (OpenSpec.ofChange circuitDegreeWrong)

/-- 'sigillaw12.CircuitLess': WHATEVER THE INPUT: true; the input reads as it did. -/
def circuitLessSpec : ChangeSpec := { name := "circuitLess", fn := fun _ => fun
  | [d] => { results := [.lit (.bool true)], args := [d] }
  | _ => none }
def circuitLessRow : OpenClaim := { program := "ytbhljgenicahoaa", sum := "ca1a7f4432959804ffeb50886334e5554395e49a08e47a10419a48772770d7db", func := "sigil/sigillaw12.CircuitLess", spec := "circuitLess", unfollowed := true, recurses := true, plainKeys := false, apart := false }
def CircuitLessSaid : Prop := circuitLessRow.holds Try.pinned (OpenSpec.ofChange circuitLessSpec)

/-- ITS FALSE NEIGHBOUR: 'it returns false'. Refute it at one input. -/
def circuitLessWrong : ChangeSpec := { name := "circuitLess", fn := fun _ => fun
  | [d] => { results := [.lit (.bool false)], args := [d] }
  | _ => none }
def CircuitLessWrongFalsely : Prop := circuitLessRow.holds Try.pinned (OpenSpec.ofChange circuitLessWrong)

/- THE SECOND FORM. 'bulk': how many values and letters a reading holds, each counted each time it is reached (what is shared counts as often as it is met; a slice's spare places count too). A statement '..UptoSaid' is the law's where the arguments, and the package variables that the reading takes, are together of bulk at most 1048576: NARROWER than '..Said'. Prove '..Said' where nothing that the law and all that it calls make is longer than what came in: it says more and counts as full. Else prove '..UptoSaid'. A law counts once. -/
mutual
def uptoBulk {H : Type} : DataW H → Nat
  | .lit (.string bytes) => bytes.length + 1
  | .lit _ => 1
  | .nil => 1
  | .ptr d => uptoBulk d + 1
  | .slice elems spare => uptoBulkAll elems + uptoBulkAll spare + 1
  | .agg parts => uptoBulkAll parts + 1
  | .iface _ d => uptoBulk d + 1
  | .map entries => uptoBulkEntries entries + 1
  | .held _ => 1
def uptoBulkAll {H : Type} : List (DataW H) → Nat
  | [] => 0
  | d :: r => uptoBulk d + uptoBulkAll r
def uptoBulkEntries {H : Type} : List (Lit × DataW H) → Nat
  | [] => 0
  | x :: r => uptoBulkEntry x + uptoBulkEntries r
def uptoBulkEntry {H : Type} : Lit × DataW H → Nat
  | (.string bytes, d) => bytes.length + uptoBulk d + 1
  | (_, d) => uptoBulk d + 1
 end
def uptoSmall : (H : Type) → List (DataW H) → Bool := fun _ ds => decide (uptoBulkAll ds ≤ 1048576)
def OpenSpec.upto (s : _root_.Go.ChangeSpec) : _root_.Go.OpenSpec := { _root_.Go.OpenSpec.ofChange s with cond := some uptoSmall }

/-- 'sigillaw12.CircuitChecks', WHERE WHAT IT READS IS OF BULK AT MOST 1048576: true; the input reads as it did. -/
def circuitChecksUptoRow : OpenClaim := { program := "ytbhljgenicahoaa", sum := "ca1a7f4432959804ffeb50886334e5554395e49a08e47a10419a48772770d7db", func := "sigil/sigillaw12.CircuitChecks", spec := "circuitChecks", unfollowed := true, recurses := true, plainKeys := false, apart := false, narrowed := true }
def CircuitChecksUptoSaid : Prop := circuitChecksUptoRow.holds Try.pinned (OpenSpec.upto circuitChecksSpec)

/-- 'sigillaw12.CircuitRows', WHERE WHAT IT READS IS OF BULK AT MOST 1048576: true; the input reads as it did. -/
def circuitRowsUptoRow : OpenClaim := { program := "ytbhljgenicahoaa", sum := "ca1a7f4432959804ffeb50886334e5554395e49a08e47a10419a48772770d7db", func := "sigil/sigillaw12.CircuitRows", spec := "circuitRows", unfollowed := true, recurses := true, plainKeys := false, apart := false, narrowed := true }
def CircuitRowsUptoSaid : Prop := circuitRowsUptoRow.holds Try.pinned (OpenSpec.upto circuitRowsSpec)

/-- 'sigillaw12.CircuitFits', WHERE WHAT IT READS IS OF BULK AT MOST 1048576: true; the input reads as it did. -/
def circuitFitsUptoRow : OpenClaim := { program := "ytbhljgenicahoaa", sum := "ca1a7f4432959804ffeb50886334e5554395e49a08e47a10419a48772770d7db", func := "sigil/sigillaw12.CircuitFits", spec := "circuitFits", unfollowed := true, recurses := true, plainKeys := false, apart := false, narrowed := true }
def CircuitFitsUptoSaid : Prop := circuitFitsUptoRow.holds Try.pinned (OpenSpec.upto circuitFitsSpec)

/-- 'sigillaw12.CircuitDegree', WHERE WHAT IT READS IS OF BULK AT MOST 1048576: true; the input reads as it did. -/
def circuitDegreeUptoRow : OpenClaim := { program := "ytbhljgenicahoaa", sum := "ca1a7f4432959804ffeb50886334e5554395e49a08e47a10419a48772770d7db", func := "sigil/sigillaw12.CircuitDegree", spec := "circuitDegree", unfollowed := true, recurses := true, plainKeys := false, apart := false, narrowed := true }
def CircuitDegreeUptoSaid : Prop := circuitDegreeUptoRow.holds Try.pinned (OpenSpec.upto circuitDegreeSpec)

/-- 'sigillaw12.CircuitLess', WHERE WHAT IT READS IS OF BULK AT MOST 1048576: true; the input reads as it did. -/
def circuitLessUptoRow : OpenClaim := { program := "ytbhljgenicahoaa", sum := "ca1a7f4432959804ffeb50886334e5554395e49a08e47a10419a48772770d7db", func := "sigil/sigillaw12.CircuitLess", spec := "circuitLess", unfollowed := true, recurses := true, plainKeys := false, apart := false, narrowed := true }
def CircuitLessUptoSaid : Prop := circuitLessUptoRow.holds Try.pinned (OpenSpec.upto circuitLessSpec)

end Rows
end Go.Proofs.Ytbhljgenicahoaa
