/-
  NARROWER THAN 'FOR EVERY INPUT', by the rows' own cells (each row's printed sentence says how): DomainPoints: laid · DomainValues: laid · DomainRound: laid · DomainSums: laid · DomainZeros: laid · DomainMemory: laid.
  DERIVED. THE GIVEN ROWS OF THIS SEAT. 6 by the template 'for every input the law returns true; each argument reads behind the call as it read before'; 0 by the template 'total and deterministic' (their statements: YtfkdfngegeeciaaDoorTotals.lean).
  GIVEN WITH THE SEED: the statements are not yours to turn. If you find one false, say at which input.
  Laid BY PROGRAM, IN A SANDBOX (cutbox-rows.mjs): the forced cells as the released guide's own fill.sh prints them over the translation 621df949e69c90ef… (all of the seat's roots in one cut). By AI agents, Wed Nov 11 2026. No macro, syntax, notation, axiom, sorry.
-/
import Derived.Test.YtfkdfngegeeciaaDoorChecked
import GoSem.Claim
import GoSem.ClaimJoined
import GoSem.ClaimMapViews
import Derived.JoinedTies
import Derived.KernelRfl
namespace Go.Proofs.YtfkdfngegeeciaaDoor
/- THE CELL 'sum', in the pinned program and in every row, IS THE sha256 OF THE DUMP (.gsa) THAT YtfkdfngegeeciaaDoorProg.lean LOADS. Nothing in Lean hashes anything: it is a label: what it is worth is what the hold of that sum in a sandbox is worth. -/
noncomputable def Tryd.pinned : Pinned := { name := "ytfkdfngegeeciaadoor", sum := "621df949e69c90ef2ed9401bbd33f9aa1a7ce461c9f850c2449114db7f6dfacf", checked := Tryd.checked }
namespace Rows
def none {H : Type} : Left H := { results := [], args := [] }

/- WHAT THE LISTED PACKAGE-LEVEL VARIABLES READ AS WHEN THE CALL BEGINS. Each datum BY PROGRAM (the guide's laid-datum.mjs) off the statement by which the dump's own 'gosem.cut.vars' lays the variable. In a bare row this is a premise. The card (YtfkdfngegeeciaaDoorCards.lean) ties it to the program's text. -/
def laid_sigil_field_primes {H : Type} : DataW H := .agg [.agg [.agg [.lit (.int .u64 16513537), .lit (.int .u64 0), .lit (.int .u64 0), .lit (.int .u64 0)], .lit (.int .i64 9)], .agg [.agg [.lit (.int .u64 16521217), .lit (.int .u64 0), .lit (.int .u64 0), .lit (.int .u64 0)], .lit (.int .i64 11)], .agg [.agg [.lit (.int .u64 11037532056220336129), .lit (.int .u64 2469829653914515739), .lit (.int .u64 0), .lit (.int .u64 4611686018427387904)], .lit (.int .i64 32)], .agg [.agg [.lit (.int .u64 10108024940646105089), .lit (.int .u64 2469829653919213789), .lit (.int .u64 0), .lit (.int .u64 4611686018427387904)], .lit (.int .i64 32)]]
def laid_sigil_field_one {H : Type} : DataW H := .agg [.lit (.int .u64 1), .lit (.int .u64 0), .lit (.int .u64 0), .lit (.int .u64 0)]
def laid_sigil_domain_one {H : Type} : DataW H := .agg [.lit (.int .u64 1), .lit (.int .u64 0), .lit (.int .u64 0), .lit (.int .u64 0)]

/-- 'sigillaw06.DomainPoints': WHATEVER THE INPUT: true; the input reads as it did. -/
def domainPointsSpec : ChangeSpec := { name := "domainPoints", fn := fun _ => fun
  | [d1, d2, d3, d4] => { results := [.lit (.bool true)], args := [d1, d2, d3, d4] }
  | _ => none }
def domainPointsRow : OpenClaim := { program := "ytfkdfngegeeciaadoor", sum := "621df949e69c90ef2ed9401bbd33f9aa1a7ce461c9f850c2449114db7f6dfacf", func := "sigil/sigillaw06.DomainPoints", spec := "domainPoints", inPlace := ["math/bits.Sub64", "math/bits.Add64"], named := ["sigil/domain.one", "sigil/field.primes", "math/bits.divideError", "math/bits.overflowError", "sigil/field.one"], apart := false, laid := [("sigil/field.primes", laid_sigil_field_primes), ("sigil/field.one", laid_sigil_field_one), ("sigil/domain.one", laid_sigil_domain_one)] }
def DomainPointsSaid : Prop := domainPointsRow.holds Tryd.pinned (OpenSpec.ofChange domainPointsSpec)

/-- ITS FALSE NEIGHBOUR: 'it returns false'. Refute it at one input. -/
def domainPointsWrong : ChangeSpec := { name := "domainPoints", fn := fun _ => fun
  | [d1, d2, d3, d4] => { results := [.lit (.bool false)], args := [d1, d2, d3, d4] }
  | _ => none }
def DomainPointsWrongFalsely : Prop := domainPointsRow.holds Tryd.pinned (OpenSpec.ofChange domainPointsWrong)

/-- 'sigillaw06.DomainValues': WHATEVER THE INPUT: true; the input reads as it did. -/
def domainValuesSpec : ChangeSpec := { name := "domainValues", fn := fun _ => fun
  | [d1, d2, d3, d4] => { results := [.lit (.bool true)], args := [d1, d2, d3, d4] }
  | _ => none }
def domainValuesRow : OpenClaim := { program := "ytfkdfngegeeciaadoor", sum := "621df949e69c90ef2ed9401bbd33f9aa1a7ce461c9f850c2449114db7f6dfacf", func := "sigil/sigillaw06.DomainValues", spec := "domainValues", inPlace := ["math/bits.Sub64", "math/bits.Add64"], named := ["sigil/domain.one", "sigil/field.primes", "math/bits.divideError", "math/bits.overflowError", "sigil/field.one"], apart := false, laid := [("sigil/field.primes", laid_sigil_field_primes), ("sigil/field.one", laid_sigil_field_one), ("sigil/domain.one", laid_sigil_domain_one)] }
def DomainValuesSaid : Prop := domainValuesRow.holds Tryd.pinned (OpenSpec.ofChange domainValuesSpec)

/-- ITS FALSE NEIGHBOUR: 'it returns false'. Refute it at one input. -/
def domainValuesWrong : ChangeSpec := { name := "domainValues", fn := fun _ => fun
  | [d1, d2, d3, d4] => { results := [.lit (.bool false)], args := [d1, d2, d3, d4] }
  | _ => none }
def DomainValuesWrongFalsely : Prop := domainValuesRow.holds Tryd.pinned (OpenSpec.ofChange domainValuesWrong)

/-- 'sigillaw06.DomainRound': WHATEVER THE INPUT: true; the input reads as it did. -/
def domainRoundSpec : ChangeSpec := { name := "domainRound", fn := fun _ => fun
  | [d1, d2, d3, d4] => { results := [.lit (.bool true)], args := [d1, d2, d3, d4] }
  | _ => none }
def domainRoundRow : OpenClaim := { program := "ytfkdfngegeeciaadoor", sum := "621df949e69c90ef2ed9401bbd33f9aa1a7ce461c9f850c2449114db7f6dfacf", func := "sigil/sigillaw06.DomainRound", spec := "domainRound", inPlace := ["math/bits.Sub64", "math/bits.Add64"], named := ["sigil/domain.one", "sigil/field.primes", "math/bits.divideError", "math/bits.overflowError", "sigil/field.one"], apart := false, laid := [("sigil/field.primes", laid_sigil_field_primes), ("sigil/field.one", laid_sigil_field_one), ("sigil/domain.one", laid_sigil_domain_one)] }
def DomainRoundSaid : Prop := domainRoundRow.holds Tryd.pinned (OpenSpec.ofChange domainRoundSpec)

/-- ITS FALSE NEIGHBOUR: 'it returns false'. Refute it at one input. -/
def domainRoundWrong : ChangeSpec := { name := "domainRound", fn := fun _ => fun
  | [d1, d2, d3, d4] => { results := [.lit (.bool false)], args := [d1, d2, d3, d4] }
  | _ => none }
def DomainRoundWrongFalsely : Prop := domainRoundRow.holds Tryd.pinned (OpenSpec.ofChange domainRoundWrong)

/-- 'sigillaw06.DomainSums': WHATEVER THE INPUT: true; the input reads as it did. -/
def domainSumsSpec : ChangeSpec := { name := "domainSums", fn := fun _ => fun
  | [d1, d2, d3, d4, d5] => { results := [.lit (.bool true)], args := [d1, d2, d3, d4, d5] }
  | _ => none }
def domainSumsRow : OpenClaim := { program := "ytfkdfngegeeciaadoor", sum := "621df949e69c90ef2ed9401bbd33f9aa1a7ce461c9f850c2449114db7f6dfacf", func := "sigil/sigillaw06.DomainSums", spec := "domainSums", inPlace := ["math/bits.Sub64", "math/bits.Add64"], named := ["sigil/domain.one", "sigil/field.primes", "math/bits.divideError", "math/bits.overflowError", "sigil/field.one"], apart := false, laid := [("sigil/field.primes", laid_sigil_field_primes), ("sigil/field.one", laid_sigil_field_one), ("sigil/domain.one", laid_sigil_domain_one)] }
def DomainSumsSaid : Prop := domainSumsRow.holds Tryd.pinned (OpenSpec.ofChange domainSumsSpec)

/-- ITS FALSE NEIGHBOUR: 'it returns false'. Refute it at one input. -/
def domainSumsWrong : ChangeSpec := { name := "domainSums", fn := fun _ => fun
  | [d1, d2, d3, d4, d5] => { results := [.lit (.bool false)], args := [d1, d2, d3, d4, d5] }
  | _ => none }
def DomainSumsWrongFalsely : Prop := domainSumsRow.holds Tryd.pinned (OpenSpec.ofChange domainSumsWrong)

/-- 'sigillaw06.DomainZeros': WHATEVER THE INPUT: true; the input reads as it did. -/
def domainZerosSpec : ChangeSpec := { name := "domainZeros", fn := fun _ => fun
  | [d1, d2, d3, d4, d5] => { results := [.lit (.bool true)], args := [d1, d2, d3, d4, d5] }
  | _ => none }
def domainZerosRow : OpenClaim := { program := "ytfkdfngegeeciaadoor", sum := "621df949e69c90ef2ed9401bbd33f9aa1a7ce461c9f850c2449114db7f6dfacf", func := "sigil/sigillaw06.DomainZeros", spec := "domainZeros", inPlace := ["math/bits.Sub64", "math/bits.Add64"], named := ["sigil/domain.one", "sigil/field.primes", "math/bits.divideError", "math/bits.overflowError", "sigil/field.one"], apart := false, laid := [("sigil/field.primes", laid_sigil_field_primes), ("sigil/field.one", laid_sigil_field_one), ("sigil/domain.one", laid_sigil_domain_one)] }
def DomainZerosSaid : Prop := domainZerosRow.holds Tryd.pinned (OpenSpec.ofChange domainZerosSpec)

/-- ITS FALSE NEIGHBOUR: 'it returns false'. Refute it at one input. -/
def domainZerosWrong : ChangeSpec := { name := "domainZeros", fn := fun _ => fun
  | [d1, d2, d3, d4, d5] => { results := [.lit (.bool false)], args := [d1, d2, d3, d4, d5] }
  | _ => none }
def DomainZerosWrongFalsely : Prop := domainZerosRow.holds Tryd.pinned (OpenSpec.ofChange domainZerosWrong)

/-- 'sigillaw06.DomainMemory': WHATEVER THE INPUT: true; the input reads as it did. -/
def domainMemorySpec : ChangeSpec := { name := "domainMemory", fn := fun _ => fun
  | [d1, d2, d3] => { results := [.lit (.bool true)], args := [d1, d2, d3] }
  | _ => none }
def domainMemoryRow : OpenClaim := { program := "ytfkdfngegeeciaadoor", sum := "621df949e69c90ef2ed9401bbd33f9aa1a7ce461c9f850c2449114db7f6dfacf", func := "sigil/sigillaw06.DomainMemory", spec := "domainMemory", inPlace := ["math/bits.Sub64", "math/bits.Add64"], named := ["sigil/domain.one", "sigil/field.primes", "math/bits.divideError", "math/bits.overflowError", "sigil/field.one"], apart := false, laid := [("sigil/field.primes", laid_sigil_field_primes), ("sigil/field.one", laid_sigil_field_one), ("sigil/domain.one", laid_sigil_domain_one)] }
def DomainMemorySaid : Prop := domainMemoryRow.holds Tryd.pinned (OpenSpec.ofChange domainMemorySpec)

/-- ITS FALSE NEIGHBOUR: 'it returns false'. Refute it at one input. -/
def domainMemoryWrong : ChangeSpec := { name := "domainMemory", fn := fun _ => fun
  | [d1, d2, d3] => { results := [.lit (.bool false)], args := [d1, d2, d3] }
  | _ => none }
def DomainMemoryWrongFalsely : Prop := domainMemoryRow.holds Tryd.pinned (OpenSpec.ofChange domainMemoryWrong)

/- THE SECOND FORM. 'bulk': how many values and letters a reading holds, each counted each time it is reached (what is shared counts as often as it is met; a slice's spare places count too). A statement '..UptoSaid' is the law's where the arguments, and the package variables that the reading takes, are together of bulk at most 1048576: NARROWER than '..Said'. Prove '..Said' where nothing that the law and all that it calls make is longer than what came in: it says more and counts as full. Else prove '..UptoSaid'. A law counts once. -/
mutual
def uptoBulk {H : Type} : DataW H → Nat
  | .lit (.string bytes) => bytes.length + 1
  | .lit _ => 1
  | .nil => 1
  | .ptr d => uptoBulk d + 1
  | .slice elems spare => uptoBulkAll elems + uptoBulkAll spare + 1
  | .agg parts => uptoBulkAll parts + 1
  | .iface _ d => uptoBulk d + 1
  | .map entries => uptoBulkEntries entries + 1
  | .held _ => 1
def uptoBulkAll {H : Type} : List (DataW H) → Nat
  | [] => 0
  | d :: r => uptoBulk d + uptoBulkAll r
def uptoBulkEntries {H : Type} : List (Lit × DataW H) → Nat
  | [] => 0
  | x :: r => uptoBulkEntry x + uptoBulkEntries r
def uptoBulkEntry {H : Type} : Lit × DataW H → Nat
  | (.string bytes, d) => bytes.length + uptoBulk d + 1
  | (_, d) => uptoBulk d + 1
 end
def uptoSmall : (H : Type) → List (DataW H) → Bool := fun _ ds => decide (uptoBulkAll ds ≤ 1048576)
def OpenSpec.upto (s : _root_.Go.ChangeSpec) : _root_.Go.OpenSpec := { _root_.Go.OpenSpec.ofChange s with cond := some uptoSmall }

/-- 'sigillaw06.DomainPoints', WHERE WHAT IT READS IS OF BULK AT MOST 1048576: true; the input reads as it did. -/
def domainPointsUptoRow : OpenClaim := { program := "ytfkdfngegeeciaadoor", sum := "621df949e69c90ef2ed9401bbd33f9aa1a7ce461c9f850c2449114db7f6dfacf", func := "sigil/sigillaw06.DomainPoints", spec := "domainPoints", inPlace := ["math/bits.Sub64", "math/bits.Add64"], named := ["sigil/domain.one", "sigil/field.primes", "math/bits.divideError", "math/bits.overflowError", "sigil/field.one"], apart := false, laid := [("sigil/field.primes", laid_sigil_field_primes), ("sigil/field.one", laid_sigil_field_one), ("sigil/domain.one", laid_sigil_domain_one)], narrowed := true }
def DomainPointsUptoSaid : Prop := domainPointsUptoRow.holds Tryd.pinned (OpenSpec.upto domainPointsSpec)

/-- 'sigillaw06.DomainValues', WHERE WHAT IT READS IS OF BULK AT MOST 1048576: true; the input reads as it did. -/
def domainValuesUptoRow : OpenClaim := { program := "ytfkdfngegeeciaadoor", sum := "621df949e69c90ef2ed9401bbd33f9aa1a7ce461c9f850c2449114db7f6dfacf", func := "sigil/sigillaw06.DomainValues", spec := "domainValues", inPlace := ["math/bits.Sub64", "math/bits.Add64"], named := ["sigil/domain.one", "sigil/field.primes", "math/bits.divideError", "math/bits.overflowError", "sigil/field.one"], apart := false, laid := [("sigil/field.primes", laid_sigil_field_primes), ("sigil/field.one", laid_sigil_field_one), ("sigil/domain.one", laid_sigil_domain_one)], narrowed := true }
def DomainValuesUptoSaid : Prop := domainValuesUptoRow.holds Tryd.pinned (OpenSpec.upto domainValuesSpec)

/-- 'sigillaw06.DomainRound', WHERE WHAT IT READS IS OF BULK AT MOST 1048576: true; the input reads as it did. -/
def domainRoundUptoRow : OpenClaim := { program := "ytfkdfngegeeciaadoor", sum := "621df949e69c90ef2ed9401bbd33f9aa1a7ce461c9f850c2449114db7f6dfacf", func := "sigil/sigillaw06.DomainRound", spec := "domainRound", inPlace := ["math/bits.Sub64", "math/bits.Add64"], named := ["sigil/domain.one", "sigil/field.primes", "math/bits.divideError", "math/bits.overflowError", "sigil/field.one"], apart := false, laid := [("sigil/field.primes", laid_sigil_field_primes), ("sigil/field.one", laid_sigil_field_one), ("sigil/domain.one", laid_sigil_domain_one)], narrowed := true }
def DomainRoundUptoSaid : Prop := domainRoundUptoRow.holds Tryd.pinned (OpenSpec.upto domainRoundSpec)

/-- 'sigillaw06.DomainSums', WHERE WHAT IT READS IS OF BULK AT MOST 1048576: true; the input reads as it did. -/
def domainSumsUptoRow : OpenClaim := { program := "ytfkdfngegeeciaadoor", sum := "621df949e69c90ef2ed9401bbd33f9aa1a7ce461c9f850c2449114db7f6dfacf", func := "sigil/sigillaw06.DomainSums", spec := "domainSums", inPlace := ["math/bits.Sub64", "math/bits.Add64"], named := ["sigil/domain.one", "sigil/field.primes", "math/bits.divideError", "math/bits.overflowError", "sigil/field.one"], apart := false, laid := [("sigil/field.primes", laid_sigil_field_primes), ("sigil/field.one", laid_sigil_field_one), ("sigil/domain.one", laid_sigil_domain_one)], narrowed := true }
def DomainSumsUptoSaid : Prop := domainSumsUptoRow.holds Tryd.pinned (OpenSpec.upto domainSumsSpec)

/-- 'sigillaw06.DomainZeros', WHERE WHAT IT READS IS OF BULK AT MOST 1048576: true; the input reads as it did. -/
def domainZerosUptoRow : OpenClaim := { program := "ytfkdfngegeeciaadoor", sum := "621df949e69c90ef2ed9401bbd33f9aa1a7ce461c9f850c2449114db7f6dfacf", func := "sigil/sigillaw06.DomainZeros", spec := "domainZeros", inPlace := ["math/bits.Sub64", "math/bits.Add64"], named := ["sigil/domain.one", "sigil/field.primes", "math/bits.divideError", "math/bits.overflowError", "sigil/field.one"], apart := false, laid := [("sigil/field.primes", laid_sigil_field_primes), ("sigil/field.one", laid_sigil_field_one), ("sigil/domain.one", laid_sigil_domain_one)], narrowed := true }
def DomainZerosUptoSaid : Prop := domainZerosUptoRow.holds Tryd.pinned (OpenSpec.upto domainZerosSpec)

/-- 'sigillaw06.DomainMemory', WHERE WHAT IT READS IS OF BULK AT MOST 1048576: true; the input reads as it did. -/
def domainMemoryUptoRow : OpenClaim := { program := "ytfkdfngegeeciaadoor", sum := "621df949e69c90ef2ed9401bbd33f9aa1a7ce461c9f850c2449114db7f6dfacf", func := "sigil/sigillaw06.DomainMemory", spec := "domainMemory", inPlace := ["math/bits.Sub64", "math/bits.Add64"], named := ["sigil/domain.one", "sigil/field.primes", "math/bits.divideError", "math/bits.overflowError", "sigil/field.one"], apart := false, laid := [("sigil/field.primes", laid_sigil_field_primes), ("sigil/field.one", laid_sigil_field_one), ("sigil/domain.one", laid_sigil_domain_one)], narrowed := true }
def DomainMemoryUptoSaid : Prop := domainMemoryUptoRow.holds Tryd.pinned (OpenSpec.upto domainMemorySpec)

end Rows
end Go.Proofs.YtfkdfngegeeciaaDoor
