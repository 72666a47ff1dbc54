/- Bounds of a word out of its being well formed, and back. -/
import Derived.Test.YtolaofoffakddaaDoorNum
import Derived.ProofKit
namespace Go.Proofs.YtolaofoffakddaaDoor
theorem u64_ends : IntKind.u64.min = 0 ∧ IntKind.u64.max = 18446744073709551615 := by decide
theorem bounds_u64' {x : Int} (h : (Lit.int .u64 x).wf = true) : 0 ≤ x ∧ x ≤ 18446744073709551615 := by
  simp only [Lit.wf, u64_ends.1, u64_ends.2, Bool.and_eq_true, decide_eq_true_eq] at h
  exact h
theorem wf_limb (n : Nat) (h : n < 18446744073709551616) : (Lit.int .u64 (n : Int)).wf = true := by
  simp only [Lit.wf, u64_ends.1, u64_ends.2, Bool.and_eq_true, decide_eq_true_eq]
  omega
end Go.Proofs.YtolaofoffakddaaDoor
