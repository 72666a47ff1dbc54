/- domain: transform. -/
import Derived.Test.YtpkhppjcpfkbmaaDoorD8
namespace Go.Proofs.YtpkhppjcpfkbmaaDoor
open Go.RowKit

/-- What transform leaves in a list. -/
def TrP (s k R : Nat) (f F : Nat → Nat) : Prop := ∀ i, i < 2 ^ k → F i < 115792089237316195423570985008687907853269984665640564039457584007913129639936 ∧ ((∀ j, j < 2 ^ k → f j < modN s) → F i < modN s) ∧ fz s (F i) = pf (fp (fz s R) i) (2 ^ k) (fun j => fz s (f j))
theorem pow_half {k t : Nat} (h : 2 ^ t < 2 ^ k) : t < k := by
  rcases Nat.lt_or_ge t k with h1 | h1
  · exact h1
  · exact absurd (Nat.pow_le_pow_right (by decide : 0 < 2) h1) (by omega)
end Go.Proofs.YtpkhppjcpfkbmaaDoor
