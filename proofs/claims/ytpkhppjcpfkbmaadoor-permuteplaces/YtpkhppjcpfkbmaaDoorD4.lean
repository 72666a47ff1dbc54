/- domain: scale. -/
import Derived.Test.YtpkhppjcpfkbmaaDoorD3
namespace Go.Proofs.YtpkhppjcpfkbmaaDoor
open Go.RowKit

/-- The factors of scale. -/
def facP (s a st : Nat) : Nat → Nat
  | 0 => a
  | i + 1 => mulP s (facP s a st i) st
theorem facP_M (s a st : Nat) (ha : a < 115792089237316195423570985008687907853269984665640564039457584007913129639936) : ∀ i, facP s a st i < 115792089237316195423570985008687907853269984665640564039457584007913129639936
  | 0 => ha
  | _ + 1 => mulP_M _ _ _
end Go.Proofs.YtpkhppjcpfkbmaaDoor
