/- curve.times and curve.Mul of any scalar. -/
import Derived.Test.YtdeijnlbencfdaaGreatDoorVM7
namespace Go.Proofs.YtdeijnlbencfdaaGreatDoor
open Go.RowKit
/-- The other curve of the pair. -/
def xc (c : Nat) : Nat := if c % 2 = 0 then c + 1 else c - 1
theorem xc_lt {c : Nat} (h : c < 4) : xc c < 4 := by unfold xc; split <;> omega
theorem xor_c (c : Nat) (h : c < 4) : bits BinOp.xor IntKind.i64 (c : Int) 1 = ((xc c : Nat) : Int) := by
 have : c = 0 ∨ c = 1 ∨ c = 2 ∨ c = 3 := by omega
 rcases this with rfl | rfl | rfl | rfl <;> decide
end Go.Proofs.YtdeijnlbencfdaaGreatDoor
