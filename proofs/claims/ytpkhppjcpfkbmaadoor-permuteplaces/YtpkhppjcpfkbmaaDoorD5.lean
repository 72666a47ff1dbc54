/- math/bits Reverse64. -/
import Derived.Test.YtpkhppjcpfkbmaaDoorD4
namespace Go.Proofs.YtpkhppjcpfkbmaaDoor
open Go.RowKit

/-- Neighbouring groups of bits change their places. -/
def swB (d c x : Int) : Int := bits BinOp.or IntKind.u64 (bits BinOp.and IntKind.u64 (x / d) c) (IntKind.u64.wrap (bits BinOp.and IntKind.u64 x c * d))
def rvB (x : Int) : Int := bits BinOp.or IntKind.u64 (swB 65536 281470681808895 (swB 256 71777214294589695 x) / 4294967296) (IntKind.u64.wrap (swB 65536 281470681808895 (swB 256 71777214294589695 x) * 4294967296))
def rv64 (x : Int) : Int := rvB (swB 16 1085102592571150095 (swB 4 3689348814741910323 (swB 2 6148914691236517205 x)))
def chkRv (k : Nat) : Bool := (List.range (2 ^ k)).all fun i => decide (rv64 (i : Int) / 2 ^ (64 - k) = (rv k i : Int)) && decide (rv k (rv k i) = i)
theorem chkRv_all : (List.range 10).all chkRv = true := by decide +kernel
theorem rv_ok {k i : Nat} (hk : k ≤ 9) (hi : i < 2 ^ k) : rv64 (i : Int) / 2 ^ (64 - k) = (rv k i : Int) ∧ rv k (rv k i) = i := by
  have h := List.all_eq_true.1 chkRv_all k (by simp; omega)
  unfold chkRv at h
  have h2 := List.all_eq_true.1 h i (by simp; exact hi)
  simpa using h2
end Go.Proofs.YtpkhppjcpfkbmaaDoor
