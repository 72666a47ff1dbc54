/- LookupCompress' walk. -/
import Derived.Test.YtobeeoelfmfpdaaDoorPLUC
namespace Go.Proofs.YtobeeoelfmfpdaaDoor
open Go.RowKit
theorem eqlIn (X Y : Nat) (hX : X < 115792089237316195423570985008687907853269984665640564039457584007913129639936) (hY : Y < 115792089237316195423570985008687907853269984665640564039457584007913129639936) (w : World) : (Op.equalIn 10000 24 (.agg #[.int .u64 ((limb 0 (X) : Nat) : Int), .int .u64 ((limb 1 (X) : Nat) : Int), .int .u64 ((limb 2 (X) : Nat) : Int), .int .u64 ((limb 3 (X) : Nat) : Int)]) (.agg #[.int .u64 ((limb 0 (Y) : Nat) : Int), .int .u64 ((limb 1 (Y) : Nat) : Int), .int .u64 ((limb 2 (Y) : Nat) : Int), .int .u64 ((limb 3 (Y) : Nat) : Int)])).run Tryd.prog w = .ok (decide (X = Y)) w := by rw [eq4_in, eq4N X Y hX hY]
end Go.Proofs.YtobeeoelfmfpdaaDoor
