/- The reference: is a node a query, is it a place, how many rows are usable. -/
import Derived.Test.YtimjgebiffemnaaDoorXL
namespace Go.Proofs.YtimjgebiffemnaaDoor
open Go.RowKit

set_option maxHeartbeats 4000000 in
theorem rquery_any (O X Y : Int) (Z : Nat) (w : World) : Calls Tryd.prog 30 #[.agg #[.int .i64 O, .int .i64 X, .int .i64 Y, .int .u64 ((limb 0 Z : Nat) : Int), .int .u64 ((limb 1 Z : Nat) : Int), .int .u64 ((limb 2 Z : Nat) : Int), .int .u64 ((limb 3 Z : Nat) : Int)]] w fun e w' => e = .returned (.bool (isQ O)) ∧ Below w.heap.size w w' := by
  have HBF : Hid (Below w.heap.size w (w.alloc (.cells #[.int .i64 O, .int .i64 X, .int .i64 Y, .int .u64 ((limb 0 Z : Nat) : Int), .int .u64 ((limb 1 Z : Nat) : Int), .int .u64 ((limb 2 Z : Nat) : Int), .int .u64 ((limb 3 Z : Nat) : Int)] 46))) := bAlloc (Below.refl _ _) _
  by_cases h2 : 2 ≤ O
  · by_cases h4 : O ≤ 4
    · have HQ : Hid (isQ O = true) := decide_eq_true ⟨h2, h4⟩
      go_enter Tryd.func30, Tryd.ntmps30
      go_wp2
      go_ret
      exact ⟨by rw [HQ.out]; rfl, HBF.out⟩
    · have HQ : Hid (isQ O = false) := decide_eq_false (fun h => h4 h.2)
      have h4d : decide (O ≤ 4) = false := decide_eq_false h4
      go_enter Tryd.func30, Tryd.ntmps30
      go_wp2
      go_ret
      exact ⟨by rw [HQ.out]; rfl, HBF.out⟩
  · have HQ : Hid (isQ O = false) := decide_eq_false (fun h => h2 h.1)
    have h2' : O < 2 := by omega
    have h2d : decide (2 ≤ O) = false := decide_eq_false h2
    go_enter Tryd.func30, Tryd.ntmps30
    go_wp2
    go_ret
    exact ⟨by rw [HQ.out]; rfl, HBF.out⟩
end Go.Proofs.YtimjgebiffemnaaDoor
