/- What the statements' own first look (alive) does. -/
import Derived.Test.YtlndeghggdpmaaaCore7
namespace Go.Proofs.Ytlndeghggdpmaaa
open Go.RowKit

theorem rem_alive (w : World) :
    Calls Try.prog 19 #[.agg #[.int .u64 7, .int .u64 0, .int .u64 0, .int .u64 0], .agg #[.int .u64 1, .int .u64 0, .int .u64 0, .int .u64 0], .agg #[.int .u64 10, .int .u64 0, .int .u64 0, .int .u64 0]] w fun e w' =>
      e = .returned (.tuple #[.agg #[.int .u64 3, .int .u64 0, .int .u64 0, .int .u64 0], .int .i64 0]) ∧ Below w.heap.size w w' := by
  have h := rem_any 7 1 10 (by decide) (by decide) (by decide) (by decide) w
  rw [show (7 + 115792089237316195423570985008687907853269984665640564039457584007913129639936 * 1) % 10 = 3 from by decide] at h
  rw [show limb 0 7 = 7 from by decide, show limb 1 7 = 0 from by decide, show limb 2 7 = 0 from by decide, show limb 3 7 = 0 from by decide, show limb 0 1 = 1 from by decide, show limb 1 1 = 0 from by decide, show limb 2 1 = 0 from by decide, show limb 3 1 = 0 from by decide,
    show limb 0 10 = 10 from by decide, show limb 1 10 = 0 from by decide, show limb 2 10 = 0 from by decide, show limb 3 10 = 0 from by decide, show limb 0 3 = 3 from by decide, show limb 1 3 = 0 from by decide, show limb 2 3 = 0 from by decide, show limb 3 3 = 0 from by decide] at h
  exact h

set_option maxHeartbeats 1000000 in
/-- sigillaw01.alive: true. -/
theorem alive_any (w : World) : Calls Try.prog 10 #[] w fun e w' => e = .returned (.bool true) ∧ Below w.heap.size w w' := by
  have hq : ∀ w : World, (binOp .eql 24 (.agg #[.int .u64 3, .int .u64 0, .int .u64 0, .int .u64 0]) (.agg #[.int .u64 3, .int .u64 0, .int .u64 0, .int .u64 0])).run Try.prog w = .ok (.bool true) w := fun w => eql4 3 0 0 0 3 0 0 0 w
  go_enter Try.func10, Try.ntmps10
  go_wp2_with fail
  refine (rem_alive _).mono ?_
  rintro e w1 ⟨rfl, hb1⟩
  go_wp2
  go_ret
  exact ⟨rfl, hb1.alloc hb1.size _⟩

end Go.Proofs.Ytlndeghggdpmaaa
