/- DomainZeros of anything. -/
import Derived.Test.YtfkdfngegeeciaaDoorD20
namespace Go.Proofs.YtfkdfngegeeciaaDoor
open Go.RowKit

theorem chk_zero {s k : Int} (h : chkE s k = 0) : ∃ a t : Nat, s = (a : Int) ∧ k = (t : Int) ∧ a < 4 ∧ t ≤ 9 := by
  unfold chkE at h
  by_cases hs : s < 0 ∨ 4 ≤ s
  · rw [if_pos hs] at h; cases h
  · rw [if_neg hs] at h
    by_cases hk : k < 0 ∨ 9 < k
    · rw [if_pos hk] at h; cases h
    · exact ⟨s.toNat, k.toNat, by omega, by omega, by omega, by omega⟩
theorem zeros_walk (s k i j : Int) (x : Nat) (hx : x < 115792089237316195423570985008687907853269984665640564039457584007913129639936) (w : World) (hg : GlobD w) :
    Calls Tryd.prog 7 #[.int .i64 s, .int .i64 k, .int .i64 i, .int .i64 j, .agg #[.int .u64 ((limb 0 (x) : Nat) : Int), .int .u64 ((limb 1 (x) : Nat) : Int), .int .u64 ((limb 2 (x) : Nat) : Int), .int .u64 ((limb 3 (x) : Nat) : Int)]] w fun e w' => e = .returned (.bool true) ∧ Below w.heap.size w w' := by
  by_cases hE : chkE s k = 0
  · obtain ⟨a, t, rfl, rfl, ha, ht⟩ := chk_zero hE
    exact zeros_in a t x i j ha ht hx w hg
  · exact zeros_err s k i j x hE w hg
end Go.Proofs.YtfkdfngegeeciaaDoor
