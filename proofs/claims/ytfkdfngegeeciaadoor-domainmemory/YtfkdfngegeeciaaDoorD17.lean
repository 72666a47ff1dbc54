/- DomainRound of anything. -/
import Derived.Test.YtfkdfngegeeciaaDoorD16
namespace Go.Proofs.YtfkdfngegeeciaaDoor
open Go.RowKit

theorem shf_zero {s k : Int} {x : Nat} (h : shfE s k x = 0) : ∃ a t : Nat, s = (a : Int) ∧ k = (t : Int) ∧ a < 4 ∧ t ≤ 9 ∧ x % modN a ≠ 0 := by
  unfold shfE at h
  by_cases hc : chkE s k = 0
  · rw [if_neg (by simp [hc])] at h
    unfold chkE at hc
    by_cases hs : s < 0 ∨ 4 ≤ s
    · rw [if_pos hs] at hc; cases hc
    · rw [if_neg hs] at hc
      by_cases hk : k < 0 ∨ 9 < k
      · rw [if_pos hk] at hc; cases hc
      · refine ⟨s.toNat, k.toNat, by omega, by omega, by omega, by omega, fun h0 => ?_⟩
        rw [if_pos h0] at h
        cases h
  · rw [if_pos hc] at h
    exact absurd h hc
theorem round_walk (s k : Int) (x n : Nat) (v : Value) (f : Nat → Nat) (hx : x < 115792089237316195423570985008687907853269984665640564039457584007913129639936) (w : World) (hg : GlobD w) (hv : Es w v n f) (hf : ∀ i, i < n → f i < 115792089237316195423570985008687907853269984665640564039457584007913129639936) :
    Calls Tryd.prog 5 #[.int .i64 s, .int .i64 k, .agg #[.int .u64 ((limb 0 (x) : Nat) : Int), .int .u64 ((limb 1 (x) : Nat) : Int), .int .u64 ((limb 2 (x) : Nat) : Int), .int .u64 ((limb 3 (x) : Nat) : Int)], v] w fun e w' => e = .returned (.bool true) ∧ Below w.heap.size w w' := by
  obtain ⟨oa, cn, rfl⟩ := hv.shape
  by_cases hn : 600 < n
  · exact round_great s k x n cn oa f hn w hg hv
  · by_cases hE : shfE s k x = 0
    · obtain ⟨a, t, rfl, rfl, ha, ht, hnz⟩ := shf_zero hE
      by_cases hl : n ≤ 2 ^ t
      · exact round_in a t x n cn oa f ha ht hx hnz hl hf w hg hv
      · refine round_err (a : Int) (t : Int) 50 x n cn oa f (by omega) (by decide) w hg hv (fun v w hg hv => ?_)
        obtain ⟨ob, cb, rfl⟩ := hv.shape
        exact dVals_len a t n cb x ob ha ht hx hnz (by omega) w hg
    · exact round_err s k _ x n cn oa f (by omega) hE w hg hv (fun v w hg _ => dVals_err s k x v hx hE w hg)
end Go.Proofs.YtfkdfngegeeciaaDoor
