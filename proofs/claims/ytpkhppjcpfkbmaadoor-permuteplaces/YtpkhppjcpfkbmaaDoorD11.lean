/- domain: check, checkShift, part, Points, Values. -/
import Derived.Test.YtpkhppjcpfkbmaaDoorD10
import Derived.Test.YtpkhppjcpfkbmaaDoorGC
namespace Go.Proofs.YtpkhppjcpfkbmaaDoor
open Go.RowKit

set_option maxHeartbeats 2000000 in
theorem dcheck_gen (s k E1 E2 : Int) (m : Nat) (HM : ∀ w, GlobD w → Calls Tryd.prog 41 #[.int .i64 s] w fun e w' => e = .returned (.tuple #[.agg #[.int .u64 ((limb 0 (m) : Nat) : Int), .int .u64 ((limb 1 (m) : Nat) : Int), .int .u64 ((limb 2 (m) : Nat) : Int), .int .u64 ((limb 3 (m) : Nat) : Int)], .int .i64 E1]) ∧ Below w.heap.size w w') (w : World) (hg : GlobD w)
    (h : E1 ≠ 0 ∧ E2 = E1 ∨ E1 = 0 ∧ (k < 0 ∨ 9 < k) ∧ E2 = 60 ∨ E1 = 0 ∧ 0 ≤ k ∧ k ≤ 9 ∧ E2 = 0) :
    Calls Tryd.prog 42 #[.int .i64 s, .int .i64 k] w fun e w' => e = .returned (.int .i64 E2) ∧ Below w.heap.size w w' := by
  have HMM : Hid (∀ w, GlobD w → _) := HM
  have HG : Hid (GlobD w) := hg
  have HH : Hid (E1 ≠ 0 ∧ E2 = E1 ∨ E1 = 0 ∧ (k < 0 ∨ 9 < k) ∧ E2 = 60 ∨ E1 = 0 ∧ 0 ≤ k ∧ k ≤ 9 ∧ E2 = 0) := h
  clear HM hg h
  go_enter Tryd.func42, Tryd.ntmps42
  go_wp2_with fail
  refine (HMM.out _ HG.out).mono ?_
  rintro e w1 ⟨rfl, hb1⟩
  have hb2 := bAlloc hb1 (.cells #[.int .u64 ((limb 0 (m) : Nat) : Int), .int .u64 ((limb 1 (m) : Nat) : Int), .int .u64 ((limb 2 (m) : Nat) : Int), .int .u64 ((limb 3 (m) : Nat) : Int)] 24)
  clear hb1
  rcases HH.out with ⟨h1, h2⟩ | ⟨h1, h2, h3⟩ | ⟨h1, h2, h3, h4⟩
  · clear HH
    subst h2
    go_wp2
    go_ret
    exact ⟨rfl, hb2⟩
  · clear HH
    subst h1 h3
    rcases h2 with h2 | h2
    · go_wp2
      go_ret
      exact ⟨rfl, hb2⟩
    · have h0 : ¬ k < 0 := by omega
      go_wp2
      go_ret
      exact ⟨rfl, hb2⟩
  · clear HH
    subst h1 h4
    have h0 : ¬ k < 0 := by omega
    have h9 : ¬ 9 < k := by omega
    go_wp2
    go_ret
    exact ⟨rfl, hb2⟩
/-- The error of a sort and a size. -/
def chkE (s k : Int) : Int := if s < 0 ∨ 4 ≤ s then 20 else if k < 0 ∨ 9 < k then 60 else 0
theorem dcheck_any (s k : Int) (w : World) (hg : GlobD w) : Calls Tryd.prog 42 #[.int .i64 s, .int .i64 k] w fun e w' => e = .returned (.int .i64 (chkE s k)) ∧ Below w.heap.size w w' := by
  by_cases hs : s < 0 ∨ 4 ≤ s
  · refine dcheck_gen s k 20 (chkE s k) 0 (fun w _ => ?_) w hg (Or.inl ⟨by decide, by unfold chkE; rw [if_pos hs]⟩)
    rw [limb_zero, limb_zero, limb_zero, limb_zero]
    exact fModulus_out s hs w
  · obtain ⟨t, rfl⟩ : ∃ t : Nat, s = (t : Int) := ⟨s.toNat, by omega⟩
    refine dcheck_gen (t : Int) k 0 (chkE t k) (modN t) (fun w hg => fModulus_any t (by omega) w hg.1) w hg (Or.inr ?_)
    unfold chkE
    rw [if_neg hs]
    by_cases hk : k < 0 ∨ 9 < k
    · exact Or.inl ⟨rfl, hk, if_pos hk⟩
    · exact Or.inr ⟨rfl, by omega, by omega, if_neg hk⟩
/-- The error of a shift too. -/
def shfE (s k : Int) (x : Nat) : Int := if chkE s k ≠ 0 then chkE s k else if x % modN s.toNat = 0 then 10 else 0
end Go.Proofs.YtpkhppjcpfkbmaaDoor
