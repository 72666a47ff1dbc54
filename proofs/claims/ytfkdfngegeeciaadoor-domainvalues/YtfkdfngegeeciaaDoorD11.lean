/- domain: check, checkShift, part, Points, Values. -/
import Derived.Test.YtfkdfngegeeciaaDoorD10
import Derived.Test.YtfkdfngegeeciaaDoorGC
namespace Go.Proofs.YtfkdfngegeeciaaDoor
open Go.RowKit

set_option maxHeartbeats 2000000 in
theorem dcheck_gen (s k E1 E2 : Int) (m : Nat) (HM : ∀ w, GlobD w → Calls Tryd.prog 54 #[.int .i64 s] w fun e w' => e = .returned (.tuple #[.agg #[.int .u64 ((limb 0 (m) : Nat) : Int), .int .u64 ((limb 1 (m) : Nat) : Int), .int .u64 ((limb 2 (m) : Nat) : Int), .int .u64 ((limb 3 (m) : Nat) : Int)], .int .i64 E1]) ∧ Below w.heap.size w w') (w : World) (hg : GlobD w)
    (h : E1 ≠ 0 ∧ E2 = E1 ∨ E1 = 0 ∧ (k < 0 ∨ 9 < k) ∧ E2 = 60 ∨ E1 = 0 ∧ 0 ≤ k ∧ k ≤ 9 ∧ E2 = 0) :
    Calls Tryd.prog 28 #[.int .i64 s, .int .i64 k] w fun e w' => e = .returned (.int .i64 E2) ∧ Below w.heap.size w w' := by
  have HMM : Hid (∀ w, GlobD w → _) := HM
  have HG : Hid (GlobD w) := hg
  have HH : Hid (E1 ≠ 0 ∧ E2 = E1 ∨ E1 = 0 ∧ (k < 0 ∨ 9 < k) ∧ E2 = 60 ∨ E1 = 0 ∧ 0 ≤ k ∧ k ≤ 9 ∧ E2 = 0) := h
  clear HM hg h
  go_enter Tryd.func28, Tryd.ntmps28
  go_wp2_with fail
  refine (HMM.out _ HG.out).mono ?_
  rintro e w1 ⟨rfl, hb1⟩
  have hb2 := bAlloc hb1 (.cells #[.int .u64 ((limb 0 (m) : Nat) : Int), .int .u64 ((limb 1 (m) : Nat) : Int), .int .u64 ((limb 2 (m) : Nat) : Int), .int .u64 ((limb 3 (m) : Nat) : Int)] 24)
  clear hb1
  rcases HH.out with ⟨h1, h2⟩ | ⟨h1, h2, h3⟩ | ⟨h1, h2, h3, h4⟩
  · clear HH
    subst h2
    go_wp2
    go_ret
    exact ⟨rfl, hb2⟩
  · clear HH
    subst h1 h3
    rcases h2 with h2 | h2
    · go_wp2
      go_ret
      exact ⟨rfl, hb2⟩
    · have h0 : ¬ k < 0 := by omega
      go_wp2
      go_ret
      exact ⟨rfl, hb2⟩
  · clear HH
    subst h1 h4
    have h0 : ¬ k < 0 := by omega
    have h9 : ¬ 9 < k := by omega
    go_wp2
    go_ret
    exact ⟨rfl, hb2⟩
/-- The error of a sort and a size. -/
def chkE (s k : Int) : Int := if s < 0 ∨ 4 ≤ s then 20 else if k < 0 ∨ 9 < k then 60 else 0
theorem dcheck_any (s k : Int) (w : World) (hg : GlobD w) : Calls Tryd.prog 28 #[.int .i64 s, .int .i64 k] w fun e w' => e = .returned (.int .i64 (chkE s k)) ∧ Below w.heap.size w w' := by
  by_cases hs : s < 0 ∨ 4 ≤ s
  · refine dcheck_gen s k 20 (chkE s k) 0 (fun w _ => ?_) w hg (Or.inl ⟨by decide, by unfold chkE; rw [if_pos hs]⟩)
    rw [limb_zero, limb_zero, limb_zero, limb_zero]
    exact fModulus_out s hs w
  · obtain ⟨t, rfl⟩ : ∃ t : Nat, s = (t : Int) := ⟨s.toNat, by omega⟩
    refine dcheck_gen (t : Int) k 0 (chkE t k) (modN t) (fun w hg => fModulus_any t (by omega) w hg.1) w hg (Or.inr ?_)
    unfold chkE
    rw [if_neg hs]
    by_cases hk : k < 0 ∨ 9 < k
    · exact Or.inl ⟨rfl, hk, if_pos hk⟩
    · exact Or.inr ⟨rfl, by omega, by omega, if_neg hk⟩
/-- The error of a shift too. -/
def shfE (s k : Int) (x : Nat) : Int := if chkE s k ≠ 0 then chkE s k else if x % modN s.toNat = 0 then 10 else 0
set_option maxHeartbeats 2000000 in
theorem dshift_any (s k : Int) (x : Nat) (hx : x < 115792089237316195423570985008687907853269984665640564039457584007913129639936) (w : World) (hg : GlobD w) : Calls Tryd.prog 40 #[.int .i64 s, .int .i64 k, .agg #[.int .u64 ((limb 0 (x) : Nat) : Int), .int .u64 ((limb 1 (x) : Nat) : Int), .int .u64 ((limb 2 (x) : Nat) : Int), .int .u64 ((limb 3 (x) : Nat) : Int)]] w fun e w' => e = .returned (.int .i64 (shfE s k x)) ∧ Below w.heap.size w w' := by
  have HC : Hid (∀ w, GlobD w → _) := fun w hg => dcheck_any s k w hg
  have HG : Hid (GlobD w) := hg
  obtain ⟨c, ec⟩ : ∃ c, c = chkE s k := ⟨_, rfl⟩
  rw [← ec] at HC
  have hin : c = 0 → ∃ t : Nat, s = (t : Int) ∧ t < 4 := fun h => by
    rw [ec] at h
    unfold chkE at h
    by_cases hs : s < 0 ∨ 4 ≤ s
    · rw [if_pos hs] at h; cases h
    · exact ⟨s.toNat, by omega, by omega⟩
  have HES : Hid (shfE s k x = if c ≠ 0 then c else if x % modN s.toNat = 0 then 10 else 0) := by unfold shfE; rw [ec]; exact rfl
  clear ec hg
  go_enter Tryd.func40, Tryd.ntmps40
  go_upto_region 1 with fail
  obtain ⟨w0, hw0⟩ : ∃ z : World, z = w.alloc (.cells #[.int .u64 ((limb 0 (x) : Nat) : Int), .int .u64 ((limb 1 (x) : Nat) : Int), .int .u64 ((limb 2 (x) : Nat) : Int), .int .u64 ((limb 3 (x) : Nat) : Int)] 24) := ⟨_, rfl⟩
  obtain ⟨N5, e5⟩ : ∃ N, N = w.heap.size := ⟨_, rfl⟩
  have bx0 : Blk w0 24 N5 (fun i => limb i x) := by rw [hw0]; exact Blk.newAt _ _ _ (fun i => limb i x) e5
  have hb0 : Below w.heap.size w w0 := by rw [hw0]; exact bAlloc (Below.refl _ _) _
  rw [← hw0, ← e5]
  clear hw0 e5
  go_wp2_with fail
  refine (HC.out _ (HG.out.below hb0)).mono ?_
  rintro e w1 ⟨rfl, hb1⟩
  have hbw1 := bStep hb0 hb1
  have bx1 := bx0.belowAll hb1
  clear bx0 hb0 hb1 HC
  by_cases h0 : c = 0
  · obtain ⟨t, rfl, ht⟩ := hin h0
    subst h0
    have AA := fAdd_any t x 0 ht hx (by decide) w1 (HG.out.below hbw1).1
    rw [limb_zero, limb_zero, limb_zero, limb_zero, show addP t x 0 = x % modN t from rfl] at AA
    have hes := HES.out
    rw [if_neg (by simp)] at hes
    rw [show (t : Int).toNat = t from rfl] at hes
    have EQ : ∀ w, (binOp .eql 24 (.agg #[.int .u64 ((limb 0 (x % modN t) : Nat) : Int), .int .u64 ((limb 1 (x % modN t) : Nat) : Int), .int .u64 ((limb 2 (x % modN t) : Nat) : Int), .int .u64 ((limb 3 (x % modN t) : Nat) : Int)]) (.agg #[.int .u64 0, .int .u64 0, .int .u64 0, .int .u64 0])).run Tryd.prog w = .ok (.bool (decide (x % modN t = 0))) w := fun w => eqlN (x % modN t) 0 (lt_M t _ (Nat.mod_lt _ (modN_pos t))) (by decide) w
    obtain ⟨y, ey⟩ : ∃ y, y = x % modN t := ⟨_, rfl⟩
    rw [← ey] at AA hes EQ
    clear ey hin HES
    have cx := bx1.cell
    go_wp2_with fail
    refine AA.mono ?_
    rintro e w2 ⟨rfl, hb2⟩
    have hbw2 := bStep hbw1 hb2
    clear AA hb2 hbw1 bx1 cx
    by_cases hy : y = 0
    · rw [if_pos hy] at hes
      rw [decide_eq_true hy] at EQ
      have HES : Hid (_ = _) := hes
      clear hy hes
      go_wp2
      go_ret
      exact ⟨by rw [HES.out]; rfl, hbw2⟩
    · rw [if_neg hy] at hes
      rw [decide_eq_false hy] at EQ
      have HES : Hid (_ = _) := hes
      clear hy hes
      go_wp2
      go_ret
      exact ⟨by rw [HES.out]; rfl, hbw2⟩
  · have hes := HES.out
    rw [if_pos h0] at hes
    have HE2 : Hid (_ = _) := hes
    clear hin HES bx1 hes
    go_wp2
    go_ret
    exact ⟨by rw [HE2.out]; rfl, hbw1⟩
end Go.Proofs.YtfkdfngegeeciaaDoor
