/- domain: check, checkShift, part, Points, Values. -/
import Derived.Test.YtfbfenljfdnggaaGreatDoorVW1
import Derived.Test.YtfbfenljfdnggaaGreatDoorVW2
namespace Go.Proofs.YtfbfenljfdnggaaGreatDoor
open Go.RowKit
set_option maxHeartbeats 2000000 in
theorem dcheck_gen (s k E1 E2 : Int) (m : Nat) (HM : ∀ w, GlobD w → Calls Tryz.prog 45 #[.int .i64 s] w fun e w' => e = .returned (.tuple #[.agg #[.int .u64 ((limb 0 (m) : Nat) : Int), .int .u64 ((limb 1 (m) : Nat) : Int), .int .u64 ((limb 2 (m) : Nat) : Int), .int .u64 ((limb 3 (m) : Nat) : Int)], .int .i64 E1]) ∧ Below w.heap.size w w') (w : World) (hg : GlobD w)
    (h : E1 ≠ 0 ∧ E2 = E1 ∨ E1 = 0 ∧ (k < 0 ∨ 9 < k) ∧ E2 = 60 ∨ E1 = 0 ∧ 0 ≤ k ∧ k ≤ 9 ∧ E2 = 0) :
    Calls Tryz.prog 91 #[.int .i64 s, .int .i64 k] w fun e w' => e = .returned (.int .i64 E2) ∧ Below w.heap.size w w' := by
  have HMM : Hid (∀ w, GlobD w → _) := HM
  have HG : Hid (GlobD w) := hg
  have HH : Hid (E1 ≠ 0 ∧ E2 = E1 ∨ E1 = 0 ∧ (k < 0 ∨ 9 < k) ∧ E2 = 60 ∨ E1 = 0 ∧ 0 ≤ k ∧ k ≤ 9 ∧ E2 = 0) := h
  clear HM hg h
  go_enter Tryz.func91, Tryz.ntmps91
  go_wp2_with fail
  refine (HMM.out _ HG.out).mono ?_
  rintro e w1 ⟨rfl, hb1⟩
  have hb2 := bAlloc hb1 (.cells #[.int .u64 ((limb 0 (m) : Nat) : Int), .int .u64 ((limb 1 (m) : Nat) : Int), .int .u64 ((limb 2 (m) : Nat) : Int), .int .u64 ((limb 3 (m) : Nat) : Int)] 25)
  clear hb1
  rcases HH.out with ⟨h1, h2⟩ | ⟨h1, h2, h3⟩ | ⟨h1, h2, h3, h4⟩
  · clear HH
    subst h2
    go_wp2
    go_ret
    exact ⟨rfl, hb2⟩
  · clear HH
    subst h1 h3
    rcases h2 with h2 | h2
    · go_wp2
      go_ret
      exact ⟨rfl, hb2⟩
    · have h0 : ¬ k < 0 := by omega
      go_wp2
      go_ret
      exact ⟨rfl, hb2⟩
  · clear HH
    subst h1 h4
    have h0 : ¬ k < 0 := by omega
    have h9 : ¬ 9 < k := by omega
    go_wp2
    go_ret
    exact ⟨rfl, hb2⟩
/-- The error of a sort and a size. -/
def chkE (s k : Int) : Int := if s < 0 ∨ 4 ≤ s then 20 else if k < 0 ∨ 9 < k then 60 else 0
theorem dcheck_any (s k : Int) (w : World) (hg : GlobD w) : Calls Tryz.prog 91 #[.int .i64 s, .int .i64 k] w fun e w' => e = .returned (.int .i64 (chkE s k)) ∧ Below w.heap.size w w' := by
  by_cases hs : s < 0 ∨ 4 ≤ s
  · refine dcheck_gen s k 20 (chkE s k) 0 (fun w _ => ?_) w hg (Or.inl ⟨by decide, by unfold chkE; rw [if_pos hs]⟩)
    rw [limb_zero, limb_zero, limb_zero, limb_zero]
    exact fModulus_out s hs w
  · obtain ⟨t, rfl⟩ : ∃ t : Nat, s = (t : Int) := ⟨s.toNat, by omega⟩
    refine dcheck_gen (t : Int) k 0 (chkE t k) (modN t) (fun w hg => fModulus_any t (by omega) w hg.1) w hg (Or.inr ?_)
    unfold chkE
    rw [if_neg hs]
    by_cases hk : k < 0 ∨ 9 < k
    · exact Or.inl ⟨rfl, hk, if_pos hk⟩
    · exact Or.inr ⟨rfl, by omega, by omega, if_neg hk⟩
end Go.Proofs.YtfbfenljfdnggaaGreatDoor

/- slices.Reverse of elements; domain: part, Points, Vanish. -/
namespace Go.Proofs.YtfbfenljfdnggaaGreatDoor
open Go.RowKit
theorem two_lt (s k : Nat) (hk : k ≤ 9) : 2 ^ k < modN s := Nat.lt_of_le_of_lt (pow9 hk).2 (by
  match s with
  | 0 => decide
  | 1 => decide
  | 2 => decide
  | _ + 3 => show 512 < modN 3; decide)
set_option maxHeartbeats 2000000 in
/-- part: 1 by 2^k. -/
theorem dpart_any (s k : Nat) (hs : s < 4) (hk : k ≤ 9) (w : World) (hg : GlobD w) :
    Calls Tryz.prog 97 #[.int .i64 (s : Int), .int .i64 (k : Int)] w fun e w' => (∃ q, e = .returned (.agg #[.int .u64 ((limb 0 (q) : Nat) : Int), .int .u64 ((limb 1 (q) : Nat) : Int), .int .u64 ((limb 2 (q) : Nat) : Int), .int .u64 ((limb 3 (q) : Nat) : Int)]) ∧ q < modN s ∧ q * 2 ^ k % modN s = 1) ∧ Below w.heap.size w w' := by
  have IV := fun w hg => fInv_any s (2 ^ k) hs (Nat.lt_trans (two_lt s k hk) (modN_good s).lt.2.2) w hg
  have h2 := two_lt s k hk
  have h9 := pow9 hk
  obtain ⟨N, eN⟩ : ∃ N, N = 2 ^ k := ⟨_, rfl⟩
  rw [← eN] at IV h2 h9 ⊢
  rw [word_agg N (by omega)] at IV
  have HIV : Hid (∀ w, Glob w → _) := IV
  have hsh : (2 : Int) ^ k = (N : Int) := by rw [eN]; simp
  have hk0 : ¬ (k : Int) < 0 := by omega
  have hwr : IntKind.u64.wrap (N : Int) = (N : Int) := by simp [IntKind.wrap, IntKind.bits, IntKind.signed]; omega
  have HN0 : Hid (N % modN s = N ∧ N ≠ 0) := ⟨Nat.mod_eq_of_lt h2, by omega⟩
  clear IV eN
  go_enter Tryz.func97, Tryz.ntmps97
  go_upto_region 1 with fail
  obtain ⟨w0, hw0⟩ : ∃ z : World, z = w.alloc (.cells #[.int .u64 0, .int .u64 0, .int .u64 0, .int .u64 0] 25) := ⟨_, rfl⟩
  obtain ⟨N4, e4⟩ : ∃ N, N = w.heap.size := ⟨_, rfl⟩
  have br0 : Blk w0 25 N4 (fun _ => 0) := by rw [hw0]; exact Blk.newAt _ _ _ (fun _ => 0) e4
  have hb0 : Below w.heap.size w w0 := by rw [hw0]; exact bAlloc (Below.refl _ _) _
  rw [← hw0, ← e4]
  have l4 : w.heap.size ≤ N4 := by omega
  clear hw0 e4
  have HG0 : Hid (GlobD w0) := hg.below hb0
  go_wp2_with fail
  refine (HIV.out _ HG0.out.1).mono ?_
  rintro e w1 ⟨⟨hz, _⟩ | ⟨_, q, hq, hq1, rfl⟩, hb1⟩
  · exact absurd (HN0.out.1.symm.trans hz) HN0.out.2
  · rw [HN0.out.1] at hq1
    have HQ : Hid (q < modN s ∧ q * N % modN s = 1) := ⟨hq, hq1⟩
    clear hq hq1
    have br1 := br0.belowAll hb1
    have hbw1 := bStep hb0 hb1
    obtain ⟨w2, hw2⟩ : ∃ z : World, z = w1.alloc (.cells #[.int .u64 ((limb 0 (q) : Nat) : Int), .int .u64 ((limb 1 (q) : Nat) : Int), .int .u64 ((limb 2 (q) : Nat) : Int), .int .u64 ((limb 3 (q) : Nat) : Int)] 25) := ⟨_, rfl⟩
    obtain ⟨N5, e5⟩ : ∃ N, N = w1.heap.size := ⟨_, rfl⟩
    have br2 : Blk w2 25 N4 (fun _ => 0) := by rw [hw2]; exact br1.alloc _
    have bq2 : Blk w2 25 N5 (fun i => limb i q) := by rw [hw2]; exact Blk.newAt _ _ _ (fun i => limb i q) e5
    have hbw2 : Below w.heap.size w w2 := by rw [hw2]; exact bAlloc hbw1 _
    have n45 : N4 ≠ N5 := by have := br1.lt; omega
    go_upto_region 2 with fail
    rw [← hw2, ← e5]
    clear hw2 e5 br0 br1 hb0 hb1 hbw1
    have cq := bq2.cell; have cr := br2.cell; have fr := br2.frozen
    have bs := br2.set4 (fun i => limb i q)
    have cs := bs.cell
    have hb3 := bSet4 hbw2 l4 (.int .u64 ((limb 0 q : Nat) : Int)) (.int .u64 ((limb 1 q : Nat) : Int)) (.int .u64 ((limb 2 q : Nat) : Int)) (.int .u64 ((limb 3 q : Nat) : Int))
    have HB3 : Hid (Below _ _ _) := hb3
    clear hb3
    go_wp2
    refine bodyPost_ret (v := .agg #[.int .u64 ((limb 0 (q) : Nat) : Int), .int .u64 ((limb 1 (q) : Nat) : Int), .int .u64 ((limb 2 (q) : Nat) : Int), .int .u64 ((limb 3 (q) : Nat) : Int)]) (by simp [results, Tryz.results97, go_sem, cs]) rfl ?_
    exact ⟨⟨q, rfl, HQ.out.1, HQ.out.2⟩, HB3.out⟩
theorem chk_in {s k : Nat} (hs : s < 4) (hk : k ≤ 9) : chkE (s : Int) (k : Int) = 0 := by
  unfold chkE
  rw [if_neg (by omega), if_neg (by omega)]
set_option maxHeartbeats 2000000 in
theorem dPts_in (s k : Nat) (hs : s < 4) (hk : k ≤ 9) (w : World) (hg : GlobD w) : Calls Tryz.prog 51 #[.int .i64 (s : Int), .int .i64 (k : Int)] w fun e w' => (∃ g, e = .returned (.tuple #[.slice (some ⟨g, 0, none⟩) (2 ^ k) (2 ^ k), .int .i64 0]) ∧ w.heap.size ≤ g ∧ BlkE w' g (2 ^ k) (fun i => expP s (rootP s k) i)) ∧ Below w.heap.size w w' := by
  have HC := dcheck_any (s : Int) (k : Int) w hg
  rw [chk_in hs hk] at HC
  have HP : Hid (∀ w, GlobD w → _) := fun w hg => dpoints_any s k hs hk w hg
  have HG : Hid (GlobD w) := hg
  obtain ⟨N, eN⟩ : ∃ N, N = 2 ^ k := ⟨_, rfl⟩
  rw [← eN] at HP ⊢
  clear eN hg
  go_enter Tryz.func51, Tryz.ntmps51
  go_wp2_with fail
  refine HC.mono ?_
  rintro e w1 ⟨rfl, hb1⟩
  go_wp2_with fail
  refine (HP.out _ (HG.out.below hb1)).mono ?_
  rintro e w2 ⟨⟨g, rfl, lg, bg⟩, hb2⟩
  go_wp2
  go_ret2
  exact ⟨⟨g, rfl, Nat.le_trans hb1.size lg, bg⟩, bStep hb1 hb2⟩
end Go.Proofs.YtfbfenljfdnggaaGreatDoor

