/- field.Root of an order that there isn't; the orders of the roots. -/
import Derived.Test.YtlndeghggdpmaacDoorR4
namespace Go.Proofs.YtlndeghggdpmaacDoor
open Go.RowKit

set_option maxHeartbeats 4000000 in
set_option maxRecDepth 20000 in
/-- field.Root of an order that there isn't. -/
theorem fRoot_lo (s : Nat) (hs : s < 4) (k : Int) (hk : k < 0) (w : World) (hg : Glob w) :
    Calls Tryd.prog 24 #[.int .i64 (s : Int), .int .i64 k] w fun e w' => e = .returned (.tuple #[.agg #[.int .u64 0, .int .u64 0, .int .u64 0, .int .u64 0], .int .i64 60]) ∧ Below w.heap.size w w' := by
  have HM := fun w hg => modulus_any s hs w hg
  have cAd : ∀ w : World, Glob w → w.cell? ⟨0, 5 * s + 4, none⟩ = some (.int .i64 ((adicN s : Nat) : Int)) := fun w hg => (hg.2.1 s hs).2
  obtain ⟨m, em⟩ : ∃ m, m = modN s := ⟨_, rfl⟩
  rw [← em] at HM
  obtain ⟨A, eA⟩ : ∃ A, A = adicN s := ⟨_, rfl⟩
  rw [← eA] at cAd
  clear em eA
  have hs4 : s = 0 ∨ s = 1 ∨ s = 2 ∨ s = 3 := by omega
  clear hs
  rcases hs4 with rfl | rfl | rfl | rfl
  all_goals
    go_enter Tryd.func24, Tryd.ntmps24
    go_wp2_with fail
    obtain ⟨w0, hw0⟩ : ∃ w0 : World, w0 = w.alloc (.cells #[.int .u64 0, .int .u64 0, .int .u64 0, .int .u64 0] 24) := ⟨_, rfl⟩
    have br0 : Blk w0 24 w.heap.size (fun _ => 0) := by rw [hw0]; exact Blk.newAt _ _ _ (fun _ => 0) (by simp)
    have hg0 : Glob w0 := by rw [hw0]; exact hg.alloc _
    have hb0 : Below w.heap.size w w0 := by rw [hw0]; exact (Below.refl _ _).alloc (Nat.le_refl _) _
    rw [← hw0]
    clear hw0 hg
    refine (HM _ hg0).mono ?_
    rintro e w1 ⟨rfl, hb1⟩
    have br1 := br0.belowAll hb1; have hg1 := hg0.below hb1
    have hbw1 := bStep hb0 hb1
    have lr1 := br1.lt
    clear br0 hb0 hb1 hg0 HM
    obtain ⟨w2, hw2⟩ : ∃ w2 : World, w2 = w1.alloc (.cells #[.int .u64 ((limb 0 (m) : Nat) : Int), .int .u64 ((limb 1 (m) : Nat) : Int), .int .u64 ((limb 2 (m) : Nat) : Int), .int .u64 ((limb 3 (m) : Nat) : Int)] 49) := ⟨_, rfl⟩
    have br2 : Blk w2 24 w.heap.size (fun _ => 0) := by rw [hw2]; exact br1.alloc _
    have hg2 : Glob w2 := by rw [hw2]; exact hg1.alloc _
    have hbw2 : Below w.heap.size w w2 := by rw [hw2]; exact bAlloc hbw1 _
    have cA := cAd w2 hg2
    have lg2 : 0 < w2.heap.size := by have := hg2.1; omega
    go_upto_region 4 with fail
    rw [← hw2]
    clear hw2 br1 hbw1 hg1 cAd
    have cr := br2.cell; have fr := br2.frozen; have lr := br2.lt
    go_wp2
    refine bodyPost_ret (v := .tuple #[.agg #[.int .u64 0, .int .u64 0, .int .u64 0, .int .u64 0], .int .i64 60]) (by simp [results, Tryd.results24, go_sem, cr]) rfl ⟨rfl, ?_⟩
    repeat (first | with_reducible exact hbw2 | with_reducible refine Below.setCell ?_ (by first | omega | (simp; omega) | simp) _)


set_option maxHeartbeats 4000000 in
set_option maxRecDepth 20000 in
/-- field.Root of an order that there isn't. -/
theorem fRoot_hi (s : Nat) (hs : s < 4) (k : Int) (hk : ((adicN s : Nat) : Int) < k) (w : World) (hg : Glob w) :
    Calls Tryd.prog 24 #[.int .i64 (s : Int), .int .i64 k] w fun e w' => e = .returned (.tuple #[.agg #[.int .u64 0, .int .u64 0, .int .u64 0, .int .u64 0], .int .i64 60]) ∧ Below w.heap.size w w' := by
  have HM := fun w hg => modulus_any s hs w hg
  have cAd : ∀ w : World, Glob w → w.cell? ⟨0, 5 * s + 4, none⟩ = some (.int .i64 ((adicN s : Nat) : Int)) := fun w hg => (hg.2.1 s hs).2
  obtain ⟨m, em⟩ : ∃ m, m = modN s := ⟨_, rfl⟩
  rw [← em] at HM
  obtain ⟨A, eA⟩ : ∃ A, A = adicN s := ⟨_, rfl⟩
  rw [← eA] at cAd hk
  clear em eA
  have hs4 : s = 0 ∨ s = 1 ∨ s = 2 ∨ s = 3 := by omega
  clear hs
  have hk0 : ¬ k < 0 := by omega
  rcases hs4 with rfl | rfl | rfl | rfl
  all_goals
    go_enter Tryd.func24, Tryd.ntmps24
    go_wp2_with fail
    obtain ⟨w0, hw0⟩ : ∃ w0 : World, w0 = w.alloc (.cells #[.int .u64 0, .int .u64 0, .int .u64 0, .int .u64 0] 24) := ⟨_, rfl⟩
    have br0 : Blk w0 24 w.heap.size (fun _ => 0) := by rw [hw0]; exact Blk.newAt _ _ _ (fun _ => 0) (by simp)
    have hg0 : Glob w0 := by rw [hw0]; exact hg.alloc _
    have hb0 : Below w.heap.size w w0 := by rw [hw0]; exact (Below.refl _ _).alloc (Nat.le_refl _) _
    rw [← hw0]
    clear hw0 hg
    refine (HM _ hg0).mono ?_
    rintro e w1 ⟨rfl, hb1⟩
    have br1 := br0.belowAll hb1; have hg1 := hg0.below hb1
    have hbw1 := bStep hb0 hb1
    have lr1 := br1.lt
    clear br0 hb0 hb1 hg0 HM
    obtain ⟨w2, hw2⟩ : ∃ w2 : World, w2 = w1.alloc (.cells #[.int .u64 ((limb 0 (m) : Nat) : Int), .int .u64 ((limb 1 (m) : Nat) : Int), .int .u64 ((limb 2 (m) : Nat) : Int), .int .u64 ((limb 3 (m) : Nat) : Int)] 49) := ⟨_, rfl⟩
    have br2 : Blk w2 24 w.heap.size (fun _ => 0) := by rw [hw2]; exact br1.alloc _
    have hg2 : Glob w2 := by rw [hw2]; exact hg1.alloc _
    have hbw2 : Below w.heap.size w w2 := by rw [hw2]; exact bAlloc hbw1 _
    have cA := cAd w2 hg2
    have lg2 : 0 < w2.heap.size := by have := hg2.1; omega
    go_upto_region 4 with fail
    rw [← hw2]
    clear hw2 br1 hbw1 hg1 cAd
    have cr := br2.cell; have fr := br2.frozen; have lr := br2.lt
    go_wp2
    refine bodyPost_ret (v := .tuple #[.agg #[.int .u64 0, .int .u64 0, .int .u64 0, .int .u64 0], .int .i64 60]) (by simp [results, Tryd.results24, go_sem, cr]) rfl ⟨rfl, ?_⟩
    repeat (first | with_reducible exact hbw2 | with_reducible refine Below.setCell ?_ (by first | omega | (simp; omega) | simp) _)


/-- The root's power to 2^j. -/
theorem root_sqs {m h S : Nat} (H : OddPart m h S) (k j : Nat) (hk : k ≤ S) : sqs m (powM m 5 ((m - 1) / 2 ^ k)) j = powM m 5 ((2 * h + 1) * 2 ^ (S - k + j)) := by
  rw [sqs_pow, H.1]
  congr 1
  rw [show (2 : Nat) ^ S = 2 ^ (S - k) * 2 ^ k from by rw [← Nat.pow_add]; congr 1; omega, ← Nat.mul_assoc, Nat.mul_div_cancel _ (Nat.two_pow_pos _), Nat.mul_assoc, ← Nat.pow_add]
theorem root_one_at (s k : Nat) (hk : k ≤ adicN s) : sqs (modN s) (rootP s k) k = 1 := by
  have h5 := modN_5 s
  show sqs (modN s) (powM (modN s) 5 ((modN s - 1) / 2 ^ k)) k = 1
  rw [root_sqs (oddH_ok s) k k hk, show adicN s - k + k = adicN s from by omega, ← (oddH_ok s).1]
  exact fermat_one (modN_prime s) (by rw [Nat.mod_eq_of_lt h5]; decide)
theorem root_not_one (s k j : Nat) (hk : k ≤ adicN s) (hj : j < k) : sqs (modN s) (rootP s k) j ≠ 1 := by
  intro h
  have h5 := modN_5 s
  have e : sqs (modN s) (rootP s k) (k - 1) = modN s - 1 := by
    show sqs (modN s) (powM (modN s) 5 ((modN s - 1) / 2 ^ k)) (k - 1) = _
    rw [root_sqs (oddH_ok s) k (k - 1) hk, show adicN s - k + (k - 1) = adicN s - 1 from by omega]
    exact (oddH_ok s).2.2.2
  have e2 := sqs_sqs (modN s) (rootP s k) j (k - 1 - j)
  rw [h, sqs_one _ _ (by omega), show j + (k - 1 - j) = k - 1 from by omega, e] at e2
  omega

end Go.Proofs.YtlndeghggdpmaacDoor
