/- Errors of Vanish and Lagrange; the reference's Vanish and By. -/
import Derived.Test.YtpkhppjcpfkbmaaDoorD26
import Derived.Test.YtpkhppjcpfkbmaaDoorD19
namespace Go.Proofs.YtpkhppjcpfkbmaaDoor
open Go.RowKit

set_option maxHeartbeats 4000000 in
theorem dlag_err (s k i : Int) (x : Nat) (hE : chkE s k ≠ 0) (w : World) (hg : GlobD w) : Calls Tryd.prog 20 #[.int .i64 s, .int .i64 k, .int .i64 i, .agg #[.int .u64 ((limb 0 (x) : Nat) : Int), .int .u64 ((limb 1 (x) : Nat) : Int), .int .u64 ((limb 2 (x) : Nat) : Int), .int .u64 ((limb 3 (x) : Nat) : Int)]] w fun e w' => e = .returned (.tuple #[.agg #[.int .u64 0, .int .u64 0, .int .u64 0, .int .u64 0], .int .i64 (chkE s k)]) ∧ Below w.heap.size w w' := by
  have HG : Hid (GlobD w) := hg
  have HC : Hid (∀ w, GlobD w → _) := fun w hg => dcheck_any s k w hg
  obtain ⟨c, ec⟩ : ∃ c, c = chkE s k := ⟨_, rfl⟩
  rw [← ec] at HC hE ⊢
  clear ec hg
  go_enter Tryd.func20, Tryd.ntmps20
  go_upto_region 1 with fail
  obtain ⟨w0, hw0⟩ : ∃ z : World, z = (w.alloc (.cells #[.int .u64 ((limb 0 (x) : Nat) : Int), .int .u64 ((limb 1 (x) : Nat) : Int), .int .u64 ((limb 2 (x) : Nat) : Int), .int .u64 ((limb 3 (x) : Nat) : Int)] 24)).alloc (.cells #[.int .u64 0, .int .u64 0, .int .u64 0, .int .u64 0] 24) := ⟨_, rfl⟩
  obtain ⟨N7, e5⟩ : ∃ N, N = w.heap.size := ⟨_, rfl⟩
  obtain ⟨N8, e6⟩ : ∃ N, N = N7 + 1 := ⟨_, rfl⟩
  have br0 : Blk w0 24 N8 (fun _ => 0) := by rw [hw0]; exact Blk.newAt _ _ _ (fun _ => 0) (by rw [e6, e5]; simp)
  have hb0 : Below w.heap.size w w0 := by rw [hw0]; exact bAlloc (bAlloc (Below.refl _ _) _) _
  have l6 : w.heap.size ≤ N8 := by omega
  rw [← hw0, ← e5, ← e6]
  clear hw0 e5 e6
  go_wp2_with fail
  refine (HC.out _ (HG.out.below hb0)).mono ?_
  rintro e w1 ⟨rfl, hb1⟩
  have hbw1 := bStep hb0 hb1
  have br1 := br0.belowAll hb1
  clear hb0 br0 hb1 HC
  obtain ⟨w6, hw6, br6, hk6⟩ := br1.put4 0
  have hz : ((0 : Nat) : Int) = 0 := rfl
  simp only [limb_zero, hz] at hw6
  have cr := br1.cell; have fr := br1.frozen; have cs := br6.cell
  have hbw6 := bKept hbw1 l6 hk6
  clear hz hk6 br6
  go_wp2
  refine bodyPost_ret (v := .tuple #[.agg #[.int .u64 0, .int .u64 0, .int .u64 0, .int .u64 0], .int .i64 c]) (by simp [results, Tryd.results20, go_sem, cs, limb_zero]) rfl ⟨rfl, hbw6⟩
set_option maxHeartbeats 4000000 in
theorem rlag_err (s k i : Int) (x : Nat) (hE : chkE s k ≠ 0) (w : World) : Calls Tryd.prog 24 #[.int .i64 s, .int .i64 k, .int .i64 i, .agg #[.int .u64 ((limb 0 (x) : Nat) : Int), .int .u64 ((limb 1 (x) : Nat) : Int), .int .u64 ((limb 2 (x) : Nat) : Int), .int .u64 ((limb 3 (x) : Nat) : Int)]] w fun e w' => e = .returned (.tuple #[.agg #[.int .u64 0, .int .u64 0, .int .u64 0, .int .u64 0], .int .i64 (chkE s k)]) ∧ Below w.heap.size w w' := by
  have HC : Hid (∀ w, _) := fun w => rPts_err s k hE w
  obtain ⟨c, ec⟩ : ∃ c, c = chkE s k := ⟨_, rfl⟩
  rw [← ec] at HC hE ⊢
  clear ec
  go_enter Tryd.func24, Tryd.ntmps24
  go_upto_region 1 with fail
  obtain ⟨w0, hw0⟩ : ∃ z : World, z = (w.alloc (.cells #[.int .u64 ((limb 0 (x) : Nat) : Int), .int .u64 ((limb 1 (x) : Nat) : Int), .int .u64 ((limb 2 (x) : Nat) : Int), .int .u64 ((limb 3 (x) : Nat) : Int)] 24)).alloc (.cells #[.int .u64 0, .int .u64 0, .int .u64 0, .int .u64 0] 24) := ⟨_, rfl⟩
  obtain ⟨N7, e5⟩ : ∃ N, N = w.heap.size := ⟨_, rfl⟩
  obtain ⟨N8, e6⟩ : ∃ N, N = N7 + 1 := ⟨_, rfl⟩
  have br0 : Blk w0 24 N8 (fun _ => 0) := by rw [hw0]; exact Blk.newAt _ _ _ (fun _ => 0) (by rw [e6, e5]; simp)
  have hb0 : Below w.heap.size w w0 := by rw [hw0]; exact bAlloc (bAlloc (Below.refl _ _) _) _
  have l6 : w.heap.size ≤ N8 := by omega
  rw [← hw0, ← e5, ← e6]
  clear hw0 e5 e6
  go_wp2_with fail
  refine (HC.out _).mono ?_
  rintro e w1 ⟨rfl, hw⟩
  obtain rfl := hw.symm
  have hb1 := Below.refl w0.heap.size w0
  have hbw1 := bStep hb0 hb1
  have br1 := br0.belowAll hb1
  clear hb0 br0 hb1 HC
  obtain ⟨w6, hw6, br6, hk6⟩ := br1.put4 0
  have hz : ((0 : Nat) : Int) = 0 := rfl
  simp only [limb_zero, hz] at hw6
  have cr := br1.cell; have fr := br1.frozen; have cs := br6.cell
  have hbw6 := bKept hbw1 l6 hk6
  clear hz hk6 br6
  go_wp2
  refine bodyPost_ret (v := .tuple #[.agg #[.int .u64 0, .int .u64 0, .int .u64 0, .int .u64 0], .int .i64 c]) (by simp [results, Tryd.results24, go_sem, cs, limb_zero]) rfl ⟨rfl, hbw6⟩
set_option maxHeartbeats 4000000 in
theorem dlag_idx (s k : Nat) (i : Int) (x : Nat) (hs : s < 4) (hk : k ≤ 9) (hi : i < 0 ∨ ((2 ^ k : Nat) : Int) ≤ i) (w : World) (hg : GlobD w) : Calls Tryd.prog 20 #[.int .i64 (s : Int), .int .i64 (k : Int), .int .i64 i, .agg #[.int .u64 ((limb 0 (x) : Nat) : Int), .int .u64 ((limb 1 (x) : Nat) : Int), .int .u64 ((limb 2 (x) : Nat) : Int), .int .u64 ((limb 3 (x) : Nat) : Int)]] w fun e w' => e = .returned (.tuple #[.agg #[.int .u64 0, .int .u64 0, .int .u64 0, .int .u64 0], .int .i64 50]) ∧ Below w.heap.size w w' := by
  have HG : Hid (GlobD w) := hg
  have HC : Hid (∀ w, GlobD w → _) := fun w hg => dcheck_any (s : Int) (k : Int) w hg
  rw [chk_in hs hk] at HC
  obtain ⟨N, eN⟩ : ∃ N, N = 2 ^ k := ⟨_, rfl⟩
  have hN := pow9 hk
  rw [← eN] at hi hN
  have hsh : (2 : Int) ^ k = (N : Int) := by rw [eN]; simp
  have hshw : IntKind.i64.wrap (N : Int) = (N : Int) := wrap_i64_nat N (by omega)
  have hk0 : ¬ (k : Int) < 0 := by omega
  clear eN hg
  go_enter Tryd.func20, Tryd.ntmps20
  go_upto_region 1 with fail
  obtain ⟨w0, hw0⟩ : ∃ z : World, z = (w.alloc (.cells #[.int .u64 ((limb 0 (x) : Nat) : Int), .int .u64 ((limb 1 (x) : Nat) : Int), .int .u64 ((limb 2 (x) : Nat) : Int), .int .u64 ((limb 3 (x) : Nat) : Int)] 24)).alloc (.cells #[.int .u64 0, .int .u64 0, .int .u64 0, .int .u64 0] 24) := ⟨_, rfl⟩
  obtain ⟨N7, e5⟩ : ∃ N, N = w.heap.size := ⟨_, rfl⟩
  obtain ⟨N8, e6⟩ : ∃ N, N = N7 + 1 := ⟨_, rfl⟩
  have br0 : Blk w0 24 N8 (fun _ => 0) := by rw [hw0]; exact Blk.newAt _ _ _ (fun _ => 0) (by rw [e6, e5]; simp)
  have hb0 : Below w.heap.size w w0 := by rw [hw0]; exact bAlloc (bAlloc (Below.refl _ _) _) _
  have l6 : w.heap.size ≤ N8 := by omega
  rw [← hw0, ← e5, ← e6]
  clear hw0 e5 e6
  go_wp2_with fail
  refine (HC.out _ (HG.out.below hb0)).mono ?_
  rintro e w1 ⟨rfl, hb1⟩
  have hbw1 := bStep hb0 hb1
  have br1 := br0.belowAll hb1
  clear hb0 br0 hb1 HC
  obtain ⟨w6, hw6, br6, hk6⟩ := br1.put4 0
  have hz : ((0 : Nat) : Int) = 0 := rfl
  simp only [limb_zero, hz] at hw6
  have cr := br1.cell; have fr := br1.frozen; have cs := br6.cell
  have hbw6 := bKept hbw1 l6 hk6
  clear hz hk6 br6
  by_cases hi1 : i < 0
  · clear hi
    go_wp2
    refine bodyPost_ret (v := .tuple #[.agg #[.int .u64 0, .int .u64 0, .int .u64 0, .int .u64 0], .int .i64 50]) (by simp [results, Tryd.results20, go_sem, cs, limb_zero]) rfl ⟨rfl, hbw6⟩
  · have hi2 : (N : Int) ≤ i := by omega
    clear hi
    go_wp2
    refine bodyPost_ret (v := .tuple #[.agg #[.int .u64 0, .int .u64 0, .int .u64 0, .int .u64 0], .int .i64 50]) (by simp [results, Tryd.results20, go_sem, cs, limb_zero]) rfl ⟨rfl, hbw6⟩
set_option maxHeartbeats 4000000 in
theorem rlag_idx (s k : Nat) (i : Int) (x : Nat) (hs : s < 4) (hk : k ≤ 9) (hi : i < 0 ∨ ((2 ^ k : Nat) : Int) ≤ i) (w : World) : Calls Tryd.prog 24 #[.int .i64 (s : Int), .int .i64 (k : Int), .int .i64 i, .agg #[.int .u64 ((limb 0 (x) : Nat) : Int), .int .u64 ((limb 1 (x) : Nat) : Int), .int .u64 ((limb 2 (x) : Nat) : Int), .int .u64 ((limb 3 (x) : Nat) : Int)]] w fun e w' => e = .returned (.tuple #[.agg #[.int .u64 0, .int .u64 0, .int .u64 0, .int .u64 0], .int .i64 50]) ∧ Below w.heap.size w w' := by
  have HC : Hid (∀ w, _) := fun w => rPts_in s k hs hk w
  obtain ⟨N, eN⟩ : ∃ N, N = 2 ^ k := ⟨_, rfl⟩
  have hN := pow9 hk
  rw [← eN] at hi hN HC
  clear eN
  go_enter Tryd.func24, Tryd.ntmps24
  go_upto_region 1 with fail
  obtain ⟨w0, hw0⟩ : ∃ z : World, z = (w.alloc (.cells #[.int .u64 ((limb 0 (x) : Nat) : Int), .int .u64 ((limb 1 (x) : Nat) : Int), .int .u64 ((limb 2 (x) : Nat) : Int), .int .u64 ((limb 3 (x) : Nat) : Int)] 24)).alloc (.cells #[.int .u64 0, .int .u64 0, .int .u64 0, .int .u64 0] 24) := ⟨_, rfl⟩
  obtain ⟨N7, e5⟩ : ∃ N, N = w.heap.size := ⟨_, rfl⟩
  obtain ⟨N8, e6⟩ : ∃ N, N = N7 + 1 := ⟨_, rfl⟩
  have br0 : Blk w0 24 N8 (fun _ => 0) := by rw [hw0]; exact Blk.newAt _ _ _ (fun _ => 0) (by rw [e6, e5]; simp)
  have hb0 : Below w.heap.size w w0 := by rw [hw0]; exact bAlloc (bAlloc (Below.refl _ _) _) _
  have l6 : w.heap.size ≤ N8 := by omega
  rw [← hw0, ← e5, ← e6]
  clear hw0 e5 e6
  go_wp2_with fail
  refine (HC.out _).mono ?_
  rintro e w1 ⟨⟨pv, rfl, hown1⟩, hb1⟩
  obtain ⟨po, pc, hpv⟩ := (own_Es hown1).shape
  subst hpv
  clear hown1
  have hbw1 := bStep hb0 hb1
  have br1 := br0.belowAll hb1
  clear hb0 br0 hb1 HC
  obtain ⟨w6, hw6, br6, hk6⟩ := br1.put4 0
  have hz : ((0 : Nat) : Int) = 0 := rfl
  simp only [limb_zero, hz] at hw6
  have cr := br1.cell; have fr := br1.frozen; have cs := br6.cell
  have hbw6 := bKept hbw1 l6 hk6
  clear hz hk6 br6
  by_cases hi1 : i < 0
  · clear hi
    go_wp2
    refine bodyPost_ret (v := .tuple #[.agg #[.int .u64 0, .int .u64 0, .int .u64 0, .int .u64 0], .int .i64 50]) (by simp [results, Tryd.results24, go_sem, cs, limb_zero]) rfl ⟨rfl, hbw6⟩
  · have hi2 : (N : Int) ≤ i := by omega
    clear hi
    go_wp2
    refine bodyPost_ret (v := .tuple #[.agg #[.int .u64 0, .int .u64 0, .int .u64 0, .int .u64 0], .int .i64 50]) (by simp [results, Tryd.results24, go_sem, cs, limb_zero]) rfl ⟨rfl, hbw6⟩
set_option maxHeartbeats 4000000 in
theorem rBy_some (s a b : Nat) (hs : s < 4) (ha : a < 115792089237316195423570985008687907853269984665640564039457584007913129639936) (hb : b < 115792089237316195423570985008687907853269984665640564039457584007913129639936) (hz : b % modN s ≠ 0) (w : World) :
    Calls Tryd.prog 53 #[.int .i64 (s : Int), .agg #[.int .u64 ((limb 0 (a) : Nat) : Int), .int .u64 ((limb 1 (a) : Nat) : Int), .int .u64 ((limb 2 (a) : Nat) : Int), .int .u64 ((limb 3 (a) : Nat) : Int)], .agg #[.int .u64 ((limb 0 (b) : Nat) : Int), .int .u64 ((limb 1 (b) : Nat) : Int), .int .u64 ((limb 2 (b) : Nat) : Int), .int .u64 ((limb 3 (b) : Nat) : Int)]] w fun e w' => e = .returned (.agg #[.int .u64 ((limb 0 (mulP s a (invU (modN s) b)) : Nat) : Int), .int .u64 ((limb 1 (mulP s a (invU (modN s) b)) : Nat) : Int), .int .u64 ((limb 2 (mulP s a (invU (modN s) b)) : Nat) : Int), .int .u64 ((limb 3 (mulP s a (invU (modN s) b)) : Nat) : Int)]) ∧ Below w.heap.size w w' := by
  have HI : Hid (∀ w, _) := fun w => rInv_some s b hs hb hz w
  have HM : Hid (∀ w, _) := fun w => ref2Mul_any s a (invU (modN s) b) hs ha (lt_M s _ (invU_lt _ _ (modN_pos s))) w
  obtain ⟨q, eq⟩ : ∃ q, q = invU (modN s) b := ⟨_, rfl⟩
  rw [← eq] at HI HM ⊢
  obtain ⟨y, ey⟩ : ∃ y, y = mulP s a q := ⟨_, rfl⟩
  rw [← ey] at HM ⊢
  clear eq ey hz
  go_enter Tryd.func53, Tryd.ntmps53
  go_upto_region 1 with fail
  obtain ⟨w0, hw0⟩ : ∃ z : World, z = ((w.alloc (.cells #[.int .u64 ((limb 0 (a) : Nat) : Int), .int .u64 ((limb 1 (a) : Nat) : Int), .int .u64 ((limb 2 (a) : Nat) : Int), .int .u64 ((limb 3 (a) : Nat) : Int)] 24)).alloc (.cells #[.int .u64 ((limb 0 (b) : Nat) : Int), .int .u64 ((limb 1 (b) : Nat) : Int), .int .u64 ((limb 2 (b) : Nat) : Int), .int .u64 ((limb 3 (b) : Nat) : Int)] 24)).alloc (.cells #[.int .u64 0, .int .u64 0, .int .u64 0, .int .u64 0] 24) := ⟨_, rfl⟩
  obtain ⟨N4, e4⟩ : ∃ N, N = w.heap.size := ⟨_, rfl⟩
  obtain ⟨N5, e5⟩ : ∃ N, N = N4 + 1 := ⟨_, rfl⟩
  obtain ⟨N6, e6⟩ : ∃ N, N = N5 + 1 := ⟨_, rfl⟩
  have ba0 : Blk w0 24 N4 (fun i => limb i a) := by rw [hw0]; exact ((Blk.newAt _ _ _ (fun i => limb i a) e4).alloc _).alloc _
  have bb0 : Blk w0 24 N5 (fun i => limb i b) := by rw [hw0]; exact (Blk.newAt _ _ _ (fun i => limb i b) (by rw [e5, e4]; simp)).alloc _
  have br0 : Blk w0 24 N6 (fun _ => 0) := by rw [hw0]; exact Blk.newAt _ _ _ (fun _ => 0) (by rw [e6, e5, e4]; simp)
  have hb0 : Below w.heap.size w w0 := by rw [hw0]; exact bAlloc (bAlloc (bAlloc (Below.refl _ _) _) _) _
  have l6 : w.heap.size ≤ N6 := by omega
  rw [← hw0, ← e4, ← e5, ← e6]
  clear hw0 e4 e5 e6
  have cb := bb0.cell
  go_wp2_with fail
  refine (HI.out _).mono ?_
  rintro e w1 ⟨rfl, hb1⟩
  have hbw1 := bStep hb0 hb1
  have ba1 := ba0.belowAll hb1; have br1 := br0.belowAll hb1
  clear cb hb0 hb1 ba0 br0 bb0
  obtain ⟨w2, hw2⟩ : ∃ z : World, z = w1.alloc (.cells #[.int .u64 ((limb 0 (q) : Nat) : Int), .int .u64 ((limb 1 (q) : Nat) : Int), .int .u64 ((limb 2 (q) : Nat) : Int), .int .u64 ((limb 3 (q) : Nat) : Int)] 24) := ⟨_, rfl⟩
  obtain ⟨N7, e7⟩ : ∃ z, z = w1.heap.size := ⟨_, rfl⟩
  have bq2 : Blk w2 24 N7 (fun i => limb i q) := by rw [hw2]; exact Blk.newAt _ _ _ (fun i => limb i q) e7
  have hbA : Below w1.heap.size w1 w2 := by rw [hw2]; exact bAlloc (Below.refl _ _) _
  have ba2 := ba1.belowAll hbA; have br2 := br1.belowAll hbA
  have hbw2 := bStep hbw1 hbA
  go_upto_region 2 with fail
  rw [← hw2, ← e7]
  clear hw2 e7 hbw1 ba1 br1 hbA
  have ca := ba2.cell; have cq := bq2.cell
  go_wp2_with fail
  refine (HM.out _).mono ?_
  rintro e w3 ⟨rfl, hb3⟩
  have hbw3 := bStep hbw2 hb3
  have br3 := br2.belowAll hb3
  clear ca cq hbw2 hb3 ba2 bq2 br2
  obtain ⟨w6, hw6, br6, hk6⟩ := br3.put4 y
  have cr := br3.cell; have fr := br3.frozen; have cs := br6.cell
  have hbw6 := bKept hbw3 l6 hk6
  clear hk6 br6
  go_wp2
  refine bodyPost_ret (v := .agg #[.int .u64 ((limb 0 (y) : Nat) : Int), .int .u64 ((limb 1 (y) : Nat) : Int), .int .u64 ((limb 2 (y) : Nat) : Int), .int .u64 ((limb 3 (y) : Nat) : Int)]) (by simp [results, Tryd.results53, go_sem, cs]) rfl ⟨rfl, hbw6⟩
end Go.Proofs.YtpkhppjcpfkbmaaDoor
