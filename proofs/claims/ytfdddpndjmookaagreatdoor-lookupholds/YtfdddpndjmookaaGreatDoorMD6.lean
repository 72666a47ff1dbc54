/- Errors of Vanish and Lagrange; the reference's Vanish and By. -/
import Derived.Test.YtfdddpndjmookaaGreatDoorMD5
import Derived.Test.YtfdddpndjmookaaGreatDoorD19
namespace Go.Proofs.YtfdddpndjmookaaGreatDoor
open Go.RowKit

set_option maxHeartbeats 4000000 in
theorem dlag_err (s k i : Int) (x : Nat) (hE : chkE s k ≠ 0) (w : World) (hg : GlobD w) : Calls Tryz.prog 26 #[.int .i64 s, .int .i64 k, .int .i64 i, .agg #[.int .u64 ((limb 0 (x) : Nat) : Int), .int .u64 ((limb 1 (x) : Nat) : Int), .int .u64 ((limb 2 (x) : Nat) : Int), .int .u64 ((limb 3 (x) : Nat) : Int)]] w fun e w' => e = .returned (.tuple #[.agg #[.int .u64 0, .int .u64 0, .int .u64 0, .int .u64 0], .int .i64 (chkE s k)]) ∧ Below w.heap.size w w' := by
  have HG : Hid (GlobD w) := hg
  have HC : Hid (∀ w, GlobD w → _) := fun w hg => dcheck_any s k w hg
  obtain ⟨c, ec⟩ : ∃ c, c = chkE s k := ⟨_, rfl⟩
  rw [← ec] at HC hE ⊢
  clear ec hg
  go_enter Tryz.func26, Tryz.ntmps26
  go_upto_region 1 with fail
  obtain ⟨w0, hw0⟩ : ∃ z : World, z = (w.alloc (.cells #[.int .u64 ((limb 0 (x) : Nat) : Int), .int .u64 ((limb 1 (x) : Nat) : Int), .int .u64 ((limb 2 (x) : Nat) : Int), .int .u64 ((limb 3 (x) : Nat) : Int)] 25)).alloc (.cells #[.int .u64 0, .int .u64 0, .int .u64 0, .int .u64 0] 25) := ⟨_, rfl⟩
  obtain ⟨N7, e5⟩ : ∃ N, N = w.heap.size := ⟨_, rfl⟩
  obtain ⟨N8, e6⟩ : ∃ N, N = N7 + 1 := ⟨_, rfl⟩
  have br0 : Blk w0 25 N8 (fun _ => 0) := by rw [hw0]; exact Blk.newAt _ _ _ (fun _ => 0) (by rw [e6, e5]; simp)
  have hb0 : Below w.heap.size w w0 := by rw [hw0]; exact bAlloc (bAlloc (Below.refl _ _) _) _
  have l6 : w.heap.size ≤ N8 := by omega
  rw [← hw0, ← e5, ← e6]
  clear hw0 e5 e6
  go_wp2_with fail
  refine (HC.out _ (HG.out.below hb0)).mono ?_
  rintro e w1 ⟨rfl, hb1⟩
  have hbw1 := bStep hb0 hb1
  have br1 := br0.belowAll hb1
  clear hb0 br0 hb1 HC
  obtain ⟨w6, hw6, br6, hk6⟩ := br1.put4 0
  have hz : ((0 : Nat) : Int) = 0 := rfl
  simp only [limb_zero, hz] at hw6
  have cr := br1.cell; have fr := br1.frozen; have cs := br6.cell
  have hbw6 := bKept hbw1 l6 hk6
  clear hz hk6 br6
  go_wp2
  refine bodyPost_ret (v := .tuple #[.agg #[.int .u64 0, .int .u64 0, .int .u64 0, .int .u64 0], .int .i64 c]) (by simp [results, Tryz.results26, go_sem, cs, limb_zero]) rfl ⟨rfl, hbw6⟩
set_option maxHeartbeats 4000000 in
theorem dlag_idx (s k : Nat) (i : Int) (x : Nat) (hs : s < 4) (hk : k ≤ 9) (hi : i < 0 ∨ ((2 ^ k : Nat) : Int) ≤ i) (w : World) (hg : GlobD w) : Calls Tryz.prog 26 #[.int .i64 (s : Int), .int .i64 (k : Int), .int .i64 i, .agg #[.int .u64 ((limb 0 (x) : Nat) : Int), .int .u64 ((limb 1 (x) : Nat) : Int), .int .u64 ((limb 2 (x) : Nat) : Int), .int .u64 ((limb 3 (x) : Nat) : Int)]] w fun e w' => e = .returned (.tuple #[.agg #[.int .u64 0, .int .u64 0, .int .u64 0, .int .u64 0], .int .i64 50]) ∧ Below w.heap.size w w' := by
  have HG : Hid (GlobD w) := hg
  have HC : Hid (∀ w, GlobD w → _) := fun w hg => dcheck_any (s : Int) (k : Int) w hg
  rw [chk_in hs hk] at HC
  obtain ⟨N, eN⟩ : ∃ N, N = 2 ^ k := ⟨_, rfl⟩
  have hN := pow9 hk
  rw [← eN] at hi hN
  have hsh : (2 : Int) ^ k = (N : Int) := by rw [eN]; simp
  have hshw : IntKind.i64.wrap (N : Int) = (N : Int) := wrap_i64_nat N (by omega)
  have hk0 : ¬ (k : Int) < 0 := by omega
  clear eN hg
  go_enter Tryz.func26, Tryz.ntmps26
  go_upto_region 1 with fail
  obtain ⟨w0, hw0⟩ : ∃ z : World, z = (w.alloc (.cells #[.int .u64 ((limb 0 (x) : Nat) : Int), .int .u64 ((limb 1 (x) : Nat) : Int), .int .u64 ((limb 2 (x) : Nat) : Int), .int .u64 ((limb 3 (x) : Nat) : Int)] 25)).alloc (.cells #[.int .u64 0, .int .u64 0, .int .u64 0, .int .u64 0] 25) := ⟨_, rfl⟩
  obtain ⟨N7, e5⟩ : ∃ N, N = w.heap.size := ⟨_, rfl⟩
  obtain ⟨N8, e6⟩ : ∃ N, N = N7 + 1 := ⟨_, rfl⟩
  have br0 : Blk w0 25 N8 (fun _ => 0) := by rw [hw0]; exact Blk.newAt _ _ _ (fun _ => 0) (by rw [e6, e5]; simp)
  have hb0 : Below w.heap.size w w0 := by rw [hw0]; exact bAlloc (bAlloc (Below.refl _ _) _) _
  have l6 : w.heap.size ≤ N8 := by omega
  rw [← hw0, ← e5, ← e6]
  clear hw0 e5 e6
  go_wp2_with fail
  refine (HC.out _ (HG.out.below hb0)).mono ?_
  rintro e w1 ⟨rfl, hb1⟩
  have hbw1 := bStep hb0 hb1
  have br1 := br0.belowAll hb1
  clear hb0 br0 hb1 HC
  obtain ⟨w6, hw6, br6, hk6⟩ := br1.put4 0
  have hz : ((0 : Nat) : Int) = 0 := rfl
  simp only [limb_zero, hz] at hw6
  have cr := br1.cell; have fr := br1.frozen; have cs := br6.cell
  have hbw6 := bKept hbw1 l6 hk6
  clear hz hk6 br6
  by_cases hi1 : i < 0
  · clear hi
    go_wp2
    refine bodyPost_ret (v := .tuple #[.agg #[.int .u64 0, .int .u64 0, .int .u64 0, .int .u64 0], .int .i64 50]) (by simp [results, Tryz.results26, go_sem, cs, limb_zero]) rfl ⟨rfl, hbw6⟩
  · have hi2 : (N : Int) ≤ i := by omega
    clear hi
    go_wp2
    refine bodyPost_ret (v := .tuple #[.agg #[.int .u64 0, .int .u64 0, .int .u64 0, .int .u64 0], .int .i64 50]) (by simp [results, Tryz.results26, go_sem, cs, limb_zero]) rfl ⟨rfl, hbw6⟩
end Go.Proofs.YtfdddpndjmookaaGreatDoor

/- the reference's Lagrange. -/
namespace Go.Proofs.YtfdddpndjmookaaGreatDoor
open Go.RowKit

theorem fn_fzl (s : Nat) : ∀ m, (fn m : Fq s) = fz s m
  | 0 => rfl
  | m + 1 => by
    show fn m + 1 = fz s (m + 1)
    rw [fn_fzl s m, ← fz_one s]
    refine Fin.ext ?_
    rw [vadd, fz_val, fz_val, fz_val, ← Nat.add_mod]
theorem pw2_one (s k : Nat) : pw2 (1 : Fq s) k = fz s (2 ^ k) := by
  rw [geo2, fs_congr (g := fun _ => (1 : Fq s)) _ (fun i _ => fp_one i), fs_ones, fn_fzl]
theorem lag_ref {s k i x u d : Nat} (hk : k ≤ 9) (hi : i < 2 ^ k) (hu : fz s u = fq (but1 i (fun j => fz s x - fp (fz s (rootP s k)) j)) (2 ^ k)) (hd : fz s d = fq (but1 i (fun j => fp (fz s (rootP s k)) i - fp (fz s (rootP s k)) j)) (2 ^ k)) : d % modN s ≠ 0 ∧ LagP s k i x (mulP s u (invU (modN s) d)) := by
  have hU := uni_root s k hk
  have h2 := two_lt s k hk
  have hP := pow9 hk
  obtain ⟨R, eR⟩ : ∃ R, R = fz s (rootP s k) := ⟨_, rfl⟩
  unfold LagP
  rw [← eR] at hU hu hd ⊢
  have hall := hU.all
  obtain ⟨y, ey⟩ : ∃ y, y = fz s x * fp R (2 ^ k - i) := ⟨_, rfl⟩
  rw [← ey]
  have hy : fz s x = y * fp R i := by
    have : fp R (2 ^ k - i) * fp R i = 1 := by rw [← fp_add, show 2 ^ k - i + i = 2 ^ k by omega, hall]
    rw [ey]
    grind
  rw [lag_prod k R hU _ y i hi hy] at hu
  rw [lag_prod k R hU (fp R i) 1 i hi (by grind), pw2_one] at hd
  have hc : fp (fp R i) (2 ^ k - 1) * fp R i = 1 := by
    have e : fp (fp R i) (2 ^ k - 1 + 1) = fp (fp R i) (2 ^ k - 1) * fp R i := rfl
    rw [← e, show 2 ^ k - 1 + 1 = 2 ^ k by omega, ← fp_mul, Nat.mul_comm, fp_mul, hall, fp_one]
  have hqn : invU (modN s) (2 ^ k) * 2 ^ k % modN s = 1 := invU_ok (modN_prime s) (by rw [Nat.mod_eq_of_lt h2]; omega)
  have hq := fz_inv1 hqn
  obtain ⟨c, ec⟩ : ∃ c, c = fp (fp R i) (2 ^ k - 1) := ⟨_, rfl⟩
  rw [← ec] at hu hd hc
  have hd0 : d % modN s ≠ 0 := fun h0 => by
    have hz : fz s d = 0 := Fin.ext (by rw [fz_val, h0]; rfl)
    rw [hz] at hd
    have h10 : (1 : Fq s) = 0 := by grind
    have hv := congrArg Fin.val h10
    rw [← fz_one s, ← fz_zero s, fz_val, fz_val, Nat.mod_eq_of_lt (modN_odd s).2, Nat.zero_mod] at hv
    exact absurd hv (by decide)
  have hI := fz_inv1 (invU_ok (modN_prime s) hd0)
  refine ⟨hd0, mulP_lt s _ _, invU (modN s) (2 ^ k), hqn, ?_⟩
  rw [fz_mul, hu]
  rw [hd] at hI
  grind
end Go.Proofs.YtfdddpndjmookaaGreatDoor

