/- the reference's Lagrange. -/
import Derived.Test.YtpkhppjcpfkbmaaDoorD29
namespace Go.Proofs.YtpkhppjcpfkbmaaDoor
open Go.RowKit

theorem fn_fzl (s : Nat) : ∀ m, (fn m : Fq s) = fz s m
  | 0 => rfl
  | m + 1 => by
    show fn m + 1 = fz s (m + 1)
    rw [fn_fzl s m, ← fz_one s]
    refine Fin.ext ?_
    rw [vadd, fz_val, fz_val, fz_val, ← Nat.add_mod]
theorem pw2_one (s k : Nat) : pw2 (1 : Fq s) k = fz s (2 ^ k) := by
  rw [geo2, fs_congr (g := fun _ => (1 : Fq s)) _ (fun i _ => fp_one i), fs_ones, fn_fzl]
theorem lag_ref {s k i x u d : Nat} (hk : k ≤ 9) (hi : i < 2 ^ k) (hu : fz s u = fq (but1 i (fun j => fz s x - fp (fz s (rootP s k)) j)) (2 ^ k)) (hd : fz s d = fq (but1 i (fun j => fp (fz s (rootP s k)) i - fp (fz s (rootP s k)) j)) (2 ^ k)) : d % modN s ≠ 0 ∧ LagP s k i x (mulP s u (invU (modN s) d)) := by
  have hU := uni_root s k hk
  have h2 := two_lt s k hk
  have hP := pow9 hk
  obtain ⟨R, eR⟩ : ∃ R, R = fz s (rootP s k) := ⟨_, rfl⟩
  unfold LagP
  rw [← eR] at hU hu hd ⊢
  have hall := hU.all
  obtain ⟨y, ey⟩ : ∃ y, y = fz s x * fp R (2 ^ k - i) := ⟨_, rfl⟩
  rw [← ey]
  have hy : fz s x = y * fp R i := by
    have : fp R (2 ^ k - i) * fp R i = 1 := by rw [← fp_add, show 2 ^ k - i + i = 2 ^ k by omega, hall]
    rw [ey]
    grind
  rw [lag_prod k R hU _ y i hi hy] at hu
  rw [lag_prod k R hU (fp R i) 1 i hi (by grind), pw2_one] at hd
  have hc : fp (fp R i) (2 ^ k - 1) * fp R i = 1 := by
    have e : fp (fp R i) (2 ^ k - 1 + 1) = fp (fp R i) (2 ^ k - 1) * fp R i := rfl
    rw [← e, show 2 ^ k - 1 + 1 = 2 ^ k by omega, ← fp_mul, Nat.mul_comm, fp_mul, hall, fp_one]
  have hqn : invU (modN s) (2 ^ k) * 2 ^ k % modN s = 1 := invU_ok (modN_prime s) (by rw [Nat.mod_eq_of_lt h2]; omega)
  have hq := fz_inv1 hqn
  obtain ⟨c, ec⟩ : ∃ c, c = fp (fp R i) (2 ^ k - 1) := ⟨_, rfl⟩
  rw [← ec] at hu hd hc
  have hd0 : d % modN s ≠ 0 := fun h0 => by
    have hz : fz s d = 0 := Fin.ext (by rw [fz_val, h0]; rfl)
    rw [hz] at hd
    have h10 : (1 : Fq s) = 0 := by grind
    have hv := congrArg Fin.val h10
    rw [← fz_one s, ← fz_zero s, fz_val, fz_val, Nat.mod_eq_of_lt (modN_odd s).2, Nat.zero_mod] at hv
    exact absurd hv (by decide)
  have hI := fz_inv1 (invU_ok (modN_prime s) hd0)
  refine ⟨hd0, mulP_lt s _ _, invU (modN s) (2 ^ k), hqn, ?_⟩
  rw [fz_mul, hu]
  rw [hd] at hI
  grind
set_option maxHeartbeats 8000000 in
set_option maxRecDepth 20000 in
theorem rlag_in (s k i x : Nat) (hs : s < 4) (hk : k ≤ 9) (hi : i < 2 ^ k) (hx : x < 115792089237316195423570985008687907853269984665640564039457584007913129639936) (w : World) :
    Calls Tryd.prog 24 #[.int .i64 (s : Int), .int .i64 (k : Int), .int .i64 (i : Int), .agg #[.int .u64 ((limb 0 (x) : Nat) : Int), .int .u64 ((limb 1 (x) : Nat) : Int), .int .u64 ((limb 2 (x) : Nat) : Int), .int .u64 ((limb 3 (x) : Nat) : Int)]] w fun e w' => (∃ v, e = .returned (.tuple #[.agg #[.int .u64 ((limb 0 (v) : Nat) : Int), .int .u64 ((limb 1 (v) : Nat) : Int), .int .u64 ((limb 2 (v) : Nat) : Int), .int .u64 ((limb 3 (v) : Nat) : Int)], .int .i64 0]) ∧ LagP s k i x v) ∧ Below w.heap.size w w' := by
  have HPT : Hid (∀ w, _) := fun w => rPts_in s k hs hk w
  have HLR : Hid (∀ u d, fz s u = fq (but1 i (fun j => fz s x - fp (fz s (rootP s k)) j)) (2 ^ k) → fz s d = fq (but1 i (fun j => fp (fz s (rootP s k)) i - fp (fz s (rootP s k)) j)) (2 ^ k) → d % modN s ≠ 0 ∧ LagP s k i x (mulP s u (invU (modN s) d))) := fun u d h1 h2 => lag_ref hk hi h1 h2
  have HBY : Hid (∀ a b, a < 115792089237316195423570985008687907853269984665640564039457584007913129639936 → b < 115792089237316195423570985008687907853269984665640564039457584007913129639936 → b % modN s ≠ 0 → ∀ w, _) := fun a b ha hb hz w => rBy_some s a b hs ha hb hz w
  have HMM : Hid (∀ a b, a < 115792089237316195423570985008687907853269984665640564039457584007913129639936 → b < 115792089237316195423570985008687907853269984665640564039457584007913129639936 → ∀ w, Calls Tryd.prog 31 #[.int .i64 (s : Int), .agg #[.int .u64 ((limb 0 (a) : Nat) : Int), .int .u64 ((limb 1 (a) : Nat) : Int), .int .u64 ((limb 2 (a) : Nat) : Int), .int .u64 ((limb 3 (a) : Nat) : Int)], .agg #[.int .u64 ((limb 0 (b) : Nat) : Int), .int .u64 ((limb 1 (b) : Nat) : Int), .int .u64 ((limb 2 (b) : Nat) : Int), .int .u64 ((limb 3 (b) : Nat) : Int)]] w fun e w' => e = .returned (.agg #[.int .u64 ((limb 0 (mulP s a b) : Nat) : Int), .int .u64 ((limb 1 (mulP s a b) : Nat) : Int), .int .u64 ((limb 2 (mulP s a b) : Nat) : Int), .int .u64 ((limb 3 (mulP s a b) : Nat) : Int)]) ∧ Below w.heap.size w w') := fun a b ha hb w => ref2Mul_any s a b hs ha hb w
  have HSS : Hid (∀ a b, a < 115792089237316195423570985008687907853269984665640564039457584007913129639936 → b < 115792089237316195423570985008687907853269984665640564039457584007913129639936 → ∀ w, Calls Tryd.prog 32 #[.int .i64 (s : Int), .agg #[.int .u64 ((limb 0 (a) : Nat) : Int), .int .u64 ((limb 1 (a) : Nat) : Int), .int .u64 ((limb 2 (a) : Nat) : Int), .int .u64 ((limb 3 (a) : Nat) : Int)], .agg #[.int .u64 ((limb 0 (b) : Nat) : Int), .int .u64 ((limb 1 (b) : Nat) : Int), .int .u64 ((limb 2 (b) : Nat) : Int), .int .u64 ((limb 3 (b) : Nat) : Int)]] w fun e w' => e = .returned (.agg #[.int .u64 ((limb 0 (subP s a b) : Nat) : Int), .int .u64 ((limb 1 (subP s a b) : Nat) : Int), .int .u64 ((limb 2 (subP s a b) : Nat) : Int), .int .u64 ((limb 3 (subP s a b) : Nat) : Int)]) ∧ Below w.heap.size w w') := fun a b ha hb w => ref2Sub_any s a b hs ha hb w
  have HXM : Hid (x < 115792089237316195423570985008687907853269984665640564039457584007913129639936) := hx
  obtain ⟨N, eN⟩ : ∃ N, N = 2 ^ k := ⟨_, rfl⟩
  have hN := pow9 hk
  obtain ⟨R, eR⟩ : ∃ R, R = rootP s k := ⟨_, rfl⟩
  rw [← eR] at HPT HLR
  rw [← eN] at hN HPT HLR hi
  have HEM : Hid (∀ i, expP s R i < 115792089237316195423570985008687907853269984665640564039457584007913129639936) := fun i => lt_M s _ (expP_lt s R i)
  have hi0 : ¬ (i : Int) < 0 := by omega
  have hiN : ¬ (N : Int) ≤ (i : Int) := by omega
  have hiNn : ¬ N ≤ i := by omega
  have hi1 : (0 : Int) ≤ (i : Int) := by omega
  have hi2 : (i : Int) < (N : Int) := by omega
  clear eR eN hx
  go_enter Tryd.func24, Tryd.ntmps24
  go_upto_region 1 with fail
  obtain ⟨w0, hw0⟩ : ∃ z : World, z = (w.alloc (.cells #[.int .u64 ((limb 0 (x) : Nat) : Int), .int .u64 ((limb 1 (x) : Nat) : Int), .int .u64 ((limb 2 (x) : Nat) : Int), .int .u64 ((limb 3 (x) : Nat) : Int)] 24)).alloc (.cells #[.int .u64 0, .int .u64 0, .int .u64 0, .int .u64 0] 24) := ⟨_, rfl⟩
  obtain ⟨N7, e5⟩ : ∃ N, N = w.heap.size := ⟨_, rfl⟩
  obtain ⟨N8, e6⟩ : ∃ N, N = N7 + 1 := ⟨_, rfl⟩
  have bx0 : Blk w0 24 N7 (fun i => limb i x) := by rw [hw0]; exact (Blk.newAt _ _ _ (fun i => limb i x) e5).alloc _
  have br0 : Blk w0 24 N8 (fun _ => 0) := by rw [hw0]; exact Blk.newAt _ _ _ (fun _ => 0) (by rw [e6, e5]; simp)
  have hb0 : Below w.heap.size w w0 := by rw [hw0]; exact bAlloc (bAlloc (Below.refl _ _) _) _
  have l8 : w.heap.size ≤ N8 := by omega
  rw [← hw0, ← e5, ← e6]
  clear hw0 e5 e6
  go_wp2_with fail
  refine (HPT.out _).mono ?_
  rintro e w1 ⟨⟨pv, rfl, hown1⟩, hb1⟩
  have hbw1 := bStep hb0 hb1
  have bx1 := bx0.belowAll hb1; have br1 := br0.belowAll hb1
  rcases own_Es hown1 with ⟨_, h0⟩ | ⟨pb, po, pc, hpv, hpc1, hpc2, lpb, hcell⟩
  · omega
  subst hpv
  have HCC : Hid (∀ i, i < N → ∀ j, j < 4 → w1.cell? ⟨pb, po + i * 4 + j, none⟩ = some (.int .u64 ((limb j (expP s R i) : Nat) : Int))) := hcell
  clear bx0 br0 hb0 hb1 HPT hown1 hcell
  obtain ⟨w3, hw3⟩ : ∃ z : World, z = (w1.alloc (.cells #[.int .u64 1, .int .u64 0, .int .u64 0, .int .u64 0] 24)).alloc (.cells #[.int .u64 1, .int .u64 0, .int .u64 0, .int .u64 0] 24) := ⟨_, rfl⟩
  obtain ⟨N12, e12⟩ : ∃ z, z = w1.heap.size := ⟨_, rfl⟩
  obtain ⟨N13, e13⟩ : ∃ z, z = N12 + 1 := ⟨_, rfl⟩
  have hone : ∀ i, i < 4 → limb i 1 = if i = 0 then 1 else 0 := fun i hi => by
    have hi4 : i = 0 ∨ i = 1 ∨ i = 2 ∨ i = 3 := by omega
    rcases hi4 with rfl | rfl | rfl | rfl
    · rw [limb_one.1]; rfl
    · rw [limb_one.2.1]; rfl
    · rw [limb_one.2.2.1]; rfl
    · rw [limb_one.2.2.2]; rfl
  have bu3 : Blk w3 24 N12 (fun i => limb i 1) := by rw [hw3]; exact ((Blk.newAt _ _ _ (fun i => if i = 0 then 1 else 0) e12).congr (fun i hi => hone i hi)).alloc _
  have bd3 : Blk w3 24 N13 (fun i => limb i 1) := by rw [hw3]; exact (Blk.newAt _ _ _ (fun i => if i = 0 then 1 else 0) (by rw [e13, e12]; simp)).congr (fun i hi => hone i hi)
  have hb3 : Below w1.heap.size w1 w3 := by rw [hw3]; exact bAlloc (bAlloc (Below.refl _ _) _) _
  have l12 : w1.heap.size ≤ N12 := by omega
  have l13 : w1.heap.size ≤ N13 := by omega
  have n13 : N13 ≠ N12 := by omega
  have n12 : N12 ≠ N13 := by omega
  go_upto_region 8 with fail
  rw [← hw3, ← e12, ← e13]
  clear hw3 e12 e13 hone
  go_wp2
  go_loopw [14] (fun iv wr => ∃ (j u d : Nat), iv = .int .i64 (j : Int) ∧ j ≤ N ∧ Below w1.heap.size w1 wr ∧ Blk wr 24 N12 (fun i => limb i u) ∧ Blk wr 24 N13 (fun i => limb i d) ∧ Hid (u < 115792089237316195423570985008687907853269984665640564039457584007913129639936 ∧ d < 115792089237316195423570985008687907853269984665640564039457584007913129639936 ∧ fz s u = fq (but1 i (fun t => fz s x - fp (fz s R) t)) j ∧ fz s d = fq (but1 i (fun t => fp (fz s R) i - fp (fz s R) t)) j)) (fun iv _ => N - (intOf iv).toNat)
  case atStart => exact ⟨0, 1, 1, rfl, Nat.zero_le _, hb3, bu3, bd3, by decide, by decide, rfl, rfl⟩
  case round =>
    obtain ⟨j, u, d, rfl, hj, hbr, bu, bd, HI⟩ := hrel
    clear hb3 bu3 bd3
    by_cases hlt : j < N
    · have hj0 : (0 : Int) ≤ (j : Int) := by omega
      have hji : (j : Int) < (N : Int) := by omega
      by_cases hij : j = i
      · subst hij
        have HNX : Hid (u < 115792089237316195423570985008687907853269984665640564039457584007913129639936 ∧ d < 115792089237316195423570985008687907853269984665640564039457584007913129639936 ∧ fz s u = fq (but1 j (fun t => fz s x - fp (fz s R) t)) (j + 1) ∧ fz s d = fq (but1 j (fun t => fp (fz s R) j - fp (fz s R) t)) (j + 1)) := by
          obtain ⟨h1, h2, h3, h4⟩ := HI.out
          refine ⟨h1, h2, ?_, ?_⟩
          · show fz s u = fq (but1 j (fun t => fz s x - fp (fz s R) t)) j * (if j = j then 1 else _)
            rw [if_pos rfl, h3]
            grind
          · show fz s d = fq (but1 j (fun t => fp (fz s R) j - fp (fz s R) t)) j * (if j = j then 1 else _)
            rw [if_pos rfl, h4]
            grind
        clear HI
        go_wp2
        go_roundw
        case measure => simp [intOf]; omega
        case rel => exact ⟨j + 1, u, d, by go_num, by omega, hbr, bu, bd, HNX⟩
      · have hiji : ¬ (j : Int) = (i : Int) := by omega
        obtain ⟨p, ep⟩ : ∃ z, z = expP s R j := ⟨_, rfl⟩
        obtain ⟨pi, epi⟩ : ∃ z, z = expP s R i := ⟨_, rfl⟩
        have hpm := HEM.out j
        have hpim := HEM.out i
        rw [← ep] at hpm
        rw [← epi] at hpim
        have HCJ : Hid (∀ w', Below w1.heap.size w1 w' → w'.cell? ⟨pb, (po + j * 4), none⟩ = some (.int .u64 ((limb 0 p : Nat) : Int)) ∧ w'.cell? ⟨pb, (po + j * 4) + 1, none⟩ = some (.int .u64 ((limb 1 p : Nat) : Int)) ∧ w'.cell? ⟨pb, (po + j * 4) + 2, none⟩ = some (.int .u64 ((limb 2 p : Nat) : Int)) ∧ w'.cell? ⟨pb, (po + j * 4) + 3, none⟩ = some (.int .u64 ((limb 3 p : Nat) : Int))) := fun w' hb => by
            have c0 := HCC.out j hlt 0 (by decide); have c1 := HCC.out j hlt 1 (by decide); have c2 := HCC.out j hlt 2 (by decide); have c3 := HCC.out j hlt 3 (by decide)
            rw [← ep] at c0 c1 c2 c3
            exact ⟨(hb.cell (p := ⟨pb, po + j * 4 + 0, none⟩) lpb).trans c0, (hb.cell (p := ⟨pb, po + j * 4 + 1, none⟩) lpb).trans c1, (hb.cell (p := ⟨pb, po + j * 4 + 2, none⟩) lpb).trans c2, (hb.cell (p := ⟨pb, po + j * 4 + 3, none⟩) lpb).trans c3⟩
        have HCI : Hid (∀ w', Below w1.heap.size w1 w' → w'.cell? ⟨pb, (po + i * 4), none⟩ = some (.int .u64 ((limb 0 pi : Nat) : Int)) ∧ w'.cell? ⟨pb, (po + i * 4) + 1, none⟩ = some (.int .u64 ((limb 1 pi : Nat) : Int)) ∧ w'.cell? ⟨pb, (po + i * 4) + 2, none⟩ = some (.int .u64 ((limb 2 pi : Nat) : Int)) ∧ w'.cell? ⟨pb, (po + i * 4) + 3, none⟩ = some (.int .u64 ((limb 3 pi : Nat) : Int))) := fun w' hb => by
            have c0 := HCC.out i hi 0 (by decide); have c1 := HCC.out i hi 1 (by decide); have c2 := HCC.out i hi 2 (by decide); have c3 := HCC.out i hi 3 (by decide)
            rw [← epi] at c0 c1 c2 c3
            exact ⟨(hb.cell (p := ⟨pb, po + i * 4 + 0, none⟩) lpb).trans c0, (hb.cell (p := ⟨pb, po + i * 4 + 1, none⟩) lpb).trans c1, (hb.cell (p := ⟨pb, po + i * 4 + 2, none⟩) lpb).trans c2, (hb.cell (p := ⟨pb, po + i * 4 + 3, none⟩) lpb).trans c3⟩
        have S1 := HSS.out x p HXM.out hpm
        have S2 := HSS.out pi p hpim hpm
        obtain ⟨t1, et1⟩ : ∃ z, z = subP s x p := ⟨_, rfl⟩
        obtain ⟨t2, et2⟩ : ∃ z, z = subP s pi p := ⟨_, rfl⟩
        have M1 := HMM.out u t1 HI.out.1 (by rw [et1]; exact subP_M s _ _)
        have M2 := HMM.out d t2 HI.out.2.1 (by rw [et2]; exact subP_M s _ _)
        rw [← et1] at S1
        rw [← et2] at S2
        obtain ⟨u1, eu1⟩ : ∃ z, z = mulP s u t1 := ⟨_, rfl⟩
        obtain ⟨d1, ed1⟩ : ∃ z, z = mulP s d t2 := ⟨_, rfl⟩
        rw [← eu1] at M1
        rw [← ed1] at M2
        have HS1 : Hid (∀ w, _) := S1
        have HS2 : Hid (∀ w, _) := S2
        have HM1 : Hid (∀ w, _) := M1
        have HM2 : Hid (∀ w, _) := M2
        have HNX : Hid (u1 < 115792089237316195423570985008687907853269984665640564039457584007913129639936 ∧ d1 < 115792089237316195423570985008687907853269984665640564039457584007913129639936 ∧ fz s u1 = fq (but1 i (fun t => fz s x - fp (fz s R) t)) (j + 1) ∧ fz s d1 = fq (but1 i (fun t => fp (fz s R) i - fp (fz s R) t)) (j + 1)) := by
          obtain ⟨h1, h2, h3, h4⟩ := HI.out
          refine ⟨by rw [eu1]; exact mulP_M s _ _, by rw [ed1]; exact mulP_M s _ _, ?_, ?_⟩
          · show fz s u1 = fq (but1 i (fun j => fz s x - fp (fz s R) j)) j * (if j = i then 1 else fz s x - fp (fz s R) j)
            rw [if_neg hij, eu1, fz_mul, h3, et1, fz_sub, ep, fz_exp]
          · show fz s d1 = fq (but1 i (fun t => fp (fz s R) i - fp (fz s R) t)) j * (if j = i then 1 else fp (fz s R) i - fp (fz s R) j)
            rw [if_neg hij, ed1, fz_mul, h4, et2, fz_sub, ep, epi, fz_exp, fz_exp]
        clear S1 S2 M1 M2 et1 et2 eu1 ed1 ep epi hpm hpim HI
        go_upto_region 12 with fail
        refine wp_region_Z (fun w' => Below w1.heap.size w1 w' ∧ Blk w' 24 N12 (fun i => limb i u)) 10 (by kernel_rfl) ?_
        obtain ⟨wD, hD⟩ : ∃ x : World, x = wr.drew := ⟨_, rfl⟩
        rw [← hD]
        have hp0_0 : Below w1.heap.size w1 wD := by rw [hD]; exact hbr.drew
        have hp1_0 : Blk wD 24 N12 (fun i => limb i u) := by rw [hD]; exact bu.drew
        have hlow0 : Below wr.heap.size wr wD := by rw [hD]; exact (Below.refl _ _).drew
        clear hD
        refine wpZ_take (i := 0) (v := .int .i64 (s : Int)) 45 rfl rfl (by kernel_rfl) (by kernel_rfl) (by kernel_rfl) (Or.inl (by kernel_rfl)) (fun _ _ _ h => h) (Or.inl ⟨by rfl, fun w hSw => by go_simp⟩) ⟨hp0_0, hp1_0⟩ ?_
        simp only [Act.put, List.setIfInBounds_toArray]
        dsimp only [List.set_cons_zero, List.set_cons_succ]
        refine wpZ_take (i := 1) (v := .agg #[.int .u64 ((limb 0 (u) : Nat) : Int), .int .u64 ((limb 1 (u) : Nat) : Int), .int .u64 ((limb 2 (u) : Nat) : Int), .int .u64 ((limb 3 (u) : Nat) : Int)]) 46 rfl rfl (by kernel_rfl) (by kernel_rfl) (by kernel_rfl) (Or.inl (by kernel_rfl)) (fun _ _ _ h => h) (Or.inl ⟨by rfl, fun w hSw => by (have qq := (hSw.2).cell; clear hSw; go_simp)⟩) ⟨hp0_0, hp1_0⟩ ?_
        simp only [Act.put, List.setIfInBounds_toArray]
        dsimp only [List.set_cons_zero, List.set_cons_succ]
        refine wpZ_take (i := 2) (v := .int .i64 (s : Int)) 47 rfl rfl (by kernel_rfl) (by kernel_rfl) (by kernel_rfl) (Or.inl (by kernel_rfl)) (fun _ _ _ h => h) (Or.inl ⟨by rfl, fun w hSw => by go_simp⟩) ⟨hp0_0, hp1_0⟩ ?_
        simp only [Act.put, List.setIfInBounds_toArray]
        dsimp only [List.set_cons_zero, List.set_cons_succ]
        refine wpZ_take (i := 3) (v := .agg #[.int .u64 ((limb 0 (x) : Nat) : Int), .int .u64 ((limb 1 (x) : Nat) : Int), .int .u64 ((limb 2 (x) : Nat) : Int), .int .u64 ((limb 3 (x) : Nat) : Int)]) 48 rfl rfl (by kernel_rfl) (by kernel_rfl) (by kernel_rfl) (Or.inl (by kernel_rfl)) (fun _ _ _ h => h) (Or.inl ⟨by rfl, fun w hSw => by (have qq := (bx1.belowAll hSw.1).cell; clear hSw; go_simp)⟩) ⟨hp0_0, hp1_0⟩ ?_
        simp only [Act.put, List.setIfInBounds_toArray]
        dsimp only [List.set_cons_zero, List.set_cons_succ]
        refine wpZ_take (i := 4) (v := .slice (some ⟨pb, po, none⟩) N pc) 49 rfl rfl (by kernel_rfl) (by kernel_rfl) (by kernel_rfl) (Or.inl (by kernel_rfl)) (fun _ _ _ h => h) (Or.inl ⟨by rfl, fun w hSw => by go_simp⟩) ⟨hp0_0, hp1_0⟩ ?_
        simp only [Act.put, List.setIfInBounds_toArray]
        dsimp only [List.set_cons_zero, List.set_cons_succ]
        refine wpZ_take (i := 5) (v := .int .i64 (j : Int)) 50 rfl rfl (by kernel_rfl) (by kernel_rfl) (by kernel_rfl) (Or.inl (by kernel_rfl)) (fun _ _ _ h => h) (Or.inl ⟨by rfl, fun w hSw => by go_simp⟩) ⟨hp0_0, hp1_0⟩ ?_
        simp only [Act.put, List.setIfInBounds_toArray]
        dsimp only [List.set_cons_zero, List.set_cons_succ]
        refine wpZ_take (i := 6) (v := .pointer (some ⟨pb, (po + j * 4), none⟩)) 51 rfl rfl (by kernel_rfl) (by kernel_rfl) (by kernel_rfl) (Or.inl (by kernel_rfl)) (fun _ _ _ h => h) (Or.inl ⟨by rfl, fun w hSw => by go_simp⟩) ⟨hp0_0, hp1_0⟩ ?_
        simp only [Act.put, List.setIfInBounds_toArray]
        dsimp only [List.set_cons_zero, List.set_cons_succ]
        refine wpZ_take (i := 7) (v := .agg #[.int .u64 ((limb 0 (p) : Nat) : Int), .int .u64 ((limb 1 (p) : Nat) : Int), .int .u64 ((limb 2 (p) : Nat) : Int), .int .u64 ((limb 3 (p) : Nat) : Int)]) 52 rfl rfl (by kernel_rfl) (by kernel_rfl) (by kernel_rfl) (Or.inl (by kernel_rfl)) (fun _ _ _ h => h) (Or.inl ⟨by rfl, fun w hSw => by (obtain ⟨q0, q1, q2, q3⟩ := HCJ.out w hSw.1; clear hSw; go_simp)⟩) ⟨hp0_0, hp1_0⟩ ?_
        simp only [Act.put, List.setIfInBounds_toArray]
        dsimp only [List.set_cons_zero, List.set_cons_succ]
        refine wpZ_one (i := 8) (by kernel_rfl) rfl (fun K hK => ?_)
        go_simp
        refine (HS1.out wD).mono ?_
        rintro e wA ⟨rfl, hbA⟩
        have hlowA := bStep hlow0 hbA
        have hp0A := bStep hp0_0 hbA
        have hp1A := (hp1_0).belowAll hbA
        go_wp2_with fail
        refine hK.out _ _ (fun _ => ⟨hp0A, hp1A⟩) ?_
        clear hK K hbA
        refine wpZ_one (i := 9) (by kernel_rfl) rfl (fun K hK => ?_)
        go_simp
        refine (HM1.out wA).mono ?_
        rintro e wB ⟨rfl, hbB⟩
        have hlowB := bStep hlowA hbB
        have hp0B := bStep hp0A hbB
        have hp1B := (hp1A).belowAll hbB
        go_wp2_with fail
        refine hK.out _ _ (fun _ => ⟨hp0B, hp1B⟩) ?_
        clear hK K hbB
        refine wpZ_one (i := 10) (by kernel_rfl) rfl (fun K hK => ?_)
        have bS := hp1B
        have cS := bS.cell; have fS := bS.frozen
        obtain ⟨wS, hwS, boS, hkS⟩ := bS.put4 u1
        go_simp
        refine hK.out _ _ (fun h => absurd rfl h) ?_
        clear hK K cS fS hwS bS
        refine wpZ_done (by kernel_rfl) ?_ _
        have hbwS := bKept hp0B l12 hkS
        have bdS := (bd.belowAll hlowB).kept n13 hkS
        clear hkS hp0_0 hp1_0 hp0A hp1A hp0B hp1B hlow0 hlowA hlowB hbr bu bd
        go_upto_region 13 with fail
        refine wp_region_Z (fun w' => Below w1.heap.size w1 w' ∧ Blk w' 24 N13 (fun i => limb i d)) 13 (by kernel_rfl) ?_
        obtain ⟨wD, hD⟩ : ∃ x : World, x = wS.drew := ⟨_, rfl⟩
        rw [← hD]
        have hp0_0 : Below w1.heap.size w1 wD := by rw [hD]; exact hbwS.drew
        have hp1_0 : Blk wD 24 N13 (fun i => limb i d) := by rw [hD]; exact bdS.drew
        have hlow0 : Below wS.heap.size wS wD := by rw [hD]; exact (Below.refl _ _).drew
        clear hD
        refine wpZ_take (i := 0) (v := .int .i64 (s : Int)) 55 rfl rfl (by kernel_rfl) (by kernel_rfl) (by kernel_rfl) (Or.inl (by kernel_rfl)) (fun _ _ _ h => h) (Or.inl ⟨by rfl, fun w hSw => by go_simp⟩) ⟨hp0_0, hp1_0⟩ ?_
        simp only [Act.put, List.setIfInBounds_toArray]
        dsimp only [List.set_cons_zero, List.set_cons_succ]
        refine wpZ_take (i := 1) (v := .agg #[.int .u64 ((limb 0 (d) : Nat) : Int), .int .u64 ((limb 1 (d) : Nat) : Int), .int .u64 ((limb 2 (d) : Nat) : Int), .int .u64 ((limb 3 (d) : Nat) : Int)]) 56 rfl rfl (by kernel_rfl) (by kernel_rfl) (by kernel_rfl) (Or.inl (by kernel_rfl)) (fun _ _ _ h => h) (Or.inl ⟨by rfl, fun w hSw => by (have qq := (hSw.2).cell; clear hSw; go_simp)⟩) ⟨hp0_0, hp1_0⟩ ?_
        simp only [Act.put, List.setIfInBounds_toArray]
        dsimp only [List.set_cons_zero, List.set_cons_succ]
        refine wpZ_take (i := 2) (v := .int .i64 (s : Int)) 57 rfl rfl (by kernel_rfl) (by kernel_rfl) (by kernel_rfl) (Or.inl (by kernel_rfl)) (fun _ _ _ h => h) (Or.inl ⟨by rfl, fun w hSw => by go_simp⟩) ⟨hp0_0, hp1_0⟩ ?_
        simp only [Act.put, List.setIfInBounds_toArray]
        dsimp only [List.set_cons_zero, List.set_cons_succ]
        refine wpZ_take (i := 3) (v := .slice (some ⟨pb, po, none⟩) N pc) 58 rfl rfl (by kernel_rfl) (by kernel_rfl) (by kernel_rfl) (Or.inl (by kernel_rfl)) (fun _ _ _ h => h) (Or.inl ⟨by rfl, fun w hSw => by go_simp⟩) ⟨hp0_0, hp1_0⟩ ?_
        simp only [Act.put, List.setIfInBounds_toArray]
        dsimp only [List.set_cons_zero, List.set_cons_succ]
        refine wpZ_take (i := 4) (v := .int .i64 (i : Int)) 59 rfl rfl (by kernel_rfl) (by kernel_rfl) (by kernel_rfl) (Or.inl (by kernel_rfl)) (fun _ _ _ h => h) (Or.inl ⟨by rfl, fun w hSw => by go_simp⟩) ⟨hp0_0, hp1_0⟩ ?_
        simp only [Act.put, List.setIfInBounds_toArray]
        dsimp only [List.set_cons_zero, List.set_cons_succ]
        refine wpZ_take (i := 5) (v := .pointer (some ⟨pb, (po + i * 4), none⟩)) 60 rfl rfl (by kernel_rfl) (by kernel_rfl) (by kernel_rfl) (Or.inl (by kernel_rfl)) (fun _ _ _ h => h) (Or.inl ⟨by rfl, fun w hSw => by go_simp⟩) ⟨hp0_0, hp1_0⟩ ?_
        simp only [Act.put, List.setIfInBounds_toArray]
        dsimp only [List.set_cons_zero, List.set_cons_succ]
        refine wpZ_take (i := 6) (v := .agg #[.int .u64 ((limb 0 (pi) : Nat) : Int), .int .u64 ((limb 1 (pi) : Nat) : Int), .int .u64 ((limb 2 (pi) : Nat) : Int), .int .u64 ((limb 3 (pi) : Nat) : Int)]) 61 rfl rfl (by kernel_rfl) (by kernel_rfl) (by kernel_rfl) (Or.inl (by kernel_rfl)) (fun _ _ _ h => h) (Or.inl ⟨by rfl, fun w hSw => by (obtain ⟨q0, q1, q2, q3⟩ := HCI.out w hSw.1; clear hSw; go_simp)⟩) ⟨hp0_0, hp1_0⟩ ?_
        simp only [Act.put, List.setIfInBounds_toArray]
        dsimp only [List.set_cons_zero, List.set_cons_succ]
        refine wpZ_take (i := 7) (v := .slice (some ⟨pb, po, none⟩) N pc) 62 rfl rfl (by kernel_rfl) (by kernel_rfl) (by kernel_rfl) (Or.inl (by kernel_rfl)) (fun _ _ _ h => h) (Or.inl ⟨by rfl, fun w hSw => by go_simp⟩) ⟨hp0_0, hp1_0⟩ ?_
        simp only [Act.put, List.setIfInBounds_toArray]
        dsimp only [List.set_cons_zero, List.set_cons_succ]
        refine wpZ_take (i := 8) (v := .int .i64 (j : Int)) 63 rfl rfl (by kernel_rfl) (by kernel_rfl) (by kernel_rfl) (Or.inl (by kernel_rfl)) (fun _ _ _ h => h) (Or.inl ⟨by rfl, fun w hSw => by go_simp⟩) ⟨hp0_0, hp1_0⟩ ?_
        simp only [Act.put, List.setIfInBounds_toArray]
        dsimp only [List.set_cons_zero, List.set_cons_succ]
        refine wpZ_take (i := 9) (v := .pointer (some ⟨pb, (po + j * 4), none⟩)) 64 rfl rfl (by kernel_rfl) (by kernel_rfl) (by kernel_rfl) (Or.inl (by kernel_rfl)) (fun _ _ _ h => h) (Or.inl ⟨by rfl, fun w hSw => by go_simp⟩) ⟨hp0_0, hp1_0⟩ ?_
        simp only [Act.put, List.setIfInBounds_toArray]
        dsimp only [List.set_cons_zero, List.set_cons_succ]
        refine wpZ_take (i := 10) (v := .agg #[.int .u64 ((limb 0 (p) : Nat) : Int), .int .u64 ((limb 1 (p) : Nat) : Int), .int .u64 ((limb 2 (p) : Nat) : Int), .int .u64 ((limb 3 (p) : Nat) : Int)]) 65 rfl rfl (by kernel_rfl) (by kernel_rfl) (by kernel_rfl) (Or.inl (by kernel_rfl)) (fun _ _ _ h => h) (Or.inl ⟨by rfl, fun w hSw => by (obtain ⟨q0, q1, q2, q3⟩ := HCJ.out w hSw.1; clear hSw; go_simp)⟩) ⟨hp0_0, hp1_0⟩ ?_
        simp only [Act.put, List.setIfInBounds_toArray]
        dsimp only [List.set_cons_zero, List.set_cons_succ]
        refine wpZ_one (i := 11) (by kernel_rfl) rfl (fun K hK => ?_)
        go_simp
        refine (HS2.out wD).mono ?_
        rintro e wC ⟨rfl, hbC⟩
        have hlowC := bStep hlow0 hbC
        have hp0C := bStep hp0_0 hbC
        have hp1C := (hp1_0).belowAll hbC
        go_wp2_with fail
        refine hK.out _ _ (fun _ => ⟨hp0C, hp1C⟩) ?_
        clear hK K hbC
        refine wpZ_one (i := 12) (by kernel_rfl) rfl (fun K hK => ?_)
        go_simp
        refine (HM2.out wC).mono ?_
        rintro e wG ⟨rfl, hbG⟩
        have hlowG := bStep hlowC hbG
        have hp0G := bStep hp0C hbG
        have hp1G := (hp1C).belowAll hbG
        go_wp2_with fail
        refine hK.out _ _ (fun _ => ⟨hp0G, hp1G⟩) ?_
        clear hK K hbG
        refine wpZ_one (i := 13) (by kernel_rfl) rfl (fun K hK => ?_)
        have bS := hp1G
        have cS := bS.cell; have fS := bS.frozen
        obtain ⟨wT, hwS, boT, hkT⟩ := bS.put4 d1
        go_simp
        refine hK.out _ _ (fun h => absurd rfl h) ?_
        clear hK K cS fS hwS bS
        refine wpZ_done (by kernel_rfl) ?_ _
        have hbwT := bKept hp0G l13 hkT
        have buT := (boS.belowAll hlowG).kept n12 hkT
        clear hkT hp0_0 hp1_0 hp0C hp1C hp0G hp1G hlow0 hlowC hlowG hbwS boS bdS HS1 HM1 HS2 HM2
        go_wp2
        go_roundw
        case measure => simp [intOf]; omega
        case rel => exact ⟨j + 1, u1, d1, by go_num, by omega, hbwT, buT, boT, HNX⟩
    · have hji : ¬ (j : Int) < (N : Int) := by omega
      have ej : j = N := by omega
      have HL := HLR.out u d (by rw [HI.out.2.2.1, ej]) (by rw [HI.out.2.2.2, ej])
      have HB := HBY.out u d HI.out.1 HI.out.2.1 HL.1
      obtain ⟨v, ev⟩ : ∃ z, z = mulP s u (invU (modN s) d) := ⟨_, rfl⟩
      rw [← ev] at HL HB
      have HLL : Hid (LagP s k i x v) := HL.2
      have HBB : Hid (∀ w, _) := HB
      have brr := br1.belowAll hbr
      have hbww := bStep hbw1 hbr
      have cu := bu.cell; have cd := bd.cell
      clear HL HB ev HI
      go_wp2_with fail
      refine (HBB.out _).mono ?_
      rintro e w5 ⟨rfl, hb5⟩
      have br5 := brr.belowAll hb5
      have hbw5 := bStep hbww hb5
      clear cu cd bu bd brr hbww hb5
      obtain ⟨w6, hw6, br6, hk6⟩ := br5.put4 v
      have cr := br5.cell; have fr := br5.frozen; have cs := br6.cell
      have hbw6 := bKept hbw5 l8 hk6
      clear hk6 br6
      go_wp2
      refine bodyPost_ret (v := .tuple #[.agg #[.int .u64 ((limb 0 (v) : Nat) : Int), .int .u64 ((limb 1 (v) : Nat) : Int), .int .u64 ((limb 2 (v) : Nat) : Int), .int .u64 ((limb 3 (v) : Nat) : Int)], .int .i64 0]) (by simp [results, Tryd.results24, go_sem, cs]) rfl ?_
      exact ⟨⟨v, rfl, HLL.out⟩, hbw6⟩
end Go.Proofs.YtpkhppjcpfkbmaaDoor
