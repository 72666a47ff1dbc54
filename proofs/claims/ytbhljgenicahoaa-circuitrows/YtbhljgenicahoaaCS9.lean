/- The reference: the queries of a node's cone; flat. -/
import Derived.Test.YtbhljgenicahoaaCS7
import Derived.Test.YtbhljgenicahoaaCS8
namespace Go.Proofs.Ytbhljgenicahoaa
open Go.RowKit

theorem one_Rs7 (w : World) (t : TypeId) (O X Y : Int) (Z : Nat) : Rs (w.alloc (.cells #[.int .i64 O, .int .i64 X, .int .i64 Y, .int .u64 ((limb 0 Z : Nat) : Int), .int .u64 ((limb 1 Z : Nat) : Int), .int .u64 ((limb 2 Z : Nat) : Int), .int .u64 ((limb 3 Z : Nat) : Int)] t)) (.slice (some ⟨w.heap.size, 0, none⟩) 1 1) 7 1 (fun _ => nC (O, X, Y, Z)) := by
  refine BlkR.Rs (t := t) ⟨#[.int .i64 O, .int .i64 X, .int .i64 Y, .int .u64 ((limb 0 Z : Nat) : Int), .int .u64 ((limb 1 Z : Nat) : Int), .int .u64 ((limb 2 Z : Nat) : Int), .int .u64 ((limb 3 Z : Nat) : Int)], ?_, rfl, ?_⟩ (by decide)
  · show (w.heap.push _)[w.heap.size]? = _; simp
  · intro i hi j hj
    have : i = 0 := by omega
    obtain ⟨t0, t1, t2, t3, t4, t5, t6⟩ := nC_cells O X Y Z
    have hc : j = 0 ∨ j = 1 ∨ j = 2 ∨ j = 3 ∨ j = 4 ∨ j = 5 ∨ j = 6 := by omega
    subst i
    rcases hc with rfl | rfl | rfl | rfl | rfl | rfl | rfl
    · show _ = some (nC (O, X, Y, Z) 0); rw [t0]; rfl
    · show _ = some (nC (O, X, Y, Z) 1); rw [t1]; rfl
    · show _ = some (nC (O, X, Y, Z) 2); rw [t2]; rfl
    · show _ = some (nC (O, X, Y, Z) 3); rw [t3]; rfl
    · show _ = some (nC (O, X, Y, Z) 4); rw [t4]; rfl
    · show _ = some (nC (O, X, Y, Z) 5); rw [t5]; rfl
    · show _ = some (nC (O, X, Y, Z) 6); rw [t6]; rfl
set_option maxHeartbeats 16000000 in
set_option maxRecDepth 100000 in
theorem rconeq_in (F A I : Int) (oN oG oL oE : Option Addr) (n cN g cG l cL m cE : Nat) (T : Nat → Int × Int × Int × Nat) (root : Nat) (hn : n ≤ 1000000) (ho : ordB n T = true) (hr : root < n) (w : World) (hv : Rs w (.slice oN n cN) 7 n (fun i => nC (T i))) :
    Calls Try.prog 40 #[.agg #[.int .i64 F, .int .i64 A, .int .i64 I, .slice oN n cN, .slice oG g cG, .slice oL l cL, .slice oE m cE], .int .i64 (root : Int)] w fun e w' => (∃ v, e = .returned v ∧ w'.ownsRow w.heap.size 66 3 v (qN (cnT T root) (cnN T root (root + 1))) (rwl 3 (fun i => qC (qF (cnT T root) (cnN T root (root + 1)) i)) (qN (cnT T root) (cnN T root (root + 1))))) ∧ Below w.heap.size w w' := by
  have HR : Hid (∀ w', Below w.heap.size w w' → Rs w' (.slice oN n cN) 7 n (fun i => nC (T i))) := fun w' h => hv.below h
  obtain ⟨ii, hii, hi0, hi1, hi2⟩ := nodeInf
  have HII := (show Hid _ from hii); have HZI := (show Hid _ from And.intro hi0 (And.intro hi1 hi2)); clear hii hi0 hi1 hi2
  obtain ⟨w1, ew1⟩ : ∃ x : World, x = w.alloc (.cells #[.int .i64 F, .int .i64 A, .int .i64 I, .slice oN n cN, .slice oG g cG, .slice oL l cL, .slice oE m cE] 27) := ⟨_, rfl⟩
  have hb1 : Below w.heap.size w w1 := by rw [ew1]; exact bAlloc (Below.refl _ _) _
  obtain ⟨b2, eb2⟩ : ∃ x, x = w.heap.size := ⟨_, rfl⟩
  have f1 : w1.heap[b2]? = some (.cells #[.int .i64 F, .int .i64 A, .int .i64 I, .slice oN n cN, .slice oG g cG, .slice oL l cL, .slice oE m cE] 27) := by rw [ew1, eb2]; show (w.heap.push _)[w.heap.size]? = _; simp
  have HF1 : Hid (w1.heap[b2]? = some (.cells #[.int .i64 F, .int .i64 A, .int .i64 I, .slice oN n cN, .slice oG g cG, .slice oL l cL, .slice oE m cE] 27)) := f1
  have HCN : Hid (Calls _ _ _ _ _) := rcone_in n cN oN T root hn w1 (hv.below hb1) ho hr
  have HB1 : Hid (Below w.heap.size w w1) := hb1
  have c3 : w1.cell? ⟨b2, 3, none⟩ = some (.slice oN n cN) := cell_of_block f1 3
  obtain ⟨N, eN⟩ : ∃ N, N = cnN T root (root + 1) := ⟨_, rfl⟩
  have hNn : N ≤ 1000000 := by rw [eN]; have := cnN_le T root (root + 1); omega
  rw [← eN] at HCN ⊢
  have HEN : Hid (N = cnN T root (root + 1)) := eN
  have HRN : Hid (root < n) := hr
  clear hv f1 hb1 eN ho hr
  go_enter Try.func40, Try.ntmps40
  go_upto_region 1 with fail
  rw [← ew1, ← eb2]
  clear ew1 eb2
  go_wp2_with fail
  refine Calls.mono HCN.out ?_
  rintro e w4 ⟨⟨cv, rfl, hcv⟩, hb4⟩
  obtain ⟨op, cp, rfl, _⟩ := own_shape hcv
  have HB4 : Hid (Below w.heap.size w w4) := bStep HB1.out hb4
  have HF4 : Hid (w4.heap[b2]? = some (.cells #[.int .i64 F, .int .i64 A, .int .i64 I, .slice oN n cN, .slice oG g cG, .slice oL l cL, .slice oE m cE] 27)) := (hb4.block b2 (Array.getElem?_eq_some_iff.1 HF1.out).1).trans HF1.out
  have HPL : Hid (Rs w4 (.slice op N cp) 1 N (fun i _ => .int .i64 (cnF T root (root + 1) i))) := own_Rs hcv
  clear hcv hb4 HCN HF1 HB1 c3
  obtain ⟨B, eB⟩ : ∃ x, x = w4.heap.size := ⟨_, rfl⟩
  obtain ⟨w5, ew5⟩ : ∃ x : World, x = w4.alloc (.cells #[] 49) := ⟨_, rfl⟩
  have HO5 : Hid (w5.ownsRow B 49 7 (.slice (some ⟨B, 0, none⟩) 0 0) 0 (rwl 7 (fun i => nC (cnT T root i)) 0)) := by rw [eB, ew5]; exact own_new w4 49 7
  have HB5 : Hid (Below w4.heap.size w4 w5) := by rw [ew5]; exact bAlloc (Below.refl _ _) _
  have HBE : Hid (B = w4.heap.size) := eB
  go_upto_region 3 with fail
  rw [← ew5, ← eB]
  clear ew5 eB
  go_wp2
  go_loopw [7, 6] (fun iv lv wr => ∃ k : Nat, iv = .int .i64 (k : Int) ∧ k ≤ N ∧ Below w4.heap.size w4 wr ∧ Hid (wr.ownsRow B 49 7 lv k (rwl 7 (fun i => nC (cnT T root i)) k))) (fun iv _ _ => N - (intOf iv).toNat)
  case atStart => exact ⟨0, rfl, Nat.zero_le _, HB5.out, HO5⟩
  case round =>
    obtain ⟨k, rfl, hk, hbr, HO⟩ := hrel
    obtain ⟨ol, cl, hsh, _⟩ := own_shape HO.out
    subst hsh
    clear HO5 HB5
    by_cases hlt : k < N
    · have hki : (k : Int) < (N : Int) := by omega
      have hk0 : (0 : Int) ≤ (k : Int) := by omega
      have hrg := cnF_range T root (root + 1) k (by rw [← HEN.out]; exact hlt)
      obtain ⟨y, ey⟩ : ∃ y : Nat, cnF T root (root + 1) k = (y : Int) := ⟨(cnF T root (root + 1) k).toNat, by omega⟩
      have hyn : y < n := by have := HRN.out; omega
      have hy0 : (0 : Int) ≤ (y : Int) := by omega
      have hy1 : (y : Int) < (n : Int) := by omega
      have HTY : Hid (cnT T root k = T y) := by show T (cnF T root (root + 1) k).toNat = T y; rw [ey]; rfl
      obtain ⟨O, X, Y, Z, hE⟩ : ∃ O X Y Z, T y = (O, X, Y, Z) := ⟨_, _, _, _, rfl⟩
      have HE : Hid (T y = (O, X, Y, Z)) := hE
      rcases HPL.out with ⟨_, h0⟩ | ⟨pb, po, c', hv, _, _, lpb, hpc⟩
      · omega
      cases hv
      have pc := hpc k hlt 0 (by decide)
      dsimp only at pc
      rw [Nat.add_zero, Nat.mul_one, ey] at pc
      rcases HR.out w4 HB4.out with ⟨_, h0⟩ | ⟨nb, no, c2, hv2, _, _, lnb, hnc⟩
      · omega
      cases hv2
      have ca : ∀ j, j < 7 → w4.cell? ⟨nb, no + y * 7 + j, none⟩ = some (nC (T y) j) := fun j hj => hnc y hyn j hj
      rw [hE] at ca
      obtain ⟨t0, t1, t2, t3, t4, t5, t6⟩ := nC_cells O X Y Z
      have a0 := ca 0 (by decide); have a1 := ca 1 (by decide); have a2 := ca 2 (by decide); have a3 := ca 3 (by decide); have a4 := ca 4 (by decide); have a5 := ca 5 (by decide); have a6 := ca 6 (by decide)
      rw [t0, Nat.add_zero] at a0; rw [t1] at a1; rw [t2] at a2; rw [t3] at a3; rw [t4] at a4; rw [t5] at a5; rw [t6] at a6
      have s3 : w4.cell? ⟨b2, 3, none⟩ = some (.slice (some ⟨nb, no, none⟩) n cN) := cell_of_block HF4.out 3
      have lb2 : b2 < w4.heap.size := (Array.getElem?_eq_some_iff.1 HF4.out).1
      have HS : Hid (∀ w', Below w4.heap.size w4 w' → w'.cell? ⟨b2, 3, none⟩ = some (.slice (some ⟨nb, no, none⟩) n cN) ∧ w'.cell? ⟨pb, po + k, none⟩ = some (.int .i64 (y : Int)) ∧ w'.cell? ⟨nb, no + y * 7, none⟩ = some (.int .i64 O) ∧ w'.cell? ⟨nb, no + y * 7 + 1, none⟩ = some (.int .i64 X) ∧ w'.cell? ⟨nb, no + y * 7 + 2, none⟩ = some (.int .i64 Y) ∧ w'.cell? ⟨nb, no + y * 7 + 3, none⟩ = some (.int .u64 ((limb 0 Z : Nat) : Int)) ∧ w'.cell? ⟨nb, no + y * 7 + 4, none⟩ = some (.int .u64 ((limb 1 Z : Nat) : Int)) ∧ w'.cell? ⟨nb, no + y * 7 + 5, none⟩ = some (.int .u64 ((limb 2 Z : Nat) : Int)) ∧ w'.cell? ⟨nb, no + y * 7 + 6, none⟩ = some (.int .u64 ((limb 3 Z : Nat) : Int))) := fun w' hb => by
        rw [hb.cell (p := ⟨b2, 3, none⟩) lb2, hb.cell (p := ⟨pb, po + k, none⟩) lpb, hb.cell (p := ⟨nb, no + y * 7, none⟩) lnb, hb.cell (p := ⟨nb, no + y * 7 + 1, none⟩) lnb, hb.cell (p := ⟨nb, no + y * 7 + 2, none⟩) lnb, hb.cell (p := ⟨nb, no + y * 7 + 3, none⟩) lnb, hb.cell (p := ⟨nb, no + y * 7 + 4, none⟩) lnb, hb.cell (p := ⟨nb, no + y * 7 + 5, none⟩) lnb, hb.cell (p := ⟨nb, no + y * 7 + 6, none⟩) lnb]
        exact ⟨s3, pc, a0, a1, a2, a3, a4, a5, a6⟩
      have HBR : Hid (Below w4.heap.size w4 wr) := hbr
      clear a0 a1 a2 a3 a4 a5 a6 s3 lb2 pc hpc hnc lpb lnb t0 t1 t2 t3 t4 t5 t6 ca hE ey hrg hbr
      go_upto_region 6 with fail
      refine wp_region_Z (fun w' => Below w4.heap.size w4 w') 12 (by kernel_rfl) ?_
      obtain ⟨wD, hD⟩ : ∃ z : World, z = wr.drew := ⟨_, rfl⟩
      rw [← hD]
      have hp : Below w4.heap.size w4 wD := by rw [hD]; exact HBR.out.drew
      have HOD : Hid (wD.ownsRow B 49 7 (.slice ol k cl) k (rwl 7 (fun i => nC (cnT T root i)) k)) := by rw [hD]; exact own_below HO.out (Below.refl _ _).drew
      clear hD HO HBR
      refine zt 0 19 (.slice ol k cl) rfl rfl (fun w hSw => by go_simp) hp ?_
      simp only [Act.put, List.setIfInBounds_toArray]
      dsimp only [List.set_cons_zero, List.set_cons_succ]
      refine zt 1 20 (.pointer (some ⟨b2, 3, none⟩)) rfl rfl (fun w hSw => by go_simp) hp ?_
      simp only [Act.put, List.setIfInBounds_toArray]
      dsimp only [List.set_cons_zero, List.set_cons_succ]
      refine zt 2 21 (.slice (some ⟨nb, no, none⟩) n cN) rfl rfl (fun w hSw => by obtain ⟨s3, sc, q0, q1, q2, q3, q4, q5, q6⟩ := HS.out w hSw; go_simp) hp ?_
      simp only [Act.put, List.setIfInBounds_toArray]
      dsimp only [List.set_cons_zero, List.set_cons_succ]
      refine zt 3 22 (.slice (some ⟨pb, po, none⟩) N cp) rfl rfl (fun w hSw => by go_simp) hp ?_
      simp only [Act.put, List.setIfInBounds_toArray]
      dsimp only [List.set_cons_zero, List.set_cons_succ]
      refine zt 4 23 (.int .i64 (k : Int)) rfl rfl (fun w hSw => by go_simp) hp ?_
      simp only [Act.put, List.setIfInBounds_toArray]
      dsimp only [List.set_cons_zero, List.set_cons_succ]
      refine zt 5 24 (.pointer (some ⟨pb, po + k, none⟩)) rfl rfl (fun w hSw => by go_simp) hp ?_
      simp only [Act.put, List.setIfInBounds_toArray]
      dsimp only [List.set_cons_zero, List.set_cons_succ]
      refine zt 6 25 (.int .i64 (y : Int)) rfl rfl (fun w hSw => by obtain ⟨s3, sc, q0, q1, q2, q3, q4, q5, q6⟩ := HS.out w hSw; go_simp) hp ?_
      simp only [Act.put, List.setIfInBounds_toArray]
      dsimp only [List.set_cons_zero, List.set_cons_succ]
      refine zt 7 26 (.pointer (some ⟨nb, no + y * 7, none⟩)) rfl rfl (fun w hSw => by go_simp) hp ?_
      simp only [Act.put, List.setIfInBounds_toArray]
      dsimp only [List.set_cons_zero, List.set_cons_succ]
      refine zt 8 27 (.agg #[.int .i64 O, .int .i64 X, .int .i64 Y, .int .u64 ((limb 0 Z : Nat) : Int), .int .u64 ((limb 1 Z : Nat) : Int), .int .u64 ((limb 2 Z : Nat) : Int), .int .u64 ((limb 3 Z : Nat) : Int)]) rfl rfl (fun w hSw => by obtain ⟨s3, sc, q0, q1, q2, q3, q4, q5, q6⟩ := HS.out w hSw; go_simp) hp ?_
      simp only [Act.put, List.setIfInBounds_toArray]
      dsimp only [List.set_cons_zero, List.set_cons_succ]
      refine wpZ_one (i := 9) (by kernel_rfl) rfl (fun K hK => ?_)
      obtain ⟨b10, eb10⟩ : ∃ x, x = wD.heap.size := ⟨_, rfl⟩
      obtain ⟨w10, ew10⟩ : ∃ x : World, x = wD.alloc (.cells #[.int .i64 O, .int .i64 X, .int .i64 Y, .int .u64 ((limb 0 Z : Nat) : Int), .int .u64 ((limb 1 Z : Nat) : Int), .int .u64 ((limb 2 Z : Nat) : Int), .int .u64 ((limb 3 Z : Nat) : Int)] 49) := ⟨_, rfl⟩
      have hb10 : Below wD.heap.size wD w10 := by rw [ew10]; exact bAlloc (Below.refl _ _) _
      have hr10 : Rs w10 (.slice (some ⟨b10, 0, none⟩) 1 1) 7 1 (fun _ => nC (O, X, Y, Z)) := by rw [ew10, eb10]; exact one_Rs7 wD 49 O X Y Z
      have hp10 : Below w4.heap.size w4 w10 := bStep hp hb10
      have ho10 := own_below HOD.out hb10
      go_simp
      rw [← ew10, ← eb10]
      refine hK.out _ _ (fun _ => hp10) ?_
      clear hK K hp hb10 ew10 eb10 HOD
      refine wpZ_one (i := 10) (by kernel_rfl) rfl (fun K hK => ?_)
      rw [if_pos (show Region.wanted _ _ = true from rfl)]
      refine wp_appR w10 _ _ 22 rfl B 49 ii (.agg #[.int .i64 0, .int .i64 0, .int .i64 0, .int .u64 0, .int .u64 0, .int .u64 0, .int .u64 0]) 7 56 Try.underlying22 HII.out HZI.out.1 HZI.out.2.1 HZI.out.2.2 rfl (by decide) _ k _ rfl ho10 1 _ _ rfl hr10 (fun i _ j _ => nC_one _ j) (by unfold maxLen; omega) (by omega) (by have h1 := hp10.size; have h3 := HBE.out; omega) ?_
      intro v' w11 hown11 hg11 hsep11
      have hp11 : Below w4.heap.size w4 w11 := hp10.grown hg11 hp10.size (fun j hj => by rw [← HBE.out]; exact own_ge ho10 hj)
      have HNX : Hid (w11.ownsRow B 49 7 v' (k + 1) (rwl 7 (fun i => nC (cnT T root i)) (k + 1))) := by
        rw [rwl_congr (G := fun i => if i < k then (fun i => nC (cnT T root i)) i else nC (O, X, Y, Z)) (fun i hi j _ => by
          dsimp only
          by_cases h : i < k
          · rw [if_pos h]
          · rw [if_neg h, show i = k by omega, HTY.out, HE.out])]
        exact hown11
      obtain ⟨ov, cv, rfl, _⟩ := own_shape HNX.out
      simp only [Act.put]
      refine hK.out _ _ (fun _ => hp11) ?_
      clear hK K hown11 hg11 hsep11 ho10 hp10 hr10
      refine zt 11 6 (.slice ov (k + 1) cv) rfl rfl (fun w hSw => by go_simp) hp11 ?_
      (try simp only [Act.put, List.setIfInBounds_toArray])
      (try dsimp only [List.set_cons_zero, List.set_cons_succ])
      refine wpZ_done (by kernel_rfl) ?_ _
      have HB11 : Hid (Below w4.heap.size w4 w11) := hp11
      clear hp11
      go_wp2
      go_roundw
      case measure => simp [intOf]; omega
      case rel => exact ⟨k + 1, by go_num, hlt, HB11.out, HNX⟩
    · have hki : ¬ (k : Int) < (N : Int) := by omega
      have ek : k = N := by omega
      subst ek
      have hbw : Below w.heap.size w wr := bStep HB4.out hbr
      have HQQ : Hid (Calls _ _ _ _ _) := rqueries_any k cl ol (cnT T root) hNn wr (own_Rs HO.out)
      have HBW : Hid (Below w.heap.size w wr) := hbw
      clear hbw hbr HO
      go_wp2_with fail
      refine Calls.mono HQQ.out ?_
      rintro e w7 ⟨⟨qv, rfl, hqv⟩, hb7⟩
      obtain ⟨oq, cq, rfl, _⟩ := own_shape hqv
      have HOF : Hid (w7.ownsRow w.heap.size 66 3 (.slice oq (qN (cnT T root) k) cq) (qN (cnT T root) k) (rwl 3 (fun i => qC (qF (cnT T root) k i)) (qN (cnT T root) k))) := own_base hqv HBW.out.size
      have HBF : Hid (Below w.heap.size w w7) := bStep HBW.out hb7
      clear HQQ hqv hb7 HBW
      go_wp2
      go_ret
      exact ⟨⟨_, rfl, HOF.out⟩, HBF.out⟩
/-- No query of the cone has a rotation, told by its queries. -/
theorem flat_iff (T : Nat → Int × Int × Int × Nat) (root : Nat) : (∀ i, i < (qN (cnT T root) (cnN T root (root + 1))) → (qF (cnT T root) (cnN T root (root + 1)) i).2.2 = 0) ↔ rowB T root = true := by
  have hm := mem_seen (cnT T root) (cnN T root (root + 1))
  unfold rowB
  rw [decide_eq_true_iff]
  constructor
  · intro h i hi hq
    obtain ⟨j, hj, e⟩ := (hm (qOf (cnT T root i))).2 ⟨i, hi, hq, rfl⟩
    have h1 := h j hj
    rw [e] at h1
    exact h1
  · intro h i hi
    obtain ⟨j, hj, hq, e⟩ := (hm (qF (cnT T root) (cnN T root (root + 1)) i)).1 ⟨i, hi, rfl⟩
    rw [← e]
    exact h j hj hq
set_option maxHeartbeats 16000000 in
set_option maxRecDepth 100000 in
theorem rflat_any (F A I : Int) (oN oG oL oE : Option Addr) (n cN g cG l cL m cE : Nat) (T : Nat → Int × Int × Int × Nat) (p : Int) (hn : n ≤ 1000000) (ho : ordB n T = true) (w : World) (hv : Rs w (.slice oN n cN) 7 n (fun i => nC (T i))) :
    Calls Try.prog 32 #[.agg #[.int .i64 F, .int .i64 A, .int .i64 I, .slice oN n cN, .slice oG g cG, .slice oL l cL, .slice oE m cE], .int .i64 p] w fun e w' => e = .returned (.bool (flB n T p)) ∧ Below w.heap.size w w' := by
  obtain ⟨w1, ew1⟩ : ∃ x : World, x = w.alloc (.cells #[.int .i64 F, .int .i64 A, .int .i64 I, .slice oN n cN, .slice oG g cG, .slice oL l cL, .slice oE m cE] 27) := ⟨_, rfl⟩
  have hb1 : Below w.heap.size w w1 := by rw [ew1]; exact bAlloc (Below.refl _ _) _
  obtain ⟨b2, eb2⟩ : ∃ x, x = w.heap.size := ⟨_, rfl⟩
  have f1 : w1.heap[b2]? = some (.cells #[.int .i64 F, .int .i64 A, .int .i64 I, .slice oN n cN, .slice oG g cG, .slice oL l cL, .slice oE m cE] 27) := by rw [ew1, eb2]; show (w.heap.push _)[w.heap.size]? = _; simp
  have HF1 : Hid (w1.heap[b2]? = some (.cells #[.int .i64 F, .int .i64 A, .int .i64 I, .slice oN n cN, .slice oG g cG, .slice oL l cL, .slice oE m cE] 27)) := f1
  have HPL : Hid (Calls _ _ _ _ _) := rplace_any F A I oN oG oL oE n cN g cG l cL m cE p w1
  have HB1 : Hid (Below w.heap.size w w1) := hb1
  have HR : Hid (∀ w', Below w.heap.size w w' → Rs w' (.slice oN n cN) 7 n (fun i => nC (T i))) := fun w' h => hv.below h
  have HOR : Hid (ordB n T = true) := ho
  obtain ⟨d0, d1, d2, d3, d4, d5, d6⟩ := cells7 f1
  clear hv f1 hb1 ho
  go_enter Try.func32, Try.ntmps32
  go_upto_region 1 with fail
  rw [← ew1, ← eb2]
  clear ew1 eb2
  go_wp2_with fail
  refine Calls.mono HPL.out ?_
  rintro e w2 ⟨rfl, hb2⟩
  have HB2 : Hid (Below w.heap.size w w2) := bStep HB1.out hb2
  have f2 := (hb2.block b2 (Array.getElem?_eq_some_iff.1 HF1.out).1).trans HF1.out
  clear d0 d1 d2 d3 d4 d5 d6
  obtain ⟨d0, d1, d2, d3, d4, d5, d6⟩ := cells7 f2
  clear HPL hb2 HF1 HB1 f2
  obtain ⟨pb, epb⟩ : ∃ b, b = plB n p := ⟨_, rfl⟩
  rw [← epb]
  cases pb
  · have HF : Hid (flB n T p = false) := by show flB n T p = false; unfold flB; rw [← epb, Bool.false_and]
    clear epb
    go_wp2
    go_ret
    exact ⟨by rw [HF.out]; rfl, HB2.out⟩
  have hpp : 0 ≤ p ∧ p < (n : Int) := of_decide_eq_true epb.symm
  obtain ⟨root, rfl⟩ : ∃ root : Nat, p = (root : Int) := ⟨p.toNat, by omega⟩
  have hrn : root < n := by omega
  have HFL : Hid (flB n T (root : Int) = rowB T root) := by show flB n T (root : Int) = _; unfold flB; rw [← epb, Bool.true_and]; rfl
  have HCQ : Hid (Calls _ _ _ _ _) := rconeq_in F A I oN oG oL oE n cN g cG l cL m cE T root hn HOR.out hrn w2 (HR.out w2 HB2.out)
  obtain ⟨Q, eQ⟩ : ∃ Q, Q = (qN (cnT T root) (cnN T root (root + 1))) := ⟨_, rfl⟩
  rw [← eQ] at HCQ
  have HEQ : Hid (Q = (qN (cnT T root) (cnN T root (root + 1)))) := eQ
  have hQn : Q ≤ 1000000 := by rw [eQ]; have h1 := qN_le (cnT T root) (cnN T root (root + 1)); have h2 := cnN_le T root (root + 1); omega
  clear epb hpp eQ hrn
  go_wp2_with fail
  refine Calls.mono HCQ.out ?_
  rintro e w3 ⟨⟨qv, rfl, hqv⟩, hb3⟩
  obtain ⟨oq, cq, rfl, _⟩ := own_shape hqv
  have HQ3 : Hid (Rs w3 (.slice oq Q cq) 3 Q (fun i => qC (qF (cnT T root) (cnN T root (root + 1)) i))) := own_Rs hqv
  have HB3 : Hid (Below w.heap.size w w3) := bStep HB2.out hb3
  clear HCQ hqv hb3 HB2 d0 d1 d2 d3 d4 d5 d6
  go_wp2
  go_loop [6] (fun iv => ∃ j : Nat, iv = .int .i64 (j : Int) ∧ j ≤ Q ∧ Hid (∀ i, i < j → (qF (cnT T root) (cnN T root (root + 1)) i).2.2 = 0)) (fun iv => Q - (intOf iv).toNat)
  case atStart => exact ⟨0, rfl, Nat.zero_le _, fun i hi => by omega⟩
  case round =>
    obtain ⟨j, rfl, hj, HJ⟩ := hrel
    by_cases hjl : j < Q
    · have hji : (j : Int) < (Q : Int) := by omega
      have hj0 : (0 : Int) ≤ (j : Int) := by omega
      rcases HQ3.out with ⟨_, h0⟩ | ⟨ub, uo, c', hv, _, _, _, hcell⟩
      · omega
      cases hv
      have z2 := hcell j hjl 2 (by decide)
      dsimp only at z2
      obtain ⟨y, ey⟩ : ∃ y, y = (qF (cnT T root) (cnN T root (root + 1)) j).2.2 := ⟨_, rfl⟩
      rw [show qC (qF (cnT T root) (cnN T root (root + 1)) j) 2 = .int .i64 (qF (cnT T root) (cnN T root (root + 1)) j).2.2 from rfl, ← ey] at z2
      have HY : Hid (y = (qF (cnT T root) (cnN T root (root + 1)) j).2.2) := ey
      clear hcell ey
      by_cases hy : y = 0
      · subst hy
        have HJ1 : Hid (∀ i, i < j + 1 → (qF (cnT T root) (cnN T root (root + 1)) i).2.2 = 0) := fun i hi => by
          rcases Nat.lt_or_ge i j with h | h
          · exact HJ.out i h
          · rw [show i = j by omega]; exact HY.out.symm
        go_wp2
        go_round
        case measure => simp [intOf]; omega
        case rel => exact ⟨j + 1, by go_num, hjl, HJ1⟩
      · have HNO : Hid (flB n T (root : Int) = false) := by
          show flB n T (root : Int) = false
          rw [HFL.out]
          refine Bool.eq_false_iff.mpr (fun h => hy ?_)
          rw [HY.out]
          exact (flat_iff T root).2 h j (by rw [← HEQ.out]; exact hjl)
        go_wp2
        go_ret
        exact ⟨by rw [HNO.out]; rfl, HB3.out⟩
    · have hji : ¬ (j : Int) < (Q : Int) := by omega
      have HYES : Hid (flB n T (root : Int) = true) := by
        show flB n T (root : Int) = true
        rw [HFL.out]
        exact (flat_iff T root).1 (fun i hi => HJ.out i (by rw [← HEQ.out] at hi; omega))
      go_wp2
      go_ret
      exact ⟨by rw [HYES.out]; rfl, HB3.out⟩

end Go.Proofs.Ytbhljgenicahoaa
