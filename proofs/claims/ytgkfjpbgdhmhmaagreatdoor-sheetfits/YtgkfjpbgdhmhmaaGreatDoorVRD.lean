import Derived.Test.YtgkfjpbgdhmhmaaGreatDoorVRC
import Derived.Test.YtgkfjpbgdhmhmaaGreatDoorVRB
set_option maxHeartbeats 16000000
namespace Go.Proofs.YtgkfjpbgdhmhmaaGreatDoor
open Go.RowKit
theorem one_Rs7 (w : World) (t : TypeId) (O X Y : Int) (Z : Nat) : Rs (w.alloc (.cells #[.int .i64 O, .int .i64 X, .int .i64 Y, .int .u64 (limb 0 Z), .int .u64 (limb 1 Z), .int .u64 (limb 2 Z), .int .u64 (limb 3 Z)] t)) (.slice (some ⟨w.heap.size, 0, none⟩) 1 1) 7 1 (fun _ => nC (O, X, Y, Z)) := by
 refine BlkR.Rs (t := t) ⟨#[.int .i64 O, .int .i64 X, .int .i64 Y, .int .u64 (limb 0 Z), .int .u64 (limb 1 Z), .int .u64 (limb 2 Z), .int .u64 (limb 3 Z)], ?_, rfl, ?_⟩ (by decide)
 ·show (w.heap.push _)[w.heap.size]? = _; simp
 ·intro i hi j hj
  have : i = 0 := by omega
  obtain ⟨t0, t1, t2, t3, t4, t5, t6⟩ := nC_cells O X Y Z
  have hc : j = 0 \/ j = 1 \/ j = 2 \/ j = 3 \/ j = 4 \/ j = 5 \/ j = 6 := by omega
  subst i
  rcases hc with rfl | rfl | rfl | rfl | rfl | rfl | rfl
  ·show _ = some (nC (O, X, Y, Z) 0); rw [t0]; rfl
  ·show _ = some (nC (O, X, Y, Z) 1); rw [t1]; rfl
  ·show _ = some (nC (O, X, Y, Z) 2); rw [t2]; rfl
  ·show _ = some (nC (O, X, Y, Z) 3); rw [t3]; rfl
  ·show _ = some (nC (O, X, Y, Z) 4); rw [t4]; rfl
  ·show _ = some (nC (O, X, Y, Z) 5); rw [t5]; rfl
  ·show _ = some (nC (O, X, Y, Z) 6); rw [t6]; rfl
set_option maxRecDepth 100000 in
theorem rconeq_in (F A I : Int) (oN oG oL oE : Option Addr) (n cN g cG l cL m cE : Nat) (T : Nat -> Int × Int × Int × Nat) (root : Nat) (hn : n <= 1000000) (ho : ordB n T = true) (hr : root < n) (w : World) (hv : Rs w (.slice oN n cN) 7 n (fun i => nC (T i))) :
  Calls Tryz.prog 73 #[.agg #[.int .i64 F, .int .i64 A, .int .i64 I, .slice oN n cN, .slice oG g cG, .slice oL l cL, .slice oE m cE], .int .i64 (root : Int)] w fun e w' => (∃ v, e = .returned v /\ w'.ownsRow w.heap.size 130 3 v (qN (cnT T root) (cnN T root (root + 1))) (rwl 3 (fun i => qC (qF (cnT T root) (cnN T root (root + 1)) i)) (qN (cnT T root) (cnN T root (root + 1))))) /\ Below w.heap.size w w' := by
 have HR : Hid (∀ w', Below w.heap.size w w' -> Rs w' (.slice oN n cN) 7 n (fun i => nC (T i))) := fun w' h => hv.below h
 obtain ⟨ii, hii, hi0, hi1, hi2⟩ := nodeInf
 have HII := (show Hid _ from hii); have HZI := (show Hid _ from And.intro hi0 (And.intro hi1 hi2)); clear hii hi0 hi1 hi2
 obtain ⟨w1, ew1⟩ := lv (w.alloc (.cells #[.int .i64 F, .int .i64 A, .int .i64 I, .slice oN n cN, .slice oG g cG, .slice oL l cL, .slice oE m cE] 27))
 have hb1 : Below w.heap.size w w1 := by rw [ew1]; exact bAlloc (Below.refl _ _) _
 obtain ⟨b2, eb2⟩ := lv (w.heap.size)
 have f1 : w1.heap[b2]? = some (.cells #[.int .i64 F, .int .i64 A, .int .i64 I, .slice oN n cN, .slice oG g cG, .slice oL l cL, .slice oE m cE] 27) := by rw [ew1, eb2]; show (w.heap.push _)[w.heap.size]? = _; simp
 have HF1 : Hid (w1.heap[b2]? = some (.cells #[.int .i64 F, .int .i64 A, .int .i64 I, .slice oN n cN, .slice oG g cG, .slice oL l cL, .slice oE m cE] 27)) := f1
 have HCN : Hid (Calls _ _ _ _ _) := rcone_in n cN oN T root hn w1 (hv.below hb1) ho hr
 have HB1 : Hid (Below w.heap.size w w1) := hb1
 have c3 : w1.cell? ⟨b2, 3, none⟩ = some (.slice oN n cN) := cell_of_block f1 3
 obtain ⟨N, eN⟩ := lv (cnN T root (root + 1))
 have hNn : N <= 1000000 := by rw [eN]; have := cnN_le T root (root + 1); omega
 rw [<- eN] at HCN ⊢
 have HEN : Hid (N = cnN T root (root + 1)) := eN
 have HRN : Hid (root < n) := hr
 clear hv f1 hb1 eN ho hr
 go_enter Tryz.func73, Tryz.ntmps73
 go_upto_region 1 with fail
 rw [<- ew1, <- eb2]
 clear ew1 eb2
 go_wp2_with fail
 refine Calls.mono HCN.out ?_
 rintro e w4 ⟨⟨cv, rfl, hcv⟩, hb4⟩
 obtain ⟨op, cp, rfl, _⟩ := own_shape hcv
 have HB4 : Hid (Below w.heap.size w w4) := bStep HB1.out hb4
 have HF4 : Hid (w4.heap[b2]? = some (.cells #[.int .i64 F, .int .i64 A, .int .i64 I, .slice oN n cN, .slice oG g cG, .slice oL l cL, .slice oE m cE] 27)) := (hb4.block b2 (Array.getElem?_eq_some_iff.1 HF1.out).1).trans HF1.out
 have HPL : Hid (Rs w4 (.slice op N cp) 1 N (fun i _ => .int .i64 (cnF T root (root + 1) i))) := own_Rs hcv
 clear hcv hb4 HCN HF1 HB1 c3
 obtain ⟨B, eB⟩ := lv (w4.heap.size)
 obtain ⟨w5, ew5⟩ := lv (w4.alloc (.cells #[] 64))
 have HO5 : Hid (w5.ownsRow B 64 7 (.slice (some ⟨B, 0, none⟩) 0 0) 0 (rwl 7 (fun i => nC (cnT T root i)) 0)) := by rw [eB, ew5]; exact own_new w4 64 7
 have HB5 : Hid (Below w4.heap.size w4 w5) := by rw [ew5]; exact bAlloc (Below.refl _ _) _
 have HBE : Hid (B = w4.heap.size) := eB
 go_upto_region 3 with fail
 rw [<- ew5, <- eB]
 clear ew5 eB
 go_wp2
 go_loopw [7, 6] (fun iv lv wr => ∃ k : Nat, iv = .int .i64 (k : Int) /\ k <= N /\ Below w4.heap.size w4 wr /\ Hid (wr.ownsRow B 64 7 lv k (rwl 7 (fun i => nC (cnT T root i)) k))) (fun iv _ _ => N - (intOf iv).toNat)
 case atStart => exact ⟨0, rfl, Nat.zero_le _, HB5.out, HO5⟩
 case round =>
  obtain ⟨k, rfl, hk, hbr, HO⟩ := hrel
  obtain ⟨ol, cl, hsh, _⟩ := own_shape HO.out
  subst hsh
  clear HO5 HB5
  by_cases hlt : k < N
  ·have hki : (k : Int) < (N : Int) := by omega
   have hk0 : (0 : Int) <= (k : Int) := by omega
   have hrg := cnF_range T root (root + 1) k (by rw [<- HEN.out]; exact hlt)
   obtain ⟨y, ey⟩ : ∃ y : Nat, cnF T root (root + 1) k = (y : Int) := ⟨(cnF T root (root + 1) k).toNat, by omega⟩
   have hyn : y < n := by have := HRN.out; omega
   have hy0 : (0 : Int) <= (y : Int) := by omega
   have hy1 : (y : Int) < (n : Int) := by omega
   have HTY : Hid (cnT T root k = T y) := by show T (cnF T root (root + 1) k).toNat = T y; rw [ey]; rfl
   obtain ⟨O, X, Y, Z, hE⟩ : ∃ O X Y Z, T y = (O, X, Y, Z) := ⟨_, _, _, _, rfl⟩
   have HE : Hid (T y = (O, X, Y, Z)) := hE
   rcases HPL.out with ⟨_, h0⟩ | ⟨pb, po, c', hv, _, _, lpb, hpc⟩
   ·omega
   cases hv
   have pc := hpc k hlt 0 (by decide)
   dsimp only at pc
   rw [Nat.add_zero, Nat.mul_one, ey] at pc
   rcases HR.out w4 HB4.out with ⟨_, h0⟩ | ⟨nb, no, c2, hv2, _, _, lnb, hnc⟩
   ·omega
   cases hv2
   have ca : ∀ j, j < 7 -> w4.cell? ⟨nb, no + y * 7 + j, none⟩ = some (nC (T y) j) := fun j hj => hnc y hyn j hj
   rw [hE] at ca
   obtain ⟨t0, t1, t2, t3, t4, t5, t6⟩ := nC_cells O X Y Z
   have a0 := ca 0 (by decide); have a1 := ca 1 (by decide); have a2 := ca 2 (by decide); have a3 := ca 3 (by decide); have a4 := ca 4 (by decide); have a5 := ca 5 (by decide); have a6 := ca 6 (by decide)
   rw [t0, Nat.add_zero] at a0; rw [t1] at a1; rw [t2] at a2; rw [t3] at a3; rw [t4] at a4; rw [t5] at a5; rw [t6] at a6
   have s3 : w4.cell? ⟨b2, 3, none⟩ = some (.slice (some ⟨nb, no, none⟩) n cN) := cell_of_block HF4.out 3
   have lb2 : b2 < w4.heap.size := (Array.getElem?_eq_some_iff.1 HF4.out).1
   have HS : Hid (∀ w', Below w4.heap.size w4 w' -> w'.cell? ⟨b2, 3, none⟩ = some (.slice (some ⟨nb, no, none⟩) n cN) /\ w'.cell? ⟨pb, po + k, none⟩ = some (.int .i64 (y : Int)) /\ w'.cell? ⟨nb, no + y * 7, none⟩ = some (.int .i64 O) /\ w'.cell? ⟨nb, no + y * 7 + 1, none⟩ = some (.int .i64 X) /\ w'.cell? ⟨nb, no + y * 7 + 2, none⟩ = some (.int .i64 Y) /\ w'.cell? ⟨nb, no + y * 7 + 3, none⟩ = some (.int .u64 (limb 0 Z)) /\ w'.cell? ⟨nb, no + y * 7 + 4, none⟩ = some (.int .u64 (limb 1 Z)) /\ w'.cell? ⟨nb, no + y * 7 + 5, none⟩ = some (.int .u64 (limb 2 Z)) /\ w'.cell? ⟨nb, no + y * 7 + 6, none⟩ = some (.int .u64 (limb 3 Z))) := fun w' hb => by
    rw [hb.cell (p := ⟨b2, 3, none⟩) lb2, hb.cell (p := ⟨pb, po + k, none⟩) lpb, hb.cell (p := ⟨nb, no + y * 7, none⟩) lnb, hb.cell (p := ⟨nb, no + y * 7 + 1, none⟩) lnb, hb.cell (p := ⟨nb, no + y * 7 + 2, none⟩) lnb, hb.cell (p := ⟨nb, no + y * 7 + 3, none⟩) lnb, hb.cell (p := ⟨nb, no + y * 7 + 4, none⟩) lnb, hb.cell (p := ⟨nb, no + y * 7 + 5, none⟩) lnb, hb.cell (p := ⟨nb, no + y * 7 + 6, none⟩) lnb]
    exact ⟨s3, pc, a0, a1, a2, a3, a4, a5, a6⟩
   have HBR : Hid (Below w4.heap.size w4 wr) := hbr
   clear a0 a1 a2 a3 a4 a5 a6 s3 lb2 pc hpc hnc lpb lnb t0 t1 t2 t3 t4 t5 t6 ca hE ey hrg hbr
   go_upto_region 6 with fail
   refine wp_region_Z (fun w' => Below w4.heap.size w4 w') 12 (by kernel_rfl) ?_
   obtain ⟨wD, hD⟩ := lv (wr.drew)
   rw [<- hD]
   have hp : Below w4.heap.size w4 wD := by rw [hD]; exact HBR.out.drew
   have HOD : Hid (wD.ownsRow B 64 7 (.slice ol k cl) k (rwl 7 (fun i => nC (cnT T root i)) k)) := by rw [hD]; exact own_below HO.out (Below.refl _ _).drew
   clear hD HO HBR
   refine zs 0 19 (.slice ol k cl) hp ?_
   refine zs 1 20 (.pointer (some ⟨b2, 3, none⟩)) hp ?_
   refine zT 2 21 (.slice (some ⟨nb, no, none⟩) n cN) rfl rfl (fun w hSw => by obtain ⟨s3, sc, q0, q1, q2, q3, q4, q5, q6⟩ := HS.out w hSw; go_simp) hp ?_
   refine zs 3 22 (.slice (some ⟨pb, po, none⟩) N cp) hp ?_
   refine zs 4 23 (.int .i64 (k : Int)) hp ?_
   refine zs 5 24 (.pointer (some ⟨pb, po + k, none⟩)) hp ?_
   refine zT 6 25 (.int .i64 (y : Int)) rfl rfl (fun w hSw => by obtain ⟨s3, sc, q0, q1, q2, q3, q4, q5, q6⟩ := HS.out w hSw; go_simp) hp ?_
   refine zs 7 26 (.pointer (some ⟨nb, no + y * 7, none⟩)) hp ?_
   refine zT 8 27 (.agg #[.int .i64 O, .int .i64 X, .int .i64 Y, .int .u64 (limb 0 Z), .int .u64 (limb 1 Z), .int .u64 (limb 2 Z), .int .u64 (limb 3 Z)]) rfl rfl (fun w hSw => by obtain ⟨s3, sc, q0, q1, q2, q3, q4, q5, q6⟩ := HS.out w hSw; go_simp) hp ?_
   refine zo 9 rfl (fun K hK => ?_)
   obtain ⟨b10, eb10⟩ := lv (wD.heap.size)
   obtain ⟨w10, ew10⟩ := lv (wD.alloc (.cells #[.int .i64 O, .int .i64 X, .int .i64 Y, .int .u64 (limb 0 Z), .int .u64 (limb 1 Z), .int .u64 (limb 2 Z), .int .u64 (limb 3 Z)] 64))
   have hb10 : Below wD.heap.size wD w10 := by rw [ew10]; exact bAlloc (Below.refl _ _) _
   have hr10 : Rs w10 (.slice (some ⟨b10, 0, none⟩) 1 1) 7 1 (fun _ => nC (O, X, Y, Z)) := by rw [ew10, eb10]; exact one_Rs7 wD 64 O X Y Z
   have hp10 : Below w4.heap.size w4 w10 := bStep hp hb10
   have ho10 := own_below HOD.out hb10
   go_simp
   rw [<- ew10, <- eb10]
   refine hK.out _ _ (fun _ => hp10) ?_
   clear hK K hp hb10 ew10 eb10 HOD
   refine zo 10 rfl (fun K hK => ?_)
   rw [if_pos (show Region.wanted _ _ = true from rfl)]
   refine wp_appR w10 _ _ 22 rfl B 64 ii (.agg #[.int .i64 0, .int .i64 0, .int .i64 0, .int .u64 0, .int .u64 0, .int .u64 0, .int .u64 0]) 7 56 Tryz.underlying22 HII.out HZI.out.1 HZI.out.2.1 HZI.out.2.2 rfl (by decide) _ k _ rfl ho10 1 _ _ rfl hr10 (fun i _ j _ => nC_one _ j) (by unfold maxLen; omega) (by omega) (by have h1 := hp10.size; have h3 := HBE.out; omega) ?_
   intro v' w11 hown11 hg11 hsep11
   have hp11 : Below w4.heap.size w4 w11 := hp10.grown hg11 hp10.size (fun j hj => by rw [<- HBE.out]; exact own_ge ho10 hj)
   have HNX : Hid (w11.ownsRow B 64 7 v' (k + 1) (rwl 7 (fun i => nC (cnT T root i)) (k + 1))) := by
    rw [rwl_congr (G := fun i => if i < k then (fun i => nC (cnT T root i)) i else nC (O, X, Y, Z)) (fun i hi j _ => by
     dsimp only
     by_cases h : i < k
     ·rw [if_pos h]
     ·rw [if_neg h, show i = k by omega, HTY.out, HE.out])]
    exact hown11
   obtain ⟨ov, cv, rfl, _⟩ := own_shape HNX.out
   simp only [Act.put]
   refine hK.out _ _ (fun _ => hp11) ?_
   clear hK K hown11 hg11 hsep11 ho10 hp10 hr10
   refine zt 11 6 (.slice ov (k + 1) cv) rfl rfl (fun w hSw => by go_simp) hp11 ?_
   (try simp only [Act.put, List.setIfInBounds_toArray])
   (try dsimp only [List.set_cons_zero, List.set_cons_succ])
   refine zd ?_ _
   have HB11 : Hid (Below w4.heap.size w4 w11) := hp11
   clear hp11
   go_wp2
   go_roundw
   case measure => simp [intOf]; omega
   case rel => exact ⟨k + 1, by go_num, hlt, HB11.out, HNX⟩
  ·have hki : ¬ (k : Int) < (N : Int) := by omega
   have ek : k = N := by omega
   subst ek
   have hbw : Below w.heap.size w wr := bStep HB4.out hbr
   have HQQ : Hid (Calls _ _ _ _ _) := rqueries_any k cl ol (cnT T root) hNn wr (own_Rs HO.out)
   have HBW : Hid (Below w.heap.size w wr) := hbw
   clear hbw hbr HO
   go_wp2_with fail
   refine Calls.mono HQQ.out ?_
   rintro e w7 ⟨⟨qv, rfl, hqv⟩, hb7⟩
   obtain ⟨oq, cq, rfl, _⟩ := own_shape hqv
   have HOF : Hid (w7.ownsRow w.heap.size 130 3 (.slice oq (qN (cnT T root) k) cq) (qN (cnT T root) k) (rwl 3 (fun i => qC (qF (cnT T root) k i)) (qN (cnT T root) k))) := own_base hqv HBW.out.size
   have HBF : Hid (Below w.heap.size w w7) := bStep HBW.out hb7
   clear HQQ hqv hb7 HBW
   go_wp2
   go_ret
   exact ⟨⟨_, rfl, HOF.out⟩, HBF.out⟩
theorem flat_iff (T : Nat -> Int × Int × Int × Nat) (root : Nat) : (∀ i, i < (qN (cnT T root) (cnN T root (root + 1))) -> (qF (cnT T root) (cnN T root (root + 1)) i).2.2 = 0) ↔ rowB T root = true := by
 have hm := mem_seen (cnT T root) (cnN T root (root + 1))
 unfold rowB
 rw [decide_eq_true_iff]
 constructor
 ·intro h i hi hq
  obtain ⟨j, hj, e⟩ := (hm (qOf (cnT T root i))).2 ⟨i, hi, hq, rfl⟩
  have h1 := h j hj
  rw [e] at h1
  exact h1
 ·intro h i hi
  obtain ⟨j, hj, hq, e⟩ := (hm (qF (cnT T root) (cnN T root (root + 1)) i)).1 ⟨i, hi, rfl⟩
  rw [<- e]
  exact h j hj hq
set_option maxRecDepth 100000 in
theorem rflat_any (F A I : Int) (oN oG oL oE : Option Addr) (n cN g cG l cL m cE : Nat) (T : Nat -> Int × Int × Int × Nat) (p : Int) (hn : n <= 1000000) (ho : ordB n T = true) (w : World) (hv : Rs w (.slice oN n cN) 7 n (fun i => nC (T i))) :
  Calls Tryz.prog 63 #[.agg #[.int .i64 F, .int .i64 A, .int .i64 I, .slice oN n cN, .slice oG g cG, .slice oL l cL, .slice oE m cE], .int .i64 p] w fun e w' => e = .returned (.bool (flB n T p)) /\ Below w.heap.size w w' := by
 obtain ⟨w1, ew1⟩ := lv (w.alloc (.cells #[.int .i64 F, .int .i64 A, .int .i64 I, .slice oN n cN, .slice oG g cG, .slice oL l cL, .slice oE m cE] 27))
 have hb1 : Below w.heap.size w w1 := by rw [ew1]; exact bAlloc (Below.refl _ _) _
 obtain ⟨b2, eb2⟩ := lv (w.heap.size)
 have f1 : w1.heap[b2]? = some (.cells #[.int .i64 F, .int .i64 A, .int .i64 I, .slice oN n cN, .slice oG g cG, .slice oL l cL, .slice oE m cE] 27) := by rw [ew1, eb2]; show (w.heap.push _)[w.heap.size]? = _; simp
 have HF1 : Hid (w1.heap[b2]? = some (.cells #[.int .i64 F, .int .i64 A, .int .i64 I, .slice oN n cN, .slice oG g cG, .slice oL l cL, .slice oE m cE] 27)) := f1
 have HPL : Hid (Calls _ _ _ _ _) := rplace_any F A I oN oG oL oE n cN g cG l cL m cE p w1
 have HB1 : Hid (Below w.heap.size w w1) := hb1
 have HR : Hid (∀ w', Below w.heap.size w w' -> Rs w' (.slice oN n cN) 7 n (fun i => nC (T i))) := fun w' h => hv.below h
 have HOR : Hid (ordB n T = true) := ho
 obtain ⟨d0, d1, d2, d3, d4, d5, d6⟩ := cells7 f1
 clear hv f1 hb1 ho
 go_enter Tryz.func63, Tryz.ntmps63
 go_upto_region 1 with fail
 rw [<- ew1, <- eb2]
 clear ew1 eb2
 go_wp2_with fail
 refine Calls.mono HPL.out ?_
 rintro e w2 ⟨rfl, hb2⟩
 have HB2 : Hid (Below w.heap.size w w2) := bStep HB1.out hb2
 have f2 := (hb2.block b2 (Array.getElem?_eq_some_iff.1 HF1.out).1).trans HF1.out
 clear d0 d1 d2 d3 d4 d5 d6
 obtain ⟨d0, d1, d2, d3, d4, d5, d6⟩ := cells7 f2
 clear HPL hb2 HF1 HB1 f2
 obtain ⟨pb, epb⟩ := lv (plB n p)
 rw [<- epb]
 cases pb
 ·have HF : Hid (flB n T p = false) := by show flB n T p = false; unfold flB; rw [<- epb, Bool.false_and]
  clear epb
  go_wp2
  go_ret
  exact ⟨by rw [HF.out]; rfl, HB2.out⟩
 have hpp : 0 <= p /\ p < (n : Int) := of_decide_eq_true epb.symm
 obtain ⟨root, rfl⟩ : ∃ root : Nat, p = (root : Int) := ⟨p.toNat, by omega⟩
 have hrn : root < n := by omega
 have HFL : Hid (flB n T (root : Int) = rowB T root) := by show flB n T (root : Int) = _; unfold flB; rw [<- epb, Bool.true_and]; rfl
 have HCQ : Hid (Calls _ _ _ _ _) := rconeq_in F A I oN oG oL oE n cN g cG l cL m cE T root hn HOR.out hrn w2 (HR.out w2 HB2.out)
 obtain ⟨Q, eQ⟩ : ∃ Q, Q = (qN (cnT T root) (cnN T root (root + 1))) := ⟨_, rfl⟩
 rw [<- eQ] at HCQ
 have HEQ : Hid (Q = (qN (cnT T root) (cnN T root (root + 1)))) := eQ
 have hQn : Q <= 1000000 := by rw [eQ]; have h1 := qN_le (cnT T root) (cnN T root (root + 1)); have h2 := cnN_le T root (root + 1); omega
 clear epb hpp eQ hrn
 go_wp2_with fail
 refine Calls.mono HCQ.out ?_
 rintro e w3 ⟨⟨qv, rfl, hqv⟩, hb3⟩
 obtain ⟨oq, cq, rfl, _⟩ := own_shape hqv
 have HQ3 : Hid (Rs w3 (.slice oq Q cq) 3 Q (fun i => qC (qF (cnT T root) (cnN T root (root + 1)) i))) := own_Rs hqv
 have HB3 : Hid (Below w.heap.size w w3) := bStep HB2.out hb3
 clear HCQ hqv hb3 HB2 d0 d1 d2 d3 d4 d5 d6
 go_wp2
 go_loop [6] (fun iv => ∃ j : Nat, iv = .int .i64 (j : Int) /\ j <= Q /\ Hid (∀ i, i < j -> (qF (cnT T root) (cnN T root (root + 1)) i).2.2 = 0)) (fun iv => Q - (intOf iv).toNat)
 case atStart => exact ⟨0, rfl, Nat.zero_le _, fun i hi => by omega⟩
 case round =>
  obtain ⟨j, rfl, hj, HJ⟩ := hrel
  by_cases hjl : j < Q
  ·have hji : (j : Int) < (Q : Int) := by omega
   have hj0 : (0 : Int) <= (j : Int) := by omega
   rcases HQ3.out with ⟨_, h0⟩ | ⟨ub, uo, c', hv, _, _, _, hcell⟩
   ·omega
   cases hv
   have z2 := hcell j hjl 2 (by decide)
   dsimp only at z2
   obtain ⟨y, ey⟩ : ∃ y, y = (qF (cnT T root) (cnN T root (root + 1)) j).2.2 := ⟨_, rfl⟩
   rw [show qC (qF (cnT T root) (cnN T root (root + 1)) j) 2 = .int .i64 (qF (cnT T root) (cnN T root (root + 1)) j).2.2 from rfl, <- ey] at z2
   have HY : Hid (y = (qF (cnT T root) (cnN T root (root + 1)) j).2.2) := ey
   clear hcell ey
   by_cases hy : y = 0
   ·subst hy
    have HJ1 : Hid (∀ i, i < j + 1 -> (qF (cnT T root) (cnN T root (root + 1)) i).2.2 = 0) := fun i hi => by
     rcases Nat.lt_or_ge i j with h | h
     ·exact HJ.out i h
     ·rw [show i = j by omega]; exact HY.out.symm
    go_wp2
    go_round
    case measure => simp [intOf]; omega
    case rel => exact ⟨j + 1, by go_num, hjl, HJ1⟩
   ·have HNO : Hid (flB n T (root : Int) = false) := by
     show flB n T (root : Int) = false
     rw [HFL.out]
     refine Bool.eq_false_iff.mpr (fun h => hy ?_)
     rw [HY.out]
     exact (flat_iff T root).2 h j (by rw [<- HEQ.out]; exact hjl)
    go_wp2
    go_ret
    exact ⟨by rw [HNO.out]; rfl, HB3.out⟩
  ·have hji : ¬ (j : Int) < (Q : Int) := by omega
   have HYES : Hid (flB n T (root : Int) = true) := by
    show flB n T (root : Int) = true
    rw [HFL.out]
    exact (flat_iff T root).1 (fun i hi => HJ.out i (by rw [<- HEQ.out] at hi; omega))
   go_wp2
   go_ret
   exact ⟨by rw [HYES.out]; rfl, HB3.out⟩
end Go.Proofs.YtgkfjpbgdhmhmaaGreatDoor
namespace Go.Proofs.YtgkfjpbgdhmhmaaGreatDoor
open Go.RowKit
theorem dgL_range (D G : Nat -> Int) (g l m : Nat) (ni nt : Nat -> Nat) (In Tb : Nat -> Nat -> Int) (hD : ∀ i, 0 <= D i /\ D i <= 1000) : ∀ i, 0 <= dgL D G g l m ni nt In Tb i /\ dgL D G g l m ni nt In Tb i <= 2002
 | 0 => by
  have h := grt_range D G hD g
  show 0 <= max (if 0 < l \/ 0 < m then 4 else 3) (grt D G g + 1) /\ max (if 0 < l \/ 0 < m then 4 else 3) (grt D G g + 1) <= 2002
  split <;> omega
 | i + 1 => by
  have ih := dgL_range D G g l m ni nt In Tb hD i
  have h1 := grt_range D (In i) hD (ni i)
  have h2 := grt_range D (Tb i) hD (nt i)
  show 0 <= max (dgL D G g l m ni nt In Tb i) (2 + grt D (In i) (ni i) + grt D (Tb i) (nt i)) /\ max (dgL D G g l m ni nt In Tb i) (2 + grt D (In i) (ni i) + grt D (Tb i) (nt i)) <= 2002
  omega
set_option maxRecDepth 100000 in
theorem rdegree_in (F A I : Int) (oN oG oL oE : Option Addr) (n cN g cG l cL m cE : Nat) (f : Nat -> Value × Value) (ni nt : Nat -> Nat) (In Tb : Nat -> Nat -> Int) (T : Nat -> Int × Int × Int × Nat) (G : Nat -> Int) (E : Nat -> Int × Int) (hn : n <= 1000000) (hg : g <= 1000000) (hl : l <= 1000000) (hm : m <= 1000000) (ho : ordB n T = true) (hG : ∀ i, i < g -> 0 <= G i /\ G i < (n : Int))
  (hL : ∀ i, i < l -> nt i = ni i /\ (1 <= ni i /\ ni i <= 4) /\ ∀ j, j < ni i -> (0 <= In i j /\ In i j < (n : Int)) /\ 0 <= Tb i j /\ Tb i j < (n : Int)) (w : World)
  (hc : CirQ w (.slice oN n cN) (.slice oG g cG) (.slice oL l cL) (.slice oE m cE) n T g G l f ni nt In Tb m E) :
  Calls Tryz.prog 64 #[.agg #[.int .i64 F, .int .i64 A, .int .i64 I, .slice oN n cN, .slice oG g cG, .slice oL l cL, .slice oE m cE]] w fun e w' => e = .returned (.int .i64 (dgL (dgs T n) G g l m ni nt In Tb l)) /\ Below w.heap.size w w' := by
 obtain ⟨w1, ew1⟩ := lv (w.alloc (.cells #[.int .i64 F, .int .i64 A, .int .i64 I, .slice oN n cN, .slice oG g cG, .slice oL l cL, .slice oE m cE] 27))
 have hb1 : Below w.heap.size w w1 := by rw [ew1]; exact bAlloc (Below.refl _ _) _
 obtain ⟨b1, eb1⟩ := lv (w.heap.size)
 have f1 : w1.heap[b1]? = some (.cells #[.int .i64 F, .int .i64 A, .int .i64 I, .slice oN n cN, .slice oG g cG, .slice oL l cL, .slice oE m cE] 27) := by rw [ew1, eb1]; show (w.heap.push _)[w.heap.size]? = _; simp
 have HF1 : Hid (w1.heap[b1]? = some (.cells #[.int .i64 F, .int .i64 A, .int .i64 I, .slice oN n cN, .slice oG g cG, .slice oL l cL, .slice oE m cE] 27)) := f1
 have HDC : Hid (Calls _ _ _ _ _) := rdeg_in n cN oN T hn w1 (hc.below hb1).1 ho
 have HB1 : Hid (Below w.heap.size w w1) := hb1
 have HCR : Hid (∀ w', Below w.heap.size w w' -> CirQ w' (.slice oN n cN) (.slice oG g cG) (.slice oL l cL) (.slice oE m cE) n T g G l f ni nt In Tb m E) := fun w' h => hc.below h
 have HGR : Hid (∀ i, i < g -> 0 <= G i /\ G i < (n : Int)) := hG
 have HLR : Hid (∀ i, i < l -> nt i = ni i /\ (1 <= ni i /\ ni i <= 4) /\ ∀ j, j < ni i -> (0 <= In i j /\ In i j < (n : Int)) /\ 0 <= Tb i j /\ Tb i j < (n : Int)) := hL
 obtain ⟨D, eD⟩ := lv (dgs T n)
 have HDR : Hid (∀ i, 0 <= D i /\ D i <= 1000) := by rw [eD]; exact dgs_range T n (of_decide_eq_true ho : ∀ i, i < n -> okN (T i) i = true)
 rw [<- eD] at HDC ⊢
 obtain ⟨d0, d1, d2, d3, d4, d5, d6⟩ := cells7 f1
 clear hc f1 hb1 ho hG hL eD
 go_enter Tryz.func64, Tryz.ntmps64
 go_upto_region 1 with fail
 rw [<- ew1, <- eb1]
 clear ew1 eb1
 go_wp2_with fail
 refine Calls.mono HDC.out ?_
 rintro e w3 ⟨⟨dv, rfl, hdv⟩, hb3⟩
 obtain ⟨od, cd, rfl, _⟩ := own_shape hdv
 have HB3 : Hid (Below w.heap.size w w3) := bStep HB1.out hb3
 have HF3 : Hid (w3.heap[b1]? = some (.cells #[.int .i64 F, .int .i64 A, .int .i64 I, .slice oN n cN, .slice oG g cG, .slice oL l cL, .slice oE m cE] 27)) := (hb3.block b1 (Array.getElem?_eq_some_iff.1 HF1.out).1).trans HF1.out
 have HD3 : Hid (Rs w3 (.slice od n cd) 1 n (fun i _ => .int .i64 (D i))) := own_Rs hdv
 have HG3 : Hid (Zs w3 (.slice oG g cG) g G) := (HCR.out w3 HB3.out).2.1
 have HL3 : Hid (LkQ w3 (.slice oL l cL) l f ni nt In Tb) := (HCR.out w3 HB3.out).2.2.1
 clear HDC hdv hb3 HF1 HB1 HCR d0 d1 d2 d3 d4 d5 d6
 obtain ⟨d0, d1, d2, d3, d4, d5, d6⟩ := cells7 HF3.out
 by_cases hl0 : 0 < l
 ·have hl0i : (0 : Int) < (l : Int) := by omega
  have HBA : Hid ((if 0 < l \/ 0 < m then (4 : Int) else 3) = 4) := if_pos (Or.inl hl0)
  go_wp2
  go_loop [5, 4] (fun iv ov => ∃ (k : Nat) (o : Int), iv = .int .i64 (k : Int) /\ ov = .int .i64 o /\ k <= g /\ Hid (o = max 4 (grt D G k + 1))) (fun iv _ => g - (intOf iv).toNat)
  case atStart => exact ⟨0, 4, rfl, rfl, Nat.zero_le _, show (4 : Int) = max 4 (0 + 1) by decide⟩
  case round =>
   obtain ⟨k, o, rfl, rfl, hk, HOO⟩ := hrel
   have hgr := grt_range D G HDR.out k
   have ho0 : 0 <= o /\ o <= 1001 := by rw [HOO.out]; omega
   by_cases hlt : k < g
   ·have hki : (k : Int) < (g : Int) := by omega
    have hk0 : (0 : Int) <= (k : Int) := by omega
    rcases HG3.out with ⟨_, h0⟩ | ⟨gb, go, c', hv, _, _, _, hcell⟩
    ·omega
    cases hv
    have hgk := HGR.out k hlt
    obtain ⟨p, ep⟩ : ∃ p : Nat, G k = (p : Int) := ⟨(G k).toNat, by omega⟩
    have hp0 : (0 : Int) <= (p : Int) := by omega
    have hp1 : (p : Int) < (n : Int) := by omega
    have gc := hcell k hlt 0 (by decide)
    dsimp only at gc
    rw [Nat.add_zero, Nat.mul_one, ep] at gc
    rcases HD3.out with ⟨_, h0⟩ | ⟨db, dO, c2, hv2, _, _, _, hdc⟩
    ·omega
    cases hv2
    have xc := hdc p (by omega) 0 (by decide)
    dsimp only at xc
    rw [Nat.add_zero, Nat.mul_one] at xc
    obtain ⟨x, ex⟩ := lv (D p)
    rw [<- ex] at xc
    have hx := HDR.out p
    rw [<- ex] at hx
    have hx0 := hx.1; have hx1 := hx.2
    have HGK : Hid (grt D G (k + 1) = max (grt D G k) x) := by show max (grt D G k) (D (G k).toNat) = _; rw [ep, ex]; rfl
    have hw : IntKind.i64.wrap (x + 1) = x + 1 := by simp [IntKind.wrap, IntKind.bits, IntKind.signed]; omega
    have hO1 := ho0.2; have hO0 := ho0.1
    clear hcell hdc hgk ep ex hx hgr ho0
    obtain ⟨d0, d1, d2, d3, d4, d5, d6⟩ := cells7 HF3.out
    by_cases hgt : o < x + 1
    ·have HN : Hid (x + 1 = max 4 (grt D G (k + 1) + 1)) := by show x + 1 = _; rw [HGK.out]; have := HOO.out; omega
     clear HOO HGK
     go_wp2
     go_round
     case measure => simp [intOf]; omega
     case rel => exact ⟨k + 1, x + 1, by go_num, rfl, hlt, HN⟩
    ·have HN : Hid (o = max 4 (grt D G (k + 1) + 1)) := by show o = _; rw [HGK.out]; have := HOO.out; omega
     clear HOO HGK
     go_wp2
     go_round
     case measure => simp [intOf]; omega
     case rel => exact ⟨k + 1, o, by go_num, rfl, hlt, HN⟩
   ·have hki : ¬ (k : Int) < (g : Int) := by omega
    have ek : k = g := by omega
    have HZ : Hid (o = dgL D G g l m ni nt In Tb 0) := by show o = max (if 0 < l \/ 0 < m then 4 else 3) (grt D G g + 1); rw [HOO.out, ek, HBA.out]
    obtain ⟨d0, d1, d2, d3, d4, d5, d6⟩ := cells7 HF3.out
    clear HOO ek hgr ho0
    go_wp2
    go_loop [6, 4] (fun iv ov => ∃ (i : Nat) (o : Int), iv = .int .i64 (i : Int) /\ ov = .int .i64 o /\ i <= l /\ Hid (o = dgL D G g l m ni nt In Tb i)) (fun iv _ => l - (intOf iv).toNat)
    case atStart => exact ⟨0, o, rfl, rfl, Nat.zero_le _, HZ⟩
    case round =>
     obtain ⟨i, o, rfl, rfl, hi, HOO⟩ := hrel
     have hor := dgL_range D G g l m ni nt In Tb HDR.out i
     have ho0 : 0 <= o /\ o <= 2002 := by rw [HOO.out]; exact hor
     have hO1 := ho0.2; have hO0 := ho0.1
     clear hor ho0 HZ
     by_cases hlt : i < l
     ·have hii : (i : Int) < (l : Int) := by omega
      have hi0 : (0 : Int) <= (i : Int) := by omega
      obtain ⟨hM, hMb, hIn⟩ := HLR.out i hlt
      have hlq := HL3.out
      obtain ⟨⟨oi, ci, ei⟩, ot, ct, et⟩ := hlq.shape i hlt
      have hzz := hlq.2 i hlt
      rcases hlq.1 with ⟨_, h0⟩ | ⟨lb, lo, c', hv, _, _, _, hcell⟩
      ·omega
      cases hv
      have a0 := hcell i hlt 0 (by decide); have a1 := hcell i hlt 1 (by decide)
      dsimp only at a0 a1
      rw [show pC (f i) 0 = .slice oi (ni i) ci from ei, Nat.add_zero] at a0
      rw [show pC (f i) 1 = .slice ot (nt i) ct from et] at a1
      rw [ei, et] at hzz
      rw [hM] at a1 hzz
      obtain ⟨M, eM⟩ := lv (ni i)
      rw [<- eM] at a0 a1 hzz hMb hIn
      have HEM : Hid (M = ni i /\ M = nt i) := ⟨eM, by rw [eM, hM]⟩
      have hz1 : Zs w3 (.slice oi M ci) M (In i) := by
       rcases hzz.1 with h | ⟨h, _⟩
       ·exact h
       ·omega
      have hz2 : Zs w3 (.slice ot M ct) M (Tb i) := by
       rcases hzz.2 with h | ⟨h, _⟩
       ·exact h
       ·omega
      rcases hz1 with ⟨_, h0⟩ | ⟨ib, io, c1, hv1, _, _, _, hc1⟩
      ·omega
      cases hv1
      rcases hz2 with ⟨_, h0⟩ | ⟨tb, tO, c2, hv2, _, _, _, hc2⟩
      ·omega
      cases hv2
      have HC1 : Hid (∀ j, j < M -> w3.cell? ⟨ib, io + j, none⟩ = some (.int .i64 (In i j))) := fun j hj => by have h := hc1 j hj 0 (by decide); dsimp only at h; rw [Nat.add_zero, Nat.mul_one] at h; exact h
      have HC2 : Hid (∀ j, j < M -> w3.cell? ⟨tb, tO + j, none⟩ = some (.int .i64 (Tb i j))) := fun j hj => by have h := hc2 j hj 0 (by decide); dsimp only at h; rw [Nat.add_zero, Nat.mul_one] at h; exact h
      have HIN : Hid (∀ j, j < M -> (0 <= In i j /\ In i j < (n : Int)) /\ 0 <= Tb i j /\ Tb i j < (n : Int)) := hIn
      have hM4 := hMb.2
      clear hcell hzz hc1 hc2 hIn hMb hlq ei et eM hM
      go_wp2
      go_loop [9, 7, 8] (fun iv av bv => ∃ (j : Nat) (a b : Int), iv = .int .i64 (j : Int) /\ av = .int .i64 a /\ bv = .int .i64 b /\ j <= M /\ Hid (a = grt D (In i) j /\ b = grt D (Tb i) j)) (fun iv _ _ => M - (intOf iv).toNat)
      case atStart => exact ⟨0, 0, 0, rfl, rfl, rfl, Nat.zero_le _, rfl, rfl⟩
      case round =>
       obtain ⟨j, a, b, rfl, rfl, rfl, hj, HAB⟩ := hrel
       have har := grt_range D (In i) HDR.out j
       have hbr := grt_range D (Tb i) HDR.out j
       rw [<- HAB.out.1] at har
       rw [<- HAB.out.2] at hbr
       have hA0 := har.1; have hA1 := har.2; have hB0 := hbr.1; have hB1 := hbr.2
       clear har hbr
       by_cases hjl : j < M
       ·have hji : (j : Int) < (M : Int) := by omega
        have hj0 : (0 : Int) <= (j : Int) := by omega
        have hin := HIN.out j hjl
        obtain ⟨p, ep⟩ : ∃ p : Nat, In i j = (p : Int) := ⟨(In i j).toNat, by omega⟩
        obtain ⟨q, eq⟩ : ∃ q : Nat, Tb i j = (q : Int) := ⟨(Tb i j).toNat, by omega⟩
        have hp0 : (0 : Int) <= (p : Int) := by omega
        have hp1 : (p : Int) < (n : Int) := by omega
        have hq0 : (0 : Int) <= (q : Int) := by omega
        have hq1 : (q : Int) < (n : Int) := by omega
        have pc := HC1.out j hjl
        have qc := HC2.out j hjl
        rw [ep] at pc
        rw [eq] at qc
        rcases HD3.out with ⟨_, h0⟩ | ⟨db, dO, c2, hv2, _, _, _, hdc⟩
        ·omega
        cases hv2
        have xc := hdc p (by omega) 0 (by decide)
        have yc := hdc q (by omega) 0 (by decide)
        dsimp only at xc yc
        rw [Nat.add_zero, Nat.mul_one] at xc yc
        obtain ⟨x, ex⟩ := lv (D p)
        obtain ⟨y, ey⟩ := lv (D q)
        rw [<- ex] at xc
        rw [<- ey] at yc
        have HGI : Hid (grt D (In i) (j + 1) = max a x) := by show max (grt D (In i) j) (D (In i j).toNat) = _; rw [ep, ex, HAB.out.1]; rfl
        have HGT : Hid (grt D (Tb i) (j + 1) = max b y) := by show max (grt D (Tb i) j) (D (Tb i j).toNat) = _; rw [eq, ey, HAB.out.2]; rfl
        clear hdc hin ep eq ex ey HAB
        by_cases hax : a < x
        ·by_cases hby : b < y
         ·have HN : Hid (x = grt D (In i) (j + 1) /\ y = grt D (Tb i) (j + 1)) := ⟨by rw [HGI.out]; omega, by rw [HGT.out]; omega⟩
          go_wp2
          go_round
          case measure => simp [intOf]; omega
          case rel => exact ⟨j + 1, x, y, by go_num, rfl, rfl, hjl, HN⟩
         ·have HN : Hid (x = grt D (In i) (j + 1) /\ b = grt D (Tb i) (j + 1)) := ⟨by rw [HGI.out]; omega, by rw [HGT.out]; omega⟩
          go_wp2
          go_round
          case measure => simp [intOf]; omega
          case rel => exact ⟨j + 1, x, b, by go_num, rfl, rfl, hjl, HN⟩
        ·by_cases hby : b < y
         ·have HN : Hid (a = grt D (In i) (j + 1) /\ y = grt D (Tb i) (j + 1)) := ⟨by rw [HGI.out]; omega, by rw [HGT.out]; omega⟩
          go_wp2
          go_round
          case measure => simp [intOf]; omega
          case rel => exact ⟨j + 1, a, y, by go_num, rfl, rfl, hjl, HN⟩
         ·have HN : Hid (a = grt D (In i) (j + 1) /\ b = grt D (Tb i) (j + 1)) := ⟨by rw [HGI.out]; omega, by rw [HGT.out]; omega⟩
          go_wp2
          go_round
          case measure => simp [intOf]; omega
          case rel => exact ⟨j + 1, a, b, by go_num, rfl, rfl, hjl, HN⟩
       ·have hji : ¬ (j : Int) < (M : Int) := by omega
        have ejM : j = M := by omega
        have HST : Hid (dgL D G g l m ni nt In Tb (i + 1) = max o (2 + a + b)) := by
         show max (dgL D G g l m ni nt In Tb i) (2 + grt D (In i) (ni i) + grt D (Tb i) (nt i)) = _
         rw [<- HOO.out, HAB.out.1, HAB.out.2, <- HEM.out.1, <- HEM.out.2, ejM]
        have hw1 : IntKind.i64.wrap (2 + a) = 2 + a := by simp [IntKind.wrap, IntKind.bits, IntKind.signed]; omega
        have hw2 : IntKind.i64.wrap (2 + a + b) = 2 + a + b := by simp [IntKind.wrap, IntKind.bits, IntKind.signed]; omega
        clear ejM HAB HOO
        by_cases hgt : o < 2 + a + b
        ·have HN : Hid (2 + a + b = dgL D G g l m ni nt In Tb (i + 1)) := by show 2 + a + b = _; rw [HST.out]; omega
         go_wp2
         go_round
         case measure => simp [intOf]; omega
         case rel => exact ⟨i + 1, 2 + a + b, by go_num, rfl, hlt, HN⟩
        ·have HN : Hid (o = dgL D G g l m ni nt In Tb (i + 1)) := by show o = _; rw [HST.out]; omega
         go_wp2
         go_round
         case measure => simp [intOf]; omega
         case rel => exact ⟨i + 1, o, by go_num, rfl, hlt, HN⟩
     ·have hii : ¬ (i : Int) < (l : Int) := by omega
      have ei : i = l := by omega
      have HFN : Hid (o = dgL D G g l m ni nt In Tb l) := by have h := HOO.out; rw [ei] at h; exact h
      clear ei HOO
      go_wp2
      go_ret
      exact ⟨by rw [<- HFN.out]; rfl, HB3.out⟩
 have hl0i : ¬ (0 : Int) < (l : Int) := by omega
 have hl0d : decide ((0 : Int) < (l : Int)) = false := decide_eq_false hl0i
 by_cases hm0 : 0 < m
 ·have hm0i : (0 : Int) < (m : Int) := by omega
  have HBA : Hid ((if 0 < l \/ 0 < m then (4 : Int) else 3) = 4) := if_pos (Or.inr hm0)
  go_wp2
  go_loop [5, 4] (fun iv ov => ∃ (k : Nat) (o : Int), iv = .int .i64 (k : Int) /\ ov = .int .i64 o /\ k <= g /\ Hid (o = max 4 (grt D G k + 1))) (fun iv _ => g - (intOf iv).toNat)
  case atStart => exact ⟨0, 4, rfl, rfl, Nat.zero_le _, show (4 : Int) = max 4 (0 + 1) by decide⟩
  case round =>
   obtain ⟨k, o, rfl, rfl, hk, HOO⟩ := hrel
   have hgr := grt_range D G HDR.out k
   have ho0 : 0 <= o /\ o <= 1001 := by rw [HOO.out]; omega
   by_cases hlt : k < g
   ·have hki : (k : Int) < (g : Int) := by omega
    have hk0 : (0 : Int) <= (k : Int) := by omega
    rcases HG3.out with ⟨_, h0⟩ | ⟨gb, go, c', hv, _, _, _, hcell⟩
    ·omega
    cases hv
    have hgk := HGR.out k hlt
    obtain ⟨p, ep⟩ : ∃ p : Nat, G k = (p : Int) := ⟨(G k).toNat, by omega⟩
    have hp0 : (0 : Int) <= (p : Int) := by omega
    have hp1 : (p : Int) < (n : Int) := by omega
    have gc := hcell k hlt 0 (by decide)
    dsimp only at gc
    rw [Nat.add_zero, Nat.mul_one, ep] at gc
    rcases HD3.out with ⟨_, h0⟩ | ⟨db, dO, c2, hv2, _, _, _, hdc⟩
    ·omega
    cases hv2
    have xc := hdc p (by omega) 0 (by decide)
    dsimp only at xc
    rw [Nat.add_zero, Nat.mul_one] at xc
    obtain ⟨x, ex⟩ := lv (D p)
    rw [<- ex] at xc
    have hx := HDR.out p
    rw [<- ex] at hx
    have hx0 := hx.1; have hx1 := hx.2
    have HGK : Hid (grt D G (k + 1) = max (grt D G k) x) := by show max (grt D G k) (D (G k).toNat) = _; rw [ep, ex]; rfl
    have hw : IntKind.i64.wrap (x + 1) = x + 1 := by simp [IntKind.wrap, IntKind.bits, IntKind.signed]; omega
    have hO1 := ho0.2; have hO0 := ho0.1
    clear hcell hdc hgk ep ex hx hgr ho0
    obtain ⟨d0, d1, d2, d3, d4, d5, d6⟩ := cells7 HF3.out
    by_cases hgt : o < x + 1
    ·have HN : Hid (x + 1 = max 4 (grt D G (k + 1) + 1)) := by show x + 1 = _; rw [HGK.out]; have := HOO.out; omega
     clear HOO HGK
     go_wp2
     go_round
     case measure => simp [intOf]; omega
     case rel => exact ⟨k + 1, x + 1, by go_num, rfl, hlt, HN⟩
    ·have HN : Hid (o = max 4 (grt D G (k + 1) + 1)) := by show o = _; rw [HGK.out]; have := HOO.out; omega
     clear HOO HGK
     go_wp2
     go_round
     case measure => simp [intOf]; omega
     case rel => exact ⟨k + 1, o, by go_num, rfl, hlt, HN⟩
   ·have hki : ¬ (k : Int) < (g : Int) := by omega
    have ek : k = g := by omega
    have HZ : Hid (o = dgL D G g l m ni nt In Tb 0) := by show o = max (if 0 < l \/ 0 < m then 4 else 3) (grt D G g + 1); rw [HOO.out, ek, HBA.out]
    obtain ⟨d0, d1, d2, d3, d4, d5, d6⟩ := cells7 HF3.out
    clear HOO ek hgr ho0
    go_wp2
    go_loop [6, 4] (fun iv ov => ∃ (i : Nat) (o : Int), iv = .int .i64 (i : Int) /\ ov = .int .i64 o /\ i <= l /\ Hid (o = dgL D G g l m ni nt In Tb i)) (fun iv _ => l - (intOf iv).toNat)
    case atStart => exact ⟨0, o, rfl, rfl, Nat.zero_le _, HZ⟩
    case round =>
     obtain ⟨i, o, rfl, rfl, hi, HOO⟩ := hrel
     have hor := dgL_range D G g l m ni nt In Tb HDR.out i
     have ho0 : 0 <= o /\ o <= 2002 := by rw [HOO.out]; exact hor
     have hO1 := ho0.2; have hO0 := ho0.1
     clear hor ho0 HZ
     by_cases hlt : i < l
     ·omega
     ·have hii : ¬ (i : Int) < (l : Int) := by omega
      have ei : i = l := by omega
      have HFN : Hid (o = dgL D G g l m ni nt In Tb l) := by have h := HOO.out; rw [ei] at h; exact h
      clear ei HOO
      go_wp2
      go_ret
      exact ⟨by rw [<- HFN.out]; rfl, HB3.out⟩
 have hm0i : ¬ (0 : Int) < (m : Int) := by omega
 have hm0d : decide ((0 : Int) < (m : Int)) = false := decide_eq_false hm0i
 have HBA : Hid ((if 0 < l \/ 0 < m then (4 : Int) else 3) = 3) := if_neg (by omega)
 go_wp2
 go_loop [5, 4] (fun iv ov => ∃ (k : Nat) (o : Int), iv = .int .i64 (k : Int) /\ ov = .int .i64 o /\ k <= g /\ Hid (o = max 3 (grt D G k + 1))) (fun iv _ => g - (intOf iv).toNat)
 case atStart => exact ⟨0, 3, rfl, rfl, Nat.zero_le _, show (3 : Int) = max 3 (0 + 1) by decide⟩
 case round =>
  obtain ⟨k, o, rfl, rfl, hk, HOO⟩ := hrel
  have hgr := grt_range D G HDR.out k
  have ho0 : 0 <= o /\ o <= 1001 := by rw [HOO.out]; omega
  by_cases hlt : k < g
  ·have hki : (k : Int) < (g : Int) := by omega
   have hk0 : (0 : Int) <= (k : Int) := by omega
   rcases HG3.out with ⟨_, h0⟩ | ⟨gb, go, c', hv, _, _, _, hcell⟩
   ·omega
   cases hv
   have hgk := HGR.out k hlt
   obtain ⟨p, ep⟩ : ∃ p : Nat, G k = (p : Int) := ⟨(G k).toNat, by omega⟩
   have hp0 : (0 : Int) <= (p : Int) := by omega
   have hp1 : (p : Int) < (n : Int) := by omega
   have gc := hcell k hlt 0 (by decide)
   dsimp only at gc
   rw [Nat.add_zero, Nat.mul_one, ep] at gc
   rcases HD3.out with ⟨_, h0⟩ | ⟨db, dO, c2, hv2, _, _, _, hdc⟩
   ·omega
   cases hv2
   have xc := hdc p (by omega) 0 (by decide)
   dsimp only at xc
   rw [Nat.add_zero, Nat.mul_one] at xc
   obtain ⟨x, ex⟩ := lv (D p)
   rw [<- ex] at xc
   have hx := HDR.out p
   rw [<- ex] at hx
   have hx0 := hx.1; have hx1 := hx.2
   have HGK : Hid (grt D G (k + 1) = max (grt D G k) x) := by show max (grt D G k) (D (G k).toNat) = _; rw [ep, ex]; rfl
   have hw : IntKind.i64.wrap (x + 1) = x + 1 := by simp [IntKind.wrap, IntKind.bits, IntKind.signed]; omega
   have hO1 := ho0.2; have hO0 := ho0.1
   clear hcell hdc hgk ep ex hx hgr ho0
   obtain ⟨d0, d1, d2, d3, d4, d5, d6⟩ := cells7 HF3.out
   by_cases hgt : o < x + 1
   ·have HN : Hid (x + 1 = max 3 (grt D G (k + 1) + 1)) := by show x + 1 = _; rw [HGK.out]; have := HOO.out; omega
    clear HOO HGK
    go_wp2
    go_round
    case measure => simp [intOf]; omega
    case rel => exact ⟨k + 1, x + 1, by go_num, rfl, hlt, HN⟩
   ·have HN : Hid (o = max 3 (grt D G (k + 1) + 1)) := by show o = _; rw [HGK.out]; have := HOO.out; omega
    clear HOO HGK
    go_wp2
    go_round
    case measure => simp [intOf]; omega
    case rel => exact ⟨k + 1, o, by go_num, rfl, hlt, HN⟩
  ·have hki : ¬ (k : Int) < (g : Int) := by omega
   have ek : k = g := by omega
   have HZ : Hid (o = dgL D G g l m ni nt In Tb 0) := by show o = max (if 0 < l \/ 0 < m then 4 else 3) (grt D G g + 1); rw [HOO.out, ek, HBA.out]
   obtain ⟨d0, d1, d2, d3, d4, d5, d6⟩ := cells7 HF3.out
   clear HOO ek hgr ho0
   go_wp2
   go_loop [6, 4] (fun iv ov => ∃ (i : Nat) (o : Int), iv = .int .i64 (i : Int) /\ ov = .int .i64 o /\ i <= l /\ Hid (o = dgL D G g l m ni nt In Tb i)) (fun iv _ => l - (intOf iv).toNat)
   case atStart => exact ⟨0, o, rfl, rfl, Nat.zero_le _, HZ⟩
   case round =>
    obtain ⟨i, o, rfl, rfl, hi, HOO⟩ := hrel
    have hor := dgL_range D G g l m ni nt In Tb HDR.out i
    have ho0 : 0 <= o /\ o <= 2002 := by rw [HOO.out]; exact hor
    have hO1 := ho0.2; have hO0 := ho0.1
    clear hor ho0 HZ
    by_cases hlt : i < l
    ·omega
    ·have hii : ¬ (i : Int) < (l : Int) := by omega
     have ei : i = l := by omega
     have HFN : Hid (o = dgL D G g l m ni nt In Tb l) := by have h := HOO.out; rw [ei] at h; exact h
     clear ei HOO
     go_wp2
     go_ret
     exact ⟨by rw [<- HFN.out]; rfl, HB3.out⟩
end Go.Proofs.YtgkfjpbgdhmhmaaGreatDoor
