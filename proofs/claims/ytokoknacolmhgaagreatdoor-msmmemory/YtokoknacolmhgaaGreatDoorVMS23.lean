import Derived.Test.YtokoknacolmhgaaGreatDoorVSL
import Derived.Test.YtokoknacolmhgaaGreatDoorVMS19
set_option maxHeartbeats 8000000
namespace Go.Proofs.YtokoknacolmhgaaGreatDoor
open Go.RowKit
set_option maxRecDepth 20000 in
theorem mmem_in (c n cn : Nat) (oa : Option Addr) (T : Nat → Nat × Nat × Nat × Bool) (hc : c < 4) (hn : n ≤ 60) (hT : ∀ i, i < n → (T i).1 < 115792089237316195423570985008687907853269984665640564039457584007913129639936 ∧ (T i).2.1 < 115792089237316195423570985008687907853269984665640564039457584007913129639936 ∧ (T i).2.2.1 < 115792089237316195423570985008687907853269984665640564039457584007913129639936) (w : World) (hg : GlobC w) (hv : Rs w (.slice oa n cn) 13 n (fun i => tC (T i))) :
  Calls Tryz.prog 7 #[.int .i64 (c : Int), .slice oa n cn] w fun e w' => e = .returned (.bool true) ∧ Below w.heap.size w w' := by
 have HG0 : Hid (GlobC w) := hg
 have HT := (show Hid _ from hT)
 have h60 : ¬ (60 : Int) < (n : Int) := by omega
 have hc0 : ¬ (c : Int) < 0 := by omega
 have hc3 : ¬ (3 : Int) < (c : Int) := by omega
 have HCC : Hid (c < 4) := hc
 have HV0 : Hid (Rs w (.slice oa n cn) 13 n (fun i => tC (T i))) := hv
 obtain ⟨i0, hi, hz0, hz1, hz2⟩ := termInfo
 have HI := (show Hid _ from hi); have HZ := (show Hid _ from And.intro hz0 (And.intro hz1 hz2)); clear hi hz0 hz1 hz2
 clear hT hg hv hc
 go_enter Tryz.func7, Tryz.ntmps7
 go_wp2_with fail
 refine (alive5_any _ HG0.out).mono ?_
 rintro e w1 ⟨rfl, hb1⟩
 have HG1 : Hid (GlobC w1) := HG0.out.below hb1
 go_wp2_with fail
 refine (new_in c HCC.out _ HG1.out).mono ?_
 rintro e w2 ⟨B, rfl, hL2, lB, hb2⟩
 have hbw2 := bStep hb1 hb2
 have HV : Hid (Rs w2 (.slice oa n cn) 13 n (fun i => tC (T i)) ∧ True) := ⟨HV0.out.below hbw2, trivial⟩
 have HWB : Hid (w.heap.size ≤ B) := Nat.le_trans hb1.size lB
 have H3 : Hid (3 ≤ B) := Nat.le_trans HG0.out.1.1 HWB.out
 have HG2 : Hid (GlobC w2) := HG0.out.below hbw2
 have EQN : ∀ w, (binOp .eql 36 (.pointer (some ⟨B, 0, none⟩)) (.pointer none)).run Tryz.prog w = .ok (.bool false) w := fun w => by kernel_rfl
 clear hb1 hb2 lB HG1 HV
 have HV : Hid (Rs w (.slice oa n cn) 13 n (fun i => tC (T i))) := HV0.out
 have HBW : Hid (Below w.heap.size w w2) := hbw2
 clear hbw2 HV0
 go_wp2
 go_loopw [7] (fun iv wr => ∃ (k q : Nat) (v : Value) (U : Nat → Nat × Nat × Nat × Bool), iv = .int .i64 (k : Int) ∧ k ≤ n ∧ Hid (q ≤ k ∧ (∀ i, i < q → (U i).1 < 115792089237316195423570985008687907853269984665640564039457584007913129639936 ∧ (U i).2.1 < 115792089237316195423570985008687907853269984665640564039457584007913129639936 ∧ (U i).2.2.1 < 115792089237316195423570985008687907853269984665640564039457584007913129639936) ∧ wr.ownsRow (B + 1) 43 13 v q (trs U q) ∧ v.ownBlock ≠ some B) ∧ Below B w2 wr ∧ Lz wr B c v) (fun iv _ => n - (intOf iv).toNat)
 case atStart => exact ⟨0, 0, _, fun _ => (0, 0, 0, false), rfl, by omega, ⟨Nat.le_refl _, fun i hi => by omega, ⟨rfl, Or.inl ⟨rfl, rfl⟩⟩, fun h => by cases h⟩, Below.refl _ _, hL2⟩
 case round =>
  obtain ⟨k, q, v, U, rfl, hk, HU, hbr0, hL⟩ := hrel
  clear hL2
  have hbr : Below w.heap.size w wr := HBW.out.trans (belowLe hbr0 HWB.out)
  by_cases hlt : k < n
  ·have hki : (k : Int) < (n : Int) := by omega
   obtain ⟨ab, ao, rfl, lab, hcell⟩ := HV.out.at hlt
   have hTE : ∃ KK X Y I, T k = (KK, X, Y, I) := ⟨_, _, _, _, rfl⟩
   obtain ⟨KK, X, Y, I, hE⟩ := hTE
   have HXY : Hid ((T k).1 < 115792089237316195423570985008687907853269984665640564039457584007913129639936 ∧ (T k).2.1 < 115792089237316195423570985008687907853269984665640564039457584007913129639936 ∧ (T k).2.2.1 < 115792089237316195423570985008687907853269984665640564039457584007913129639936) := HT.out k hlt
   have labB : ab < B := Nat.lt_of_lt_of_le lab HWB.out
   have ca : ∀ j, j < 13 → wr.cell? ⟨ab, ao + k * 13 + j, none⟩ = some (tC (T k) j) := fun j hj => by rw [hbr.cell (p := ⟨ab, ao + k * 13 + j, none⟩) lab]; exact hcell j hj
   rw [hE] at ca HXY
   have HE := (show Hid _ from hE)
   clear hE hcell
   obtain ⟨t0, t1, t2, t3, t4, t5, t6, t7, t8, t9, t10, t11, t12⟩ := tC_cells KK X Y I
   have a0 := ca 0 (by decide)
   rw [t0] at a0
   have a1 := ca 1 (by decide)
   rw [t1] at a1
   have a2 := ca 2 (by decide)
   rw [t2] at a2
   have a3 := ca 3 (by decide)
   rw [t3] at a3
   have a4 := ca 4 (by decide)
   rw [t4] at a4
   have a5 := ca 5 (by decide)
   rw [t5] at a5
   have a6 := ca 6 (by decide)
   rw [t6] at a6
   have a7 := ca 7 (by decide)
   rw [t7] at a7
   have a8 := ca 8 (by decide)
   rw [t8] at a8
   have a9 := ca 9 (by decide)
   rw [t9] at a9
   have a10 := ca 10 (by decide)
   rw [t10] at a10
   have a11 := ca 11 (by decide)
   rw [t11] at a11
   have a12 := ca 12 (by decide)
   rw [t12] at a12
   clear ca t0 t1 t2 t3 t4 t5 t6 t7 t8 t9 t10 t11 t12
   rw [Nat.add_zero] at a0
   have HC : Hid (∀ w', Below B wr w' → w'.cell? ⟨ab, ao + k * 13, none⟩ = some (.int .u64 (limb 0 KK)) ∧ w'.cell? ⟨ab, ao + k * 13 + 1, none⟩ = some (.int .u64 (limb 1 KK)) ∧ w'.cell? ⟨ab, ao + k * 13 + 2, none⟩ = some (.int .u64 (limb 2 KK)) ∧ w'.cell? ⟨ab, ao + k * 13 + 3, none⟩ = some (.int .u64 (limb 3 KK)) ∧ w'.cell? ⟨ab, ao + k * 13 + 4, none⟩ = some (.int .u64 (limb 0 X)) ∧ w'.cell? ⟨ab, ao + k * 13 + 5, none⟩ = some (.int .u64 (limb 1 X)) ∧ w'.cell? ⟨ab, ao + k * 13 + 6, none⟩ = some (.int .u64 (limb 2 X)) ∧ w'.cell? ⟨ab, ao + k * 13 + 7, none⟩ = some (.int .u64 (limb 3 X)) ∧ w'.cell? ⟨ab, ao + k * 13 + 8, none⟩ = some (.int .u64 (limb 0 Y)) ∧ w'.cell? ⟨ab, ao + k * 13 + 9, none⟩ = some (.int .u64 (limb 1 Y)) ∧ w'.cell? ⟨ab, ao + k * 13 + 10, none⟩ = some (.int .u64 (limb 2 Y)) ∧ w'.cell? ⟨ab, ao + k * 13 + 11, none⟩ = some (.int .u64 (limb 3 Y)) ∧ w'.cell? ⟨ab, ao + k * 13 + 12, none⟩ = some (.bool I)) := cells_keepM labB a0 a1 a2 a3 a4 a5 a6 a7 a8 a9 a10 a11 a12
   clear a0 a1 a2 a3 a4 a5 a6 a7 a8 a9 a10 a11 a12
   have HGr : Hid (GlobC wr) := HG2.out.belowM hbr0 H3.out
   have HLB : Hid (B < wr.drew.heap.size ∧ ∀ j, v.ownBlock = some j → B < j) := ⟨hL.lt, own_gt HU.out.2.2.1⟩
   have HBsz : Hid (∀ w', Below B wr w' → B ≤ w'.heap.size) := fun w' h => Nat.le_trans (Nat.le_of_lt hL.lt) h.size
   by_cases hon : onC c X Y I
   ·have HADD : Hid (∀ w', Below B wr w' → Calls Tryz.prog 16 #[.pointer (some ⟨B, 0, none⟩), .agg #[.int .u64 (limb 0 KK), .int .u64 (limb 1 KK), .int .u64 (limb 2 KK), .int .u64 (limb 3 KK)], .agg #[.int .u64 (limb 0 X), .int .u64 (limb 1 X), .int .u64 (limb 2 X), .int .u64 (limb 3 X), .int .u64 (limb 0 Y), .int .u64 (limb 1 Y), .int .u64 (limb 2 Y), .int .u64 (limb 3 Y), .bool I]] wr.drew fun e w' => (∃ v', e = .returned (.int .i64 0) ∧ Lz w' B c v' ∧ w'.ownsRow (B + 1) 43 13 v' (q + 1) (trs (put U q (KK % modN (xc c), X, Y, I)) (q + 1)) ∧ v'.ownBlock ≠ some B) ∧ But wr.drew w' B v.ownBlock) := fun _ _ => add_ok B c (xc c) KK X Y q (B + 1) I v U HCC.out (xor_c c HCC.out) (xc_lt HCC.out) HXY.out.1 HXY.out.2.1 HXY.out.2.2 hon (by have := HU.out.1; omega) wr.drew (HGr.out.belowM (Below.refl _ _).drew H3.out) hL.drew HU.out.2.2.1 hL.lt HU.out.2.2.2
    clear hon
    go_upto_region 11 with fail
    refine wp_region_Z (fun w' => Below B wr w') 99 (by kernel_rfl) ?_
    have hp0_0 : Below B wr wr.drew := (Below.refl _ _).drew
    have hlow0 : Below wr.heap.size wr wr.drew := (Below.refl _ _).drew
    refine zs 0 37 (.pointer (some ⟨B, 0, none⟩)) hp0_0 ?_
    refine zs 1 38 (.slice (some ⟨ab, ao, none⟩) n cn) hp0_0 ?_
    refine zs 2 39 (.int .i64 (k : Int)) hp0_0 ?_
    refine zs 3 40 (.pointer (some ⟨ab, ao + k * 13, none⟩)) hp0_0 ?_
    refine zs 4 41 (.pointer (some ⟨ab, ao + k * 13, none⟩)) hp0_0 ?_
    refine zT 5 42 (.agg #[.int .u64 (limb 0 KK), .int .u64 (limb 1 KK), .int .u64 (limb 2 KK), .int .u64 (limb 3 KK)]) rfl rfl (fun w hSw => by (obtain ⟨a0, a1, a2, a3, a4, a5, a6, a7, a8, a9, a10, a11, a12⟩ := HC.out _ hSw; clear hSw; go_simp)) hp0_0 ?_
    refine zs 6 43 (.slice (some ⟨ab, ao, none⟩) n cn) hp0_0 ?_
    refine zs 7 44 (.int .i64 (k : Int)) hp0_0 ?_
    refine zs 8 45 (.pointer (some ⟨ab, ao + k * 13, none⟩)) hp0_0 ?_
    refine zs 9 46 (.pointer (some ⟨ab, ao + k * 13 + 4, none⟩)) hp0_0 ?_
    refine zT 10 47 (.agg #[.int .u64 (limb 0 X), .int .u64 (limb 1 X), .int .u64 (limb 2 X), .int .u64 (limb 3 X), .int .u64 (limb 0 Y), .int .u64 (limb 1 Y), .int .u64 (limb 2 Y), .int .u64 (limb 3 Y), .bool I]) rfl rfl (fun w hSw => by (obtain ⟨a0, a1, a2, a3, a4, a5, a6, a7, a8, a9, a10, a11, a12⟩ := HC.out _ hSw; clear hSw; go_simp)) hp0_0 ?_
    refine zo 11 rfl (fun K hK => ?_)
    go_simp
    refine (HADD.out _ hp0_0).mono ?_
    rintro e wA ⟨⟨v', rfl, hLA, hoA, hvA⟩, hbA⟩
    have hSA : Below B wr wA := hp0_0.trans (hbA.below HLB.out)
    go_wp2_with fail
    refine hK.out _ _ (fun _ => hSA) ?_
    clear hK K
    refine zd ?_ _
    have HUA : Hid (q + 1 ≤ k + 1 ∧ (∀ i, i < q + 1 → (put U q (KK % modN (xc c), X, Y, I) i).1 < 115792089237316195423570985008687907853269984665640564039457584007913129639936 ∧ (put U q (KK % modN (xc c), X, Y, I) i).2.1 < 115792089237316195423570985008687907853269984665640564039457584007913129639936 ∧ (put U q (KK % modN (xc c), X, Y, I) i).2.2.1 < 115792089237316195423570985008687907853269984665640564039457584007913129639936) ∧ wA.ownsRow (B + 1) 43 13 v' (q + 1) (trs (put U q (KK % modN (xc c), X, Y, I)) (q + 1)) ∧ v'.ownBlock ≠ some B) := ⟨by have := HU.out.1; omega, fun i hi => by
     unfold put
     split
     ·exact HU.out.2.1 i (by assumption)
     ·exact ⟨lt_M (xc c) _ (Nat.mod_lt _ (modN_pos _)), HXY.out.2.1, HXY.out.2.2⟩, hoA, hvA⟩
    clear hoA hvA hbA
    go_wp2
    go_roundw
    case measure => simp [intOf]; omega
    case rel => exact ⟨k + 1, q + 1, v', _, by go_num, by omega, HUA, hbr0.trans hSA, hLA⟩
   ·have HADD : Hid (∀ w', Below B wr w' → Calls Tryz.prog 16 #[.pointer (some ⟨B, 0, none⟩), .agg #[.int .u64 (limb 0 KK), .int .u64 (limb 1 KK), .int .u64 (limb 2 KK), .int .u64 (limb 3 KK)], .agg #[.int .u64 (limb 0 X), .int .u64 (limb 1 X), .int .u64 (limb 2 X), .int .u64 (limb 3 X), .int .u64 (limb 0 Y), .int .u64 (limb 1 Y), .int .u64 (limb 2 Y), .int .u64 (limb 3 Y), .bool I]] wr.drew fun e w' => e = .returned (.int .i64 41) ∧ Below wr.drew.heap.size wr.drew w') := fun _ _ => add_bad B c KK X Y I v HCC.out HXY.out.2.1 HXY.out.2.2 hon wr.drew (HGr.out.belowM (Below.refl _ _).drew H3.out) hL.drew
    clear hon
    go_upto_region 11 with fail
    refine wp_region_Z (fun w' => Below B wr w') 99 (by kernel_rfl) ?_
    have hp0_0 : Below B wr wr.drew := (Below.refl _ _).drew
    have hlow0 : Below wr.heap.size wr wr.drew := (Below.refl _ _).drew
    refine zs 0 37 (.pointer (some ⟨B, 0, none⟩)) hp0_0 ?_
    refine zs 1 38 (.slice (some ⟨ab, ao, none⟩) n cn) hp0_0 ?_
    refine zs 2 39 (.int .i64 (k : Int)) hp0_0 ?_
    refine zs 3 40 (.pointer (some ⟨ab, ao + k * 13, none⟩)) hp0_0 ?_
    refine zs 4 41 (.pointer (some ⟨ab, ao + k * 13, none⟩)) hp0_0 ?_
    refine zT 5 42 (.agg #[.int .u64 (limb 0 KK), .int .u64 (limb 1 KK), .int .u64 (limb 2 KK), .int .u64 (limb 3 KK)]) rfl rfl (fun w hSw => by (obtain ⟨a0, a1, a2, a3, a4, a5, a6, a7, a8, a9, a10, a11, a12⟩ := HC.out _ hSw; clear hSw; go_simp)) hp0_0 ?_
    refine zs 6 43 (.slice (some ⟨ab, ao, none⟩) n cn) hp0_0 ?_
    refine zs 7 44 (.int .i64 (k : Int)) hp0_0 ?_
    refine zs 8 45 (.pointer (some ⟨ab, ao + k * 13, none⟩)) hp0_0 ?_
    refine zs 9 46 (.pointer (some ⟨ab, ao + k * 13 + 4, none⟩)) hp0_0 ?_
    refine zT 10 47 (.agg #[.int .u64 (limb 0 X), .int .u64 (limb 1 X), .int .u64 (limb 2 X), .int .u64 (limb 3 X), .int .u64 (limb 0 Y), .int .u64 (limb 1 Y), .int .u64 (limb 2 Y), .int .u64 (limb 3 Y), .bool I]) rfl rfl (fun w hSw => by (obtain ⟨a0, a1, a2, a3, a4, a5, a6, a7, a8, a9, a10, a11, a12⟩ := HC.out _ hSw; clear hSw; go_simp)) hp0_0 ?_
    refine zo 11 rfl (fun K hK => ?_)
    go_simp
    refine (HADD.out _ hp0_0).mono ?_
    rintro e wA ⟨rfl, hbA⟩
    have hSA : Below B wr wA := hp0_0.trans (belowLe hbA (HBsz.out wr.drew hp0_0))
    go_wp2_with fail
    refine hK.out _ _ (fun _ => hSA) ?_
    clear hK K
    refine zd ?_ _
    have hLA : Lz wA B c v := hL.drew.belowAll hbA
    have HUA : Hid (q ≤ k + 1 ∧ (∀ i, i < q → (U i).1 < 115792089237316195423570985008687907853269984665640564039457584007913129639936 ∧ (U i).2.1 < 115792089237316195423570985008687907853269984665640564039457584007913129639936 ∧ (U i).2.2.1 < 115792089237316195423570985008687907853269984665640564039457584007913129639936) ∧ wA.ownsRow (B + 1) 43 13 v q (trs U q) ∧ v.ownBlock ≠ some B) := ⟨by have := HU.out.1; omega, HU.out.2.1, own_belowAll (w := wr.drew) HU.out.2.2.1 hbA, HU.out.2.2.2⟩
    clear hbA
    go_wp2
    go_roundw
    case measure => simp [intOf]; omega
    case rel => exact ⟨k + 1, q, v, U, by go_num, by omega, HUA, hbr0.trans hSA, hLA⟩
  ·have hki : ¬ (k : Int) < (n : Int) := by omega
   have HRv : Hid (Rs wr v 13 q (fun i => tC (U i))) := own_Rs HU.out.2.2.1
   have HQ : Hid (q ≤ 60) := by have := HU.out.1; exact (by omega : q ≤ 60)
   clear hlt
   go_wp2_with fail
   refine (terms_any B c q v U (Nat.le_trans HQ.out (by decide)) _ hL HRv.out).mono ?_
   rintro e w4 ⟨va, rfl, hoa, hb4⟩
   have hL4 := hL.belowAll hb4
   have hs4 := hb4.size
   have HRv4 : Hid (Rs w4 v 13 q (fun i => tC (U i))) := HRv.out.below hb4
   have hb04 : Below B w2 w4 := hbr0.trans (belowLe hb4 (Nat.le_of_lt hL.lt))
   have HOA : Hid (w4.ownsRow wr.heap.size 43 13 va q (trs U q)) := hoa
   have HOV4 : Hid (w4.ownsRow (B + 1) 43 13 v q (trs U q)) := own_belowAll HU.out.2.2.1 hb4
   have HVv : Hid ((∀ j, v.ownBlock = some j → j < wr.heap.size) ∧ B < wr.heap.size) := ⟨fun j hj => (HU.out.2.2.1.lt j hj).2, hL.lt⟩
   have HUM : Hid (∀ i, i < q → (U i).1 < 115792089237316195423570985008687907853269984665640564039457584007913129639936 ∧ (U i).2.1 < 115792089237316195423570985008687907853269984665640564039457584007913129639936 ∧ (U i).2.2.1 < 115792089237316195423570985008687907853269984665640564039457584007913129639936) := HU.out.2.1
   clear hoa HRv HU
   go_wp2_with fail
   refine (terms_any B c q v U (Nat.le_trans HQ.out (by decide)) _ hL4 HRv4.out).mono ?_
   rintro e w5 ⟨vb, rfl, hob, hb5⟩
   have hL5 := hL4.belowAll hb5
   have hb05 : Below B w2 w5 := hb04.trans (belowLe hb5 (Nat.le_of_lt hL4.lt))
   have HOA5 : Hid (w5.ownsRow wr.heap.size 43 13 va q (trs U q)) := own_belowAll HOA.out hb5
   have HTR : Hid (Trio w5 B c q w4.heap.size v vb U) := ⟨hL5, own_belowAll HOV4.out hb5, hob⟩
   have HAB : Hid (∀ j, va.ownBlock = some j → wr.heap.size ≤ j ∧ j < w4.heap.size) := fun j hj => HOA.out.lt j hj
   have HSZ : Hid (wr.heap.size ≤ w5.heap.size) := Nat.le_trans hb4.size hb5.size
   clear hob hb4 hb5 hL4 hb04 HRv4 HOA HOV4 hL5
   obtain ⟨Zr, eZr⟩ : ∃ Z, Z = wr.heap.size := ⟨_, rfl⟩
   rw [← eZr] at HOA5 HAB HVv HSZ
   have hVA : ∃ oa' ca, va = .slice oa' q ca := by
    rcases HOA5.out.2 with ⟨rfl, h⟩ | ⟨g, cap, cur, rfl, _⟩
    ·rw [h]; exact ⟨_, _, rfl⟩
    ·exact ⟨_, _, rfl⟩
   obtain ⟨oa', ca, rfl⟩ := hVA
   have hVB : ∃ ob' cb, vb = .slice ob' q cb := by
    rcases HTR.out.2.2.2 with ⟨rfl, h⟩ | ⟨g, cap, cur, rfl, _⟩
    ·rw [h]; exact ⟨_, _, rfl⟩
    ·exact ⟨_, _, rfl⟩
   obtain ⟨ob', cb, rfl⟩ := hVB
   have hq60 := HQ.out
   clear hbr0 hL hbr eZr hki hk
   go_wp2
   go_loopw [10] (fun iv wr => ∃ (i : Nat), iv = .int .i64 (i : Int) ∧ i ≤ q ∧ Hid (∃ xs, wr.ownsRow Zr 43 13 (.slice oa' q ca) q xs) ∧ Hid (w5.grownBy wr (Value.slice oa' q ca).ownBlock)) (fun iv _ => q - (intOf iv).toNat)
   case atStart => exact ⟨0, rfl, by omega, ⟨_, HOA5.out⟩, ⟨rfl, rfl, rfl, Nat.le_refl _, fun _ _ _ => rfl⟩⟩
   case round =>
    obtain ⟨i, rfl, hi, HX, HGW⟩ := hrel
    by_cases hlt : i < q
    ·have hii : (i : Int) < (q : Int) := by omega
     have hsome : ∃ g, oa' = some ⟨g, 0, none⟩ := by
      rcases HOA5.out.2 with ⟨h, h0⟩ | ⟨g, cap, cur, h, _⟩
      ·omega
      ·cases h; exact ⟨g, rfl⟩
     obtain ⟨g, rfl⟩ := hsome
     obtain ⟨xs, hxs⟩ := HX.out
     obtain ⟨⟨u0, t0⟩, f0⟩ := own_there hxs (o := i * 13) (by omega)
     obtain ⟨⟨u1, t1⟩, f1⟩ := own_there hxs (o := i * 13 + 1) (by omega)
     obtain ⟨⟨u2, t2⟩, f2⟩ := own_there hxs (o := i * 13 + 2) (by omega)
     obtain ⟨⟨u3, t3⟩, f3⟩ := own_there hxs (o := i * 13 + 3) (by omega)
     obtain ⟨y1, hy1⟩ := own_cell (u := .int .u64 99) hxs (o := i * 13) (by omega)
     obtain ⟨y2, hy2⟩ := own_cell (u := .int .u64 0) hy1 (o := i * 13 + 1) (by omega)
     obtain ⟨y3, hy3⟩ := own_cell (u := .int .u64 0) hy2 (o := i * 13 + 2) (by omega)
     obtain ⟨y4, hy4⟩ := own_cell (u := .int .u64 0) hy3 (o := i * 13 + 3) (by omega)
     have HY := (show Hid _ from hy4)
     clear hxs hy1 hy2 hy3 hy4
     go_wp2
     go_roundw
     case measure => simp [intOf]; omega
     case rel =>
      refine ⟨i + 1, by go_num, by omega, ⟨y4, HY.out⟩, ?_⟩
      exact grown_set4 HGW.out _ _ _ _
    ·have hii : ¬ (i : Int) < (q : Int) := by omega
     obtain ⟨xs, hxs⟩ := HX.out
     have HXS : Hid ((wr.alloc (.cells #[.int .u64 0, .int .u64 0, .int .u64 0, .int .u64 0, .int .u64 0, .int .u64 0, .int .u64 0, .int .u64 0, .int .u64 0, .int .u64 0, .int .u64 0, .int .u64 0, .bool false] 43)).ownsRow Zr 43 13 (.slice oa' q ca) q xs) := hxs.alloc _
     have HTW : Hid (Trio wr B c q w4.heap.size v (.slice ob' q cb) U) := HTR.out.apart HGW.out HAB.out HVv.out
     have HBW5 : Hid (Below B w2 wr) := hb05.trans (grown_below HGW.out (fun j hj => by have := (HAB.out j hj).1; have := HVv.out.2; omega) (by have := HVv.out.2; have := HSZ.out; omega))
     have HSW : Hid (Zr ≤ wr.heap.size) := Nat.le_trans HSZ.out HGW.out.size
     have HZ1 := (show Hid _ from zero_row wr)
     clear hxs HX hlt hi
     go_wp2_with (first
      | (at_builtin; refine wpList_append_own _ rfl _ _ 22 rfl Zr 43 i0 (.agg #[.int .u64 0, .int .u64 0, .int .u64 0, .int .u64 0, .int .u64 0, .int .u64 0, .int .u64 0, .int .u64 0, .int .u64 0, .int .u64 0, .int .u64 0, .int .u64 0, .bool false]) 13 104 Tryz.underlying22 HI.out HZ.out.1 HZ.out.2.1 HZ.out.2.2 rfl (by decide) _ _ _ rfl HXS.out ⟨wr.heap.size, 0, none⟩ 1 1 [.int .u64 0, .int .u64 0, .int .u64 0, .int .u64 0, .int .u64 0, .int .u64 0, .int .u64 0, .int .u64 0, .int .u64 0, .int .u64 0, .int .u64 0, .int .u64 0, .bool false] rfl rfl HZ1.out.1 HZ1.out.2 ?c1 ?c2 ?c3 ?_)
      | go_in)
     case c1 => have := HQ.out; unfold maxLen; omega
     case c2 => have := HQ.out; omega
     case c3 => exact Nat.le_trans HSW.out (Nat.le_succ _)
     intro va' wA hownA hgrow _
     have HTA : Hid (Trio wA B c q w4.heap.size v (.slice ob' q cb) U) := (HTW.out.apart (World.grownBy_alloc wr _ none) (fun j hj => by cases hj) HVv.out).apart hgrow HAB.out HVv.out
     have HBA : Hid (Below B w2 wA) := (HBW5.out.trans (grown_below (World.grownBy_alloc wr _ none) (fun j hj => by cases hj) (by have := HVv.out.2; have := HSW.out; omega))).trans (grown_below hgrow (fun j hj => by have := (HAB.out j hj).1; have := HVv.out.2; omega) (by have := HVv.out.2; have := HSW.out; simp; omega))
     have hVA' : ∃ oa' ca, va' = .slice oa' (q + 1) ca := by
      rcases hownA.2 with ⟨rfl, h⟩ | ⟨g, cap, cur, rfl, _⟩
      ·omega
      ·exact ⟨_, _, rfl⟩
     obtain ⟨oa2, ca2, rfl⟩ := hVA'
     have HLA : Hid (Lz wA B c v) := HTA.out.1
     have HRA : Hid (Rs wA v 13 q (fun i => tC (U i))) := own_Rs HTA.out.2.1
     have hq1 : ((q + 1 : Nat) : Int) = (q : Int) + 1 := by omega
     clear hownA hgrow HXS HZ1 HTW HBW5
     go_wp2_with fail
     refine (terms_any B c q v U (Nat.le_trans HQ.out (by decide)) _ HLA.out HRA.out).mono ?_
     rintro e w6 ⟨vt, rfl, hot, hb6⟩
     have HRT : Hid (Rs w6 vt 13 q (fun i => tC (U i))) := own_Rs hot
     have HRB : Hid (Rs w6 (.slice ob' q cb) 13 q (fun i => tC (U i))) := (own_Rs HTA.out.2.2).below hb6
     have hs6 := hb6.size
     have hB6 : Below B w2 w6 := HBA.out.trans (belowLe hb6 (Nat.le_of_lt HLA.out.lt))
     clear hot hb6
     go_wp2_with fail
     refine (sameT_self _ vt q U (Nat.le_trans HQ.out (by decide)) HUM.out _ HRB.out HRT.out).mono ?_
     rintro e w7 ⟨rfl, hb7⟩
     have hB7 : Below w.heap.size w w7 := HBW.out.trans (belowLe (hB6.trans (belowLe hb7 (Nat.le_trans (Nat.le_of_lt HLA.out.lt) (by assumption)))) HWB.out)
     go_wp2
     go_ret
     exact ⟨rfl, hB7⟩
theorem mmem_out (c : Int) (n cn : Nat) (oa : Option Addr) (h : 60 < n ∨ c < 0 ∨ 3 < c) (w : World) (hg : GlobC w) :
  Calls Tryz.prog 7 #[.int .i64 c, .slice oa n cn] w fun e w' => e = .returned (.bool true) ∧ Below w.heap.size w w' := by
 have HG0 : Hid (GlobC w) := hg
 clear hg
 by_cases h1 : (60 : Int) < (n : Int)
 ·clear h
  go_enter Tryz.func7, Tryz.ntmps7
  go_wp2_with fail
  refine (alive5_any _ HG0.out).mono ?_
  rintro e w1 ⟨rfl, hb1⟩
  go_wp2
  go_ret
  exact ⟨rfl, hb1⟩
 ·by_cases h2 : c < 0
  ·clear h
   go_enter Tryz.func7, Tryz.ntmps7
   go_wp2_with fail
   refine (alive5_any _ HG0.out).mono ?_
   rintro e w1 ⟨rfl, hb1⟩
   go_wp2
   go_ret
   exact ⟨rfl, hb1⟩
  ·have h3 : 3 < c := by omega
   clear h
   go_enter Tryz.func7, Tryz.ntmps7
   go_wp2_with fail
   refine (alive5_any _ HG0.out).mono ?_
   rintro e w1 ⟨rfl, hb1⟩
   go_wp2
   go_ret
   exact ⟨rfl, hb1⟩
theorem mmem_walk (c : Int) (n : Nat) (v : Value) (T : Nat → Nat × Nat × Nat × Bool) (hT : ∀ i, i < n → (T i).1 < 115792089237316195423570985008687907853269984665640564039457584007913129639936 ∧ (T i).2.1 < 115792089237316195423570985008687907853269984665640564039457584007913129639936 ∧ (T i).2.2.1 < 115792089237316195423570985008687907853269984665640564039457584007913129639936) (w : World) (hg : GlobC w) (hv : Rs w v 13 n (fun i => tC (T i))) :
  Calls Tryz.prog 7 #[.int .i64 c, v] w fun e w' => e = .returned (.bool true) ∧ Below w.heap.size w w' := by
 obtain ⟨oa, cn, rfl⟩ := hv.shape
 by_cases h : 60 < n ∨ c < 0 ∨ 3 < c
 ·exact mmem_out c n cn oa h w hg
 ·obtain ⟨d, rfl⟩ : ∃ d : Nat, c = (d : Int) := ⟨c.toNat, by omega⟩
  exact mmem_in d n cn oa T (by omega) (by omega) hT w hg hv
end Go.Proofs.YtokoknacolmhgaaGreatDoor
