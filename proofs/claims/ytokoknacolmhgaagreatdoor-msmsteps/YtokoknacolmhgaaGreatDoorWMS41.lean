import Derived.Test.YtokoknacolmhgaaGreatDoorWXM
import Derived.Test.YtokoknacolmhgaaGreatDoorWSL
import Derived.Test.YtokoknacolmhgaaGreatDoorWSW
namespace Go.Proofs.YtokoknacolmhgaaGreatDoor
open Go.RowKit
set_option maxHeartbeats 8000000 in
set_option maxRecDepth 20000 in
theorem steps_in (c s n0 n cn : Nat) (oa : Option Addr) (U : Nat → Int × Nat × Nat × Nat × Bool) (hc : c < 4) (hxo : bits BinOp.xor IntKind.i64 (c : Int) 1 = (s : Int)) (hs : s < 4) (hn0 : n = n0 ∧ n0 ≤ 30 ∨ n = 30 ∧ 30 < n0) (hU : ∀ i, i < n → opOk (U i)) (w : World) (hg : GlobC w) (hv0 : Rs w (.slice oa n0 cn) 14 n0 (fun i => oC (U i))) :
  Calls Tryz.prog 4 #[.int .i64 (c : Int), .slice oa n0 cn] w fun e w' => e = .returned (.bool true) ∧ Below w.heap.size w w' := by
 have HG0 : Hid (GlobC w) := hg
 have HU := (show Hid _ from hU)
 have H30 : Hid (n = n0 ∧ n0 ≤ 30 ∨ n = 30 ∧ 30 < n0) := hn0
 have HLG : Hid (n0 ≤ 30 ∨ 30 < n0 ∧ n0 ≤ cn ∧ ∃ b o, oa = some ⟨b, o, none⟩) := hv0.long
 have hv : Rs w (.slice oa n cn) 14 n (fun i => oC (U i)) := hv0.take14 (by omega)
 have hn : n ≤ 30 := by omega
 have hc0 : ¬ (c : Int) < 0 := by omega
 have hc3 : ¬ (3 : Int) < (c : Int) := by omega
 have HCC : Hid (c < 4) := hc
 have HXO : Hid (bits BinOp.xor IntKind.i64 (c : Int) 1 = (s : Int)) := hxo
 have HV : Hid (Rs w (.slice oa n cn) 14 n (fun i => oC (U i))) := hv
 clear hU hg hv hc hxo hn0 hv0
 go_enter Tryz.func4, Tryz.ntmps4
 go_wp2_with fail
 refine (alive5_any _ HG0.out).mono ?_
 rintro e w1 ⟨rfl, hb1⟩
 have HG1 : Hid (GlobC w1) := HG0.out.below hb1
 go_upto_if 21 with fail
 go_cut [1] (fun sv wx => sv = .slice oa n cn ∧ wx = w1)
 case first =>
  rcases H30.out with ⟨h, h2⟩ | ⟨h, h2⟩
  ·have h30 : ¬ (30 : Int) < (n0 : Int) := by omega
   subst h
   go_wp2_with fail
   go_meet
   exact ⟨rfl, rfl⟩
  ·obtain ⟨_, h3, b, o, rfl⟩ : 30 < n0 ∧ n0 ≤ cn ∧ ∃ b o, oa = some ⟨b, o, none⟩ := by
    rcases HLG.out with h4 | h4
    ·omega
    ·exact h4
   have h30 : (30 : Int) < (n0 : Int) := by omega
   have hcn : (30 : Int) ≤ (cn : Int) := by omega
   subst h
   go_wp2_with fail
   go_meet
   exact ⟨rfl, rfl⟩
 case rest =>
 obtain ⟨rfl, rfl⟩ := hcut
 clear H30 HLG
 go_wp2_with fail
 refine (new_in c HCC.out _ HG1.out).mono ?_
 rintro e w2 ⟨B1, rfl, hL2, lB1, hb2⟩
 have hbw2 := bStep hb1 hb2
 have HG2 : Hid (GlobC w2) := HG0.out.below hbw2
 go_wp2_with fail
 refine (new_in c HCC.out _ HG2.out).mono ?_
 rintro e w3 ⟨B2, rfl, hM3, lB2, hb3⟩
 have hbw3 := bStep hbw2 hb3
 have hL3 := hL2.belowAll hb3
 have EQ1 : ∀ w, (binOp .eql 36 (.pointer (some ⟨B1, 0, none⟩)) (.pointer none)).run Tryz.prog w = .ok (.bool false) w := fun w => by kernel_rfl
 have EQ2 : ∀ w, (binOp .eql 36 (.pointer (some ⟨B2, 0, none⟩)) (.pointer none)).run Tryz.prog w = .ok (.bool false) w := fun w => by kernel_rfl
 have lB12 : B1 < B2 := Nat.lt_of_lt_of_le hL2.lt lB2
 have lwB : w.heap.size ≤ B1 := Nat.le_trans hb1.size lB1
 clear HG1 HG2 hb1 hb2 hb3 hbw2 hL2 lB1 lB2
 go_upto_region 14 with fail
 obtain ⟨gx, egx⟩ : ∃ g, g = w3.heap.size := ⟨_, rfl⟩
 obtain ⟨w4, hw4⟩ : ∃ WW : World, WW = ((w3.alloc (.cells #[] 43)).alloc (.cells #[] 43)).alloc (.cells #[.int .u64 0, .int .u64 0, .int .u64 0, .int .u64 0] 28) := ⟨_, rfl⟩
 have hb34 : Below w3.heap.size w3 w4 := by rw [hw4]; exact bAlloc (bAlloc (bAlloc (Below.refl _ _) _) _) _
 have hbw4 : Below w.heap.size w w4 := bStep hbw3 hb34
 have hS4 : S4 w w4 B1 B2 (gx + 1 + 1) c (.slice none 0 0) (.slice none 0 0) (.slice (some ⟨gx, 0, none⟩) 0 0) (.slice (some ⟨gx + 1, 0, none⟩) 0 0) 0 0 0 0 (fun _ => (0, 0, 0, false)) (fun _ => (0, 0, 0, false)) (fun _ => (0, 0, 0, false)) (fun _ => (0, 0, 0, false)) := by
  have hsz := hbw3.size
  refine S4.new hbw4 lwB (by omega) (by omega) (by omega) (hL3.belowAll hb34) (hM3.belowAll hb34) ?_ ⟨rfl, Or.inr ⟨gx, 0, #[], rfl, by omega, ?_, Nat.le_refl _, by decide, rfl, rfl⟩⟩ ⟨rfl, Or.inr ⟨gx + 1, 0, #[], rfl, by omega, ?_, Nat.le_refl _, by decide, rfl, rfl⟩⟩ (by omega)
  ·unfold Blk
   rw [hw4, egx]
   exact (three_new w3 _ _ _).2.2
  ·rw [hw4, egx]
   exact (three_new w3 _ _ _).1
  ·rw [hw4, egx]
   exact (three_new w3 _ _ _).2.1
 rw [← hw4, ← egx]
 obtain ⟨gy, egy⟩ : ∃ g, g = gx + 1 := ⟨_, rfl⟩
 rw [← egy] at hS4 ⊢
 obtain ⟨Z, eZ⟩ : ∃ g, g = gy + 1 := ⟨_, rfl⟩
 rw [← eZ] at hS4 ⊢
 clear hw4 egx egy eZ hb34 hbw3 hbw4 hL3 hM3 lB12 lwB
 have HS4 := (show Hid _ from hS4)
 clear hS4
 go_wp2
 go_loopw [9, 10, 12] (fun xv yv iv wr => ∃ (k a b : Nat) (v u : Value) (A B : Nat → Nat × Nat × Nat × Bool), iv = .int .i64 (k : Int) ∧ k ≤ n ∧ Hid (b ≤ k ∧ a ≤ 60 + 30 * k ∧ (∀ i, i < a → ((A i).1 < 115792089237316195423570985008687907853269984665640564039457584007913129639936 ∧ (A i).2.1 < 115792089237316195423570985008687907853269984665640564039457584007913129639936 ∧ (A i).2.2.1 < 115792089237316195423570985008687907853269984665640564039457584007913129639936) ∧ onT c (A i).2) ∧ (∀ i, i < b → ((B i).1 < 115792089237316195423570985008687907853269984665640564039457584007913129639936 ∧ (B i).2.1 < 115792089237316195423570985008687907853269984665640564039457584007913129639936 ∧ (B i).2.2.1 < 115792089237316195423570985008687907853269984665640564039457584007913129639936) ∧ onT c (B i).2)) ∧ Hid (S4 w wr B1 B2 Z c v u xv yv a b a b A B A B)) (fun _ _ iv _ => n - (intOf iv).toNat)
 case atStart => exact ⟨0, 0, 0, _, _, _, _, rfl, by omega, ⟨Nat.le_refl _, by omega, fun i hi => by omega, fun i hi => by omega⟩, HS4.out⟩
 case round =>
  obtain ⟨k, a, b, v, u, A, B, rfl, hk, HO, HS⟩ := hrel
  by_cases hlt : k < n
  ·have hki : (k : Int) < (n : Int) := by omega
   clear HS4
   obtain ⟨ab, ao, rfl, lab, hcell⟩ := HV.out.at14 hlt
   have hUE : ∃ WW KK X Y I, U k = (WW, KK, X, Y, I) := ⟨_, _, _, _, _, rfl⟩
   obtain ⟨WW, KK, X, Y, I, hE⟩ := hUE
   have HXY : Hid (opOk (U k)) := HU.out k hlt
   have hbr := HS.out.parts.1
   have ca : ∀ j, j < 14 → wr.cell? ⟨ab, ao + k * 14 + j, none⟩ = some (oC (U k) j) := fun j hj => by rw [hbr.cell (p := ⟨ab, ao + k * 14 + j, none⟩) lab]; exact hcell j hj
   rw [hE] at ca HXY
   clear hE hcell hbr
   obtain ⟨t0, t1, t2, t3, t4, t5, t6, t7, t8, t9, t10, t11, t12⟩ := tC_cells KK X Y I
   have a0' := ca 0 (by decide)
   rw [Nat.add_zero] at a0'
   have a0 : wr.cell? ⟨ab, ao + k * 14, none⟩ = some (.int .i64 WW) := a0'
   clear a0'
   have a1 : wr.cell? ⟨ab, ao + k * 14 + 1, none⟩ = some (tC (KK, X, Y, I) 0) := ca 1 (by decide)
   rw [t0] at a1
   have a2 : wr.cell? ⟨ab, ao + k * 14 + 2, none⟩ = some (tC (KK, X, Y, I) 1) := ca 2 (by decide)
   rw [t1] at a2
   have a3 : wr.cell? ⟨ab, ao + k * 14 + 3, none⟩ = some (tC (KK, X, Y, I) 2) := ca 3 (by decide)
   rw [t2] at a3
   have a4 : wr.cell? ⟨ab, ao + k * 14 + 4, none⟩ = some (tC (KK, X, Y, I) 3) := ca 4 (by decide)
   rw [t3] at a4
   have a5 : wr.cell? ⟨ab, ao + k * 14 + 5, none⟩ = some (tC (KK, X, Y, I) 4) := ca 5 (by decide)
   rw [t4] at a5
   have a6 : wr.cell? ⟨ab, ao + k * 14 + 6, none⟩ = some (tC (KK, X, Y, I) 5) := ca 6 (by decide)
   rw [t5] at a6
   have a7 : wr.cell? ⟨ab, ao + k * 14 + 7, none⟩ = some (tC (KK, X, Y, I) 6) := ca 7 (by decide)
   rw [t6] at a7
   have a8 : wr.cell? ⟨ab, ao + k * 14 + 8, none⟩ = some (tC (KK, X, Y, I) 7) := ca 8 (by decide)
   rw [t7] at a8
   have a9 : wr.cell? ⟨ab, ao + k * 14 + 9, none⟩ = some (tC (KK, X, Y, I) 8) := ca 9 (by decide)
   rw [t8] at a9
   have a10 : wr.cell? ⟨ab, ao + k * 14 + 10, none⟩ = some (tC (KK, X, Y, I) 9) := ca 10 (by decide)
   rw [t9] at a10
   have a11 : wr.cell? ⟨ab, ao + k * 14 + 11, none⟩ = some (tC (KK, X, Y, I) 10) := ca 11 (by decide)
   rw [t10] at a11
   have a12 : wr.cell? ⟨ab, ao + k * 14 + 12, none⟩ = some (tC (KK, X, Y, I) 11) := ca 12 (by decide)
   rw [t11] at a12
   have a13 : wr.cell? ⟨ab, ao + k * 14 + 13, none⟩ = some (tC (KK, X, Y, I) 12) := ca 13 (by decide)
   rw [t12] at a13
   clear ca t0 t1 t2 t3 t4 t5 t6 t7 t8 t9 t10 t11 t12
   go_upto_region 18 with fail
   obtain ⟨N13, eN13⟩ : ∃ N, N = wr.heap.size := ⟨_, rfl⟩
   obtain ⟨w5, hw5⟩ : ∃ zz : World, zz = wr.alloc (.cells #[.int .i64 WW, .int .u64 (limb 0 KK), .int .u64 (limb 1 KK), .int .u64 (limb 2 KK), .int .u64 (limb 3 KK), .int .u64 (limb 0 X), .int .u64 (limb 1 X), .int .u64 (limb 2 X), .int .u64 (limb 3 X), .int .u64 (limb 0 Y), .int .u64 (limb 1 Y), .int .u64 (limb 2 Y), .int .u64 (limb 3 Y), .bool I] 40) := ⟨_, rfl⟩
   have hb5 : Below wr.heap.size wr w5 := by rw [hw5]; exact bAlloc (Below.refl _ _) _
   have HOP : Hid (OpB w5 N13 WW KK X Y I) := by
    have h := new_blockT wr (.cells #[.int .i64 WW, .int .u64 (limb 0 KK), .int .u64 (limb 1 KK), .int .u64 (limb 2 KK), .int .u64 (limb 3 KK), .int .u64 (limb 0 X), .int .u64 (limb 1 X), .int .u64 (limb 2 X), .int .u64 (limb 3 X), .int .u64 (limb 0 Y), .int .u64 (limb 1 Y), .int .u64 (limb 2 Y), .int .u64 (limb 3 Y), .bool I] 40)
    rw [← hw5, ← eN13] at h
    exact h
   have HS5 : Hid (S4 w w5 B1 B2 Z c v u u9 u10 a b a b A B A B) := HS.out.belowAll hb5
   have HZZ : Hid (Blk w5 28 Z (fun _ => 0)) := HS5.out.parts.2.2.2.2.1
   have HAZ : Hid (∀ w, _) := fun w => radd0_any s KK hs HXY.out.2.1 w
   rw [← hw5]
   rw [← eN13]
   clear hw5 eN13 hb5 HS a0 a1 a2 a3 a4 a5 a6 a7 a8 a9 a10 a11 a12 a13
   go_cut [14] (fun tv wx => ∃ N14, tv = .pointer (some ⟨N14, 0, none⟩) ∧ w5.heap.size ≤ N14 ∧ Below w5.heap.size w5 wx ∧ TmB wx N14 (KK % modN s) X Y I)
   case first =>
    refine wp_region_Z (fun w' => Below w5.heap.size w5 w') 99 (by kernel_rfl) ?_
    obtain ⟨wD, hD⟩ : ∃ x : World, x = w5.drew := ⟨_, rfl⟩
    rw [← hD]
    have hp0_0 : Below w5.heap.size w5 wD := by rw [hD]; exact (Below.refl _ _).drew
    have hlow0 : Below w5.heap.size w5 wD := by rw [hD]; exact (Below.refl _ _).drew
    clear hD
    refine zs 0 81 (.int .i64 (c : Int)) (hp0_0) ?_
    refine zT 1 82 (.int .i64 (s : Int)) rfl rfl (fun w hSw => by (have hx := HXO.out; go_simp)) (hp0_0) ?_
    refine zs 2 83 (.pointer (some ⟨N13, 1, none⟩)) (hp0_0) ?_
    refine zT 3 84 (.agg #[.int .u64 (limb 0 KK), .int .u64 (limb 1 KK), .int .u64 (limb 2 KK), .int .u64 (limb 3 KK)]) rfl rfl (fun w hSw => by (obtain ⟨o0, o1, o2, o3, o4, o5, o6, o7, o8, o9, o10, o11, o12, o13, of⟩ := (HOP.out.belowAll hSw).cells; clear hSw; go_simp)) (hp0_0) ?_
    refine zT 4 85 (.agg #[.int .u64 0, .int .u64 0, .int .u64 0, .int .u64 0]) rfl rfl (fun w hSw => by (obtain ⟨o0, o1, o2, o3⟩ := Four.cells0 (HZZ.out.belowAll hSw); clear hSw; go_simp)) (hp0_0) ?_
    refine zs 6 87 (.pointer (some ⟨N13, 5, none⟩)) (hp0_0) ?_
    refine zT 7 88 (.agg #[.int .u64 (limb 0 X), .int .u64 (limb 1 X), .int .u64 (limb 2 X), .int .u64 (limb 3 X), .int .u64 (limb 0 Y), .int .u64 (limb 1 Y), .int .u64 (limb 2 Y), .int .u64 (limb 3 Y), .bool I]) rfl rfl (fun w hSw => by (obtain ⟨o0, o1, o2, o3, o4, o5, o6, o7, o8, o9, o10, o11, o12, o13, of⟩ := (HOP.out.belowAll hSw).cells; clear hSw; go_simp)) (hp0_0) ?_
    refine zw 5 9 rfl rfl (fun K hK => ?_) (fun K hK => ?_)
    ·go_simp
     refine (HAZ.out wD).mono ?_
     rintro e wK1 ⟨rfl, hbK1⟩
     have hp0_1 : Below w5.heap.size w5 wK1 := bStep hp0_0 hbK1
     obtain ⟨kk, ekk⟩ : ∃ z, z = KK % modN s := ⟨_, rfl⟩
     rw [← ekk]
     have HKV : Hid (kk = KK % modN s) := ekk
     clear ekk
     go_wp2_with fail
     refine hK.out _ _ (fun _ => hp0_1) ?_
     clear hK K
     refine zs 8 89 (.agg #[.int .u64 (limb 0 kk), .int .u64 (limb 1 kk), .int .u64 (limb 2 kk), .int .u64 (limb 3 kk), .int .u64 (limb 0 X), .int .u64 (limb 1 X), .int .u64 (limb 2 X), .int .u64 (limb 3 X), .int .u64 (limb 0 Y), .int .u64 (limb 1 Y), .int .u64 (limb 2 Y), .int .u64 (limb 3 Y), .bool I]) (hp0_1) ?_
     refine zo 9 rfl (fun K hK => ?_)
     go_simp
     obtain ⟨N14, eN14⟩ : ∃ N, N = wK1.heap.size := ⟨_, rfl⟩
     obtain ⟨wB, hwB⟩ : ∃ zz : World, zz = wK1.alloc (.cells #[.int .u64 0, .int .u64 0, .int .u64 0, .int .u64 0, .int .u64 0, .int .u64 0, .int .u64 0, .int .u64 0, .int .u64 0, .int .u64 0, .int .u64 0, .int .u64 0, .bool false] 43) := ⟨_, rfl⟩
     have hp0_2 : Below w5.heap.size w5 wB := by rw [hwB]; exact bAlloc hp0_1 _
     have tm2 : Tm0 wB N14 := by rw [hwB, eN14]; exact new_blockT _ _
     have lN14 : w5.heap.size ≤ N14 := by rw [eN14]; exact (hp0_1).size
     rw [← hwB]
     rw [← eN14]
     refine hK.out _ _ (fun _ => hp0_2) ?_
     clear hK K hwB eN14
     refine zo 10 rfl (fun K hK => ?_)
     have tmE := (tm2).set kk X Y I
     have hpE : Below w5.heap.size w5 _ := bSet13 kk X Y I hp0_2 lN14
     obtain ⟨z0, z1, z2, z3, z4, z5, z6, z7, z8, z9, z10, z11, z12, zf⟩ := (tm2).cells
     go_simp
     refine hK.out _ _ (fun _ => hpE) ?_
     clear hK K zf z0 z1 z2 z3 z4 z5 z6 z7 z8 z9 z10 z11 z12
     refine zd ?_ _
     go_wp2_with fail
     go_meet
     exact ⟨N14, rfl, lN14, hpE, by rw [← HKV.out]; exact tmE⟩
    ·go_simp
     obtain ⟨N14, eN14⟩ : ∃ N, N = wD.heap.size := ⟨_, rfl⟩
     obtain ⟨wB, hwB⟩ : ∃ zz : World, zz = wD.alloc (.cells #[.int .u64 0, .int .u64 0, .int .u64 0, .int .u64 0, .int .u64 0, .int .u64 0, .int .u64 0, .int .u64 0, .int .u64 0, .int .u64 0, .int .u64 0, .int .u64 0, .bool false] 43) := ⟨_, rfl⟩
     have hp0_1 : Below w5.heap.size w5 wB := by rw [hwB]; exact bAlloc hp0_0 _
     have tm1 : Tm0 wB N14 := by rw [hwB, eN14]; exact new_blockT _ _
     have lN14 : w5.heap.size ≤ N14 := by rw [eN14]; exact (hp0_0).size
     rw [← hwB]
     rw [← eN14]
     refine hK.out _ _ (fun _ => hp0_1) ?_
     clear hK K hwB eN14
     refine zo 5 rfl (fun K hK => ?_)
     go_simp
     refine (HAZ.out wB).mono ?_
     rintro e wK2 ⟨rfl, hbK2⟩
     have hp0_2 : Below w5.heap.size w5 wK2 := bStep hp0_1 hbK2
     have tm2 := (tm1).belowAll hbK2
     obtain ⟨kk, ekk⟩ : ∃ z, z = KK % modN s := ⟨_, rfl⟩
     rw [← ekk]
     have HKV : Hid (kk = KK % modN s) := ekk
     clear ekk
     go_wp2_with fail
     refine hK.out _ _ (fun _ => hp0_2) ?_
     clear hK K
     refine zs 8 89 (.agg #[.int .u64 (limb 0 kk), .int .u64 (limb 1 kk), .int .u64 (limb 2 kk), .int .u64 (limb 3 kk), .int .u64 (limb 0 X), .int .u64 (limb 1 X), .int .u64 (limb 2 X), .int .u64 (limb 3 X), .int .u64 (limb 0 Y), .int .u64 (limb 1 Y), .int .u64 (limb 2 Y), .int .u64 (limb 3 Y), .bool I]) (hp0_2) ?_
     refine zo 10 rfl (fun K hK => ?_)
     have tmE := (tm2).set kk X Y I
     have hpE : Below w5.heap.size w5 _ := bSet13 kk X Y I hp0_2 lN14
     obtain ⟨z0, z1, z2, z3, z4, z5, z6, z7, z8, z9, z10, z11, z12, zf⟩ := (tm2).cells
     go_simp
     refine hK.out _ _ (fun _ => hpE) ?_
     clear hK K zf z0 z1 z2 z3 z4 z5 z6 z7 z8 z9 z10 z11 z12
     refine zd ?_ _
     go_wp2_with fail
     go_meet
     exact ⟨N14, rfl, lN14, hpE, by rw [← HKV.out]; exact tmE⟩
   case rest =>
    obtain ⟨N14, rfl, lN14, hb6, tm6⟩ := hcut
    have HS6 : Hid (S4 w wc B1 B2 Z c v u u9 u10 a b a b A B A B) := HS5.out.belowAll hb6
    have hop := HOP.out.belowAll hb6
    have HLT : Hid (B1 < w5.heap.size ∧ B2 < w5.heap.size ∧ (∀ b, v.ownBlock = some b → b < w5.heap.size) ∧ (∀ b, u.ownBlock = some b → b < w5.heap.size)) := ⟨HS5.out.parts.2.2.1.lt, HS5.out.parts.2.2.2.1.lt, fun b h => (HS5.out.parts.2.2.2.2.2.1.lt b h).2, fun b h => (HS5.out.parts.2.2.2.2.2.2.1.lt b h).2⟩
    clear HS5 HZZ HAZ HOP
    obtain ⟨o0, o1, o2, o3, o4, o5, o6, o7, o8, o9, o10, o11, o12, o13, of⟩ := hop.cells
    go_upto_block 2 with fail
    go_cut [9, 10, 15, 16] (fun xv yv wv gv wx => ∃ (a' b' : Nat) (v' u' : Value) (A' B' : Nat → Nat × Nat × Nat × Bool) (EE : Int), wv = .int .i64 EE ∧ gv = .int .i64 EE ∧ Hid (b' ≤ k + 1 ∧ a' ≤ 60 + 30 * (k + 1) ∧ (∀ i, i < a' → ((A' i).1 < 115792089237316195423570985008687907853269984665640564039457584007913129639936 ∧ (A' i).2.1 < 115792089237316195423570985008687907853269984665640564039457584007913129639936 ∧ (A' i).2.2.1 < 115792089237316195423570985008687907853269984665640564039457584007913129639936) ∧ onT c (A' i).2) ∧ (∀ i, i < b' → ((B' i).1 < 115792089237316195423570985008687907853269984665640564039457584007913129639936 ∧ (B' i).2.1 < 115792089237316195423570985008687907853269984665640564039457584007913129639936 ∧ (B' i).2.2.1 < 115792089237316195423570985008687907853269984665640564039457584007913129639936) ∧ onT c (B' i).2)) ∧ Hid (S4 w wx B1 B2 Z c v' u' xv yv a' b' a' b' A' B' A' B'))
    case first =>
     by_cases W1 : WW = 1
     ·subst W1
      obtain ⟨hbc, hszc, hL, hM, _, hov, hou, hox, hoy⟩ := HS6.out.parts
      by_cases hon : onC c X Y I
      ·have HDE : Hid (decide (onC c X Y I) = true) := decide_eq_true hon
       go_wp2_with fail
       refine (add_sep B1 c s KK X Y a w.heap.size I v A HCC.out HXO.out hs HXY.out.2.1 HXY.out.2.2.1 HXY.out.2.2.2 hon (by have := HO.out.2.1; omega) _ (HG0.out.below hbc) hL hov hszc (own_ne hov hL)).mono ?_
       rintro e w7 ⟨⟨v7, rfl, hL7, ho7, _, hs7⟩, hbt7⟩
       have HS7 := S4.put0 HS6.out hL7 ho7 hs7 hbt7
       have hop7 := hop.but hL hov hbt7
       have tm7 : TmB w7 N14 (KK % modN s) X Y I := (hbt7.keep tm6.lt (fun e => by have := HLT.out.1; omega) (fun e => by have := HLT.out.2.2.1 N14 e.symm; omega)).trans tm6
       clear o0 o1 o2 o3 o4 o5 o6 o7 o8 o9 o10 o11 o12 o13 of
       obtain ⟨o0, o1, o2, o3, o4, o5, o6, o7, o8, o9, o10, o11, o12, o13, of⟩ := hop7.cells
       go_wp2_with fail
       refine (ron_in c X Y I HCC.out HXY.out.2.2.1 HXY.out.2.2.2 _).mono ?_
       rintro e w8 ⟨rfl, hb8⟩
       rw [HDE.out]
       have HS8 := HS7.belowAll hb8
       have tm8 := tm7.belowAll hb8
       obtain ⟨z0, z1, z2, z3, z4, z5, z6, z7, z8, z9, z10, z11, z12⟩ := tm8.cells
       obtain ⟨kk, ekk⟩ : ∃ z, z = KK % modN s := ⟨_, rfl⟩
       rw [← ekk] at z0 z1 z2 z3
       have HKK : Hid (kk = KK % modN s) := ekk
       clear ekk
       have hbN : Below w8.heap.size w8 (w8.alloc (.cells #[.int .u64 (limb 0 kk), .int .u64 (limb 1 kk), .int .u64 (limb 2 kk), .int .u64 (limb 3 kk), .int .u64 (limb 0 X), .int .u64 (limb 1 X), .int .u64 (limb 2 X), .int .u64 (limb 3 X), .int .u64 (limb 0 Y), .int .u64 (limb 1 Y), .int .u64 (limb 2 Y), .int .u64 (limb 3 Y), .bool I] 43)) := bAlloc (Below.refl _ _) _
       have HS8a : Hid (S4 w (w8.alloc (.cells #[.int .u64 (limb 0 kk), .int .u64 (limb 1 kk), .int .u64 (limb 2 kk), .int .u64 (limb 3 kk), .int .u64 (limb 0 X), .int .u64 (limb 1 X), .int .u64 (limb 2 X), .int .u64 (limb 3 X), .int .u64 (limb 0 Y), .int .u64 (limb 1 Y), .int .u64 (limb 2 Y), .int .u64 (limb 3 Y), .bool I] 43)) B1 B2 Z c v7 u u9 u10 (a + 1) b a b (put A a (KK % modN s, X, Y, I)) B A B) := HS8.belowAll hbN
       go_wp2_with (first
        | (at_builtin; refine wpList_appT _ rfl _ _ rfl w.heap.size a 1 u9 _ A (fun _ => (kk, X, Y, I)) rfl HS8a.out.parts.2.2.2.2.2.2.2.1 rfl (one_Rs _ kk X Y I) ?g1 HS8a.out.parts.2.1 ?_)
        | go_in)
       case g1 => have := HO.out.1; have := HO.out.2.1; omega
       intro v9 w9 ho9 hg9 hs9
       have HS9 := S4.put2 HS8a.out ho9 (fun g hg => (hs9 g hg).imp id (fun h => by have e : ∀ o, (w8.alloc o).heap.size = w8.heap.size + 1 := fun o => Array.size_push ..; rw [e]; exact h)) hg9
       rw [HKK.out] at HS9
       go_wp2_with fail
       go_meet
       exact ⟨a + 1, b, v7, u, put A a (KK % modN s, X, Y, I), B, 0, rfl, rfl, ⟨by have := HO.out.1; omega, by have := HO.out.2.1; omega, put_ok HO.out.2.2.1 ⟨⟨lt_M s _ (Nat.mod_lt _ (modN_pos s)), HXY.out.2.2.1, HXY.out.2.2.2⟩, hon⟩, HO.out.2.2.2⟩, HS9⟩
      ·have HDE : Hid (decide (onC c X Y I) = false) := decide_eq_false hon
       go_wp2_with fail
       refine (add_bad B1 c KK X Y I v HCC.out HXY.out.2.2.1 HXY.out.2.2.2 hon _ (HG0.out.below hbc) hL).mono ?_
       rintro e w7 ⟨rfl, hb7⟩
       have hop7 := hop.belowAll hb7
       clear o0 o1 o2 o3 o4 o5 o6 o7 o8 o9 o10 o11 o12 o13 of
       obtain ⟨o0, o1, o2, o3, o4, o5, o6, o7, o8, o9, o10, o11, o12, o13, of⟩ := hop7.cells
       go_wp2_with fail
       refine (ron_in c X Y I HCC.out HXY.out.2.2.1 HXY.out.2.2.2 _).mono ?_
       rintro e w8 ⟨rfl, hb8⟩
       rw [HDE.out]
       go_wp2_with fail
       go_meet
       exact ⟨a, b, v, u, A, B, 41, rfl, rfl, ⟨by have := HO.out.1; omega, by have := HO.out.2.1; omega, HO.out.2.2⟩, HS6.out.belowAll (bStep hb7 hb8)⟩
     by_cases W2 : WW = 2
     ·subst W2
      obtain ⟨hbc, hszc, hL, hM, _, hov, hou, hox, hoy⟩ := HS6.out.parts
      have ha : a ≤ 1000 := by have := HO.out.2.1; omega
      go_wp2_with fail
      refine (scale_any B1 c s KK a w.heap.size v A HXO.out hs HXY.out.2.1 (by omega) (fun i hi => (HO.out.2.2.1 i hi).1.1) _ (HG0.out.below hbc).1 hL hov (own_ne hov hL) HG0.out.1.1).mono ?_
      rintro e w7 ⟨⟨rfl, hL7, ho7⟩, hbt7⟩
      have HS7 := S4.put0 HS6.out hL7 ho7 (Or.inl rfl) hbt7
      have hop7 := hop.but hL hov hbt7
      clear o0 o1 o2 o3 o4 o5 o6 o7 o8 o9 o10 o11 o12 o13 of
      obtain ⟨o0, o1, o2, o3, o4, o5, o6, o7, o8, o9, o10, o11, o12, o13, of⟩ := hop7.cells
      have hox7 := HS7.parts.2.2.2.2.2.2.2.1
      obtain ⟨ox, cx, rfl⟩ := own_sl hox7
      go_wp2_with fail
      refine (rscale_any c s KK a cx ox A HXO.out hs HXY.out.2.1 ha (fun i hi => (HO.out.2.2.1 i hi).1) _ (own_Rs hox7)).mono ?_
      rintro e w8 ⟨v8, rfl, ho8, hb8⟩
      have HS8 := S4.put2 HS7 (own_base ho8 HS7.parts.2.1) (fun b h => Or.inr (ho8.lt b h).1) (grown_of_below hb8 _)
      have HS9 := S4.put0 HS8 HS8.parts.2.2.1 (G := sclT s KK A) (n := a) (by rw [← trs_congr (T := scT s KK A a) (fun i hi => by unfold scT sclT; rw [if_pos hi])]; exact HS8.parts.2.2.2.2.2.1) (Or.inl rfl) ⟨rfl, rfl, rfl, Nat.le_refl _, fun _ _ _ _ => rfl⟩
      go_wp2_with fail
      go_meet
      exact ⟨a, b, v, u, sclT s KK A, B, 0, rfl, rfl, ⟨by have := HO.out.1; omega, by have := HO.out.2.1; omega, fun i hi => ⟨⟨lt_M s _ (Nat.mod_lt _ (modN_pos s)), (HO.out.2.2.1 i hi).1.2⟩, (HO.out.2.2.1 i hi).2⟩, HO.out.2.2.2⟩, HS9⟩
     by_cases W3 : WW = 3
     ·subst W3
      obtain ⟨hbc, hszc, hL, hM, _, hov, hou, hox, hoy⟩ := HS6.out.parts
      have hab : a + b ≤ 2000 := by have := HO.out.1; have := HO.out.2.1; omega
      go_wp2_with fail
      refine (join_any B1 B2 c a b w.heap.size v u A B (by omega) _ hL hM hov hou hszc).mono ?_
      rintro e w7 ⟨⟨v7, rfl, hL7, ho7, _, hs7⟩, hbt7⟩
      have HS7 := S4.put0 HS6.out hL7 ho7 hs7 hbt7
      have hox7 := HS7.parts.2.2.2.2.2.2.2.1
      go_wp2_with fail
      refine (copyT_any a _ A (by omega) _ (own_Rs hox7)).mono ?_
      rintro e w8 ⟨v8, rfl, ho8, hb8⟩
      have hoy8 := (HS7.belowAll hb8).parts.2.2.2.2.2.2.2.2
      go_wp2_with (first
       | (at_builtin; refine wpList_appT _ rfl _ _ rfl w7.heap.size a b v8 u10 A B rfl ho8 rfl (own_Rs hoy8) ?g1 hb8.size ?_)
       | go_in)
      case g1 => omega
      intro v9 w9 ho9 hg9 hs9
      have hb79 : Below w7.heap.size w7 w9 := hb8.grown hg9 hb8.size (fun j hj => own_ge ho8 hj)
      have HS9 := S4.put2 HS7 (own_base ho9 HS7.parts.2.1) (fun g hg => Or.inr (by rcases hs9 g hg with h | h; exact own_ge ho8 h; exact Nat.le_trans hb8.size h)) (grown_of_below hb79 _)
      go_wp2_with fail
      go_meet
      exact ⟨a + b, b, v7, u, app2 A a B, B, 0, rfl, rfl, ⟨by have := HO.out.1; omega, by have := HO.out.1; have := HO.out.2.1; omega, app2_ok HO.out.2.2.1 HO.out.2.2.2, HO.out.2.2.2⟩, HS9⟩
     by_cases W4 : WW = 4
     ·subst W4
      obtain ⟨hbc, hszc, hL, hM, _, hov, hou, hox, hoy⟩ := HS6.out.parts
      obtain ⟨ox, cx, rfl⟩ := own_sl hox
      by_cases h30 : a ≤ 30
      ·have hi30 : ¬ (30 : Int) < (a : Int) := by omega
       go_wp2_with fail
       refine (join_self_any B1 c a w.heap.size v A (by omega) _ hL hov hszc).mono ?_
       rintro e w7 ⟨⟨v7, rfl, hL7, ho7, _, hs7⟩, hbt7⟩
       have HS7 := S4.put0 HS6.out hL7 ho7 hs7 hbt7
       have hox7 := HS7.parts.2.2.2.2.2.2.2.1
       go_wp2_with fail
       refine (copyT_any a _ A (by omega) _ (own_Rs hox7)).mono ?_
       rintro e w8 ⟨v8, rfl, ho8, hb8⟩
       have hox8 := (HS7.belowAll hb8).parts.2.2.2.2.2.2.2.1
       go_wp2_with (first
        | (at_builtin; refine wpList_appT _ rfl _ _ rfl w7.heap.size a a v8 (.slice ox a cx) A A rfl ho8 rfl (own_Rs hox8) ?g1 hb8.size ?_)
        | go_in)
       case g1 => omega
       intro v9 w9 ho9 hg9 hs9
       have hb79 : Below w7.heap.size w7 w9 := hb8.grown hg9 hb8.size (fun j hj => own_ge ho8 hj)
       have HS9 := S4.put2 HS7 (own_base ho9 HS7.parts.2.1) (fun g hg => Or.inr (by rcases hs9 g hg with h | h; exact own_ge ho8 h; exact Nat.le_trans hb8.size h)) (grown_of_below hb79 _)
       go_wp2_with fail
       go_meet
       exact ⟨a + a, b, v7, u, app2 A a A, B, 0, rfl, rfl, ⟨by have := HO.out.1; omega, by omega, app2_ok HO.out.2.2.1 HO.out.2.2.1, HO.out.2.2.2⟩, HS9⟩
      ·have hi30 : (30 : Int) < (a : Int) := by omega
       have HOk : Hid (b ≤ k + 1 ∧ a ≤ 60 + 30 * (k + 1) ∧ (∀ i, i < a → ((A i).1 < 115792089237316195423570985008687907853269984665640564039457584007913129639936 ∧ (A i).2.1 < 115792089237316195423570985008687907853269984665640564039457584007913129639936 ∧ (A i).2.2.1 < 115792089237316195423570985008687907853269984665640564039457584007913129639936) ∧ onT c (A i).2) ∧ (∀ i, i < b → ((B i).1 < 115792089237316195423570985008687907853269984665640564039457584007913129639936 ∧ (B i).2.1 < 115792089237316195423570985008687907853269984665640564039457584007913129639936 ∧ (B i).2.2.1 < 115792089237316195423570985008687907853269984665640564039457584007913129639936) ∧ onT c (B i).2)) := ⟨by have := HO.out.1; omega, by have := HO.out.2.1; omega, HO.out.2.2⟩
       clear hop o0 o1 o2 o3 o4 o5 o6 o7 o8 o9 o10 o11 o12 o13 of hbc hszc hL hM hov hou hox hoy hb6 tm6 HO
       go_wp2
       go_roundw
       case measure => simp [intOf]; omega
       case rel => exact ⟨k + 1, a, b, v, u, A, B, by go_num, by omega, HOk, HS6⟩
     by_cases W5 : WW = 5
     ·subst W5
      obtain ⟨hbc, hszc, hL, hM, _, hov, hou, hox, hoy⟩ := HS6.out.parts
      by_cases hon : onC c X Y I
      ·have HDE : Hid (decide (onC c X Y I) = true) := decide_eq_true hon
       go_wp2_with fail
       refine (add_sep B2 c s KK X Y b w.heap.size I u B HCC.out HXO.out hs HXY.out.2.1 HXY.out.2.2.1 HXY.out.2.2.2 hon (by have := HO.out.1; omega) _ (HG0.out.below hbc) hM hou hszc (own_ne hou hM)).mono ?_
       rintro e w7 ⟨⟨v7, rfl, hL7, ho7, _, hs7⟩, hbt7⟩
       have HS7 := S4.put1 HS6.out hL7 ho7 hs7 hbt7
       have hop7 := hop.but hM hou hbt7
       have tm7 : TmB w7 N14 (KK % modN s) X Y I := (hbt7.keep tm6.lt (fun e => by have := HLT.out.2.1; omega) (fun e => by have := HLT.out.2.2.2 N14 e.symm; omega)).trans tm6
       clear o0 o1 o2 o3 o4 o5 o6 o7 o8 o9 o10 o11 o12 o13 of
       obtain ⟨o0, o1, o2, o3, o4, o5, o6, o7, o8, o9, o10, o11, o12, o13, of⟩ := hop7.cells
       go_wp2_with fail
       refine (ron_in c X Y I HCC.out HXY.out.2.2.1 HXY.out.2.2.2 _).mono ?_
       rintro e w8 ⟨rfl, hb8⟩
       rw [HDE.out]
       have HS8 := HS7.belowAll hb8
       have tm8 := tm7.belowAll hb8
       obtain ⟨z0, z1, z2, z3, z4, z5, z6, z7, z8, z9, z10, z11, z12⟩ := tm8.cells
       obtain ⟨kk, ekk⟩ : ∃ z, z = KK % modN s := ⟨_, rfl⟩
       rw [← ekk] at z0 z1 z2 z3
       have HKK : Hid (kk = KK % modN s) := ekk
       clear ekk
       have hbN : Below w8.heap.size w8 (w8.alloc (.cells #[.int .u64 (limb 0 kk), .int .u64 (limb 1 kk), .int .u64 (limb 2 kk), .int .u64 (limb 3 kk), .int .u64 (limb 0 X), .int .u64 (limb 1 X), .int .u64 (limb 2 X), .int .u64 (limb 3 X), .int .u64 (limb 0 Y), .int .u64 (limb 1 Y), .int .u64 (limb 2 Y), .int .u64 (limb 3 Y), .bool I] 43)) := bAlloc (Below.refl _ _) _
       have HS8a : Hid (S4 w (w8.alloc (.cells #[.int .u64 (limb 0 kk), .int .u64 (limb 1 kk), .int .u64 (limb 2 kk), .int .u64 (limb 3 kk), .int .u64 (limb 0 X), .int .u64 (limb 1 X), .int .u64 (limb 2 X), .int .u64 (limb 3 X), .int .u64 (limb 0 Y), .int .u64 (limb 1 Y), .int .u64 (limb 2 Y), .int .u64 (limb 3 Y), .bool I] 43)) B1 B2 Z c v v7 u9 u10 a (b + 1) a b A (put B b (KK % modN s, X, Y, I)) A B) := HS8.belowAll hbN
       go_wp2_with (first
        | (at_builtin; refine wpList_appT _ rfl _ _ rfl w.heap.size b 1 u10 _ B (fun _ => (kk, X, Y, I)) rfl HS8a.out.parts.2.2.2.2.2.2.2.2 rfl (one_Rs _ kk X Y I) ?g1 HS8a.out.parts.2.1 ?_)
        | go_in)
       case g1 => have := HO.out.1; have := HO.out.2.1; omega
       intro v9 w9 ho9 hg9 hs9
       have HS9 := S4.put3 HS8a.out ho9 (fun g hg => (hs9 g hg).imp id (fun h => by have e : ∀ o, (w8.alloc o).heap.size = w8.heap.size + 1 := fun o => Array.size_push ..; rw [e]; exact h)) hg9
       rw [HKK.out] at HS9
       go_wp2_with fail
       go_meet
       exact ⟨a, b + 1, v, v7, A, put B b (KK % modN s, X, Y, I), 0, rfl, rfl, ⟨by have := HO.out.1; omega, by have := HO.out.2.1; omega, HO.out.2.2.1, put_ok HO.out.2.2.2 ⟨⟨lt_M s _ (Nat.mod_lt _ (modN_pos s)), HXY.out.2.2.1, HXY.out.2.2.2⟩, hon⟩⟩, HS9⟩
      ·have HDE : Hid (decide (onC c X Y I) = false) := decide_eq_false hon
       go_wp2_with fail
       refine (add_bad B2 c KK X Y I u HCC.out HXY.out.2.2.1 HXY.out.2.2.2 hon _ (HG0.out.below hbc) hM).mono ?_
       rintro e w7 ⟨rfl, hb7⟩
       have hop7 := hop.belowAll hb7
       clear o0 o1 o2 o3 o4 o5 o6 o7 o8 o9 o10 o11 o12 o13 of
       obtain ⟨o0, o1, o2, o3, o4, o5, o6, o7, o8, o9, o10, o11, o12, o13, of⟩ := hop7.cells
       go_wp2_with fail
       refine (ron_in c X Y I HCC.out HXY.out.2.2.1 HXY.out.2.2.2 _).mono ?_
       rintro e w8 ⟨rfl, hb8⟩
       rw [HDE.out]
       go_wp2_with fail
       go_meet
       exact ⟨a, b, v, u, A, B, 41, rfl, rfl, ⟨by have := HO.out.1; omega, by have := HO.out.2.1; omega, HO.out.2.2⟩, HS6.out.belowAll (bStep hb7 hb8)⟩
     go_wp2_with fail
     go_meet
     exact ⟨a, b, v, u, A, B, 0, rfl, rfl, ⟨by have := HO.out.1; omega, by have := HO.out.2.1; omega, HO.out.2.2⟩, HS6.out⟩
    case rest =>
     obtain ⟨a', b', v', u', A', B', EE, rfl, rfl, HO', HS'⟩ := hcut
     clear hop o0 o1 o2 o3 o4 o5 o6 o7 o8 o9 o10 o11 o12 o13 of HS6 HO hb6 tm6
     obtain ⟨hbx, hszx, hLx, hMx, _, hov, hou, hox, hoy⟩ := HS'.out.parts
     have ha' : a' ≤ 1000 := by have := HO'.out.2.1; omega
     have hb' : b' ≤ 1000 := by have := HO'.out.1; omega
     go_wp2_with fail
     refine (terms_any B1 c a' v' A' (by omega) _ hLx (own_Rs hov)).mono ?_
     rintro e w7 ⟨t1, rfl, ho1, hb7⟩
     go_wp2_with fail
     refine (sameT_self t1 u9 a' A' (by omega) (fun i hi => (HO'.out.2.2.1 i hi).1) _ (own_Rs ho1) ((own_Rs hox).below hb7)).mono ?_
     rintro e w8 ⟨rfl, hb8⟩
     have hb78 := bStep hb7 hb8
     go_wp2_with fail
     refine (terms_any B2 c b' u' B' (by omega) _ (hMx.belowAll hb78) ((own_Rs hou).below hb78)).mono ?_
     rintro e w9 ⟨t2, rfl, ho2, hb9⟩
     have hb89 := bStep hb78 hb9
     go_wp2_with fail
     refine (sameT_self t2 u10 b' B' (by omega) (fun i hi => (HO'.out.2.2.2 i hi).1) _ (own_Rs ho2) ((own_Rs hoy).below hb89)).mono ?_
     rintro e w10 ⟨rfl, hb10⟩
     have HST : Hid (S4 w w10 B1 B2 Z c v' u' u9 u10 a' b' a' b' A' B' A' B') := HS'.out.belowAll (bStep hb89 hb10)
     clear hb7 hb8 hb78 hb9 hb89 hb10 ho1 ho2 hov hou hox hoy hLx hMx hbx hszx HS'
     go_wp2
     go_roundw
     case measure => simp [intOf]; omega
     case rel => exact ⟨k + 1, a', b', v', u', A', B', by go_num, by omega, HO', HST⟩
  ·have hki : ¬ (k : Int) < (n : Int) := by omega
   clear HS4
   obtain ⟨hbr, hszr, hLr, hMr, _, hov, hou, hox, hoy⟩ := HS.out.parts
   obtain ⟨ox, cx, rfl⟩ := own_sl hox
   have HGr : Hid (GlobC wr) := HG0.out.below hbr
   go_wp2_with fail
   refine (great_any _ _ _ _ _).mono ?_
   rintro e w5 ⟨⟨bb, rfl, hbb⟩, rfl⟩
   cases bb
   ·have ha60 := hbb rfl
    go_wp2_with fail
    refine (value_any B1 c a v A HCC.out (by omega) (fun i hi => (HO.out.2.2.1 i hi).1.1) (fun i hi => (HO.out.2.2.1 i hi).2) _ HGr.out hLr (own_Rs hov)).mono ?_
    rintro e w6 ⟨⟨px, py, pi, rfl, hp⟩, hb6⟩
    go_wp2_with fail
    refine (rvalue_any c a _ A HCC.out (by omega) (fun i hi => (HO.out.2.2.1 i hi).1) (fun i hi => (HO.out.2.2.1 i hi).2) _ ((own_Rs hox).below hb6)).mono ?_
    rintro e w7 ⟨⟨qx, qy, qi, rfl, hq⟩, hb7⟩
    have hpq := hp.trans hq.symm
    have hfo : onT c (px, py, pi) := by rw [hp]; exact tot_on _ (fun i hi => (HO.out.2.2.1 i hi).2)
    have HQ : Hid (∀ w, (binOp .eql 30 (.agg #[.int .u64 (limb 0 px), .int .u64 (limb 1 px), .int .u64 (limb 2 px), .int .u64 (limb 3 px), .int .u64 (limb 0 py), .int .u64 (limb 1 py), .int .u64 (limb 2 py), .int .u64 (limb 3 py), .bool pi]) (.agg #[.int .u64 (limb 0 px), .int .u64 (limb 1 px), .int .u64 (limb 2 px), .int .u64 (limb 3 px), .int .u64 (limb 0 py), .int .u64 (limb 1 py), .int .u64 (limb 2 py), .int .u64 (limb 3 py), .bool pi])).run Tryz.prog w = .ok (.bool true) w) := fun w => eqlP_self px py pi (lt_M c _ (on_lt hfo).1) (lt_M c _ (on_lt hfo).2) w
    cases hpq
    clear hfo
    have hbw7 : Below w.heap.size w w7 := bStep (bStep hbr hb6) hb7
    clear hp hq hb6 hb7 hbr
    have QQ : ∀ w, (binOp .eql 30 (.agg #[.int .u64 (limb 0 px), .int .u64 (limb 1 px), .int .u64 (limb 2 px), .int .u64 (limb 3 px), .int .u64 (limb 0 py), .int .u64 (limb 1 py), .int .u64 (limb 2 py), .int .u64 (limb 3 py), .bool pi]) (.agg #[.int .u64 (limb 0 px), .int .u64 (limb 1 px), .int .u64 (limb 2 px), .int .u64 (limb 3 px), .int .u64 (limb 0 py), .int .u64 (limb 1 py), .int .u64 (limb 2 py), .int .u64 (limb 3 py), .bool pi])).run Tryz.prog w = .ok (.bool true) w := HQ.out
    go_wp2
    go_ret
    exact ⟨rfl, hbw7⟩
   ·go_wp2
    go_ret
    exact ⟨rfl, hbr⟩
end Go.Proofs.YtokoknacolmhgaaGreatDoor
