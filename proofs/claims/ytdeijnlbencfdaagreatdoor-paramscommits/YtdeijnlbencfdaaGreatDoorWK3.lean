import Derived.Test.YtdeijnlbencfdaaGreatDoorWK2
namespace Go.Proofs.YtdeijnlbencfdaaGreatDoor
open Go.RowKit
abbrev onC (c x y : Nat) (i : Bool) : Prop := (x = 0 ∧ y = 0 ∧ i = true) ∨ (i = false ∧ x < modN c ∧ y < modN c ∧ mulP c y y = sqY c x)
theorem sqY_M (c x : Nat) : sqY c x < 115792089237316195423570985008687907853269984665640564039457584007913129639936 := addP_M _ _ _
set_option maxHeartbeats 8000000 in
set_option maxRecDepth 20000 in
theorem on_in (c x y : Nat) (i : Bool) (hc : c < 4) (hx : x < 115792089237316195423570985008687907853269984665640564039457584007913129639936) (hy : y < 115792089237316195423570985008687907853269984665640564039457584007913129639936) (w : World) (hg : GlobC w) : Calls Tryz.prog 33 #[.int .i64 (c : Int), .agg #[.int .u64 (limb 0 x), .int .u64 (limb 1 x), .int .u64 (limb 2 x), .int .u64 (limb 3 x), .int .u64 (limb 0 y), .int .u64 (limb 1 y), .int .u64 (limb 2 y), .int .u64 (limb 3 y), .bool i]] w fun e w' => e = .returned (.bool (decide (onC c x y i))) ∧ Below w.heap.size w w' := by
 have HG0 : Hid (GlobC w) := hg
 have HIC : Hid (∀ w, _) := fun w => isCurve_in c hc w
 have HIN : Hid (∀ w, _) := infinity_any
 have HBX : Hid (∀ w, GlobC w → _) := fun w hg => cBelow_any c x hc hx w hg
 have HBY : Hid (∀ w, GlobC w → _) := fun w hg => cBelow_any c y hc hy w hg
 have HM : Hid (∀ w, Glob w → _) := fun w hg => fMul_any c y y hc hy hy w hg
 have HQ : Hid (∀ w, GlobC w → _) := fun w hg => squareOfY_any c x hc hx w hg
 have QI := fun w => eqlP x y 0 0 i true hx hy (by decide) (by decide) w
 have QE := fun w => eqlE (mulP c y y) (sqY c x) (mulP_M _ _ _) (sqY_M _ _) w
 have EO : Hid (decide (onC c x y i) = decide ((x = 0 ∧ y = 0 ∧ i = true) ∨ (i = false ∧ x < modN c ∧ y < modN c ∧ mulP c y y = sqY c x))) := rfl
 obtain ⟨ans, eans⟩ : ∃ b, b = decide (onC c x y i) := ⟨_, rfl⟩
 rw [← eans]
 have EA : Hid (ans = decide ((x = 0 ∧ y = 0 ∧ i = true) ∨ (i = false ∧ x < modN c ∧ y < modN c ∧ mulP c y y = sqY c x))) := by show _ = _; rw [eans, EO.out]
 clear eans EO
 obtain ⟨m, em⟩ : ∃ m, m = modN c := ⟨_, rfl⟩
 obtain ⟨yy, eyy⟩ : ∃ z, z = mulP c y y := ⟨_, rfl⟩
 obtain ⟨sq, esq⟩ : ∃ z, z = sqY c x := ⟨_, rfl⟩
 rw [← em] at HBX HBY EA
 rw [← eyy] at HM QE EA
 rw [← esq] at HQ QE EA
 clear hg em eyy esq
 go_enter Tryz.func33, Tryz.ntmps33
 go_wp2_with fail
 obtain ⟨w0, hw0⟩ : ∃ w0 : World, w0 = w.alloc (.cells #[.int .u64 (limb 0 x), .int .u64 (limb 1 x), .int .u64 (limb 2 x), .int .u64 (limb 3 x), .int .u64 (limb 0 y), .int .u64 (limb 1 y), .int .u64 (limb 2 y), .int .u64 (limb 3 y), .bool i] 27) := ⟨_, rfl⟩
 have bp : Pt w0 w.heap.size x y i := by rw [hw0]; exact Pt.newAt _ _ _ _ _ rfl
 have hbw0 : Below w.heap.size w w0 := by rw [hw0]; exact (Below.refl _ _).alloc (Nat.le_refl _) _
 rw [← hw0]
 clear hw0
 have HG : Hid (GlobC w0) := HG0.out.below hbw0
 refine (HIC.out _).mono ?_
 rintro e w1 ⟨rfl, hw1⟩
 rw [hw1]
 clear hw1 HIC
 go_upto_region 3 with fail
 go_cut [10] (fun b wx => b = .bool (decide (x = 0 ∧ y = 0 ∧ i = true)) ∧ Below w0.heap.size w0 wx)
 case first =>
  have HS0 : Hid (Below w0.heap.size w0 w0.drew) := (Below.refl _ _).drew
  refine wp_region_Z (fun w' => Below w0.heap.size w0 w') 99 (by kernel_rfl) ?_
  refine zT 0 8 (.agg #[.int .u64 (limb 0 x), .int .u64 (limb 1 x), .int .u64 (limb 2 x), .int .u64 (limb 3 x), .int .u64 (limb 0 y), .int .u64 (limb 1 y), .int .u64 (limb 2 y), .int .u64 (limb 3 y), .bool i]) rfl rfl (fun w hSw => by (obtain ⟨q0, q1, q2, q3, q4, q5, q6, q7, q8, qf⟩ := (bp.belowAll hSw).cells; clear hSw; go_simp)) HS0.out ?_
  refine zo 1 rfl (fun K hK => ?_)
  go_simp
  refine (HIN.out w0.drew).mono ?_
  rintro e wK1 ⟨rfl, hbK1⟩
  have hSK1 := bStep HS0.out hbK1
  go_wp2_with fail
  refine hK.out _ _ (fun _ => hSK1) ?_
  clear hK K
  refine zs 2 10 (.bool (decide (x = 0 ∧ y = 0 ∧ i = true))) hSK1 ?_
  refine zd ?_ _
  go_wp2_with fail
  go_meet
  exact ⟨rfl, hSK1⟩
 obtain ⟨rfl, hbx⟩ := hcut
 have bp1 := bp.belowAll hbx
 have hbw1 := bStep hbw0 hbx
 have HG1 : Hid (GlobC wc) := HG.out.below hbx
 clear bp hbw0 hbx HG HIN QI
 by_cases hI : x = 0 ∧ y = 0 ∧ i = true
 ·have dI : decide (x = 0 ∧ y = 0 ∧ i = true) = true := decide_eq_true hI
  have HR : Hid (ans = true) := by show _ = _; rw [EA.out]; exact decide_eq_true (Or.inl hI)
  rw [dI]
  clear dI hI
  go_wp2
  go_ret
  exact ⟨by rw [HR.out]; rfl, hbw1⟩
 ·have dI : decide (x = 0 ∧ y = 0 ∧ i = true) = false := decide_eq_false hI
  rw [dI]
  clear dI
  cases i with
  | true =>
   have HR : Hid (ans = false) := by show _ = _; rw [EA.out]; exact decide_eq_false (fun h => by rcases h with h | ⟨h, _⟩; exact hI h; cases h)
   clear hI QE
   go_upto_region 5 with fail
   have HS0 : Hid (Below wc.heap.size wc wc.drew) := (Below.refl _ _).drew
   refine wp_region_Z (fun w' => Below wc.heap.size wc w') 99 (by kernel_rfl) ?_
   refine zs 0 11 (.pointer (some ⟨w.heap.size, 8, none⟩)) HS0.out ?_
   refine zT 1 12 (.bool true) rfl rfl (fun w hSw => by (obtain ⟨q0, q1, q2, q3, q4, q5, q6, q7, q8, qf⟩ := (bp1.belowAll hSw).cells; clear hSw; go_simp)) HS0.out ?_
   refine zs 2 13 (.bool false) HS0.out ?_
   refine zs 3 14 (.bool false) HS0.out ?_
   refine zU 4 15 HS0.out ?_
   refine zU 5 16 HS0.out ?_
   refine zU 6 17 HS0.out ?_
   refine zU 7 18 HS0.out ?_
   refine zs 8 19 (.bool false) HS0.out ?_
   refine zs 9 20 (.bool false) HS0.out ?_
   refine zU 10 21 HS0.out ?_
   refine zU 11 22 HS0.out ?_
   refine zU 12 23 HS0.out ?_
   refine zU 13 24 HS0.out ?_
   refine zs 14 25 (.bool false) HS0.out ?_
   refine zs 15 26 (.bool false) HS0.out ?_
   refine zU 16 27 HS0.out ?_
   refine zU 17 28 HS0.out ?_
   refine zU 18 29 HS0.out ?_
   refine zU 19 30 HS0.out ?_
   refine zU 20 31 HS0.out ?_
   refine zU 21 32 HS0.out ?_
   refine zU 22 33 HS0.out ?_
   refine zU 23 34 HS0.out ?_
   refine zU 24 35 HS0.out ?_
   refine zU 25 36 HS0.out ?_
   refine zU 26 37 HS0.out ?_
   refine zs 27 38 (.bool false) HS0.out ?_
   refine zs 28 4 (.bool false) HS0.out ?_
   refine zd ?_ _
   go_wp2
   go_ret
   exact ⟨by rw [HR.out]; rfl, bStep hbw1 (HS0.out)⟩
  | false =>
   clear hI
   by_cases hxm : x < m
   ·rw [decide_eq_true hxm] at HBX
    by_cases hym : y < m
    ·rw [decide_eq_true hym] at HBY
     have HR : Hid (ans = decide (yy = sq)) := by show _ = _; rw [EA.out]; simp [hxm, hym]
     go_upto_region 5 with fail
     have HS0 : Hid (Below wc.heap.size wc wc.drew) := (Below.refl _ _).drew
     refine wp_region_Z (fun w' => Below wc.heap.size wc w') 99 (by kernel_rfl) ?_
     refine zs 0 11 (.pointer (some ⟨w.heap.size, 8, none⟩)) HS0.out ?_
     refine zT 1 12 (.bool false) rfl rfl (fun w hSw => by (obtain ⟨q0, q1, q2, q3, q4, q5, q6, q7, q8, qf⟩ := (bp1.belowAll hSw).cells; clear hSw; go_simp)) HS0.out ?_
     refine zs 2 13 (.bool true) HS0.out ?_
     refine zs 3 14 (.bool true) HS0.out ?_
     refine zs 4 15 (.int .i64 (c : Int)) HS0.out ?_
     refine zs 5 16 (.pointer (some ⟨w.heap.size, 0, none⟩)) HS0.out ?_
     refine zT 6 17 (.agg #[.int .u64 (limb 0 x), .int .u64 (limb 1 x), .int .u64 (limb 2 x), .int .u64 (limb 3 x)]) rfl rfl (fun w hSw => by (obtain ⟨q0, q1, q2, q3, q4, q5, q6, q7, q8, qf⟩ := (bp1.belowAll hSw).cells; clear hSw; go_simp)) HS0.out ?_
     refine zo 7 rfl (fun K hK => ?_)
     go_simp
     refine (HBX.out wc.drew (HG1.out.below (HS0.out))).mono ?_
     rintro e wK1 ⟨rfl, hbK1⟩
     have hSK1 := bStep HS0.out hbK1
     go_wp2_with fail
     refine hK.out _ _ (fun _ => hSK1) ?_
     clear hK K
     refine zs 8 19 (.bool true) hSK1 ?_
     refine zs 9 20 (.bool true) hSK1 ?_
     refine zs 10 21 (.int .i64 (c : Int)) hSK1 ?_
     refine zs 11 22 (.pointer (some ⟨w.heap.size, 4, none⟩)) hSK1 ?_
     refine zT 12 23 (.agg #[.int .u64 (limb 0 y), .int .u64 (limb 1 y), .int .u64 (limb 2 y), .int .u64 (limb 3 y)]) rfl rfl (fun w hSw => by (obtain ⟨q0, q1, q2, q3, q4, q5, q6, q7, q8, qf⟩ := (bp1.belowAll hSw).cells; clear hSw; go_simp)) hSK1 ?_
     refine zo 13 rfl (fun K hK => ?_)
     go_simp
     refine (HBY.out wK1 (HG1.out.below (hSK1))).mono ?_
     rintro e wK2 ⟨rfl, hbK2⟩
     have hSK2 := bStep hSK1 hbK2
     go_wp2_with fail
     refine hK.out _ _ (fun _ => hSK2) ?_
     clear hK K
     refine zs 14 25 (.bool true) hSK2 ?_
     refine zs 15 26 (.bool true) hSK2 ?_
     refine zs 16 27 (.int .i64 (c : Int)) hSK2 ?_
     refine zs 17 28 (.pointer (some ⟨w.heap.size, 4, none⟩)) hSK2 ?_
     refine zT 18 29 (.agg #[.int .u64 (limb 0 y), .int .u64 (limb 1 y), .int .u64 (limb 2 y), .int .u64 (limb 3 y)]) rfl rfl (fun w hSw => by (obtain ⟨q0, q1, q2, q3, q4, q5, q6, q7, q8, qf⟩ := (bp1.belowAll hSw).cells; clear hSw; go_simp)) hSK2 ?_
     refine zs 19 30 (.pointer (some ⟨w.heap.size, 4, none⟩)) hSK2 ?_
     refine zT 20 31 (.agg #[.int .u64 (limb 0 y), .int .u64 (limb 1 y), .int .u64 (limb 2 y), .int .u64 (limb 3 y)]) rfl rfl (fun w hSw => by (obtain ⟨q0, q1, q2, q3, q4, q5, q6, q7, q8, qf⟩ := (bp1.belowAll hSw).cells; clear hSw; go_simp)) hSK2 ?_
     refine zs 22 33 (.int .i64 (c : Int)) hSK2 ?_
     refine zs 23 34 (.pointer (some ⟨w.heap.size, 0, none⟩)) hSK2 ?_
     refine zT 24 35 (.agg #[.int .u64 (limb 0 x), .int .u64 (limb 1 x), .int .u64 (limb 2 x), .int .u64 (limb 3 x)]) rfl rfl (fun w hSw => by (obtain ⟨q0, q1, q2, q3, q4, q5, q6, q7, q8, qf⟩ := (bp1.belowAll hSw).cells; clear hSw; go_simp)) hSK2 ?_
     refine zo 21 rfl (fun K hK => ?_)
     go_simp
     refine (HM.out wK2 (HG1.out.below (hSK2)).1).mono ?_
     rintro e wK3 ⟨rfl, hbK3⟩
     have hSK3 := bStep hSK2 hbK3
     go_wp2_with fail
     refine hK.out _ _ (fun _ => hSK3) ?_
     clear hK K
     refine zo 25 rfl (fun K hK => ?_)
     go_simp
     refine (HQ.out wK3 (HG1.out.below (hSK3))).mono ?_
     rintro e wK4 ⟨rfl, hbK4⟩
     have hSK4 := bStep hSK3 hbK4
     go_wp2_with fail
     refine hK.out _ _ (fun _ => hSK4) ?_
     clear hK K
     refine zs 26 37 (.bool (decide (yy = sq))) hSK4 ?_
     refine zs 27 38 (.bool (decide (yy = sq))) hSK4 ?_
     refine zs 28 4 (.bool (decide (yy = sq))) hSK4 ?_
     refine zd ?_ _
     go_wp2
     go_ret
     exact ⟨by rw [HR.out]; rfl, bStep hbw1 (hSK4)⟩
    ·rw [decide_eq_false hym] at HBY
     have HR : Hid (ans = false) := by show _ = _; rw [EA.out]; simp [hym]
     clear QE
     go_upto_region 5 with fail
     have HS0 : Hid (Below wc.heap.size wc wc.drew) := (Below.refl _ _).drew
     refine wp_region_Z (fun w' => Below wc.heap.size wc w') 99 (by kernel_rfl) ?_
     refine zs 0 11 (.pointer (some ⟨w.heap.size, 8, none⟩)) HS0.out ?_
     refine zT 1 12 (.bool false) rfl rfl (fun w hSw => by (obtain ⟨q0, q1, q2, q3, q4, q5, q6, q7, q8, qf⟩ := (bp1.belowAll hSw).cells; clear hSw; go_simp)) HS0.out ?_
     refine zs 2 13 (.bool true) HS0.out ?_
     refine zs 3 14 (.bool true) HS0.out ?_
     refine zs 4 15 (.int .i64 (c : Int)) HS0.out ?_
     refine zs 5 16 (.pointer (some ⟨w.heap.size, 0, none⟩)) HS0.out ?_
     refine zT 6 17 (.agg #[.int .u64 (limb 0 x), .int .u64 (limb 1 x), .int .u64 (limb 2 x), .int .u64 (limb 3 x)]) rfl rfl (fun w hSw => by (obtain ⟨q0, q1, q2, q3, q4, q5, q6, q7, q8, qf⟩ := (bp1.belowAll hSw).cells; clear hSw; go_simp)) HS0.out ?_
     refine zo 7 rfl (fun K hK => ?_)
     go_simp
     refine (HBX.out wc.drew (HG1.out.below (HS0.out))).mono ?_
     rintro e wK1 ⟨rfl, hbK1⟩
     have hSK1 := bStep HS0.out hbK1
     go_wp2_with fail
     refine hK.out _ _ (fun _ => hSK1) ?_
     clear hK K
     refine zs 8 19 (.bool true) hSK1 ?_
     refine zs 9 20 (.bool true) hSK1 ?_
     refine zs 10 21 (.int .i64 (c : Int)) hSK1 ?_
     refine zs 11 22 (.pointer (some ⟨w.heap.size, 4, none⟩)) hSK1 ?_
     refine zT 12 23 (.agg #[.int .u64 (limb 0 y), .int .u64 (limb 1 y), .int .u64 (limb 2 y), .int .u64 (limb 3 y)]) rfl rfl (fun w hSw => by (obtain ⟨q0, q1, q2, q3, q4, q5, q6, q7, q8, qf⟩ := (bp1.belowAll hSw).cells; clear hSw; go_simp)) hSK1 ?_
     refine zo 13 rfl (fun K hK => ?_)
     go_simp
     refine (HBY.out wK1 (HG1.out.below (hSK1))).mono ?_
     rintro e wK2 ⟨rfl, hbK2⟩
     have hSK2 := bStep hSK1 hbK2
     go_wp2_with fail
     refine hK.out _ _ (fun _ => hSK2) ?_
     clear hK K
     refine zs 14 25 (.bool false) hSK2 ?_
     refine zs 15 26 (.bool false) hSK2 ?_
     refine zU 16 27 hSK2 ?_
     refine zU 17 28 hSK2 ?_
     refine zU 18 29 hSK2 ?_
     refine zU 19 30 hSK2 ?_
     refine zU 20 31 hSK2 ?_
     refine zU 21 32 hSK2 ?_
     refine zU 22 33 hSK2 ?_
     refine zU 23 34 hSK2 ?_
     refine zU 24 35 hSK2 ?_
     refine zU 25 36 hSK2 ?_
     refine zU 26 37 hSK2 ?_
     refine zs 27 38 (.bool false) hSK2 ?_
     refine zs 28 4 (.bool false) hSK2 ?_
     refine zd ?_ _
     go_wp2
     go_ret
     exact ⟨by rw [HR.out]; rfl, bStep hbw1 (hSK2)⟩
   ·rw [decide_eq_false hxm] at HBX
    have HR : Hid (ans = false) := by show _ = _; rw [EA.out]; simp [hxm]
    clear QE
    go_upto_region 5 with fail
    have HS0 : Hid (Below wc.heap.size wc wc.drew) := (Below.refl _ _).drew
    refine wp_region_Z (fun w' => Below wc.heap.size wc w') 99 (by kernel_rfl) ?_
    refine zs 0 11 (.pointer (some ⟨w.heap.size, 8, none⟩)) HS0.out ?_
    refine zT 1 12 (.bool false) rfl rfl (fun w hSw => by (obtain ⟨q0, q1, q2, q3, q4, q5, q6, q7, q8, qf⟩ := (bp1.belowAll hSw).cells; clear hSw; go_simp)) HS0.out ?_
    refine zs 2 13 (.bool true) HS0.out ?_
    refine zs 3 14 (.bool true) HS0.out ?_
    refine zs 4 15 (.int .i64 (c : Int)) HS0.out ?_
    refine zs 5 16 (.pointer (some ⟨w.heap.size, 0, none⟩)) HS0.out ?_
    refine zT 6 17 (.agg #[.int .u64 (limb 0 x), .int .u64 (limb 1 x), .int .u64 (limb 2 x), .int .u64 (limb 3 x)]) rfl rfl (fun w hSw => by (obtain ⟨q0, q1, q2, q3, q4, q5, q6, q7, q8, qf⟩ := (bp1.belowAll hSw).cells; clear hSw; go_simp)) HS0.out ?_
    refine zo 7 rfl (fun K hK => ?_)
    go_simp
    refine (HBX.out wc.drew (HG1.out.below (HS0.out))).mono ?_
    rintro e wK1 ⟨rfl, hbK1⟩
    have hSK1 := bStep HS0.out hbK1
    go_wp2_with fail
    refine hK.out _ _ (fun _ => hSK1) ?_
    clear hK K
    refine zs 8 19 (.bool false) hSK1 ?_
    refine zs 9 20 (.bool false) hSK1 ?_
    refine zU 10 21 hSK1 ?_
    refine zU 11 22 hSK1 ?_
    refine zU 12 23 hSK1 ?_
    refine zU 13 24 hSK1 ?_
    refine zs 14 25 (.bool false) hSK1 ?_
    refine zs 15 26 (.bool false) hSK1 ?_
    refine zU 16 27 hSK1 ?_
    refine zU 17 28 hSK1 ?_
    refine zU 18 29 hSK1 ?_
    refine zU 19 30 hSK1 ?_
    refine zU 20 31 hSK1 ?_
    refine zU 21 32 hSK1 ?_
    refine zU 22 33 hSK1 ?_
    refine zU 23 34 hSK1 ?_
    refine zU 24 35 hSK1 ?_
    refine zU 25 36 hSK1 ?_
    refine zU 26 37 hSK1 ?_
    refine zs 27 38 (.bool false) hSK1 ?_
    refine zs 28 4 (.bool false) hSK1 ?_
    refine zd ?_ _
    go_wp2
    go_ret
    exact ⟨by rw [HR.out]; rfl, bStep hbw1 (hSK1)⟩
end Go.Proofs.YtdeijnlbencfdaaGreatDoor
