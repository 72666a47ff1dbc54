/- lookup's step. -/
import Derived.Test.YtobeeoelfmfpdaaDoorXLV1
namespace Go.Proofs.YtobeeoelfmfpdaaDoor
open Go.RowKit
/-- What field.Sub answers; what the reference's Sub answers. -/
def FSb (si : Int) (sb : Nat → Nat → Nat) : Prop := (∀ a b, sb a b < 115792089237316195423570985008687907853269984665640564039457584007913129639936) ∧ ∀ a b, a < 115792089237316195423570985008687907853269984665640564039457584007913129639936 → b < 115792089237316195423570985008687907853269984665640564039457584007913129639936 → ∀ w, Glob w → Calls Tryd.prog 24 #[.int .i64 si, .agg #[.int .u64 ((limb 0 (a) : Nat) : Int), .int .u64 ((limb 1 (a) : Nat) : Int), .int .u64 ((limb 2 (a) : Nat) : Int), .int .u64 ((limb 3 (a) : Nat) : Int)], .agg #[.int .u64 ((limb 0 (b) : Nat) : Int), .int .u64 ((limb 1 (b) : Nat) : Int), .int .u64 ((limb 2 (b) : Nat) : Int), .int .u64 ((limb 3 (b) : Nat) : Int)]] w fun e w' => e = .returned (.agg #[.int .u64 ((limb 0 (sb a b) : Nat) : Int), .int .u64 ((limb 1 (sb a b) : Nat) : Int), .int .u64 ((limb 2 (sb a b) : Nat) : Int), .int .u64 ((limb 3 (sb a b) : Nat) : Int)]) ∧ Below w.heap.size w w'
def RSb (si : Int) (sb : Nat → Nat → Nat) : Prop := (∀ a b, sb a b < 115792089237316195423570985008687907853269984665640564039457584007913129639936) ∧ ∀ a b, a < 115792089237316195423570985008687907853269984665640564039457584007913129639936 → b < 115792089237316195423570985008687907853269984665640564039457584007913129639936 → ∀ w, Calls Tryd.prog 43 #[.int .i64 si, .agg #[.int .u64 ((limb 0 (a) : Nat) : Int), .int .u64 ((limb 1 (a) : Nat) : Int), .int .u64 ((limb 2 (a) : Nat) : Int), .int .u64 ((limb 3 (a) : Nat) : Int)], .agg #[.int .u64 ((limb 0 (b) : Nat) : Int), .int .u64 ((limb 1 (b) : Nat) : Int), .int .u64 ((limb 2 (b) : Nat) : Int), .int .u64 ((limb 3 (b) : Nat) : Int)]] w fun e w' => e = .returned (.agg #[.int .u64 ((limb 0 (sb a b) : Nat) : Int), .int .u64 ((limb 1 (sb a b) : Nat) : Int), .int .u64 ((limb 2 (sb a b) : Nat) : Int), .int .u64 ((limb 3 (sb a b) : Nat) : Int)]) ∧ Below w.heap.size w w'
theorem fsb_in (s : Nat) (hs : s < 4) : FSb (s : Int) (subP s) := ⟨fun a b => subP_M s a b, fun a b ha hb w hg => fSub_any s a b hs ha hb w hg⟩
theorem rsb_in (s : Nat) (hs : s < 4) : RSb (s : Int) (subP s) := ⟨fun a b => subP_M s a b, fun a b ha hb w => ref2Sub_any s a b hs ha hb w⟩
set_option maxHeartbeats 4000000 in
set_option maxRecDepth 20000 in
/-- lookup's step. -/
theorem step_any {si : Int} {el : Nat → Nat} {ad mu sb : Nat → Nat → Nat} (hF : Fld si el ad mu) (hS : FSb si sb) (ag cs : Array Value) (be ga x0 x1 x2 x3 x4 x5 x6 : Nat) (hA : ArgV ag si be ga) (hC : SkV cs x0 x1 x2 x3 x4 x5 x6) (hbe : be < 115792089237316195423570985008687907853269984665640564039457584007913129639936) (hga : ga < 115792089237316195423570985008687907853269984665640564039457584007913129639936) (h0 : x0 < 115792089237316195423570985008687907853269984665640564039457584007913129639936) (h1 : x1 < 115792089237316195423570985008687907853269984665640564039457584007913129639936) (h2 : x2 < 115792089237316195423570985008687907853269984665640564039457584007913129639936) (h4 : x4 < 115792089237316195423570985008687907853269984665640564039457584007913129639936) (h5 : x5 < 115792089237316195423570985008687907853269984665640564039457584007913129639936) (h6 : x6 < 115792089237316195423570985008687907853269984665640564039457584007913129639936) (w : World) (hg : Glob w) :
    Calls Tryd.prog 42 #[.agg ag, .agg cs] w fun e w' => e = .returned (.agg #[.int .u64 ((limb 0 (sb (mu x6 (mu (ad x2 be) (ad x4 ga))) (mu x5 (mu (ad x0 be) (ad x1 ga)))) : Nat) : Int), .int .u64 ((limb 1 (sb (mu x6 (mu (ad x2 be) (ad x4 ga))) (mu x5 (mu (ad x0 be) (ad x1 ga)))) : Nat) : Int), .int .u64 ((limb 2 (sb (mu x6 (mu (ad x2 be) (ad x4 ga))) (mu x5 (mu (ad x0 be) (ad x1 ga)))) : Nat) : Int), .int .u64 ((limb 3 (sb (mu x6 (mu (ad x2 be) (ad x4 ga))) (mu x5 (mu (ad x0 be) (ad x1 ga)))) : Nat) : Int)]) ∧ Below w.heap.size w w' := by
  have HP1 : Hid (∀ w, Glob w → _) := fun w hg => pair_any hF ag be ga x2 x4 hA hbe hga h2 h4 w hg
  have HP2 : Hid (∀ w, Glob w → _) := fun w hg => pair_any hF ag be ga x0 x1 hA hbe hga h0 h1 w hg
  have HM1 : Hid (∀ w, Glob w → _) := fun w hg => hF.2.2.2.2.2 x6 (mu (ad x2 be) (ad x4 ga)) h6 (hF.2.2.1 _ _) w hg
  have HM2 : Hid (∀ w, Glob w → _) := fun w hg => hF.2.2.2.2.2 x5 (mu (ad x0 be) (ad x1 ga)) h5 (hF.2.2.1 _ _) w hg
  have HSU : Hid (∀ w, Glob w → _) := fun w hg => hS.2 (mu x6 (mu (ad x2 be) (ad x4 ga))) (mu x5 (mu (ad x0 be) (ad x1 ga))) (hF.2.2.1 _ _) (hF.2.2.1 _ _) w hg
  obtain ⟨P, eP⟩ : ∃ z, z = mu (ad x2 be) (ad x4 ga) := ⟨_, rfl⟩
  obtain ⟨Q, eQ⟩ : ∃ z, z = mu (ad x0 be) (ad x1 ga) := ⟨_, rfl⟩
  rw [← eP] at HP1 HM1 HSU ⊢
  rw [← eQ] at HP2 HM2 HSU ⊢
  obtain ⟨X, eX⟩ : ∃ z, z = mu x6 P := ⟨_, rfl⟩
  obtain ⟨Y, eY⟩ : ∃ z, z = mu x5 Q := ⟨_, rfl⟩
  rw [← eX] at HM1 HSU ⊢
  rw [← eY] at HM2 HSU ⊢
  obtain ⟨Z, eZ⟩ : ∃ z, z = sb X Y := ⟨_, rfl⟩
  rw [← eZ] at HSU ⊢
  clear eP eQ eX eY eZ
  have HG : Hid (Glob w) := hg
  have HAV : Hid (ArgV ag si be ga) := hA
  have HSK : Hid (SkV cs x0 x1 x2 x3 x4 x5 x6) := hC
  have HS9 : Hid ((Tryd.prog.info? 70).map (·.size) = some ag.size) := by rw [HAV.out.1]; exact sizA
  clear hF hS hg hA hC hbe hga h0 h1 h2 h4 h5 h6
  go_enter Tryd.func42, Tryd.ntmps42
  go_upto_region 1 with fail
  have hs1 : (w.alloc (.cells ag 70)).heap.size = w.heap.size + 1 := Array.size_push ..
  have hs2 : ((w.alloc (.cells ag 70)).alloc (.cells cs 52)).heap.size = w.heap.size + 1 + 1 := by rw [← hs1]; exact Array.size_push ..
  obtain ⟨N2, e0⟩ : ∃ z, z = w.heap.size := ⟨_, rfl⟩
  obtain ⟨N3, e1⟩ : ∃ z, z = N2 + 1 := ⟨_, rfl⟩
  obtain ⟨N4, e2⟩ : ∃ z, z = N3 + 1 := ⟨_, rfl⟩
  obtain ⟨w1, hw1⟩ : ∃ z : World, z = ((w.alloc (.cells ag 70)).alloc (.cells cs 52)).alloc (.cells #[.int .u64 0, .int .u64 0, .int .u64 0, .int .u64 0] 24) := ⟨_, rfl⟩
  have b2 : Lay w1 70 N2 ag := by rw [hw1]; exact ((Lay.newAt _ _ _ e0).alloc _).alloc _
  have b3 : Lay w1 52 N3 cs := by rw [hw1]; exact (Lay.newAt _ _ _ (by rw [e1, e0, hs1])).alloc _
  have b4 : Blk w1 24 N4 (fun _ => 0) := by rw [hw1]; exact Blk.newAt _ _ _ (fun _ => 0) (by rw [e2, e1, e0, hs2])
  have hb1 : Below w.heap.size w w1 := by rw [hw1]; exact bAlloc (bAlloc (bAlloc (Below.refl _ _) _) _) _
  rw [← hw1]
  try rw [← e0]
  try rw [← e1]
  try rw [← e2]
  have l2 : w.heap.size ≤ N2 := by omega
  have l3 : w.heap.size ≤ N3 := by omega
  have l4 : w.heap.size ≤ N4 := by omega
  have n2_3 : N2 ≠ N3 := by omega
  have n2_4 : N2 ≠ N4 := by omega
  have n3_4 : N3 ≠ N4 := by omega
  clear hw1 e0 e1 e2 hs1 hs2
  have HG1 : Hid (Glob w1) := HG.out.below hb1
  go_cut [5] (fun p wx => ∃ N : Nat, p = .pointer (some ⟨N, 0, none⟩) ∧ w1.heap.size ≤ N ∧ Blk wx 24 N (fun i => limb i X) ∧ Below w1.heap.size w1 wx)
  case first =>
    have HS0 : Hid (Below w1.heap.size w1 w1.drew) := (Below.refl _ _).drew
    refine wp_region_Z (fun w' => Kp w1 w') 99 (by kernel_rfl) ?_
    refine wpZ_take (i := 0) (v := .pointer (some ⟨N2, 0, none⟩)) 7 rfl rfl (by kernel_rfl) (by kernel_rfl) (by kernel_rfl) (Or.inr (by decide)) (fun _ _ _ h => h) (Or.inl ⟨by rfl, fun w hSw => by go_simp⟩) (HS0.out) ?_
    simp only [Act.put, List.setIfInBounds_toArray]
    dsimp only [List.set_cons_zero, List.set_cons_succ]
    refine wpZ_take (i := 1) (v := .int .i64 si) 8 rfl rfl (by kernel_rfl) (by kernel_rfl) (by kernel_rfl) (Or.inr (by decide)) (fun _ _ _ h => h) (Or.inl ⟨by rfl, fun w hSw => by (have qq := (b2.belowAll hSw).at HAV.out.2.1; clear hSw; go_simp)⟩) (HS0.out) ?_
    simp only [Act.put, List.setIfInBounds_toArray]
    dsimp only [List.set_cons_zero, List.set_cons_succ]
    refine wpZ_take (i := 2) (v := .pointer (some ⟨N3, 24, none⟩)) 9 rfl rfl (by kernel_rfl) (by kernel_rfl) (by kernel_rfl) (Or.inr (by decide)) (fun _ _ _ h => h) (Or.inl ⟨by rfl, fun w hSw => by go_simp⟩) (HS0.out) ?_
    simp only [Act.put, List.setIfInBounds_toArray]
    dsimp only [List.set_cons_zero, List.set_cons_succ]
    refine wpZ_take (i := 3) (v := .agg #[.int .u64 ((limb 0 (x6) : Nat) : Int), .int .u64 ((limb 1 (x6) : Nat) : Int), .int .u64 ((limb 2 (x6) : Nat) : Int), .int .u64 ((limb 3 (x6) : Nat) : Int)]) 10 rfl rfl (by kernel_rfl) (by kernel_rfl) (by kernel_rfl) (Or.inr (by decide)) (fun _ _ _ h => h) (Or.inl ⟨by rfl, fun w hSw => by (obtain ⟨q0, q1, q2, q3⟩ : w.cell? ⟨N3, 24, none⟩ = _ ∧ w.cell? ⟨N3, 25, none⟩ = _ ∧ w.cell? ⟨N3, 26, none⟩ = _ ∧ w.cell? ⟨N3, 27, none⟩ = _ := (b3.belowAll hSw).el HSK.out.2.2.2.2.2.2.2; clear hSw; go_simp)⟩) (HS0.out) ?_
    simp only [Act.put, List.setIfInBounds_toArray]
    dsimp only [List.set_cons_zero, List.set_cons_succ]
    refine wpZ_take (i := 4) (v := .agg ag) 11 rfl rfl (by kernel_rfl) (by kernel_rfl) (by kernel_rfl) (Or.inr (by decide)) (fun _ _ _ h => h) (yLd undA rfl _ rfl N2 rfl ag HS9.out (fun w hSw => b2.belowAll hSw)) (HS0.out) ?_
    simp only [Act.put, List.setIfInBounds_toArray]
    dsimp only [List.set_cons_zero, List.set_cons_succ]
    refine wpZ_take (i := 5) (v := .pointer (some ⟨N3, 8, none⟩)) 12 rfl rfl (by kernel_rfl) (by kernel_rfl) (by kernel_rfl) (Or.inr (by decide)) (fun _ _ _ h => h) (Or.inl ⟨by rfl, fun w hSw => by go_simp⟩) (HS0.out) ?_
    simp only [Act.put, List.setIfInBounds_toArray]
    dsimp only [List.set_cons_zero, List.set_cons_succ]
    refine wpZ_take (i := 6) (v := .agg #[.int .u64 ((limb 0 (x2) : Nat) : Int), .int .u64 ((limb 1 (x2) : Nat) : Int), .int .u64 ((limb 2 (x2) : Nat) : Int), .int .u64 ((limb 3 (x2) : Nat) : Int)]) 13 rfl rfl (by kernel_rfl) (by kernel_rfl) (by kernel_rfl) (Or.inr (by decide)) (fun _ _ _ h => h) (Or.inl ⟨by rfl, fun w hSw => by (obtain ⟨q0, q1, q2, q3⟩ : w.cell? ⟨N3, 8, none⟩ = _ ∧ w.cell? ⟨N3, 9, none⟩ = _ ∧ w.cell? ⟨N3, 10, none⟩ = _ ∧ w.cell? ⟨N3, 11, none⟩ = _ := (b3.belowAll hSw).el HSK.out.2.2.2.1; clear hSw; go_simp)⟩) (HS0.out) ?_
    simp only [Act.put, List.setIfInBounds_toArray]
    dsimp only [List.set_cons_zero, List.set_cons_succ]
    refine wpZ_take (i := 7) (v := .pointer (some ⟨N3, 16, none⟩)) 14 rfl rfl (by kernel_rfl) (by kernel_rfl) (by kernel_rfl) (Or.inr (by decide)) (fun _ _ _ h => h) (Or.inl ⟨by rfl, fun w hSw => by go_simp⟩) (HS0.out) ?_
    simp only [Act.put, List.setIfInBounds_toArray]
    dsimp only [List.set_cons_zero, List.set_cons_succ]
    refine wpZ_take (i := 8) (v := .agg #[.int .u64 ((limb 0 (x4) : Nat) : Int), .int .u64 ((limb 1 (x4) : Nat) : Int), .int .u64 ((limb 2 (x4) : Nat) : Int), .int .u64 ((limb 3 (x4) : Nat) : Int)]) 15 rfl rfl (by kernel_rfl) (by kernel_rfl) (by kernel_rfl) (Or.inr (by decide)) (fun _ _ _ h => h) (Or.inl ⟨by rfl, fun w hSw => by (obtain ⟨q0, q1, q2, q3⟩ : w.cell? ⟨N3, 16, none⟩ = _ ∧ w.cell? ⟨N3, 17, none⟩ = _ ∧ w.cell? ⟨N3, 18, none⟩ = _ ∧ w.cell? ⟨N3, 19, none⟩ = _ := (b3.belowAll hSw).el HSK.out.2.2.2.2.2.1; clear hSw; go_simp)⟩) (HS0.out) ?_
    simp only [Act.put, List.setIfInBounds_toArray]
    dsimp only [List.set_cons_zero, List.set_cons_succ]
    refine wpZ_two (i := 9) (j := 11) (by kernel_rfl) rfl rfl (fun K hK => ?_) (fun K hK => ?_) 
    · go_simp
      refine (HP1.out w1.drew (HG1.out.below (HS0.out))).mono ?_
      rintro e wK1 ⟨rfl, hbK1⟩
      have hSK1 : Below w1.heap.size w1 wK1 := bStep (HS0.out) hbK1
      go_wp2_with fail
      refine hK.out _ _ (fun _ => hSK1) ?_
      clear hK K
      refine wpZ_two (i := 10) (j := 11) (by kernel_rfl) rfl rfl (fun K hK => ?_) (fun K hK => ?_) 
      · go_simp
        refine (HM1.out wK1 (HG1.out.below (hSK1))).mono ?_
        rintro e wK2 ⟨rfl, hbK2⟩
        have hSK2 : Below w1.heap.size w1 wK2 := bStep (hSK1) hbK2
        go_wp2_with fail
        refine hK.out _ _ (fun _ => hSK2) ?_
        clear hK K
        refine wpZ_one (i := 11) (by kernel_rfl) rfl (fun K hK => ?_)
        go_simp
        have hSK3' : Below w1.heap.size w1 (wK2.alloc (.cells #[.int .u64 0, .int .u64 0, .int .u64 0, .int .u64 0] 24)) := bAlloc (hSK2) _
        refine hK.out _ _ (fun _ => hSK3') ?_
        clear hK K
        obtain ⟨N5_3, hN5_3⟩ : ∃ N, N = wK2.heap.size := ⟨_, rfl⟩
        obtain ⟨wK3, hwK3⟩ : ∃ x : World, x = wK2.alloc (.cells #[.int .u64 0, .int .u64 0, .int .u64 0, .int .u64 0] 24) := ⟨_, rfl⟩
        have hSK3 : Below w1.heap.size w1 wK3 := by rw [hwK3]; exact hSK3'
        have b5_3 : Blk wK3 24 N5_3 (fun _ => 0) := by rw [hwK3, hN5_3]; exact Blk.new wK2 24 (fun _ => 0)
        have lN5_3 : w1.heap.size ≤ N5_3 := by rw [hN5_3]; exact (hSK2).size
        rw [← hwK3, ← hN5_3]
        clear hwK3 hSK3' hN5_3
        refine wpZ_one (i := 12) (by kernel_rfl) rfl (fun K hK => ?_)
        have cS := b5_3.cell; have fS := b5_3.frozen
        go_simp
        refine hK.out _ _ (fun _ => bSet4 (hSK3) lN5_3 _ _ _ _) ?_
        clear hK K cS fS
        obtain ⟨wK4, hwK4⟩ : ∃ x : World, x = ((((wK3.setCell ⟨N5_3, 0, none⟩ (.int .u64 ((limb 0 X : Nat) : Int))).setCell ⟨N5_3, 1, none⟩ (.int .u64 ((limb 1 X : Nat) : Int))).setCell ⟨N5_3, 2, none⟩ (.int .u64 ((limb 2 X : Nat) : Int))).setCell ⟨N5_3, 3, none⟩ (.int .u64 ((limb 3 X : Nat) : Int))) := ⟨_, rfl⟩
        have hSK4 : Below w1.heap.size w1 wK4 := by rw [hwK4]; exact bSet4 (hSK3) lN5_3 _ _ _ _
        have b5_4 : Blk wK4 24 N5_3 (fun i => limb i X) := by rw [hwK4]; exact b5_3.set4 (fun i => limb i X)
        rw [← hwK4]
        clear hwK4
        refine wpZ_done (by kernel_rfl) ?_ _
        go_wp2_with fail
        go_meet
        exact ⟨_, rfl, lN5_3, b5_4, hSK4⟩
      · go_simp
        have hSK2' : Below w1.heap.size w1 (wK1.alloc (.cells #[.int .u64 0, .int .u64 0, .int .u64 0, .int .u64 0] 24)) := bAlloc (hSK1) _
        refine hK.out _ _ (fun _ => hSK2') ?_
        clear hK K
        obtain ⟨N5_2, hN5_2⟩ : ∃ N, N = wK1.heap.size := ⟨_, rfl⟩
        obtain ⟨wK2, hwK2⟩ : ∃ x : World, x = wK1.alloc (.cells #[.int .u64 0, .int .u64 0, .int .u64 0, .int .u64 0] 24) := ⟨_, rfl⟩
        have hSK2 : Below w1.heap.size w1 wK2 := by rw [hwK2]; exact hSK2'
        have b5_2 : Blk wK2 24 N5_2 (fun _ => 0) := by rw [hwK2, hN5_2]; exact Blk.new wK1 24 (fun _ => 0)
        have lN5_2 : w1.heap.size ≤ N5_2 := by rw [hN5_2]; exact (hSK1).size
        rw [← hwK2, ← hN5_2]
        clear hwK2 hSK2' hN5_2
        refine wpZ_one (i := 10) (by kernel_rfl) rfl (fun K hK => ?_)
        go_simp
        refine (HM1.out wK2 (HG1.out.below (hSK2))).mono ?_
        rintro e wK3 ⟨rfl, hbK3⟩
        have hSK3 : Below w1.heap.size w1 wK3 := bStep (hSK2) hbK3
        go_wp2_with fail
        refine hK.out _ _ (fun _ => hSK3) ?_
        clear hK K
        have b5_3 := b5_2.belowAll hbK3
        refine wpZ_one (i := 12) (by kernel_rfl) rfl (fun K hK => ?_)
        have cS := b5_3.cell; have fS := b5_3.frozen
        go_simp
        refine hK.out _ _ (fun _ => bSet4 (hSK3) lN5_2 _ _ _ _) ?_
        clear hK K cS fS
        obtain ⟨wK4, hwK4⟩ : ∃ x : World, x = ((((wK3.setCell ⟨N5_2, 0, none⟩ (.int .u64 ((limb 0 X : Nat) : Int))).setCell ⟨N5_2, 1, none⟩ (.int .u64 ((limb 1 X : Nat) : Int))).setCell ⟨N5_2, 2, none⟩ (.int .u64 ((limb 2 X : Nat) : Int))).setCell ⟨N5_2, 3, none⟩ (.int .u64 ((limb 3 X : Nat) : Int))) := ⟨_, rfl⟩
        have hSK4 : Below w1.heap.size w1 wK4 := by rw [hwK4]; exact bSet4 (hSK3) lN5_2 _ _ _ _
        have b5_4 : Blk wK4 24 N5_2 (fun i => limb i X) := by rw [hwK4]; exact b5_3.set4 (fun i => limb i X)
        rw [← hwK4]
        clear hwK4
        refine wpZ_done (by kernel_rfl) ?_ _
        go_wp2_with fail
        go_meet
        exact ⟨_, rfl, lN5_2, b5_4, hSK4⟩
    · go_simp
      have hSK1' : Below w1.heap.size w1 ((w1.alloc (.cells #[.int .u64 0, .int .u64 0, .int .u64 0, .int .u64 0] 24)).drew) := (bAlloc (Below.refl _ _) _).drew
      refine hK.out _ _ (fun _ => hSK1') ?_
      clear hK K
      obtain ⟨N5_1, hN5_1⟩ : ∃ N, N = w1.heap.size := ⟨_, rfl⟩
      obtain ⟨wK1, hwK1⟩ : ∃ x : World, x = (w1.alloc (.cells #[.int .u64 0, .int .u64 0, .int .u64 0, .int .u64 0] 24)).drew := ⟨_, rfl⟩
      have hSK1 : Below w1.heap.size w1 wK1 := by rw [hwK1]; exact hSK1'
      have b5_1 : Blk wK1 24 N5_1 (fun _ => 0) := by rw [hwK1, hN5_1]; exact (Blk.new w1 24 (fun _ => 0)).drew
      have lN5_1 : w1.heap.size ≤ N5_1 := by rw [hN5_1]; exact (HS0.out).size
      rw [← hwK1, ← hN5_1]
      clear hwK1 hSK1' hN5_1
      refine wpZ_one (i := 9) (by kernel_rfl) rfl (fun K hK => ?_)
      go_simp
      refine (HP1.out wK1 (HG1.out.below (hSK1))).mono ?_
      rintro e wK2 ⟨rfl, hbK2⟩
      have hSK2 : Below w1.heap.size w1 wK2 := bStep (hSK1) hbK2
      go_wp2_with fail
      refine hK.out _ _ (fun _ => hSK2) ?_
      clear hK K
      have b5_2 := b5_1.belowAll hbK2
      refine wpZ_one (i := 10) (by kernel_rfl) rfl (fun K hK => ?_)
      go_simp
      refine (HM1.out wK2 (HG1.out.below (hSK2))).mono ?_
      rintro e wK3 ⟨rfl, hbK3⟩
      have hSK3 : Below w1.heap.size w1 wK3 := bStep (hSK2) hbK3
      go_wp2_with fail
      refine hK.out _ _ (fun _ => hSK3) ?_
      clear hK K
      have b5_3 := b5_2.belowAll hbK3
      refine wpZ_one (i := 12) (by kernel_rfl) rfl (fun K hK => ?_)
      have cS := b5_3.cell; have fS := b5_3.frozen
      go_simp
      refine hK.out _ _ (fun _ => bSet4 (hSK3) lN5_1 _ _ _ _) ?_
      clear hK K cS fS
      obtain ⟨wK4, hwK4⟩ : ∃ x : World, x = ((((wK3.setCell ⟨N5_1, 0, none⟩ (.int .u64 ((limb 0 X : Nat) : Int))).setCell ⟨N5_1, 1, none⟩ (.int .u64 ((limb 1 X : Nat) : Int))).setCell ⟨N5_1, 2, none⟩ (.int .u64 ((limb 2 X : Nat) : Int))).setCell ⟨N5_1, 3, none⟩ (.int .u64 ((limb 3 X : Nat) : Int))) := ⟨_, rfl⟩
      have hSK4 : Below w1.heap.size w1 wK4 := by rw [hwK4]; exact bSet4 (hSK3) lN5_1 _ _ _ _
      have b5_4 : Blk wK4 24 N5_1 (fun i => limb i X) := by rw [hwK4]; exact b5_3.set4 (fun i => limb i X)
      rw [← hwK4]
      clear hwK4
      refine wpZ_done (by kernel_rfl) ?_ _
      go_wp2_with fail
      go_meet
      exact ⟨_, rfl, lN5_1, b5_4, hSK4⟩
  obtain ⟨N5, rfl, l5, b5, hbx⟩ := hcut
  have c2 := b2.belowAll hbx; have c3 := b3.belowAll hbx; have c4 := b4.belowAll hbx
  have hb2 := bStep hb1 hbx
  obtain ⟨w2, hw2⟩ : ∃ z, z = wc := ⟨_, rfl⟩
  rw [← hw2] at b5 c2 c3 c4 hb2 ⊢
  clear hw2 hbx b2 b3 b4 hb1 HP1 HM1 HG1
  have HG2 : Hid (Glob w2) := HG.out.below hb2
  go_upto_region 2 with fail
  go_cut [6] (fun p wx => ∃ N : Nat, p = .pointer (some ⟨N, 0, none⟩) ∧ w2.heap.size ≤ N ∧ Blk wx 24 N (fun i => limb i Y) ∧ Below w2.heap.size w2 wx)
  case first =>
    have HS0 : Hid (Below w2.heap.size w2 w2.drew) := (Below.refl _ _).drew
    refine wp_region_Z (fun w' => Kp w2 w') 99 (by kernel_rfl) ?_
    refine wpZ_take (i := 0) (v := .pointer (some ⟨N2, 0, none⟩)) 18 rfl rfl (by kernel_rfl) (by kernel_rfl) (by kernel_rfl) (Or.inr (by decide)) (fun _ _ _ h => h) (Or.inl ⟨by rfl, fun w hSw => by go_simp⟩) (HS0.out) ?_
    simp only [Act.put, List.setIfInBounds_toArray]
    dsimp only [List.set_cons_zero, List.set_cons_succ]
    refine wpZ_take (i := 1) (v := .int .i64 si) 19 rfl rfl (by kernel_rfl) (by kernel_rfl) (by kernel_rfl) (Or.inr (by decide)) (fun _ _ _ h => h) (Or.inl ⟨by rfl, fun w hSw => by (have qq := (c2.belowAll hSw).at HAV.out.2.1; clear hSw; go_simp)⟩) (HS0.out) ?_
    simp only [Act.put, List.setIfInBounds_toArray]
    dsimp only [List.set_cons_zero, List.set_cons_succ]
    refine wpZ_take (i := 2) (v := .pointer (some ⟨N3, 20, none⟩)) 20 rfl rfl (by kernel_rfl) (by kernel_rfl) (by kernel_rfl) (Or.inr (by decide)) (fun _ _ _ h => h) (Or.inl ⟨by rfl, fun w hSw => by go_simp⟩) (HS0.out) ?_
    simp only [Act.put, List.setIfInBounds_toArray]
    dsimp only [List.set_cons_zero, List.set_cons_succ]
    refine wpZ_take (i := 3) (v := .agg #[.int .u64 ((limb 0 (x5) : Nat) : Int), .int .u64 ((limb 1 (x5) : Nat) : Int), .int .u64 ((limb 2 (x5) : Nat) : Int), .int .u64 ((limb 3 (x5) : Nat) : Int)]) 21 rfl rfl (by kernel_rfl) (by kernel_rfl) (by kernel_rfl) (Or.inr (by decide)) (fun _ _ _ h => h) (Or.inl ⟨by rfl, fun w hSw => by (obtain ⟨q0, q1, q2, q3⟩ : w.cell? ⟨N3, 20, none⟩ = _ ∧ w.cell? ⟨N3, 21, none⟩ = _ ∧ w.cell? ⟨N3, 22, none⟩ = _ ∧ w.cell? ⟨N3, 23, none⟩ = _ := (c3.belowAll hSw).el HSK.out.2.2.2.2.2.2.1; clear hSw; go_simp)⟩) (HS0.out) ?_
    simp only [Act.put, List.setIfInBounds_toArray]
    dsimp only [List.set_cons_zero, List.set_cons_succ]
    refine wpZ_take (i := 4) (v := .agg ag) 22 rfl rfl (by kernel_rfl) (by kernel_rfl) (by kernel_rfl) (Or.inr (by decide)) (fun _ _ _ h => h) (yLd undA rfl _ rfl N2 rfl ag HS9.out (fun w hSw => c2.belowAll hSw)) (HS0.out) ?_
    simp only [Act.put, List.setIfInBounds_toArray]
    dsimp only [List.set_cons_zero, List.set_cons_succ]
    refine wpZ_take (i := 5) (v := .pointer (some ⟨N3, 0, none⟩)) 23 rfl rfl (by kernel_rfl) (by kernel_rfl) (by kernel_rfl) (Or.inr (by decide)) (fun _ _ _ h => h) (Or.inl ⟨by rfl, fun w hSw => by go_simp⟩) (HS0.out) ?_
    simp only [Act.put, List.setIfInBounds_toArray]
    dsimp only [List.set_cons_zero, List.set_cons_succ]
    refine wpZ_take (i := 6) (v := .agg #[.int .u64 ((limb 0 (x0) : Nat) : Int), .int .u64 ((limb 1 (x0) : Nat) : Int), .int .u64 ((limb 2 (x0) : Nat) : Int), .int .u64 ((limb 3 (x0) : Nat) : Int)]) 24 rfl rfl (by kernel_rfl) (by kernel_rfl) (by kernel_rfl) (Or.inr (by decide)) (fun _ _ _ h => h) (Or.inl ⟨by rfl, fun w hSw => by (obtain ⟨q0, q1, q2, q3⟩ : w.cell? ⟨N3, 0, none⟩ = _ ∧ w.cell? ⟨N3, 1, none⟩ = _ ∧ w.cell? ⟨N3, 2, none⟩ = _ ∧ w.cell? ⟨N3, 3, none⟩ = _ := (c3.belowAll hSw).el HSK.out.2.1; clear hSw; go_simp)⟩) (HS0.out) ?_
    simp only [Act.put, List.setIfInBounds_toArray]
    dsimp only [List.set_cons_zero, List.set_cons_succ]
    refine wpZ_take (i := 7) (v := .pointer (some ⟨N3, 4, none⟩)) 25 rfl rfl (by kernel_rfl) (by kernel_rfl) (by kernel_rfl) (Or.inr (by decide)) (fun _ _ _ h => h) (Or.inl ⟨by rfl, fun w hSw => by go_simp⟩) (HS0.out) ?_
    simp only [Act.put, List.setIfInBounds_toArray]
    dsimp only [List.set_cons_zero, List.set_cons_succ]
    refine wpZ_take (i := 8) (v := .agg #[.int .u64 ((limb 0 (x1) : Nat) : Int), .int .u64 ((limb 1 (x1) : Nat) : Int), .int .u64 ((limb 2 (x1) : Nat) : Int), .int .u64 ((limb 3 (x1) : Nat) : Int)]) 26 rfl rfl (by kernel_rfl) (by kernel_rfl) (by kernel_rfl) (Or.inr (by decide)) (fun _ _ _ h => h) (Or.inl ⟨by rfl, fun w hSw => by (obtain ⟨q0, q1, q2, q3⟩ : w.cell? ⟨N3, 4, none⟩ = _ ∧ w.cell? ⟨N3, 5, none⟩ = _ ∧ w.cell? ⟨N3, 6, none⟩ = _ ∧ w.cell? ⟨N3, 7, none⟩ = _ := (c3.belowAll hSw).el HSK.out.2.2.1; clear hSw; go_simp)⟩) (HS0.out) ?_
    simp only [Act.put, List.setIfInBounds_toArray]
    dsimp only [List.set_cons_zero, List.set_cons_succ]
    refine wpZ_two (i := 9) (j := 11) (by kernel_rfl) rfl rfl (fun K hK => ?_) (fun K hK => ?_) 
    · go_simp
      refine (HP2.out w2.drew (HG2.out.below (HS0.out))).mono ?_
      rintro e wK1 ⟨rfl, hbK1⟩
      have hSK1 : Below w2.heap.size w2 wK1 := bStep (HS0.out) hbK1
      go_wp2_with fail
      refine hK.out _ _ (fun _ => hSK1) ?_
      clear hK K
      refine wpZ_two (i := 10) (j := 11) (by kernel_rfl) rfl rfl (fun K hK => ?_) (fun K hK => ?_) 
      · go_simp
        refine (HM2.out wK1 (HG2.out.below (hSK1))).mono ?_
        rintro e wK2 ⟨rfl, hbK2⟩
        have hSK2 : Below w2.heap.size w2 wK2 := bStep (hSK1) hbK2
        go_wp2_with fail
        refine hK.out _ _ (fun _ => hSK2) ?_
        clear hK K
        refine wpZ_one (i := 11) (by kernel_rfl) rfl (fun K hK => ?_)
        go_simp
        have hSK3' : Below w2.heap.size w2 (wK2.alloc (.cells #[.int .u64 0, .int .u64 0, .int .u64 0, .int .u64 0] 24)) := bAlloc (hSK2) _
        refine hK.out _ _ (fun _ => hSK3') ?_
        clear hK K
        obtain ⟨N6_3, hN6_3⟩ : ∃ N, N = wK2.heap.size := ⟨_, rfl⟩
        obtain ⟨wK3, hwK3⟩ : ∃ x : World, x = wK2.alloc (.cells #[.int .u64 0, .int .u64 0, .int .u64 0, .int .u64 0] 24) := ⟨_, rfl⟩
        have hSK3 : Below w2.heap.size w2 wK3 := by rw [hwK3]; exact hSK3'
        have b6_3 : Blk wK3 24 N6_3 (fun _ => 0) := by rw [hwK3, hN6_3]; exact Blk.new wK2 24 (fun _ => 0)
        have lN6_3 : w2.heap.size ≤ N6_3 := by rw [hN6_3]; exact (hSK2).size
        rw [← hwK3, ← hN6_3]
        clear hwK3 hSK3' hN6_3
        refine wpZ_one (i := 12) (by kernel_rfl) rfl (fun K hK => ?_)
        have cS := b6_3.cell; have fS := b6_3.frozen
        go_simp
        refine hK.out _ _ (fun _ => bSet4 (hSK3) lN6_3 _ _ _ _) ?_
        clear hK K cS fS
        obtain ⟨wK4, hwK4⟩ : ∃ x : World, x = ((((wK3.setCell ⟨N6_3, 0, none⟩ (.int .u64 ((limb 0 Y : Nat) : Int))).setCell ⟨N6_3, 1, none⟩ (.int .u64 ((limb 1 Y : Nat) : Int))).setCell ⟨N6_3, 2, none⟩ (.int .u64 ((limb 2 Y : Nat) : Int))).setCell ⟨N6_3, 3, none⟩ (.int .u64 ((limb 3 Y : Nat) : Int))) := ⟨_, rfl⟩
        have hSK4 : Below w2.heap.size w2 wK4 := by rw [hwK4]; exact bSet4 (hSK3) lN6_3 _ _ _ _
        have b6_4 : Blk wK4 24 N6_3 (fun i => limb i Y) := by rw [hwK4]; exact b6_3.set4 (fun i => limb i Y)
        rw [← hwK4]
        clear hwK4
        refine wpZ_done (by kernel_rfl) ?_ _
        go_wp2_with fail
        go_meet
        exact ⟨_, rfl, lN6_3, b6_4, hSK4⟩
      · go_simp
        have hSK2' : Below w2.heap.size w2 (wK1.alloc (.cells #[.int .u64 0, .int .u64 0, .int .u64 0, .int .u64 0] 24)) := bAlloc (hSK1) _
        refine hK.out _ _ (fun _ => hSK2') ?_
        clear hK K
        obtain ⟨N6_2, hN6_2⟩ : ∃ N, N = wK1.heap.size := ⟨_, rfl⟩
        obtain ⟨wK2, hwK2⟩ : ∃ x : World, x = wK1.alloc (.cells #[.int .u64 0, .int .u64 0, .int .u64 0, .int .u64 0] 24) := ⟨_, rfl⟩
        have hSK2 : Below w2.heap.size w2 wK2 := by rw [hwK2]; exact hSK2'
        have b6_2 : Blk wK2 24 N6_2 (fun _ => 0) := by rw [hwK2, hN6_2]; exact Blk.new wK1 24 (fun _ => 0)
        have lN6_2 : w2.heap.size ≤ N6_2 := by rw [hN6_2]; exact (hSK1).size
        rw [← hwK2, ← hN6_2]
        clear hwK2 hSK2' hN6_2
        refine wpZ_one (i := 10) (by kernel_rfl) rfl (fun K hK => ?_)
        go_simp
        refine (HM2.out wK2 (HG2.out.below (hSK2))).mono ?_
        rintro e wK3 ⟨rfl, hbK3⟩
        have hSK3 : Below w2.heap.size w2 wK3 := bStep (hSK2) hbK3
        go_wp2_with fail
        refine hK.out _ _ (fun _ => hSK3) ?_
        clear hK K
        have b6_3 := b6_2.belowAll hbK3
        refine wpZ_one (i := 12) (by kernel_rfl) rfl (fun K hK => ?_)
        have cS := b6_3.cell; have fS := b6_3.frozen
        go_simp
        refine hK.out _ _ (fun _ => bSet4 (hSK3) lN6_2 _ _ _ _) ?_
        clear hK K cS fS
        obtain ⟨wK4, hwK4⟩ : ∃ x : World, x = ((((wK3.setCell ⟨N6_2, 0, none⟩ (.int .u64 ((limb 0 Y : Nat) : Int))).setCell ⟨N6_2, 1, none⟩ (.int .u64 ((limb 1 Y : Nat) : Int))).setCell ⟨N6_2, 2, none⟩ (.int .u64 ((limb 2 Y : Nat) : Int))).setCell ⟨N6_2, 3, none⟩ (.int .u64 ((limb 3 Y : Nat) : Int))) := ⟨_, rfl⟩
        have hSK4 : Below w2.heap.size w2 wK4 := by rw [hwK4]; exact bSet4 (hSK3) lN6_2 _ _ _ _
        have b6_4 : Blk wK4 24 N6_2 (fun i => limb i Y) := by rw [hwK4]; exact b6_3.set4 (fun i => limb i Y)
        rw [← hwK4]
        clear hwK4
        refine wpZ_done (by kernel_rfl) ?_ _
        go_wp2_with fail
        go_meet
        exact ⟨_, rfl, lN6_2, b6_4, hSK4⟩
    · go_simp
      have hSK1' : Below w2.heap.size w2 ((w2.alloc (.cells #[.int .u64 0, .int .u64 0, .int .u64 0, .int .u64 0] 24)).drew) := (bAlloc (Below.refl _ _) _).drew
      refine hK.out _ _ (fun _ => hSK1') ?_
      clear hK K
      obtain ⟨N6_1, hN6_1⟩ : ∃ N, N = w2.heap.size := ⟨_, rfl⟩
      obtain ⟨wK1, hwK1⟩ : ∃ x : World, x = (w2.alloc (.cells #[.int .u64 0, .int .u64 0, .int .u64 0, .int .u64 0] 24)).drew := ⟨_, rfl⟩
      have hSK1 : Below w2.heap.size w2 wK1 := by rw [hwK1]; exact hSK1'
      have b6_1 : Blk wK1 24 N6_1 (fun _ => 0) := by rw [hwK1, hN6_1]; exact (Blk.new w2 24 (fun _ => 0)).drew
      have lN6_1 : w2.heap.size ≤ N6_1 := by rw [hN6_1]; exact (HS0.out).size
      rw [← hwK1, ← hN6_1]
      clear hwK1 hSK1' hN6_1
      refine wpZ_one (i := 9) (by kernel_rfl) rfl (fun K hK => ?_)
      go_simp
      refine (HP2.out wK1 (HG2.out.below (hSK1))).mono ?_
      rintro e wK2 ⟨rfl, hbK2⟩
      have hSK2 : Below w2.heap.size w2 wK2 := bStep (hSK1) hbK2
      go_wp2_with fail
      refine hK.out _ _ (fun _ => hSK2) ?_
      clear hK K
      have b6_2 := b6_1.belowAll hbK2
      refine wpZ_one (i := 10) (by kernel_rfl) rfl (fun K hK => ?_)
      go_simp
      refine (HM2.out wK2 (HG2.out.below (hSK2))).mono ?_
      rintro e wK3 ⟨rfl, hbK3⟩
      have hSK3 : Below w2.heap.size w2 wK3 := bStep (hSK2) hbK3
      go_wp2_with fail
      refine hK.out _ _ (fun _ => hSK3) ?_
      clear hK K
      have b6_3 := b6_2.belowAll hbK3
      refine wpZ_one (i := 12) (by kernel_rfl) rfl (fun K hK => ?_)
      have cS := b6_3.cell; have fS := b6_3.frozen
      go_simp
      refine hK.out _ _ (fun _ => bSet4 (hSK3) lN6_1 _ _ _ _) ?_
      clear hK K cS fS
      obtain ⟨wK4, hwK4⟩ : ∃ x : World, x = ((((wK3.setCell ⟨N6_1, 0, none⟩ (.int .u64 ((limb 0 Y : Nat) : Int))).setCell ⟨N6_1, 1, none⟩ (.int .u64 ((limb 1 Y : Nat) : Int))).setCell ⟨N6_1, 2, none⟩ (.int .u64 ((limb 2 Y : Nat) : Int))).setCell ⟨N6_1, 3, none⟩ (.int .u64 ((limb 3 Y : Nat) : Int))) := ⟨_, rfl⟩
      have hSK4 : Below w2.heap.size w2 wK4 := by rw [hwK4]; exact bSet4 (hSK3) lN6_1 _ _ _ _
      have b6_4 : Blk wK4 24 N6_1 (fun i => limb i Y) := by rw [hwK4]; exact b6_3.set4 (fun i => limb i Y)
      rw [← hwK4]
      clear hwK4
      refine wpZ_done (by kernel_rfl) ?_ _
      go_wp2_with fail
      go_meet
      exact ⟨_, rfl, lN6_1, b6_4, hSK4⟩
  obtain ⟨N6, rfl, l6, b6, hbx⟩ := hcut
  have d2 := c2.belowAll hbx; have d5 := b5.belowAll hbx; have d4 := c4.belowAll hbx
  have hb3 := bStep hb2 hbx
  obtain ⟨w3, hw3⟩ : ∃ z, z = wc := ⟨_, rfl⟩
  rw [← hw3] at b6 d2 d4 d5 hb3 ⊢
  clear hw3 hbx b5 c2 c3 c4 hb2 HP2 HM2 HG2
  have q2 := d2.at HAV.out.2.1
  have q5 := d5.cell; have q6 := b6.cell
  go_wp2_with fail
  refine (HSU.out w3 (HG.out.below hb3)).mono ?_
  rintro e w4 ⟨rfl, hbx⟩
  have e4 := d4.belowAll hbx
  have hb4 := bStep hb3 hbx
  clear q2 q5 q6 d2 d4 d5 b6 hb3 hbx
  have c4 := e4.cell; have f4 := e4.frozen
  obtain ⟨w5, hw5, s4, hk5⟩ := e4.put4 Z
  have hbe := bKept hb4 l4 hk5
  go_wp2
  have r0 := s4.cell 0 (by decide); have r1 := s4.cell 1 (by decide); have r2 := s4.cell 2 (by decide); have r3 := s4.cell 3 (by decide)
  refine bodyPost_ret (v := .agg #[.int .u64 ((limb 0 (Z) : Nat) : Int), .int .u64 ((limb 1 (Z) : Nat) : Int), .int .u64 ((limb 2 (Z) : Nat) : Int), .int .u64 ((limb 3 (Z) : Nat) : Int)]) (by simp [results, Tryd.results42, go_sem, r0, r1, r2, r3]) rfl ⟨rfl, ?_⟩
  exact hbe
