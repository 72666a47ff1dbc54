/- lookup's step. -/
import Derived.Test.YtfdddpndjmookaaGreatDoorMQ1
import Derived.Test.YtfdddpndjmookaaGreatDoorMD2
namespace Go.Proofs.YtfdddpndjmookaaGreatDoor
open Go.RowKit

/-- What field.Sub answers; what the reference's Sub answers. -/
def FSb (si : Int) (sb : Nat → Nat → Nat) : Prop := (∀ a b, sb a b < 115792089237316195423570985008687907853269984665640564039457584007913129639936) ∧ ∀ a b, a < 115792089237316195423570985008687907853269984665640564039457584007913129639936 → b < 115792089237316195423570985008687907853269984665640564039457584007913129639936 → ∀ w, Glob w → Calls Tryz.prog 30 #[.int .i64 si, .agg #[.int .u64 ((limb 0 (a) : Nat) : Int), .int .u64 ((limb 1 (a) : Nat) : Int), .int .u64 ((limb 2 (a) : Nat) : Int), .int .u64 ((limb 3 (a) : Nat) : Int)], .agg #[.int .u64 ((limb 0 (b) : Nat) : Int), .int .u64 ((limb 1 (b) : Nat) : Int), .int .u64 ((limb 2 (b) : Nat) : Int), .int .u64 ((limb 3 (b) : Nat) : Int)]] w fun e w' => e = .returned (.agg #[.int .u64 ((limb 0 (sb a b) : Nat) : Int), .int .u64 ((limb 1 (sb a b) : Nat) : Int), .int .u64 ((limb 2 (sb a b) : Nat) : Int), .int .u64 ((limb 3 (sb a b) : Nat) : Int)]) ∧ Below w.heap.size w w'
theorem fsb_in (s : Nat) (hs : s < 4) : FSb (s : Int) (subP s) := ⟨fun a b => subP_M s a b, fun a b ha hb w hg => fSub_any s a b hs ha hb w hg⟩
set_option maxHeartbeats 4000000 in
set_option maxRecDepth 20000 in
/-- lookup's step. -/
theorem step_any {si : Int} {el : Nat → Nat} {ad mu sb : Nat → Nat → Nat} (hF : Fld si el ad mu) (hS : FSb si sb) (ag cs : Array Value) (be ga x0 x1 x2 x3 x4 x5 x6 : Nat) (hA : ArgV ag si be ga) (hC : SkV cs x0 x1 x2 x3 x4 x5 x6) (hbe : be < 115792089237316195423570985008687907853269984665640564039457584007913129639936) (hga : ga < 115792089237316195423570985008687907853269984665640564039457584007913129639936) (h0 : x0 < 115792089237316195423570985008687907853269984665640564039457584007913129639936) (h1 : x1 < 115792089237316195423570985008687907853269984665640564039457584007913129639936) (h2 : x2 < 115792089237316195423570985008687907853269984665640564039457584007913129639936) (h4 : x4 < 115792089237316195423570985008687907853269984665640564039457584007913129639936) (h5 : x5 < 115792089237316195423570985008687907853269984665640564039457584007913129639936) (h6 : x6 < 115792089237316195423570985008687907853269984665640564039457584007913129639936) (w : World) (hg : Glob w) :
    Calls Tryz.prog 32 #[.agg ag, .agg cs] w fun e w' => e = .returned (.agg #[.int .u64 ((limb 0 (sb (mu x6 (mu (ad x2 be) (ad x4 ga))) (mu x5 (mu (ad x0 be) (ad x1 ga)))) : Nat) : Int), .int .u64 ((limb 1 (sb (mu x6 (mu (ad x2 be) (ad x4 ga))) (mu x5 (mu (ad x0 be) (ad x1 ga)))) : Nat) : Int), .int .u64 ((limb 2 (sb (mu x6 (mu (ad x2 be) (ad x4 ga))) (mu x5 (mu (ad x0 be) (ad x1 ga)))) : Nat) : Int), .int .u64 ((limb 3 (sb (mu x6 (mu (ad x2 be) (ad x4 ga))) (mu x5 (mu (ad x0 be) (ad x1 ga)))) : Nat) : Int)]) ∧ Below w.heap.size w w' := by
  have HP1 : Hid (∀ w, Glob w → _) := fun w hg => pair_any hF ag be ga x2 x4 hA hbe hga h2 h4 w hg
  have HP2 : Hid (∀ w, Glob w → _) := fun w hg => pair_any hF ag be ga x0 x1 hA hbe hga h0 h1 w hg
  have HM1 : Hid (∀ w, Glob w → _) := fun w hg => hF.2.2.2.2.2 x6 (mu (ad x2 be) (ad x4 ga)) h6 (hF.2.2.1 _ _) w hg
  have HM2 : Hid (∀ w, Glob w → _) := fun w hg => hF.2.2.2.2.2 x5 (mu (ad x0 be) (ad x1 ga)) h5 (hF.2.2.1 _ _) w hg
  have HSU : Hid (∀ w, Glob w → _) := fun w hg => hS.2 (mu x6 (mu (ad x2 be) (ad x4 ga))) (mu x5 (mu (ad x0 be) (ad x1 ga))) (hF.2.2.1 _ _) (hF.2.2.1 _ _) w hg
  obtain ⟨P, eP⟩ : ∃ z, z = mu (ad x2 be) (ad x4 ga) := ⟨_, rfl⟩
  obtain ⟨Q, eQ⟩ : ∃ z, z = mu (ad x0 be) (ad x1 ga) := ⟨_, rfl⟩
  rw [← eP] at HP1 HM1 HSU ⊢
  rw [← eQ] at HP2 HM2 HSU ⊢
  obtain ⟨X, eX⟩ : ∃ z, z = mu x6 P := ⟨_, rfl⟩
  obtain ⟨Y, eY⟩ : ∃ z, z = mu x5 Q := ⟨_, rfl⟩
  rw [← eX] at HM1 HSU ⊢
  rw [← eY] at HM2 HSU ⊢
  obtain ⟨Z, eZ⟩ : ∃ z, z = sb X Y := ⟨_, rfl⟩
  rw [← eZ] at HSU ⊢
  clear eP eQ eX eY eZ
  have HG : Hid (Glob w) := hg
  have HAV : Hid (ArgV ag si be ga) := hA
  have HSK : Hid (SkV cs x0 x1 x2 x3 x4 x5 x6) := hC
  have HS9 : Hid ((Tryz.prog.info? 60).map (·.size) = some ag.size) := by rw [HAV.out.1]; exact sizA
  clear hF hS hg hA hC hbe hga h0 h1 h2 h4 h5 h6
  go_enter Tryz.func32, Tryz.ntmps32
  go_upto_region 1 with fail
  have hs1 : (w.alloc (.cells ag 60)).heap.size = w.heap.size + 1 := Array.size_push ..
  have hs2 : ((w.alloc (.cells ag 60)).alloc (.cells cs 43)).heap.size = w.heap.size + 1 + 1 := by rw [← hs1]; exact Array.size_push ..
  obtain ⟨N2, e0⟩ : ∃ z, z = w.heap.size := ⟨_, rfl⟩
  obtain ⟨N3, e1⟩ : ∃ z, z = N2 + 1 := ⟨_, rfl⟩
  obtain ⟨N4, e2⟩ : ∃ z, z = N3 + 1 := ⟨_, rfl⟩
  obtain ⟨w1, hw1⟩ : ∃ z : World, z = ((w.alloc (.cells ag 60)).alloc (.cells cs 43)).alloc (.cells #[.int .u64 0, .int .u64 0, .int .u64 0, .int .u64 0] 25) := ⟨_, rfl⟩
  have b2 : Lay w1 60 N2 ag := by rw [hw1]; exact ((Lay.newAt _ _ _ e0).alloc _).alloc _
  have b3 : Lay w1 43 N3 cs := by rw [hw1]; exact (Lay.newAt _ _ _ (by rw [e1, e0, hs1])).alloc _
  have b4 : Blk w1 25 N4 (fun _ => 0) := by rw [hw1]; exact Blk.newAt _ _ _ (fun _ => 0) (by rw [e2, e1, e0, hs2])
  have hb1 : Below w.heap.size w w1 := by rw [hw1]; exact bAlloc (bAlloc (bAlloc (Below.refl _ _) _) _) _
  rw [← hw1]
  try rw [← e0]
  try rw [← e1]
  try rw [← e2]
  have l2 : w.heap.size ≤ N2 := by omega
  have l3 : w.heap.size ≤ N3 := by omega
  have l4 : w.heap.size ≤ N4 := by omega
  have n2_3 : N2 ≠ N3 := by omega
  have n2_4 : N2 ≠ N4 := by omega
  have n3_4 : N3 ≠ N4 := by omega
  clear hw1 e0 e1 e2 hs1 hs2
  have HG1 : Hid (Glob w1) := HG.out.below hb1
  go_cut [5] (fun p wx => ∃ N : Nat, p = .pointer (some ⟨N, 0, none⟩) ∧ w1.heap.size ≤ N ∧ Blk wx 25 N (fun i => limb i X) ∧ Below w1.heap.size w1 wx)
  case first =>
    have HS0 : Hid (Below w1.heap.size w1 w1.drew) := (Below.refl _ _).drew
    refine wp_region_Z (fun w' => Kp w1 w') 99 (by kernel_rfl) ?_
    refine wpZ_take (i := 0) (v := .pointer (some ⟨N2, 0, none⟩)) 7 rfl rfl (by kernel_rfl) (by kernel_rfl) (by kernel_rfl) (Or.inr (by decide)) (fun _ _ _ h => h) (Or.inl ⟨by rfl, fun w hSw => by go_simp⟩) (HS0.out) ?_
    simp only [Act.put, List.setIfInBounds_toArray]
    dsimp only [List.set_cons_zero, List.set_cons_succ]
    refine wpZ_take (i := 1) (v := .int .i64 si) 8 rfl rfl (by kernel_rfl) (by kernel_rfl) (by kernel_rfl) (Or.inr (by decide)) (fun _ _ _ h => h) (Or.inl ⟨by rfl, fun w hSw => by (have qq := (b2.belowAll hSw).at HAV.out.2.1; clear hSw; go_simp)⟩) (HS0.out) ?_
    simp only [Act.put, List.setIfInBounds_toArray]
    dsimp only [List.set_cons_zero, List.set_cons_succ]
    refine wpZ_take (i := 2) (v := .pointer (some ⟨N3, 24, none⟩)) 9 rfl rfl (by kernel_rfl) (by kernel_rfl) (by kernel_rfl) (Or.inr (by decide)) (fun _ _ _ h => h) (Or.inl ⟨by rfl, fun w hSw => by go_simp⟩) (HS0.out) ?_
    simp only [Act.put, List.setIfInBounds_toArray]
    dsimp only [List.set_cons_zero, List.set_cons_succ]
    refine wpZ_take (i := 3) (v := .agg #[.int .u64 ((limb 0 (x6) : Nat) : Int), .int .u64 ((limb 1 (x6) : Nat) : Int), .int .u64 ((limb 2 (x6) : Nat) : Int), .int .u64 ((limb 3 (x6) : Nat) : Int)]) 10 rfl rfl (by kernel_rfl) (by kernel_rfl) (by kernel_rfl) (Or.inr (by decide)) (fun _ _ _ h => h) (Or.inl ⟨by rfl, fun w hSw => by (obtain ⟨q0, q1, q2, q3⟩ : w.cell? ⟨N3, 24, none⟩ = _ ∧ w.cell? ⟨N3, 25, none⟩ = _ ∧ w.cell? ⟨N3, 26, none⟩ = _ ∧ w.cell? ⟨N3, 27, none⟩ = _ := (b3.belowAll hSw).el HSK.out.2.2.2.2.2.2.2; clear hSw; go_simp)⟩) (HS0.out) ?_
    simp only [Act.put, List.setIfInBounds_toArray]
    dsimp only [List.set_cons_zero, List.set_cons_succ]
    refine wpZ_take (i := 4) (v := .agg ag) 11 rfl rfl (by kernel_rfl) (by kernel_rfl) (by kernel_rfl) (Or.inr (by decide)) (fun _ _ _ h => h) (yLd undA rfl _ rfl N2 rfl ag HS9.out (fun w hSw => b2.belowAll hSw)) (HS0.out) ?_
    simp only [Act.put, List.setIfInBounds_toArray]
    dsimp only [List.set_cons_zero, List.set_cons_succ]
    refine wpZ_take (i := 5) (v := .pointer (some ⟨N3, 8, none⟩)) 12 rfl rfl (by kernel_rfl) (by kernel_rfl) (by kernel_rfl) (Or.inr (by decide)) (fun _ _ _ h => h) (Or.inl ⟨by rfl, fun w hSw => by go_simp⟩) (HS0.out) ?_
    simp only [Act.put, List.setIfInBounds_toArray]
    dsimp only [List.set_cons_zero, List.set_cons_succ]
    refine wpZ_take (i := 6) (v := .agg #[.int .u64 ((limb 0 (x2) : Nat) : Int), .int .u64 ((limb 1 (x2) : Nat) : Int), .int .u64 ((limb 2 (x2) : Nat) : Int), .int .u64 ((limb 3 (x2) : Nat) : Int)]) 13 rfl rfl (by kernel_rfl) (by kernel_rfl) (by kernel_rfl) (Or.inr (by decide)) (fun _ _ _ h => h) (Or.inl ⟨by rfl, fun w hSw => by (obtain ⟨q0, q1, q2, q3⟩ : w.cell? ⟨N3, 8, none⟩ = _ ∧ w.cell? ⟨N3, 9, none⟩ = _ ∧ w.cell? ⟨N3, 10, none⟩ = _ ∧ w.cell? ⟨N3, 11, none⟩ = _ := (b3.belowAll hSw).el HSK.out.2.2.2.1; clear hSw; go_simp)⟩) (HS0.out) ?_
    simp only [Act.put, List.setIfInBounds_toArray]
    dsimp only [List.set_cons_zero, List.set_cons_succ]
    refine wpZ_take (i := 7) (v := .pointer (some ⟨N3, 16, none⟩)) 14 rfl rfl (by kernel_rfl) (by kernel_rfl) (by kernel_rfl) (Or.inr (by decide)) (fun _ _ _ h => h) (Or.inl ⟨by rfl, fun w hSw => by go_simp⟩) (HS0.out) ?_
    simp only [Act.put, List.setIfInBounds_toArray]
    dsimp only [List.set_cons_zero, List.set_cons_succ]
    refine wpZ_take (i := 8) (v := .agg #[.int .u64 ((limb 0 (x4) : Nat) : Int), .int .u64 ((limb 1 (x4) : Nat) : Int), .int .u64 ((limb 2 (x4) : Nat) : Int), .int .u64 ((limb 3 (x4) : Nat) : Int)]) 15 rfl rfl (by kernel_rfl) (by kernel_rfl) (by kernel_rfl) (Or.inr (by decide)) (fun _ _ _ h => h) (Or.inl ⟨by rfl, fun w hSw => by (obtain ⟨q0, q1, q2, q3⟩ : w.cell? ⟨N3, 16, none⟩ = _ ∧ w.cell? ⟨N3, 17, none⟩ = _ ∧ w.cell? ⟨N3, 18, none⟩ = _ ∧ w.cell? ⟨N3, 19, none⟩ = _ := (b3.belowAll hSw).el HSK.out.2.2.2.2.2.1; clear hSw; go_simp)⟩) (HS0.out) ?_
    simp only [Act.put, List.setIfInBounds_toArray]
    dsimp only [List.set_cons_zero, List.set_cons_succ]
    refine wpZ_two (i := 9) (j := 11) (by kernel_rfl) rfl rfl (fun K hK => ?_) (fun K hK => ?_) 
    · go_simp
      refine (HP1.out w1.drew (HG1.out.below (HS0.out))).mono ?_
      rintro e wK1 ⟨rfl, hbK1⟩
      have hSK1 : Below w1.heap.size w1 wK1 := bStep (HS0.out) hbK1
      go_wp2_with fail
      refine hK.out _ _ (fun _ => hSK1) ?_
      clear hK K
      refine wpZ_two (i := 10) (j := 11) (by kernel_rfl) rfl rfl (fun K hK => ?_) (fun K hK => ?_) 
      · go_simp
        refine (HM1.out wK1 (HG1.out.below (hSK1))).mono ?_
        rintro e wK2 ⟨rfl, hbK2⟩
        have hSK2 : Below w1.heap.size w1 wK2 := bStep (hSK1) hbK2
        go_wp2_with fail
        refine hK.out _ _ (fun _ => hSK2) ?_
        clear hK K
        refine wpZ_one (i := 11) (by kernel_rfl) rfl (fun K hK => ?_)
        go_simp
        have hSK3' : Below w1.heap.size w1 (wK2.alloc (.cells #[.int .u64 0, .int .u64 0, .int .u64 0, .int .u64 0] 25)) := bAlloc (hSK2) _
        refine hK.out _ _ (fun _ => hSK3') ?_
        clear hK K
        obtain ⟨N5_3, hN5_3⟩ : ∃ N, N = wK2.heap.size := ⟨_, rfl⟩
        obtain ⟨wK3, hwK3⟩ : ∃ x : World, x = wK2.alloc (.cells #[.int .u64 0, .int .u64 0, .int .u64 0, .int .u64 0] 25) := ⟨_, rfl⟩
        have hSK3 : Below w1.heap.size w1 wK3 := by rw [hwK3]; exact hSK3'
        have b5_3 : Blk wK3 25 N5_3 (fun _ => 0) := by rw [hwK3, hN5_3]; exact Blk.new wK2 25 (fun _ => 0)
        have lN5_3 : w1.heap.size ≤ N5_3 := by rw [hN5_3]; exact (hSK2).size
        rw [← hwK3, ← hN5_3]
        clear hwK3 hSK3' hN5_3
        refine wpZ_one (i := 12) (by kernel_rfl) rfl (fun K hK => ?_)
        have cS := b5_3.cell; have fS := b5_3.frozen
        go_simp
        refine hK.out _ _ (fun _ => bSet4 (hSK3) lN5_3 _ _ _ _) ?_
        clear hK K cS fS
        obtain ⟨wK4, hwK4⟩ : ∃ x : World, x = ((((wK3.setCell ⟨N5_3, 0, none⟩ (.int .u64 ((limb 0 X : Nat) : Int))).setCell ⟨N5_3, 1, none⟩ (.int .u64 ((limb 1 X : Nat) : Int))).setCell ⟨N5_3, 2, none⟩ (.int .u64 ((limb 2 X : Nat) : Int))).setCell ⟨N5_3, 3, none⟩ (.int .u64 ((limb 3 X : Nat) : Int))) := ⟨_, rfl⟩
        have hSK4 : Below w1.heap.size w1 wK4 := by rw [hwK4]; exact bSet4 (hSK3) lN5_3 _ _ _ _
        have b5_4 : Blk wK4 25 N5_3 (fun i => limb i X) := by rw [hwK4]; exact b5_3.set4 (fun i => limb i X)
        rw [← hwK4]
        clear hwK4
        refine wpZ_done (by kernel_rfl) ?_ _
        go_wp2_with fail
        go_meet
        exact ⟨_, rfl, lN5_3, b5_4, hSK4⟩
      · go_simp
        have hSK2' : Below w1.heap.size w1 (wK1.alloc (.cells #[.int .u64 0, .int .u64 0, .int .u64 0, .int .u64 0] 25)) := bAlloc (hSK1) _
        refine hK.out _ _ (fun _ => hSK2') ?_
        clear hK K
        obtain ⟨N5_2, hN5_2⟩ : ∃ N, N = wK1.heap.size := ⟨_, rfl⟩
        obtain ⟨wK2, hwK2⟩ : ∃ x : World, x = wK1.alloc (.cells #[.int .u64 0, .int .u64 0, .int .u64 0, .int .u64 0] 25) := ⟨_, rfl⟩
        have hSK2 : Below w1.heap.size w1 wK2 := by rw [hwK2]; exact hSK2'
        have b5_2 : Blk wK2 25 N5_2 (fun _ => 0) := by rw [hwK2, hN5_2]; exact Blk.new wK1 25 (fun _ => 0)
        have lN5_2 : w1.heap.size ≤ N5_2 := by rw [hN5_2]; exact (hSK1).size
        rw [← hwK2, ← hN5_2]
        clear hwK2 hSK2' hN5_2
        refine wpZ_one (i := 10) (by kernel_rfl) rfl (fun K hK => ?_)
        go_simp
        refine (HM1.out wK2 (HG1.out.below (hSK2))).mono ?_
        rintro e wK3 ⟨rfl, hbK3⟩
        have hSK3 : Below w1.heap.size w1 wK3 := bStep (hSK2) hbK3
        go_wp2_with fail
        refine hK.out _ _ (fun _ => hSK3) ?_
        clear hK K
        have b5_3 := b5_2.belowAll hbK3
        refine wpZ_one (i := 12) (by kernel_rfl) rfl (fun K hK => ?_)
        have cS := b5_3.cell; have fS := b5_3.frozen
        go_simp
        refine hK.out _ _ (fun _ => bSet4 (hSK3) lN5_2 _ _ _ _) ?_
        clear hK K cS fS
        obtain ⟨wK4, hwK4⟩ : ∃ x : World, x = ((((wK3.setCell ⟨N5_2, 0, none⟩ (.int .u64 ((limb 0 X : Nat) : Int))).setCell ⟨N5_2, 1, none⟩ (.int .u64 ((limb 1 X : Nat) : Int))).setCell ⟨N5_2, 2, none⟩ (.int .u64 ((limb 2 X : Nat) : Int))).setCell ⟨N5_2, 3, none⟩ (.int .u64 ((limb 3 X : Nat) : Int))) := ⟨_, rfl⟩
        have hSK4 : Below w1.heap.size w1 wK4 := by rw [hwK4]; exact bSet4 (hSK3) lN5_2 _ _ _ _
        have b5_4 : Blk wK4 25 N5_2 (fun i => limb i X) := by rw [hwK4]; exact b5_3.set4 (fun i => limb i X)
        rw [← hwK4]
        clear hwK4
        refine wpZ_done (by kernel_rfl) ?_ _
        go_wp2_with fail
        go_meet
        exact ⟨_, rfl, lN5_2, b5_4, hSK4⟩
    · go_simp
      have hSK1' : Below w1.heap.size w1 ((w1.alloc (.cells #[.int .u64 0, .int .u64 0, .int .u64 0, .int .u64 0] 25)).drew) := (bAlloc (Below.refl _ _) _).drew
      refine hK.out _ _ (fun _ => hSK1') ?_
      clear hK K
      obtain ⟨N5_1, hN5_1⟩ : ∃ N, N = w1.heap.size := ⟨_, rfl⟩
      obtain ⟨wK1, hwK1⟩ : ∃ x : World, x = (w1.alloc (.cells #[.int .u64 0, .int .u64 0, .int .u64 0, .int .u64 0] 25)).drew := ⟨_, rfl⟩
      have hSK1 : Below w1.heap.size w1 wK1 := by rw [hwK1]; exact hSK1'
      have b5_1 : Blk wK1 25 N5_1 (fun _ => 0) := by rw [hwK1, hN5_1]; exact (Blk.new w1 25 (fun _ => 0)).drew
      have lN5_1 : w1.heap.size ≤ N5_1 := by rw [hN5_1]; exact (HS0.out).size
      rw [← hwK1, ← hN5_1]
      clear hwK1 hSK1' hN5_1
      refine wpZ_one (i := 9) (by kernel_rfl) rfl (fun K hK => ?_)
      go_simp
      refine (HP1.out wK1 (HG1.out.below (hSK1))).mono ?_
      rintro e wK2 ⟨rfl, hbK2⟩
      have hSK2 : Below w1.heap.size w1 wK2 := bStep (hSK1) hbK2
      go_wp2_with fail
      refine hK.out _ _ (fun _ => hSK2) ?_
      clear hK K
      have b5_2 := b5_1.belowAll hbK2
      refine wpZ_one (i := 10) (by kernel_rfl) rfl (fun K hK => ?_)
      go_simp
      refine (HM1.out wK2 (HG1.out.below (hSK2))).mono ?_
      rintro e wK3 ⟨rfl, hbK3⟩
      have hSK3 : Below w1.heap.size w1 wK3 := bStep (hSK2) hbK3
      go_wp2_with fail
      refine hK.out _ _ (fun _ => hSK3) ?_
      clear hK K
      have b5_3 := b5_2.belowAll hbK3
      refine wpZ_one (i := 12) (by kernel_rfl) rfl (fun K hK => ?_)
      have cS := b5_3.cell; have fS := b5_3.frozen
      go_simp
      refine hK.out _ _ (fun _ => bSet4 (hSK3) lN5_1 _ _ _ _) ?_
      clear hK K cS fS
      obtain ⟨wK4, hwK4⟩ : ∃ x : World, x = ((((wK3.setCell ⟨N5_1, 0, none⟩ (.int .u64 ((limb 0 X : Nat) : Int))).setCell ⟨N5_1, 1, none⟩ (.int .u64 ((limb 1 X : Nat) : Int))).setCell ⟨N5_1, 2, none⟩ (.int .u64 ((limb 2 X : Nat) : Int))).setCell ⟨N5_1, 3, none⟩ (.int .u64 ((limb 3 X : Nat) : Int))) := ⟨_, rfl⟩
      have hSK4 : Below w1.heap.size w1 wK4 := by rw [hwK4]; exact bSet4 (hSK3) lN5_1 _ _ _ _
      have b5_4 : Blk wK4 25 N5_1 (fun i => limb i X) := by rw [hwK4]; exact b5_3.set4 (fun i => limb i X)
      rw [← hwK4]
      clear hwK4
      refine wpZ_done (by kernel_rfl) ?_ _
      go_wp2_with fail
      go_meet
      exact ⟨_, rfl, lN5_1, b5_4, hSK4⟩
  obtain ⟨N5, rfl, l5, b5, hbx⟩ := hcut
  have c2 := b2.belowAll hbx; have c3 := b3.belowAll hbx; have c4 := b4.belowAll hbx
  have hb2 := bStep hb1 hbx
  obtain ⟨w2, hw2⟩ : ∃ z, z = wc := ⟨_, rfl⟩
  rw [← hw2] at b5 c2 c3 c4 hb2 ⊢
  clear hw2 hbx b2 b3 b4 hb1 HP1 HM1 HG1
  have HG2 : Hid (Glob w2) := HG.out.below hb2
  go_upto_region 2 with fail
  go_cut [6] (fun p wx => ∃ N : Nat, p = .pointer (some ⟨N, 0, none⟩) ∧ w2.heap.size ≤ N ∧ Blk wx 25 N (fun i => limb i Y) ∧ Below w2.heap.size w2 wx)
  case first =>
    have HS0 : Hid (Below w2.heap.size w2 w2.drew) := (Below.refl _ _).drew
    refine wp_region_Z (fun w' => Kp w2 w') 99 (by kernel_rfl) ?_
    refine wpZ_take (i := 0) (v := .pointer (some ⟨N2, 0, none⟩)) 18 rfl rfl (by kernel_rfl) (by kernel_rfl) (by kernel_rfl) (Or.inr (by decide)) (fun _ _ _ h => h) (Or.inl ⟨by rfl, fun w hSw => by go_simp⟩) (HS0.out) ?_
    simp only [Act.put, List.setIfInBounds_toArray]
    dsimp only [List.set_cons_zero, List.set_cons_succ]
    refine wpZ_take (i := 1) (v := .int .i64 si) 19 rfl rfl (by kernel_rfl) (by kernel_rfl) (by kernel_rfl) (Or.inr (by decide)) (fun _ _ _ h => h) (Or.inl ⟨by rfl, fun w hSw => by (have qq := (c2.belowAll hSw).at HAV.out.2.1; clear hSw; go_simp)⟩) (HS0.out) ?_
    simp only [Act.put, List.setIfInBounds_toArray]
    dsimp only [List.set_cons_zero, List.set_cons_succ]
    refine wpZ_take (i := 2) (v := .pointer (some ⟨N3, 20, none⟩)) 20 rfl rfl (by kernel_rfl) (by kernel_rfl) (by kernel_rfl) (Or.inr (by decide)) (fun _ _ _ h => h) (Or.inl ⟨by rfl, fun w hSw => by go_simp⟩) (HS0.out) ?_
    simp only [Act.put, List.setIfInBounds_toArray]
    dsimp only [List.set_cons_zero, List.set_cons_succ]
    refine wpZ_take (i := 3) (v := .agg #[.int .u64 ((limb 0 (x5) : Nat) : Int), .int .u64 ((limb 1 (x5) : Nat) : Int), .int .u64 ((limb 2 (x5) : Nat) : Int), .int .u64 ((limb 3 (x5) : Nat) : Int)]) 21 rfl rfl (by kernel_rfl) (by kernel_rfl) (by kernel_rfl) (Or.inr (by decide)) (fun _ _ _ h => h) (Or.inl ⟨by rfl, fun w hSw => by (obtain ⟨q0, q1, q2, q3⟩ : w.cell? ⟨N3, 20, none⟩ = _ ∧ w.cell? ⟨N3, 21, none⟩ = _ ∧ w.cell? ⟨N3, 22, none⟩ = _ ∧ w.cell? ⟨N3, 23, none⟩ = _ := (c3.belowAll hSw).el HSK.out.2.2.2.2.2.2.1; clear hSw; go_simp)⟩) (HS0.out) ?_
    simp only [Act.put, List.setIfInBounds_toArray]
    dsimp only [List.set_cons_zero, List.set_cons_succ]
    refine wpZ_take (i := 4) (v := .agg ag) 22 rfl rfl (by kernel_rfl) (by kernel_rfl) (by kernel_rfl) (Or.inr (by decide)) (fun _ _ _ h => h) (yLd undA rfl _ rfl N2 rfl ag HS9.out (fun w hSw => c2.belowAll hSw)) (HS0.out) ?_
    simp only [Act.put, List.setIfInBounds_toArray]
    dsimp only [List.set_cons_zero, List.set_cons_succ]
    refine wpZ_take (i := 5) (v := .pointer (some ⟨N3, 0, none⟩)) 23 rfl rfl (by kernel_rfl) (by kernel_rfl) (by kernel_rfl) (Or.inr (by decide)) (fun _ _ _ h => h) (Or.inl ⟨by rfl, fun w hSw => by go_simp⟩) (HS0.out) ?_
    simp only [Act.put, List.setIfInBounds_toArray]
    dsimp only [List.set_cons_zero, List.set_cons_succ]
    refine wpZ_take (i := 6) (v := .agg #[.int .u64 ((limb 0 (x0) : Nat) : Int), .int .u64 ((limb 1 (x0) : Nat) : Int), .int .u64 ((limb 2 (x0) : Nat) : Int), .int .u64 ((limb 3 (x0) : Nat) : Int)]) 24 rfl rfl (by kernel_rfl) (by kernel_rfl) (by kernel_rfl) (Or.inr (by decide)) (fun _ _ _ h => h) (Or.inl ⟨by rfl, fun w hSw => by (obtain ⟨q0, q1, q2, q3⟩ : w.cell? ⟨N3, 0, none⟩ = _ ∧ w.cell? ⟨N3, 1, none⟩ = _ ∧ w.cell? ⟨N3, 2, none⟩ = _ ∧ w.cell? ⟨N3, 3, none⟩ = _ := (c3.belowAll hSw).el HSK.out.2.1; clear hSw; go_simp)⟩) (HS0.out) ?_
    simp only [Act.put, List.setIfInBounds_toArray]
    dsimp only [List.set_cons_zero, List.set_cons_succ]
    refine wpZ_take (i := 7) (v := .pointer (some ⟨N3, 4, none⟩)) 25 rfl rfl (by kernel_rfl) (by kernel_rfl) (by kernel_rfl) (Or.inr (by decide)) (fun _ _ _ h => h) (Or.inl ⟨by rfl, fun w hSw => by go_simp⟩) (HS0.out) ?_
    simp only [Act.put, List.setIfInBounds_toArray]
    dsimp only [List.set_cons_zero, List.set_cons_succ]
    refine wpZ_take (i := 8) (v := .agg #[.int .u64 ((limb 0 (x1) : Nat) : Int), .int .u64 ((limb 1 (x1) : Nat) : Int), .int .u64 ((limb 2 (x1) : Nat) : Int), .int .u64 ((limb 3 (x1) : Nat) : Int)]) 26 rfl rfl (by kernel_rfl) (by kernel_rfl) (by kernel_rfl) (Or.inr (by decide)) (fun _ _ _ h => h) (Or.inl ⟨by rfl, fun w hSw => by (obtain ⟨q0, q1, q2, q3⟩ : w.cell? ⟨N3, 4, none⟩ = _ ∧ w.cell? ⟨N3, 5, none⟩ = _ ∧ w.cell? ⟨N3, 6, none⟩ = _ ∧ w.cell? ⟨N3, 7, none⟩ = _ := (c3.belowAll hSw).el HSK.out.2.2.1; clear hSw; go_simp)⟩) (HS0.out) ?_
    simp only [Act.put, List.setIfInBounds_toArray]
    dsimp only [List.set_cons_zero, List.set_cons_succ]
    refine wpZ_two (i := 9) (j := 11) (by kernel_rfl) rfl rfl (fun K hK => ?_) (fun K hK => ?_) 
    · go_simp
      refine (HP2.out w2.drew (HG2.out.below (HS0.out))).mono ?_
      rintro e wK1 ⟨rfl, hbK1⟩
      have hSK1 : Below w2.heap.size w2 wK1 := bStep (HS0.out) hbK1
      go_wp2_with fail
      refine hK.out _ _ (fun _ => hSK1) ?_
      clear hK K
      refine wpZ_two (i := 10) (j := 11) (by kernel_rfl) rfl rfl (fun K hK => ?_) (fun K hK => ?_) 
      · go_simp
        refine (HM2.out wK1 (HG2.out.below (hSK1))).mono ?_
        rintro e wK2 ⟨rfl, hbK2⟩
        have hSK2 : Below w2.heap.size w2 wK2 := bStep (hSK1) hbK2
        go_wp2_with fail
        refine hK.out _ _ (fun _ => hSK2) ?_
        clear hK K
        refine wpZ_one (i := 11) (by kernel_rfl) rfl (fun K hK => ?_)
        go_simp
        have hSK3' : Below w2.heap.size w2 (wK2.alloc (.cells #[.int .u64 0, .int .u64 0, .int .u64 0, .int .u64 0] 25)) := bAlloc (hSK2) _
        refine hK.out _ _ (fun _ => hSK3') ?_
        clear hK K
        obtain ⟨N6_3, hN6_3⟩ : ∃ N, N = wK2.heap.size := ⟨_, rfl⟩
        obtain ⟨wK3, hwK3⟩ : ∃ x : World, x = wK2.alloc (.cells #[.int .u64 0, .int .u64 0, .int .u64 0, .int .u64 0] 25) := ⟨_, rfl⟩
        have hSK3 : Below w2.heap.size w2 wK3 := by rw [hwK3]; exact hSK3'
        have b6_3 : Blk wK3 25 N6_3 (fun _ => 0) := by rw [hwK3, hN6_3]; exact Blk.new wK2 25 (fun _ => 0)
        have lN6_3 : w2.heap.size ≤ N6_3 := by rw [hN6_3]; exact (hSK2).size
        rw [← hwK3, ← hN6_3]
        clear hwK3 hSK3' hN6_3
        refine wpZ_one (i := 12) (by kernel_rfl) rfl (fun K hK => ?_)
        have cS := b6_3.cell; have fS := b6_3.frozen
        go_simp
        refine hK.out _ _ (fun _ => bSet4 (hSK3) lN6_3 _ _ _ _) ?_
        clear hK K cS fS
        obtain ⟨wK4, hwK4⟩ : ∃ x : World, x = ((((wK3.setCell ⟨N6_3, 0, none⟩ (.int .u64 ((limb 0 Y : Nat) : Int))).setCell ⟨N6_3, 1, none⟩ (.int .u64 ((limb 1 Y : Nat) : Int))).setCell ⟨N6_3, 2, none⟩ (.int .u64 ((limb 2 Y : Nat) : Int))).setCell ⟨N6_3, 3, none⟩ (.int .u64 ((limb 3 Y : Nat) : Int))) := ⟨_, rfl⟩
        have hSK4 : Below w2.heap.size w2 wK4 := by rw [hwK4]; exact bSet4 (hSK3) lN6_3 _ _ _ _
        have b6_4 : Blk wK4 25 N6_3 (fun i => limb i Y) := by rw [hwK4]; exact b6_3.set4 (fun i => limb i Y)
        rw [← hwK4]
        clear hwK4
        refine wpZ_done (by kernel_rfl) ?_ _
        go_wp2_with fail
        go_meet
        exact ⟨_, rfl, lN6_3, b6_4, hSK4⟩
      · go_simp
        have hSK2' : Below w2.heap.size w2 (wK1.alloc (.cells #[.int .u64 0, .int .u64 0, .int .u64 0, .int .u64 0] 25)) := bAlloc (hSK1) _
        refine hK.out _ _ (fun _ => hSK2') ?_
        clear hK K
        obtain ⟨N6_2, hN6_2⟩ : ∃ N, N = wK1.heap.size := ⟨_, rfl⟩
        obtain ⟨wK2, hwK2⟩ : ∃ x : World, x = wK1.alloc (.cells #[.int .u64 0, .int .u64 0, .int .u64 0, .int .u64 0] 25) := ⟨_, rfl⟩
        have hSK2 : Below w2.heap.size w2 wK2 := by rw [hwK2]; exact hSK2'
        have b6_2 : Blk wK2 25 N6_2 (fun _ => 0) := by rw [hwK2, hN6_2]; exact Blk.new wK1 25 (fun _ => 0)
        have lN6_2 : w2.heap.size ≤ N6_2 := by rw [hN6_2]; exact (hSK1).size
        rw [← hwK2, ← hN6_2]
        clear hwK2 hSK2' hN6_2
        refine wpZ_one (i := 10) (by kernel_rfl) rfl (fun K hK => ?_)
        go_simp
        refine (HM2.out wK2 (HG2.out.below (hSK2))).mono ?_
        rintro e wK3 ⟨rfl, hbK3⟩
        have hSK3 : Below w2.heap.size w2 wK3 := bStep (hSK2) hbK3
        go_wp2_with fail
        refine hK.out _ _ (fun _ => hSK3) ?_
        clear hK K
        have b6_3 := b6_2.belowAll hbK3
        refine wpZ_one (i := 12) (by kernel_rfl) rfl (fun K hK => ?_)
        have cS := b6_3.cell; have fS := b6_3.frozen
        go_simp
        refine hK.out _ _ (fun _ => bSet4 (hSK3) lN6_2 _ _ _ _) ?_
        clear hK K cS fS
        obtain ⟨wK4, hwK4⟩ : ∃ x : World, x = ((((wK3.setCell ⟨N6_2, 0, none⟩ (.int .u64 ((limb 0 Y : Nat) : Int))).setCell ⟨N6_2, 1, none⟩ (.int .u64 ((limb 1 Y : Nat) : Int))).setCell ⟨N6_2, 2, none⟩ (.int .u64 ((limb 2 Y : Nat) : Int))).setCell ⟨N6_2, 3, none⟩ (.int .u64 ((limb 3 Y : Nat) : Int))) := ⟨_, rfl⟩
        have hSK4 : Below w2.heap.size w2 wK4 := by rw [hwK4]; exact bSet4 (hSK3) lN6_2 _ _ _ _
        have b6_4 : Blk wK4 25 N6_2 (fun i => limb i Y) := by rw [hwK4]; exact b6_3.set4 (fun i => limb i Y)
        rw [← hwK4]
        clear hwK4
        refine wpZ_done (by kernel_rfl) ?_ _
        go_wp2_with fail
        go_meet
        exact ⟨_, rfl, lN6_2, b6_4, hSK4⟩
    · go_simp
      have hSK1' : Below w2.heap.size w2 ((w2.alloc (.cells #[.int .u64 0, .int .u64 0, .int .u64 0, .int .u64 0] 25)).drew) := (bAlloc (Below.refl _ _) _).drew
      refine hK.out _ _ (fun _ => hSK1') ?_
      clear hK K
      obtain ⟨N6_1, hN6_1⟩ : ∃ N, N = w2.heap.size := ⟨_, rfl⟩
      obtain ⟨wK1, hwK1⟩ : ∃ x : World, x = (w2.alloc (.cells #[.int .u64 0, .int .u64 0, .int .u64 0, .int .u64 0] 25)).drew := ⟨_, rfl⟩
      have hSK1 : Below w2.heap.size w2 wK1 := by rw [hwK1]; exact hSK1'
      have b6_1 : Blk wK1 25 N6_1 (fun _ => 0) := by rw [hwK1, hN6_1]; exact (Blk.new w2 25 (fun _ => 0)).drew
      have lN6_1 : w2.heap.size ≤ N6_1 := by rw [hN6_1]; exact (HS0.out).size
      rw [← hwK1, ← hN6_1]
      clear hwK1 hSK1' hN6_1
      refine wpZ_one (i := 9) (by kernel_rfl) rfl (fun K hK => ?_)
      go_simp
      refine (HP2.out wK1 (HG2.out.below (hSK1))).mono ?_
      rintro e wK2 ⟨rfl, hbK2⟩
      have hSK2 : Below w2.heap.size w2 wK2 := bStep (hSK1) hbK2
      go_wp2_with fail
      refine hK.out _ _ (fun _ => hSK2) ?_
      clear hK K
      have b6_2 := b6_1.belowAll hbK2
      refine wpZ_one (i := 10) (by kernel_rfl) rfl (fun K hK => ?_)
      go_simp
      refine (HM2.out wK2 (HG2.out.below (hSK2))).mono ?_
      rintro e wK3 ⟨rfl, hbK3⟩
      have hSK3 : Below w2.heap.size w2 wK3 := bStep (hSK2) hbK3
      go_wp2_with fail
      refine hK.out _ _ (fun _ => hSK3) ?_
      clear hK K
      have b6_3 := b6_2.belowAll hbK3
      refine wpZ_one (i := 12) (by kernel_rfl) rfl (fun K hK => ?_)
      have cS := b6_3.cell; have fS := b6_3.frozen
      go_simp
      refine hK.out _ _ (fun _ => bSet4 (hSK3) lN6_1 _ _ _ _) ?_
      clear hK K cS fS
      obtain ⟨wK4, hwK4⟩ : ∃ x : World, x = ((((wK3.setCell ⟨N6_1, 0, none⟩ (.int .u64 ((limb 0 Y : Nat) : Int))).setCell ⟨N6_1, 1, none⟩ (.int .u64 ((limb 1 Y : Nat) : Int))).setCell ⟨N6_1, 2, none⟩ (.int .u64 ((limb 2 Y : Nat) : Int))).setCell ⟨N6_1, 3, none⟩ (.int .u64 ((limb 3 Y : Nat) : Int))) := ⟨_, rfl⟩
      have hSK4 : Below w2.heap.size w2 wK4 := by rw [hwK4]; exact bSet4 (hSK3) lN6_1 _ _ _ _
      have b6_4 : Blk wK4 25 N6_1 (fun i => limb i Y) := by rw [hwK4]; exact b6_3.set4 (fun i => limb i Y)
      rw [← hwK4]
      clear hwK4
      refine wpZ_done (by kernel_rfl) ?_ _
      go_wp2_with fail
      go_meet
      exact ⟨_, rfl, lN6_1, b6_4, hSK4⟩
  obtain ⟨N6, rfl, l6, b6, hbx⟩ := hcut
  have d2 := c2.belowAll hbx; have d5 := b5.belowAll hbx; have d4 := c4.belowAll hbx
  have hb3 := bStep hb2 hbx
  obtain ⟨w3, hw3⟩ : ∃ z, z = wc := ⟨_, rfl⟩
  rw [← hw3] at b6 d2 d4 d5 hb3 ⊢
  clear hw3 hbx b5 c2 c3 c4 hb2 HP2 HM2 HG2
  have q2 := d2.at HAV.out.2.1
  have q5 := d5.cell; have q6 := b6.cell
  go_wp2_with fail
  refine (HSU.out w3 (HG.out.below hb3)).mono ?_
  rintro e w4 ⟨rfl, hbx⟩
  have e4 := d4.belowAll hbx
  have hb4 := bStep hb3 hbx
  clear q2 q5 q6 d2 d4 d5 b6 hb3 hbx
  have c4 := e4.cell; have f4 := e4.frozen
  obtain ⟨w5, hw5, s4, hk5⟩ := e4.put4 Z
  have hbe := bKept hb4 l4 hk5
  go_wp2
  have r0 := s4.cell 0 (by decide); have r1 := s4.cell 1 (by decide); have r2 := s4.cell 2 (by decide); have r3 := s4.cell 3 (by decide)
  refine bodyPost_ret (v := .agg #[.int .u64 ((limb 0 (Z) : Nat) : Int), .int .u64 ((limb 1 (Z) : Nat) : Int), .int .u64 ((limb 2 (Z) : Nat) : Int), .int .u64 ((limb 3 (Z) : Nat) : Int)]) (by simp [results, Tryz.results32, go_sem, r0, r1, r2, r3]) rfl ⟨rfl, ?_⟩
  exact hbe
end Go.Proofs.YtfdddpndjmookaaGreatDoor

/- lookup.Checks. -/
namespace Go.Proofs.YtfdddpndjmookaaGreatDoor
open Go.RowKit

theorem one_agg : (.agg #[.int .u64 ((limb 0 (1) : Nat) : Int), .int .u64 ((limb 1 (1) : Nat) : Int), .int .u64 ((limb 2 (1) : Nat) : Int), .int .u64 ((limb 3 (1) : Nat) : Int)] : Value) = .agg #[.int .u64 1, .int .u64 0, .int .u64 0, .int .u64 0] := word_agg 1 (by decide)
/-- What Checks is to answer. -/
def chkV (ad mu sb : Nat → Nat → Nat) (be ga x0 x1 x2 x3 x4 x5 x6 y1 y2 y3 : Nat) (i : Nat) : Nat :=
  if i = 0 then mu y1 (sb 1 x5) else if i = 1 then mu y2 (sb (mu x5 x5) x5) else if i = 2 then mu y3 (sb (mu x6 (mu (ad x2 be) (ad x4 ga))) (mu x5 (mu (ad x0 be) (ad x1 ga)))) else if i = 3 then mu y1 (sb x2 x4) else mu y3 (mu (sb x2 x4) (sb x2 x3))
/-- Five elements in a block of their own. -/
theorem five {w : World} {b : Nat} {a0 a1 a2 a3 a4 : Nat} (h : w.heap[b]? = some (.cells #[.int .u64 ((limb 0 a0 : Nat) : Int), .int .u64 ((limb 1 a0 : Nat) : Int), .int .u64 ((limb 2 a0 : Nat) : Int), .int .u64 ((limb 3 a0 : Nat) : Int), .int .u64 ((limb 0 a1 : Nat) : Int), .int .u64 ((limb 1 a1 : Nat) : Int), .int .u64 ((limb 2 a1 : Nat) : Int), .int .u64 ((limb 3 a1 : Nat) : Int), .int .u64 ((limb 0 a2 : Nat) : Int), .int .u64 ((limb 1 a2 : Nat) : Int), .int .u64 ((limb 2 a2 : Nat) : Int), .int .u64 ((limb 3 a2 : Nat) : Int), .int .u64 ((limb 0 a3 : Nat) : Int), .int .u64 ((limb 1 a3 : Nat) : Int), .int .u64 ((limb 2 a3 : Nat) : Int), .int .u64 ((limb 3 a3 : Nat) : Int), .int .u64 ((limb 0 a4 : Nat) : Int), .int .u64 ((limb 1 a4 : Nat) : Int), .int .u64 ((limb 2 a4 : Nat) : Int), .int .u64 ((limb 3 a4 : Nat) : Int)] 25)) (f : Nat → Nat) (h0 : f 0 = a0) (h1 : f 1 = a1) (h2 : f 2 = a2) (h3 : f 3 = a3) (h4 : f 4 = a4) : BlkE w b 5 f := by
  subst h0 h1 h2 h3 h4
  refine ⟨_, h, rfl, fun i hi j hj => ?_⟩
  have hi' : i = 0 ∨ i = 1 ∨ i = 2 ∨ i = 3 ∨ i = 4 := by omega
  have hj' : j = 0 ∨ j = 1 ∨ j = 2 ∨ j = 3 := by omega
  rcases hi' with rfl | rfl | rfl | rfl | rfl <;> rcases hj' with rfl | rfl | rfl | rfl <;> rfl
set_option maxHeartbeats 4000000 in
set_option maxRecDepth 20000 in
/-- lookup.Checks. -/
theorem lchk_in (s : Nat) (hs : s < 4) (cp cs : Array Value) (be ga x0 x1 x2 x3 x4 x5 x6 y0 y1 y2 y3 : Nat) (hP : SpV cp y0 y1 y2 y3) (hC : SkV cs x0 x1 x2 x3 x4 x5 x6) (hbe : be < 115792089237316195423570985008687907853269984665640564039457584007913129639936) (hga : ga < 115792089237316195423570985008687907853269984665640564039457584007913129639936) (hx0 : x0 < 115792089237316195423570985008687907853269984665640564039457584007913129639936) (hx1 : x1 < 115792089237316195423570985008687907853269984665640564039457584007913129639936) (hx2 : x2 < 115792089237316195423570985008687907853269984665640564039457584007913129639936) (hx3 : x3 < 115792089237316195423570985008687907853269984665640564039457584007913129639936) (hx4 : x4 < 115792089237316195423570985008687907853269984665640564039457584007913129639936) (hx5 : x5 < 115792089237316195423570985008687907853269984665640564039457584007913129639936) (hx6 : x6 < 115792089237316195423570985008687907853269984665640564039457584007913129639936) (hy1 : y1 < 115792089237316195423570985008687907853269984665640564039457584007913129639936) (hy2 : y2 < 115792089237316195423570985008687907853269984665640564039457584007913129639936) (hy3 : y3 < 115792089237316195423570985008687907853269984665640564039457584007913129639936) (w : World) (hg : Glob w) :
    Calls Tryz.prog 12 #[.int .i64 (s : Int), .agg cp, .agg cs, .agg #[.int .u64 ((limb 0 (be) : Nat) : Int), .int .u64 ((limb 1 (be) : Nat) : Int), .int .u64 ((limb 2 (be) : Nat) : Int), .int .u64 ((limb 3 (be) : Nat) : Int)], .agg #[.int .u64 ((limb 0 (ga) : Nat) : Int), .int .u64 ((limb 1 (ga) : Nat) : Int), .int .u64 ((limb 2 (ga) : Nat) : Int), .int .u64 ((limb 3 (ga) : Nat) : Int)]] w fun e w' => (∃ N, e = .returned (.slice (some ⟨N, 0, none⟩) 5 5) ∧ w.heap.size ≤ N ∧ BlkE w' N 5 (chkV (addP s) (mulP s) (subP s) be ga x0 x1 x2 x3 x4 x5 x6 y1 y2 y3)) ∧ Below w.heap.size w w' := by
  have hF := fld_in s hs
  have hS := fsb_in s hs
  have HM : Hid (∀ w, Glob w → _) := fun w hg => fModulus_any s hs w hg
  obtain ⟨si, esi⟩ : ∃ z : Int, z = (s : Int) := ⟨_, rfl⟩
  obtain ⟨M, eM⟩ : ∃ z, z = modN s := ⟨_, rfl⟩
  obtain ⟨ad, ead⟩ : ∃ z, z = addP s := ⟨_, rfl⟩
  obtain ⟨mu, emu⟩ : ∃ z, z = mulP s := ⟨_, rfl⟩
  obtain ⟨sb, esb⟩ : ∃ z, z = subP s := ⟨_, rfl⟩
  rw [← eM] at HM
  rw [← esi] at HM ⊢
  rw [← esi, ← ead, ← emu] at hF
  rw [← esi, ← esb] at hS
  rw [← ead, ← emu, ← esb]
  clear eM ead emu esb
  have mM := hF.2.2.1
  have sM := hS.1
  have HMU := hF.2.2.2.2.2
  have HSU := hS.2
  have C46 : Hid (∀ w, Glob w → _) := fun w hg => HSU 1 x5 (by decide) hx5 w hg
  rw [one_agg] at C46
  have C47 : Hid (∀ w, Glob w → _) := fun w hg => HMU y1 (sb 1 x5) hy1 (sM _ _) w hg
  have C57 : Hid (∀ w, Glob w → _) := fun w hg => HMU x5 x5 hx5 hx5 w hg
  have C60 : Hid (∀ w, Glob w → _) := fun w hg => HSU (mu x5 x5) x5 (mM _ _) hx5 w hg
  have C61 : Hid (∀ w, Glob w → _) := fun w hg => HMU y2 (sb (mu x5 x5) x5) hy2 (sM _ _) w hg
  have CST : Hid (∀ (ag : Array Value), ArgV ag si be ga → ∀ w, Glob w → _) := fun ag hA w hg => step_any hF hS ag cs be ga x0 x1 x2 x3 x4 x5 x6 hA hC hbe hga hx0 hx1 hx2 hx4 hx5 hx6 w hg
  have C68 : Hid (∀ w, Glob w → _) := fun w hg => HMU y3 (sb (mu x6 (mu (ad x2 be) (ad x4 ga))) (mu x5 (mu (ad x0 be) (ad x1 ga)))) hy3 (sM _ _) w hg
  have C32 : Hid (∀ w, Glob w → _) := fun w hg => HSU x2 x4 hx2 hx4 w hg
  have C38 : Hid (∀ w, Glob w → _) := fun w hg => HSU x2 x3 hx2 hx3 w hg
  have C73 : Hid (∀ w, Glob w → _) := fun w hg => HMU y1 (sb x2 x4) hy1 (sM _ _) w hg
  have C80 : Hid (∀ w, Glob w → _) := fun w hg => HMU (sb x2 x4) (sb x2 x3) (sM _ _) (sM _ _) w hg
  have C81 : Hid (∀ w, Glob w → _) := fun w hg => HMU y3 (mu (sb x2 x4) (sb x2 x3)) hy3 (mM _ _) w hg
  obtain ⟨F, eF⟩ : ∃ z, z = chkV ad mu sb be ga x0 x1 x2 x3 x4 x5 x6 y1 y2 y3 := ⟨_, rfl⟩
  have HF0 : Hid (F 0 = mu y1 (sb 1 x5)) := by rw [eF]; rfl
  have HF1 : Hid (F 1 = mu y2 (sb (mu x5 x5) x5)) := by rw [eF]; rfl
  have HF2 : Hid (F 2 = mu y3 (sb (mu x6 (mu (ad x2 be) (ad x4 ga))) (mu x5 (mu (ad x0 be) (ad x1 ga))))) := by rw [eF]; rfl
  have HF3 : Hid (F 3 = mu y1 (sb x2 x4)) := by rw [eF]; rfl
  have HF4 : Hid (F 4 = mu y3 (mu (sb x2 x4) (sb x2 x3))) := by rw [eF]; rfl
  rw [← eF]
  clear eF
  obtain ⟨t46, et46⟩ : ∃ z, z = sb 1 x5 := ⟨_, rfl⟩
  rw [← et46] at C46 C47 HF0
  obtain ⟨t57, et57⟩ : ∃ z, z = mu x5 x5 := ⟨_, rfl⟩
  rw [← et57] at C57 C60 C61 HF1
  obtain ⟨t60, et60⟩ : ∃ z, z = sb t57 x5 := ⟨_, rfl⟩
  rw [← et60] at C60 C61 HF1
  obtain ⟨tST, etST⟩ : ∃ z, z = sb (mu x6 (mu (ad x2 be) (ad x4 ga))) (mu x5 (mu (ad x0 be) (ad x1 ga))) := ⟨_, rfl⟩
  rw [← etST] at CST C68 HF2
  obtain ⟨t32, et32⟩ : ∃ z, z = sb x2 x4 := ⟨_, rfl⟩
  rw [← et32] at C32 C73 C80 C81 HF3 HF4
  obtain ⟨t38, et38⟩ : ∃ z, z = sb x2 x3 := ⟨_, rfl⟩
  rw [← et38] at C38 C80 C81 HF4
  obtain ⟨t80, et80⟩ : ∃ z, z = mu t32 t38 := ⟨_, rfl⟩
  rw [← et80] at C80 C81 HF4
  obtain ⟨v0, ev0⟩ : ∃ z, z = mu y1 t46 := ⟨_, rfl⟩
  rw [← ev0] at C47 HF0
  obtain ⟨v1, ev1⟩ : ∃ z, z = mu y2 t60 := ⟨_, rfl⟩
  rw [← ev1] at C61 HF1
  obtain ⟨v2, ev2⟩ : ∃ z, z = mu y3 tST := ⟨_, rfl⟩
  rw [← ev2] at C68 HF2
  obtain ⟨v3, ev3⟩ : ∃ z, z = mu y1 t32 := ⟨_, rfl⟩
  rw [← ev3] at C73 HF3
  obtain ⟨v4, ev4⟩ : ∃ z, z = mu y3 t80 := ⟨_, rfl⟩
  rw [← ev4] at C81 HF4
  clear et46 et57 et60 etST et32 et38 et80 ev0 ev1 ev2 ev3 ev4 mM sM HMU HSU hF hS hbe hga hx0 hx1 hx2 hx3 hx4 hx5 hx6 hy1 hy2 hy3 hs
  have HG : Hid (Glob w) := hg
  have HSK : Hid (SkV cs x0 x1 x2 x3 x4 x5 x6) := hC
  have HSP : Hid (SpV cp y0 y1 y2 y3) := hP
  clear hg hC hP esi
  go_enter Tryz.func12, Tryz.ntmps12
  go_wp2_with fail
  have hs1 : (w.alloc (.cells cp 38)).heap.size = w.heap.size + 1 := Array.size_push ..
  have hs2 : ((w.alloc (.cells cp 38)).alloc (.cells cs 43)).heap.size = w.heap.size + 1 + 1 := by rw [← hs1]; exact Array.size_push ..
  have hs3 : (((w.alloc (.cells cp 38)).alloc (.cells cs 43)).alloc (.cells #[.int .u64 ((limb 0 (be) : Nat) : Int), .int .u64 ((limb 1 (be) : Nat) : Int), .int .u64 ((limb 2 (be) : Nat) : Int), .int .u64 ((limb 3 (be) : Nat) : Int)] 25)).heap.size = w.heap.size + 1 + 1 + 1 := by rw [← hs2]; exact Array.size_push ..
  obtain ⟨N6, e0⟩ : ∃ z, z = w.heap.size := ⟨_, rfl⟩
  obtain ⟨N7, e1⟩ : ∃ z, z = N6 + 1 := ⟨_, rfl⟩
  obtain ⟨N8, e2⟩ : ∃ z, z = N7 + 1 := ⟨_, rfl⟩
  obtain ⟨N9, e3⟩ : ∃ z, z = N8 + 1 := ⟨_, rfl⟩
  obtain ⟨w1, hw1⟩ : ∃ z : World, z = (((w.alloc (.cells cp 38)).alloc (.cells cs 43)).alloc (.cells #[.int .u64 ((limb 0 (be) : Nat) : Int), .int .u64 ((limb 1 (be) : Nat) : Int), .int .u64 ((limb 2 (be) : Nat) : Int), .int .u64 ((limb 3 (be) : Nat) : Int)] 25)).alloc (.cells #[.int .u64 ((limb 0 (ga) : Nat) : Int), .int .u64 ((limb 1 (ga) : Nat) : Int), .int .u64 ((limb 2 (ga) : Nat) : Int), .int .u64 ((limb 3 (ga) : Nat) : Int)] 25) := ⟨_, rfl⟩
  have b6 : Lay w1 38 N6 cp := by rw [hw1]; exact (((Lay.newAt _ _ _ e0).alloc _).alloc _).alloc _
  have b7 : Lay w1 43 N7 cs := by rw [hw1]; exact ((Lay.newAt _ _ _ (by rw [e1, e0, hs1])).alloc _).alloc _
  have b8 : Blk w1 25 N8 (fun i => limb i be) := by rw [hw1]; exact (Blk.newAt _ _ _ (fun i => limb i be) (by rw [e2, e1, e0, hs2])).alloc _
  have b9 : Blk w1 25 N9 (fun i => limb i ga) := by rw [hw1]; exact Blk.newAt _ _ _ (fun i => limb i ga) (by rw [e3, e2, e1, e0, hs3])
  have hb1 : Below w.heap.size w w1 := by rw [hw1]; exact bAlloc (bAlloc (bAlloc (bAlloc (Below.refl _ _) _) _) _) _
  rw [← hw1]
  try rw [← e0]
  try rw [← e1]
  try rw [← e2]
  try rw [← e3]
  have l6 : w.heap.size ≤ N6 := by omega
  have l7 : w.heap.size ≤ N7 := by omega
  have l8 : w.heap.size ≤ N8 := by omega
  have l9 : w.heap.size ≤ N9 := by omega
  have n6_7 : N6 ≠ N7 := by omega
  have n6_8 : N6 ≠ N8 := by omega
  have n6_9 : N6 ≠ N9 := by omega
  have n7_8 : N7 ≠ N8 := by omega
  have n7_9 : N7 ≠ N9 := by omega
  have n8_9 : N8 ≠ N9 := by omega
  clear hw1 e0 e1 e2 e3 hs1 hs2 hs3
  have HG1 : Hid (Glob w1) := HG.out.below hb1
  refine (HM.out w1 HG1.out).mono ?_
  rintro e w2 ⟨rfl, hbx⟩
  have hb2 := bStep hb1 hbx
  have c6 := b6.belowAll hbx; have c7 := b7.belowAll hbx; have c8 := b8.belowAll hbx; have c9 := b9.belowAll hbx
  clear b6 b7 b8 b9 hb1 hbx HM HG1
  go_upto_region 4 with fail
  obtain ⟨w3, hwn⟩ : ∃ z : World, z = w2.alloc (.cells #[.int .u64 ((limb 0 (M) : Nat) : Int), .int .u64 ((limb 1 (M) : Nat) : Int), .int .u64 ((limb 2 (M) : Nat) : Int), .int .u64 ((limb 3 (M) : Nat) : Int)] 25) := ⟨_, rfl⟩
  obtain ⟨N11, hn11⟩ : ∃ z, z = w2.heap.size := ⟨_, rfl⟩
  have d11 : Blk w3 25 N11 (fun i => limb i M) := by rw [hwn]; exact Blk.newAt _ _ _ (fun i => limb i M) hn11
  have hbn : Below w2.heap.size w2 w3 := by rw [hwn]; exact bAlloc (Below.refl _ _) _
  have d6 := c6.belowAll hbn
  have d7 := c7.belowAll hbn
  have d8 := c8.belowAll hbn
  have d9 := c9.belowAll hbn
  have hb3 := bStep hb2 hbn
  rw [← hwn]
  try rw [← hn11]
  clear hwn hn11 hbn hb2 c6 c7 c8 c9
  have q8 := d8.cell; have q9 := d9.cell
  go_upto_region 5 with fail
  obtain ⟨ag, eag⟩ : ∃ z : Array Value, z = #[.int .i64 si, .int .u64 ((limb 0 be : Nat) : Int), .int .u64 ((limb 1 be : Nat) : Int), .int .u64 ((limb 2 be : Nat) : Int), .int .u64 ((limb 3 be : Nat) : Int), .int .u64 ((limb 0 ga : Nat) : Int), .int .u64 ((limb 1 ga : Nat) : Int), .int .u64 ((limb 2 ga : Nat) : Int), .int .u64 ((limb 3 ga : Nat) : Int)] := ⟨_, rfl⟩
  have HAV : Hid (ArgV ag si be ga) := by rw [eag]; exact ⟨rfl, rfl, ⟨rfl, rfl, rfl, rfl⟩, ⟨rfl, rfl, rfl, rfl⟩⟩
  rw [← eag]
  clear eag q8 q9
  have CS1 : Hid (∀ w, Glob w → Calls Tryz.prog 32 #[.agg ag, .agg cs] w fun e w' => e = .returned (.agg #[.int .u64 ((limb 0 (tST) : Nat) : Int), .int .u64 ((limb 1 (tST) : Nat) : Int), .int .u64 ((limb 2 (tST) : Nat) : Int), .int .u64 ((limb 3 (tST) : Nat) : Int)]) ∧ Below w.heap.size w w') := fun w hg => CST.out ag HAV.out w hg
  have HS9 : Hid ((Tryz.prog.info? 60).map (·.size) = some ag.size) := by rw [HAV.out.1]; exact sizA
  have HS28 : Hid ((Tryz.prog.info? 43).map (·.size) = some cs.size) := by rw [HSK.out.1]; exact sizS
  clear CST
  obtain ⟨w4, hwn⟩ : ∃ z : World, z = w3.alloc (.cells ag 60) := ⟨_, rfl⟩
  obtain ⟨N13, hn⟩ : ∃ z, z = w3.heap.size := ⟨_, rfl⟩
  have e13 : Lay w4 60 N13 ag := by rw [hwn]; exact Lay.newAt _ _ _ hn
  have hbn : Below w3.heap.size w3 w4 := by rw [hwn]; exact bAlloc (Below.refl _ _) _
  have e6 := d6.belowAll hbn; have e7 := d7.belowAll hbn
  have hb4 := bStep hb3 hbn
  rw [← hwn]
  try rw [← hn]
  clear hwn hn hbn hb3 d6 d7 d8 d9 d11
  obtain ⟨p0, p1, p2, p3⟩ : w4.cell? ⟨N7, 8, none⟩ = _ ∧ w4.cell? ⟨N7, 9, none⟩ = _ ∧ w4.cell? ⟨N7, 10, none⟩ = _ ∧ w4.cell? ⟨N7, 11, none⟩ = _ := e7.el HSK.out.2.2.2.1
  obtain ⟨q0, q1, q2, q3⟩ : w4.cell? ⟨N7, 16, none⟩ = _ ∧ w4.cell? ⟨N7, 17, none⟩ = _ ∧ w4.cell? ⟨N7, 18, none⟩ = _ ∧ w4.cell? ⟨N7, 19, none⟩ = _ := e7.el HSK.out.2.2.2.2.2.1
  go_wp2_with fail
  refine (C32.out w4 (HG.out.below hb4)).mono ?_
  rintro e w5 ⟨rfl, hbx⟩
  clear p0 p1 p2 p3 q0 q1 q2 q3
  have f6 := e6.belowAll hbx
  have f7 := e7.belowAll hbx
  have f13 := e13.belowAll hbx
  have hb5 := bStep hb4 hbx
  clear hbx hb4 e6 e7 e13
  go_upto_region 6 with fail
  obtain ⟨w6, hwn⟩ : ∃ z : World, z = w5.alloc (.cells #[.int .u64 ((limb 0 (t32) : Nat) : Int), .int .u64 ((limb 1 (t32) : Nat) : Int), .int .u64 ((limb 2 (t32) : Nat) : Int), .int .u64 ((limb 3 (t32) : Nat) : Int)] 25) := ⟨_, rfl⟩
  obtain ⟨N14, hn14⟩ : ∃ z, z = w5.heap.size := ⟨_, rfl⟩
  have g14 : Blk w6 25 N14 (fun i => limb i t32) := by rw [hwn]; exact Blk.newAt _ _ _ (fun i => limb i t32) hn14
  have hbn : Below w5.heap.size w5 w6 := by rw [hwn]; exact bAlloc (Below.refl _ _) _
  have g6 := f6.belowAll hbn
  have g7 := f7.belowAll hbn
  have g13 := f13.belowAll hbn
  have hb6 := bStep hb5 hbn
  rw [← hwn]
  try rw [← hn14]
  clear hwn hn14 hbn hb5 f6 f7 f13
  obtain ⟨p0, p1, p2, p3⟩ : w6.cell? ⟨N7, 8, none⟩ = _ ∧ w6.cell? ⟨N7, 9, none⟩ = _ ∧ w6.cell? ⟨N7, 10, none⟩ = _ ∧ w6.cell? ⟨N7, 11, none⟩ = _ := g7.el HSK.out.2.2.2.1
  obtain ⟨q0, q1, q2, q3⟩ : w6.cell? ⟨N7, 12, none⟩ = _ ∧ w6.cell? ⟨N7, 13, none⟩ = _ ∧ w6.cell? ⟨N7, 14, none⟩ = _ ∧ w6.cell? ⟨N7, 15, none⟩ = _ := g7.el HSK.out.2.2.2.2.1
  go_wp2_with fail
  refine (C38.out w6 (HG.out.below hb6)).mono ?_
  rintro e w7 ⟨rfl, hbx⟩
  clear p0 p1 p2 p3 q0 q1 q2 q3
  have h6 := g6.belowAll hbx
  have h7 := g7.belowAll hbx
  have h13 := g13.belowAll hbx
  have h14 := g14.belowAll hbx
  have hb7 := bStep hb6 hbx
  clear hbx hb6 g6 g7 g13 g14
  go_upto_region 7 with fail
  obtain ⟨w8, hwn⟩ : ∃ z : World, z = w7.alloc (.cells #[.int .u64 ((limb 0 (t38) : Nat) : Int), .int .u64 ((limb 1 (t38) : Nat) : Int), .int .u64 ((limb 2 (t38) : Nat) : Int), .int .u64 ((limb 3 (t38) : Nat) : Int)] 25) := ⟨_, rfl⟩
  obtain ⟨N15, hn15⟩ : ∃ z, z = w7.heap.size := ⟨_, rfl⟩
  have k15 : Blk w8 25 N15 (fun i => limb i t38) := by rw [hwn]; exact Blk.newAt _ _ _ (fun i => limb i t38) hn15
  have hbn : Below w7.heap.size w7 w8 := by rw [hwn]; exact bAlloc (Below.refl _ _) _
  have k6 := h6.belowAll hbn
  have k7 := h7.belowAll hbn
  have k13 := h13.belowAll hbn
  have k14 := h14.belowAll hbn
  have hb8 := bStep hb7 hbn
  rw [← hwn]
  try rw [← hn15]
  clear hwn hn15 hbn hb7 h6 h7 h13 h14
  have HG8 : Hid (Glob w8) := HG.out.below hb8
  refine wp_region_Z (fun w' => Below w8.heap.size w8 w') 99 (by kernel_rfl) ?_
  obtain ⟨wD, hD⟩ : ∃ x : World, x = w8.drew := ⟨_, rfl⟩
  rw [← hD]
  have hp0_0 : Below w8.heap.size w8 wD := by rw [hD]; exact (Below.refl _ _).drew
  have hlow0 : Below w8.heap.size w8 wD := by rw [hD]; exact (Below.refl _ _).drew
  clear hD
  refine wpZ_take (i := 0) (v := .int .i64 si) 39 rfl rfl (by kernel_rfl) (by kernel_rfl) (by kernel_rfl) (Or.inr (by decide)) (fun _ _ _ h => h) (Or.inl ⟨by rfl, fun w hSw => by go_simp⟩) hp0_0 ?_
  simp only [Act.put, List.setIfInBounds_toArray]
  dsimp only [List.set_cons_zero, List.set_cons_succ]
  refine wpZ_take (i := 1) (v := .pointer (some ⟨N6, 4, none⟩)) 40 rfl rfl (by kernel_rfl) (by kernel_rfl) (by kernel_rfl) (Or.inr (by decide)) (fun _ _ _ h => h) (Or.inl ⟨by rfl, fun w hSw => by go_simp⟩) hp0_0 ?_
  simp only [Act.put, List.setIfInBounds_toArray]
  dsimp only [List.set_cons_zero, List.set_cons_succ]
  refine wpZ_take (i := 2) (v := .agg #[.int .u64 ((limb 0 (y1) : Nat) : Int), .int .u64 ((limb 1 (y1) : Nat) : Int), .int .u64 ((limb 2 (y1) : Nat) : Int), .int .u64 ((limb 3 (y1) : Nat) : Int)]) 41 rfl rfl (by kernel_rfl) (by kernel_rfl) (by kernel_rfl) (Or.inr (by decide)) (fun _ _ _ h => h) (Or.inl ⟨by rfl, fun w hSw => by (obtain ⟨q0, q1, q2, q3⟩ : w.cell? ⟨N6, 4, none⟩ = _ ∧ w.cell? ⟨N6, 5, none⟩ = _ ∧ w.cell? ⟨N6, 6, none⟩ = _ ∧ w.cell? ⟨N6, 7, none⟩ = _ := (k6.belowAll hSw).el HSP.out.2.2.1; clear hSw; go_simp)⟩) hp0_0 ?_
  simp only [Act.put, List.setIfInBounds_toArray]
  dsimp only [List.set_cons_zero, List.set_cons_succ]
  refine wpZ_take (i := 3) (v := .int .i64 si) 42 rfl rfl (by kernel_rfl) (by kernel_rfl) (by kernel_rfl) (Or.inr (by decide)) (fun _ _ _ h => h) (Or.inl ⟨by rfl, fun w hSw => by go_simp⟩) hp0_0 ?_
  simp only [Act.put, List.setIfInBounds_toArray]
  dsimp only [List.set_cons_zero, List.set_cons_succ]
  refine wpZ_take (i := 4) (v := .agg #[.int .u64 1, .int .u64 0, .int .u64 0, .int .u64 0]) 43 rfl rfl (by kernel_rfl) (by kernel_rfl) (by kernel_rfl) (Or.inr (by decide)) (fun _ _ _ h => h) (Or.inl ⟨by rfl, fun w hSw => by go_simp⟩) hp0_0 ?_
  simp only [Act.put, List.setIfInBounds_toArray]
  dsimp only [List.set_cons_zero, List.set_cons_succ]
  refine wpZ_take (i := 5) (v := .pointer (some ⟨N7, 20, none⟩)) 44 rfl rfl (by kernel_rfl) (by kernel_rfl) (by kernel_rfl) (Or.inr (by decide)) (fun _ _ _ h => h) (Or.inl ⟨by rfl, fun w hSw => by go_simp⟩) hp0_0 ?_
  simp only [Act.put, List.setIfInBounds_toArray]
  dsimp only [List.set_cons_zero, List.set_cons_succ]
  refine wpZ_take (i := 6) (v := .agg #[.int .u64 ((limb 0 (x5) : Nat) : Int), .int .u64 ((limb 1 (x5) : Nat) : Int), .int .u64 ((limb 2 (x5) : Nat) : Int), .int .u64 ((limb 3 (x5) : Nat) : Int)]) 45 rfl rfl (by kernel_rfl) (by kernel_rfl) (by kernel_rfl) (Or.inr (by decide)) (fun _ _ _ h => h) (Or.inl ⟨by rfl, fun w hSw => by (obtain ⟨q0, q1, q2, q3⟩ : w.cell? ⟨N7, 20, none⟩ = _ ∧ w.cell? ⟨N7, 21, none⟩ = _ ∧ w.cell? ⟨N7, 22, none⟩ = _ ∧ w.cell? ⟨N7, 23, none⟩ = _ := (k7.belowAll hSw).el HSK.out.2.2.2.2.2.2.1; clear hSw; go_simp)⟩) hp0_0 ?_
  simp only [Act.put, List.setIfInBounds_toArray]
  dsimp only [List.set_cons_zero, List.set_cons_succ]
  refine wpZ_take (i := 9) (v := .int .i64 si) 48 rfl rfl (by kernel_rfl) (by kernel_rfl) (by kernel_rfl) (Or.inr (by decide)) (fun _ _ _ h => h) (Or.inl ⟨by rfl, fun w hSw => by go_simp⟩) hp0_0 ?_
  simp only [Act.put, List.setIfInBounds_toArray]
  dsimp only [List.set_cons_zero, List.set_cons_succ]
  refine wpZ_take (i := 10) (v := .pointer (some ⟨N6, 8, none⟩)) 49 rfl rfl (by kernel_rfl) (by kernel_rfl) (by kernel_rfl) (Or.inr (by decide)) (fun _ _ _ h => h) (Or.inl ⟨by rfl, fun w hSw => by go_simp⟩) hp0_0 ?_
  simp only [Act.put, List.setIfInBounds_toArray]
  dsimp only [List.set_cons_zero, List.set_cons_succ]
  refine wpZ_take (i := 11) (v := .agg #[.int .u64 ((limb 0 (y2) : Nat) : Int), .int .u64 ((limb 1 (y2) : Nat) : Int), .int .u64 ((limb 2 (y2) : Nat) : Int), .int .u64 ((limb 3 (y2) : Nat) : Int)]) 50 rfl rfl (by kernel_rfl) (by kernel_rfl) (by kernel_rfl) (Or.inr (by decide)) (fun _ _ _ h => h) (Or.inl ⟨by rfl, fun w hSw => by (obtain ⟨q0, q1, q2, q3⟩ : w.cell? ⟨N6, 8, none⟩ = _ ∧ w.cell? ⟨N6, 9, none⟩ = _ ∧ w.cell? ⟨N6, 10, none⟩ = _ ∧ w.cell? ⟨N6, 11, none⟩ = _ := (k6.belowAll hSw).el HSP.out.2.2.2.1; clear hSw; go_simp)⟩) hp0_0 ?_
  simp only [Act.put, List.setIfInBounds_toArray]
  dsimp only [List.set_cons_zero, List.set_cons_succ]
  refine wpZ_take (i := 12) (v := .int .i64 si) 51 rfl rfl (by kernel_rfl) (by kernel_rfl) (by kernel_rfl) (Or.inr (by decide)) (fun _ _ _ h => h) (Or.inl ⟨by rfl, fun w hSw => by go_simp⟩) hp0_0 ?_
  simp only [Act.put, List.setIfInBounds_toArray]
  dsimp only [List.set_cons_zero, List.set_cons_succ]
  refine wpZ_take (i := 13) (v := .int .i64 si) 52 rfl rfl (by kernel_rfl) (by kernel_rfl) (by kernel_rfl) (Or.inr (by decide)) (fun _ _ _ h => h) (Or.inl ⟨by rfl, fun w hSw => by go_simp⟩) hp0_0 ?_
  simp only [Act.put, List.setIfInBounds_toArray]
  dsimp only [List.set_cons_zero, List.set_cons_succ]
  refine wpZ_take (i := 14) (v := .pointer (some ⟨N7, 20, none⟩)) 53 rfl rfl (by kernel_rfl) (by kernel_rfl) (by kernel_rfl) (Or.inr (by decide)) (fun _ _ _ h => h) (Or.inl ⟨by rfl, fun w hSw => by go_simp⟩) hp0_0 ?_
  simp only [Act.put, List.setIfInBounds_toArray]
  dsimp only [List.set_cons_zero, List.set_cons_succ]
  refine wpZ_take (i := 15) (v := .agg #[.int .u64 ((limb 0 (x5) : Nat) : Int), .int .u64 ((limb 1 (x5) : Nat) : Int), .int .u64 ((limb 2 (x5) : Nat) : Int), .int .u64 ((limb 3 (x5) : Nat) : Int)]) 54 rfl rfl (by kernel_rfl) (by kernel_rfl) (by kernel_rfl) (Or.inr (by decide)) (fun _ _ _ h => h) (Or.inl ⟨by rfl, fun w hSw => by (obtain ⟨q0, q1, q2, q3⟩ : w.cell? ⟨N7, 20, none⟩ = _ ∧ w.cell? ⟨N7, 21, none⟩ = _ ∧ w.cell? ⟨N7, 22, none⟩ = _ ∧ w.cell? ⟨N7, 23, none⟩ = _ := (k7.belowAll hSw).el HSK.out.2.2.2.2.2.2.1; clear hSw; go_simp)⟩) hp0_0 ?_
  simp only [Act.put, List.setIfInBounds_toArray]
  dsimp only [List.set_cons_zero, List.set_cons_succ]
  refine wpZ_take (i := 16) (v := .pointer (some ⟨N7, 20, none⟩)) 55 rfl rfl (by kernel_rfl) (by kernel_rfl) (by kernel_rfl) (Or.inr (by decide)) (fun _ _ _ h => h) (Or.inl ⟨by rfl, fun w hSw => by go_simp⟩) hp0_0 ?_
  simp only [Act.put, List.setIfInBounds_toArray]
  dsimp only [List.set_cons_zero, List.set_cons_succ]
  refine wpZ_take (i := 17) (v := .agg #[.int .u64 ((limb 0 (x5) : Nat) : Int), .int .u64 ((limb 1 (x5) : Nat) : Int), .int .u64 ((limb 2 (x5) : Nat) : Int), .int .u64 ((limb 3 (x5) : Nat) : Int)]) 56 rfl rfl (by kernel_rfl) (by kernel_rfl) (by kernel_rfl) (Or.inr (by decide)) (fun _ _ _ h => h) (Or.inl ⟨by rfl, fun w hSw => by (obtain ⟨q0, q1, q2, q3⟩ : w.cell? ⟨N7, 20, none⟩ = _ ∧ w.cell? ⟨N7, 21, none⟩ = _ ∧ w.cell? ⟨N7, 22, none⟩ = _ ∧ w.cell? ⟨N7, 23, none⟩ = _ := (k7.belowAll hSw).el HSK.out.2.2.2.2.2.2.1; clear hSw; go_simp)⟩) hp0_0 ?_
  simp only [Act.put, List.setIfInBounds_toArray]
  dsimp only [List.set_cons_zero, List.set_cons_succ]
  refine wpZ_take (i := 19) (v := .pointer (some ⟨N7, 20, none⟩)) 58 rfl rfl (by kernel_rfl) (by kernel_rfl) (by kernel_rfl) (Or.inr (by decide)) (fun _ _ _ h => h) (Or.inl ⟨by rfl, fun w hSw => by go_simp⟩) hp0_0 ?_
  simp only [Act.put, List.setIfInBounds_toArray]
  dsimp only [List.set_cons_zero, List.set_cons_succ]
  refine wpZ_take (i := 20) (v := .agg #[.int .u64 ((limb 0 (x5) : Nat) : Int), .int .u64 ((limb 1 (x5) : Nat) : Int), .int .u64 ((limb 2 (x5) : Nat) : Int), .int .u64 ((limb 3 (x5) : Nat) : Int)]) 59 rfl rfl (by kernel_rfl) (by kernel_rfl) (by kernel_rfl) (Or.inr (by decide)) (fun _ _ _ h => h) (Or.inl ⟨by rfl, fun w hSw => by (obtain ⟨q0, q1, q2, q3⟩ : w.cell? ⟨N7, 20, none⟩ = _ ∧ w.cell? ⟨N7, 21, none⟩ = _ ∧ w.cell? ⟨N7, 22, none⟩ = _ ∧ w.cell? ⟨N7, 23, none⟩ = _ := (k7.belowAll hSw).el HSK.out.2.2.2.2.2.2.1; clear hSw; go_simp)⟩) hp0_0 ?_
  simp only [Act.put, List.setIfInBounds_toArray]
  dsimp only [List.set_cons_zero, List.set_cons_succ]
  refine wpZ_take (i := 23) (v := .int .i64 si) 62 rfl rfl (by kernel_rfl) (by kernel_rfl) (by kernel_rfl) (Or.inr (by decide)) (fun _ _ _ h => h) (Or.inl ⟨by rfl, fun w hSw => by go_simp⟩) hp0_0 ?_
  simp only [Act.put, List.setIfInBounds_toArray]
  dsimp only [List.set_cons_zero, List.set_cons_succ]
  refine wpZ_take (i := 24) (v := .pointer (some ⟨N6, 12, none⟩)) 63 rfl rfl (by kernel_rfl) (by kernel_rfl) (by kernel_rfl) (Or.inr (by decide)) (fun _ _ _ h => h) (Or.inl ⟨by rfl, fun w hSw => by go_simp⟩) hp0_0 ?_
  simp only [Act.put, List.setIfInBounds_toArray]
  dsimp only [List.set_cons_zero, List.set_cons_succ]
  refine wpZ_take (i := 25) (v := .agg #[.int .u64 ((limb 0 (y3) : Nat) : Int), .int .u64 ((limb 1 (y3) : Nat) : Int), .int .u64 ((limb 2 (y3) : Nat) : Int), .int .u64 ((limb 3 (y3) : Nat) : Int)]) 64 rfl rfl (by kernel_rfl) (by kernel_rfl) (by kernel_rfl) (Or.inr (by decide)) (fun _ _ _ h => h) (Or.inl ⟨by rfl, fun w hSw => by (obtain ⟨q0, q1, q2, q3⟩ : w.cell? ⟨N6, 12, none⟩ = _ ∧ w.cell? ⟨N6, 13, none⟩ = _ ∧ w.cell? ⟨N6, 14, none⟩ = _ ∧ w.cell? ⟨N6, 15, none⟩ = _ := (k6.belowAll hSw).el HSP.out.2.2.2.2; clear hSw; go_simp)⟩) hp0_0 ?_
  simp only [Act.put, List.setIfInBounds_toArray]
  dsimp only [List.set_cons_zero, List.set_cons_succ]
  refine wpZ_take (i := 26) (v := .agg ag) 65 rfl rfl (by kernel_rfl) (by kernel_rfl) (by kernel_rfl) (Or.inr (by decide)) (fun _ _ _ h => h) (yLd undA rfl _ rfl N13 rfl ag HS9.out (fun w hSw => k13.belowAll hSw)) hp0_0 ?_
  simp only [Act.put, List.setIfInBounds_toArray]
  dsimp only [List.set_cons_zero, List.set_cons_succ]
  refine wpZ_take (i := 27) (v := .agg cs) 66 rfl rfl (by kernel_rfl) (by kernel_rfl) (by kernel_rfl) (Or.inr (by decide)) (fun _ _ _ h => h) (yLd undS rfl _ rfl N7 rfl cs HS28.out (fun w hSw => k7.belowAll hSw)) hp0_0 ?_
  simp only [Act.put, List.setIfInBounds_toArray]
  dsimp only [List.set_cons_zero, List.set_cons_succ]
  refine wpZ_take (i := 30) (v := .int .i64 si) 69 rfl rfl (by kernel_rfl) (by kernel_rfl) (by kernel_rfl) (Or.inr (by decide)) (fun _ _ _ h => h) (Or.inl ⟨by rfl, fun w hSw => by go_simp⟩) hp0_0 ?_
  simp only [Act.put, List.setIfInBounds_toArray]
  dsimp only [List.set_cons_zero, List.set_cons_succ]
  refine wpZ_take (i := 31) (v := .pointer (some ⟨N6, 4, none⟩)) 70 rfl rfl (by kernel_rfl) (by kernel_rfl) (by kernel_rfl) (Or.inr (by decide)) (fun _ _ _ h => h) (Or.inl ⟨by rfl, fun w hSw => by go_simp⟩) hp0_0 ?_
  simp only [Act.put, List.setIfInBounds_toArray]
  dsimp only [List.set_cons_zero, List.set_cons_succ]
  refine wpZ_take (i := 32) (v := .agg #[.int .u64 ((limb 0 (y1) : Nat) : Int), .int .u64 ((limb 1 (y1) : Nat) : Int), .int .u64 ((limb 2 (y1) : Nat) : Int), .int .u64 ((limb 3 (y1) : Nat) : Int)]) 71 rfl rfl (by kernel_rfl) (by kernel_rfl) (by kernel_rfl) (Or.inr (by decide)) (fun _ _ _ h => h) (Or.inl ⟨by rfl, fun w hSw => by (obtain ⟨q0, q1, q2, q3⟩ : w.cell? ⟨N6, 4, none⟩ = _ ∧ w.cell? ⟨N6, 5, none⟩ = _ ∧ w.cell? ⟨N6, 6, none⟩ = _ ∧ w.cell? ⟨N6, 7, none⟩ = _ := (k6.belowAll hSw).el HSP.out.2.2.1; clear hSw; go_simp)⟩) hp0_0 ?_
  simp only [Act.put, List.setIfInBounds_toArray]
  dsimp only [List.set_cons_zero, List.set_cons_succ]
  refine wpZ_take (i := 33) (v := .agg #[.int .u64 ((limb 0 (t32) : Nat) : Int), .int .u64 ((limb 1 (t32) : Nat) : Int), .int .u64 ((limb 2 (t32) : Nat) : Int), .int .u64 ((limb 3 (t32) : Nat) : Int)]) 72 rfl rfl (by kernel_rfl) (by kernel_rfl) (by kernel_rfl) (Or.inr (by decide)) (fun _ _ _ h => h) (Or.inl ⟨by rfl, fun w hSw => by (have qq := (k14.belowAll hSw).cell; clear hSw; go_simp)⟩) hp0_0 ?_
  simp only [Act.put, List.setIfInBounds_toArray]
  dsimp only [List.set_cons_zero, List.set_cons_succ]
  refine wpZ_take (i := 35) (v := .int .i64 si) 74 rfl rfl (by kernel_rfl) (by kernel_rfl) (by kernel_rfl) (Or.inr (by decide)) (fun _ _ _ h => h) (Or.inl ⟨by rfl, fun w hSw => by go_simp⟩) hp0_0 ?_
  simp only [Act.put, List.setIfInBounds_toArray]
  dsimp only [List.set_cons_zero, List.set_cons_succ]
  refine wpZ_take (i := 36) (v := .pointer (some ⟨N6, 12, none⟩)) 75 rfl rfl (by kernel_rfl) (by kernel_rfl) (by kernel_rfl) (Or.inr (by decide)) (fun _ _ _ h => h) (Or.inl ⟨by rfl, fun w hSw => by go_simp⟩) hp0_0 ?_
  simp only [Act.put, List.setIfInBounds_toArray]
  dsimp only [List.set_cons_zero, List.set_cons_succ]
  refine wpZ_take (i := 37) (v := .agg #[.int .u64 ((limb 0 (y3) : Nat) : Int), .int .u64 ((limb 1 (y3) : Nat) : Int), .int .u64 ((limb 2 (y3) : Nat) : Int), .int .u64 ((limb 3 (y3) : Nat) : Int)]) 76 rfl rfl (by kernel_rfl) (by kernel_rfl) (by kernel_rfl) (Or.inr (by decide)) (fun _ _ _ h => h) (Or.inl ⟨by rfl, fun w hSw => by (obtain ⟨q0, q1, q2, q3⟩ : w.cell? ⟨N6, 12, none⟩ = _ ∧ w.cell? ⟨N6, 13, none⟩ = _ ∧ w.cell? ⟨N6, 14, none⟩ = _ ∧ w.cell? ⟨N6, 15, none⟩ = _ := (k6.belowAll hSw).el HSP.out.2.2.2.2; clear hSw; go_simp)⟩) hp0_0 ?_
  simp only [Act.put, List.setIfInBounds_toArray]
  dsimp only [List.set_cons_zero, List.set_cons_succ]
  refine wpZ_take (i := 38) (v := .int .i64 si) 77 rfl rfl (by kernel_rfl) (by kernel_rfl) (by kernel_rfl) (Or.inr (by decide)) (fun _ _ _ h => h) (Or.inl ⟨by rfl, fun w hSw => by go_simp⟩) hp0_0 ?_
  simp only [Act.put, List.setIfInBounds_toArray]
  dsimp only [List.set_cons_zero, List.set_cons_succ]
  refine wpZ_take (i := 39) (v := .agg #[.int .u64 ((limb 0 (t32) : Nat) : Int), .int .u64 ((limb 1 (t32) : Nat) : Int), .int .u64 ((limb 2 (t32) : Nat) : Int), .int .u64 ((limb 3 (t32) : Nat) : Int)]) 78 rfl rfl (by kernel_rfl) (by kernel_rfl) (by kernel_rfl) (Or.inr (by decide)) (fun _ _ _ h => h) (Or.inl ⟨by rfl, fun w hSw => by (have qq := (k14.belowAll hSw).cell; clear hSw; go_simp)⟩) hp0_0 ?_
  simp only [Act.put, List.setIfInBounds_toArray]
  dsimp only [List.set_cons_zero, List.set_cons_succ]
  refine wpZ_take (i := 40) (v := .agg #[.int .u64 ((limb 0 (t38) : Nat) : Int), .int .u64 ((limb 1 (t38) : Nat) : Int), .int .u64 ((limb 2 (t38) : Nat) : Int), .int .u64 ((limb 3 (t38) : Nat) : Int)]) 79 rfl rfl (by kernel_rfl) (by kernel_rfl) (by kernel_rfl) (Or.inr (by decide)) (fun _ _ _ h => h) (Or.inl ⟨by rfl, fun w hSw => by (have qq := (k15.belowAll hSw).cell; clear hSw; go_simp)⟩) hp0_0 ?_
  simp only [Act.put, List.setIfInBounds_toArray]
  dsimp only [List.set_cons_zero, List.set_cons_succ]
  refine wpZ_one (i := 7) (by kernel_rfl) rfl (fun K hK => ?_)
  go_simp
  refine (C46.out wD (HG8.out.below hlow0)).mono ?_
  rintro e wT1 ⟨rfl, hbT1⟩
  have hlowT1 := bStep hlow0 hbT1
  go_wp2_with fail
  refine hK.out _ _ (fun _ => hlowT1) ?_
  clear hK K hbT1
  refine wpZ_one (i := 8) (by kernel_rfl) rfl (fun K hK => ?_)
  go_simp
  refine (C47.out wT1 (HG8.out.below hlowT1)).mono ?_
  rintro e wT2 ⟨rfl, hbT2⟩
  have hlowT2 := bStep hlowT1 hbT2
  go_wp2_with fail
  refine hK.out _ _ (fun _ => hlowT2) ?_
  clear hK K hbT2
  refine wpZ_one (i := 18) (by kernel_rfl) rfl (fun K hK => ?_)
  go_simp
  refine (C57.out wT2 (HG8.out.below hlowT2)).mono ?_
  rintro e wT3 ⟨rfl, hbT3⟩
  have hlowT3 := bStep hlowT2 hbT3
  go_wp2_with fail
  refine hK.out _ _ (fun _ => hlowT3) ?_
  clear hK K hbT3
  refine wpZ_one (i := 21) (by kernel_rfl) rfl (fun K hK => ?_)
  go_simp
  refine (C60.out wT3 (HG8.out.below hlowT3)).mono ?_
  rintro e wT4 ⟨rfl, hbT4⟩
  have hlowT4 := bStep hlowT3 hbT4
  go_wp2_with fail
  refine hK.out _ _ (fun _ => hlowT4) ?_
  clear hK K hbT4
  refine wpZ_one (i := 22) (by kernel_rfl) rfl (fun K hK => ?_)
  go_simp
  refine (C61.out wT4 (HG8.out.below hlowT4)).mono ?_
  rintro e wT5 ⟨rfl, hbT5⟩
  have hlowT5 := bStep hlowT4 hbT5
  go_wp2_with fail
  refine hK.out _ _ (fun _ => hlowT5) ?_
  clear hK K hbT5
  refine wpZ_one (i := 28) (by kernel_rfl) rfl (fun K hK => ?_)
  go_simp
  refine (CS1.out wT5 (HG8.out.below hlowT5)).mono ?_
  rintro e wT6 ⟨rfl, hbT6⟩
  have hlowT6 := bStep hlowT5 hbT6
  go_wp2_with fail
  refine hK.out _ _ (fun _ => hlowT6) ?_
  clear hK K hbT6
  refine wpZ_one (i := 29) (by kernel_rfl) rfl (fun K hK => ?_)
  go_simp
  refine (C68.out wT6 (HG8.out.below hlowT6)).mono ?_
  rintro e wT7 ⟨rfl, hbT7⟩
  have hlowT7 := bStep hlowT6 hbT7
  go_wp2_with fail
  refine hK.out _ _ (fun _ => hlowT7) ?_
  clear hK K hbT7
  refine wpZ_one (i := 34) (by kernel_rfl) rfl (fun K hK => ?_)
  go_simp
  refine (C73.out wT7 (HG8.out.below hlowT7)).mono ?_
  rintro e wT8 ⟨rfl, hbT8⟩
  have hlowT8 := bStep hlowT7 hbT8
  go_wp2_with fail
  refine hK.out _ _ (fun _ => hlowT8) ?_
  clear hK K hbT8
  refine wpZ_one (i := 41) (by kernel_rfl) rfl (fun K hK => ?_)
  go_simp
  refine (C80.out wT8 (HG8.out.below hlowT8)).mono ?_
  rintro e wT9 ⟨rfl, hbT9⟩
  have hlowT9 := bStep hlowT8 hbT9
  go_wp2_with fail
  refine hK.out _ _ (fun _ => hlowT9) ?_
  clear hK K hbT9
  refine wpZ_one (i := 42) (by kernel_rfl) rfl (fun K hK => ?_)
  go_simp
  refine (C81.out wT9 (HG8.out.below hlowT9)).mono ?_
  rintro e wT10 ⟨rfl, hbT10⟩
  have hlowT10 := bStep hlowT9 hbT10
  go_wp2_with fail
  refine hK.out _ _ (fun _ => hlowT10) ?_
  clear hK K hbT10
  refine wpZ_one (i := 43) (by kernel_rfl) rfl (fun K hK => ?_)
  go_simp
  obtain ⟨w9, hw9⟩ : ∃ z : World, z = wT10.alloc (.cells #[.int .u64 ((limb 0 v0 : Nat) : Int), .int .u64 ((limb 1 v0 : Nat) : Int), .int .u64 ((limb 2 v0 : Nat) : Int), .int .u64 ((limb 3 v0 : Nat) : Int), .int .u64 ((limb 0 v1 : Nat) : Int), .int .u64 ((limb 1 v1 : Nat) : Int), .int .u64 ((limb 2 v1 : Nat) : Int), .int .u64 ((limb 3 v1 : Nat) : Int), .int .u64 ((limb 0 v2 : Nat) : Int), .int .u64 ((limb 1 v2 : Nat) : Int), .int .u64 ((limb 2 v2 : Nat) : Int), .int .u64 ((limb 3 v2 : Nat) : Int), .int .u64 ((limb 0 v3 : Nat) : Int), .int .u64 ((limb 1 v3 : Nat) : Int), .int .u64 ((limb 2 v3 : Nat) : Int), .int .u64 ((limb 3 v3 : Nat) : Int), .int .u64 ((limb 0 v4 : Nat) : Int), .int .u64 ((limb 1 v4 : Nat) : Int), .int .u64 ((limb 2 v4 : Nat) : Int), .int .u64 ((limb 3 v4 : Nat) : Int)] 25) := ⟨_, rfl⟩
  obtain ⟨N82, hN82⟩ : ∃ z, z = wT10.heap.size := ⟨_, rfl⟩
  have b82 : BlkE w9 N82 5 F := five (by rw [hw9, hN82]; exact new_blockE _ _) F HF0.out HF1.out HF2.out HF3.out HF4.out
  have l82 : w8.heap.size ≤ N82 := by rw [hN82]; exact hlowT10.size
  have lowB : Below w8.heap.size w8 w9 := by rw [hw9]; exact bAlloc hlowT10 _
  rw [← hw9, ← hN82]
  clear hw9 hN82
  refine hK.out _ _ (fun _ => lowB) ?_
  clear hK K
  refine wpZ_take (i := 44) (v := .slice (some ⟨N82, 0, none⟩) 5 5) 10 rfl rfl (by kernel_rfl) (by kernel_rfl) (by kernel_rfl) (Or.inr (by decide)) (fun _ _ _ h => h) (Or.inl ⟨by rfl, fun w hSw => by go_simp⟩) lowB ?_
  simp only [Act.put, List.setIfInBounds_toArray]
  dsimp only [List.set_cons_zero, List.set_cons_succ]
  refine wpZ_done (by kernel_rfl) ?_ _
  have hbe := bStep hb8 lowB
  have lN : w.heap.size ≤ N82 := Nat.le_trans hb8.size l82
  go_wp2
  go_ret
  exact ⟨⟨N82, rfl, lN, b82⟩, hbe⟩
set_option maxHeartbeats 4000000 in
set_option maxRecDepth 20000 in
theorem lchk_out (si : Int) (hs : si < 0 ∨ 4 ≤ si) (cp cs : Array Value) (be ga : Nat) (w : World) :
    Calls Tryz.prog 12 #[.int .i64 si, .agg cp, .agg cs, .agg #[.int .u64 ((limb 0 (be) : Nat) : Int), .int .u64 ((limb 1 (be) : Nat) : Int), .int .u64 ((limb 2 (be) : Nat) : Int), .int .u64 ((limb 3 (be) : Nat) : Int)], .agg #[.int .u64 ((limb 0 (ga) : Nat) : Int), .int .u64 ((limb 1 (ga) : Nat) : Int), .int .u64 ((limb 2 (ga) : Nat) : Int), .int .u64 ((limb 3 (ga) : Nat) : Int)]] w fun e w' => e = .returned (.slice none 0 0) ∧ Below w.heap.size w w' := by
  have HM := fun w => fModulus_out si hs w
  clear hs
  go_enter Tryz.func12, Tryz.ntmps12
  go_wp2_with fail
  refine (HM _).mono ?_
  rintro e w1 ⟨rfl, hb⟩
  have hbe := bStep (bAlloc (bAlloc (bAlloc (bAlloc (Below.refl w.heap.size w) (.cells cp 38)) (.cells cs 43)) (.cells #[.int .u64 ((limb 0 (be) : Nat) : Int), .int .u64 ((limb 1 (be) : Nat) : Int), .int .u64 ((limb 2 (be) : Nat) : Int), .int .u64 ((limb 3 (be) : Nat) : Int)] 25)) (.cells #[.int .u64 ((limb 0 (ga) : Nat) : Int), .int .u64 ((limb 1 (ga) : Nat) : Int), .int .u64 ((limb 2 (ga) : Nat) : Int), .int .u64 ((limb 3 (ga) : Nat) : Int)] 25)) hb
  go_wp2
  go_ret
  exact ⟨rfl, bAlloc hbe _⟩
end Go.Proofs.YtfdddpndjmookaaGreatDoor

