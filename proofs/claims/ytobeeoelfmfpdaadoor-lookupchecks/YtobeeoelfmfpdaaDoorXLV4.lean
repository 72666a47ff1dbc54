/- The reference's two and Checks. -/
import Derived.Test.YtobeeoelfmfpdaaDoorXLV3
namespace Go.Proofs.YtobeeoelfmfpdaaDoor
open Go.RowKit
set_option maxHeartbeats 4000000 in
set_option maxRecDepth 20000 in
/-- The reference's two. -/
theorem two_any {si : Int} {ad mu : Nat → Nat → Nat} (hF : RFld si ad mu) (a be b ga : Nat) (ha : a < 115792089237316195423570985008687907853269984665640564039457584007913129639936) (hbe : be < 115792089237316195423570985008687907853269984665640564039457584007913129639936) (hb : b < 115792089237316195423570985008687907853269984665640564039457584007913129639936) (hga : ga < 115792089237316195423570985008687907853269984665640564039457584007913129639936) (w : World) :
    Calls Tryd.prog 39 #[.int .i64 si, .agg #[.int .u64 ((limb 0 (a) : Nat) : Int), .int .u64 ((limb 1 (a) : Nat) : Int), .int .u64 ((limb 2 (a) : Nat) : Int), .int .u64 ((limb 3 (a) : Nat) : Int)], .agg #[.int .u64 ((limb 0 (be) : Nat) : Int), .int .u64 ((limb 1 (be) : Nat) : Int), .int .u64 ((limb 2 (be) : Nat) : Int), .int .u64 ((limb 3 (be) : Nat) : Int)], .agg #[.int .u64 ((limb 0 (b) : Nat) : Int), .int .u64 ((limb 1 (b) : Nat) : Int), .int .u64 ((limb 2 (b) : Nat) : Int), .int .u64 ((limb 3 (b) : Nat) : Int)], .agg #[.int .u64 ((limb 0 (ga) : Nat) : Int), .int .u64 ((limb 1 (ga) : Nat) : Int), .int .u64 ((limb 2 (ga) : Nat) : Int), .int .u64 ((limb 3 (ga) : Nat) : Int)]] w fun e w' => e = .returned (.agg #[.int .u64 ((limb 0 (mu (ad a be) (ad b ga)) : Nat) : Int), .int .u64 ((limb 1 (mu (ad a be) (ad b ga)) : Nat) : Int), .int .u64 ((limb 2 (mu (ad a be) (ad b ga)) : Nat) : Int), .int .u64 ((limb 3 (mu (ad a be) (ad b ga)) : Nat) : Int)]) ∧ Below w.heap.size w w' := by
  have HA1 : Hid (∀ w, _) := fun w => hF.2.1 a be ha hbe w
  have HA2 : Hid (∀ w, _) := fun w => hF.2.1 b ga hb hga w
  have HMU : Hid (∀ w, _) := fun w => hF.2.2 (ad a be) (ad b ga) (hF.1 _ _).1 (hF.1 _ _).1 w
  obtain ⟨X, eX⟩ : ∃ z, z = ad a be := ⟨_, rfl⟩
  obtain ⟨Y, eY⟩ : ∃ z, z = ad b ga := ⟨_, rfl⟩
  rw [← eX] at HA1 HMU ⊢
  rw [← eY] at HA2 HMU ⊢
  obtain ⟨Z, eZ⟩ : ∃ z, z = mu X Y := ⟨_, rfl⟩
  rw [← eZ] at HMU ⊢
  clear eX eY eZ hF ha hb hbe hga
  go_enter Tryd.func39, Tryd.ntmps39
  go_upto_region 1 with fail
  have hs1 : (w.alloc (.cells #[.int .u64 ((limb 0 (a) : Nat) : Int), .int .u64 ((limb 1 (a) : Nat) : Int), .int .u64 ((limb 2 (a) : Nat) : Int), .int .u64 ((limb 3 (a) : Nat) : Int)] 24)).heap.size = w.heap.size + 1 := Array.size_push ..
  have hs2 : ((w.alloc (.cells #[.int .u64 ((limb 0 (a) : Nat) : Int), .int .u64 ((limb 1 (a) : Nat) : Int), .int .u64 ((limb 2 (a) : Nat) : Int), .int .u64 ((limb 3 (a) : Nat) : Int)] 24)).alloc (.cells #[.int .u64 ((limb 0 (be) : Nat) : Int), .int .u64 ((limb 1 (be) : Nat) : Int), .int .u64 ((limb 2 (be) : Nat) : Int), .int .u64 ((limb 3 (be) : Nat) : Int)] 24)).heap.size = w.heap.size + 1 + 1 := by rw [← hs1]; exact Array.size_push ..
  have hs3 : (((w.alloc (.cells #[.int .u64 ((limb 0 (a) : Nat) : Int), .int .u64 ((limb 1 (a) : Nat) : Int), .int .u64 ((limb 2 (a) : Nat) : Int), .int .u64 ((limb 3 (a) : Nat) : Int)] 24)).alloc (.cells #[.int .u64 ((limb 0 (be) : Nat) : Int), .int .u64 ((limb 1 (be) : Nat) : Int), .int .u64 ((limb 2 (be) : Nat) : Int), .int .u64 ((limb 3 (be) : Nat) : Int)] 24)).alloc (.cells #[.int .u64 ((limb 0 (b) : Nat) : Int), .int .u64 ((limb 1 (b) : Nat) : Int), .int .u64 ((limb 2 (b) : Nat) : Int), .int .u64 ((limb 3 (b) : Nat) : Int)] 24)).heap.size = w.heap.size + 1 + 1 + 1 := by rw [← hs2]; exact Array.size_push ..
  have hs4 : ((((w.alloc (.cells #[.int .u64 ((limb 0 (a) : Nat) : Int), .int .u64 ((limb 1 (a) : Nat) : Int), .int .u64 ((limb 2 (a) : Nat) : Int), .int .u64 ((limb 3 (a) : Nat) : Int)] 24)).alloc (.cells #[.int .u64 ((limb 0 (be) : Nat) : Int), .int .u64 ((limb 1 (be) : Nat) : Int), .int .u64 ((limb 2 (be) : Nat) : Int), .int .u64 ((limb 3 (be) : Nat) : Int)] 24)).alloc (.cells #[.int .u64 ((limb 0 (b) : Nat) : Int), .int .u64 ((limb 1 (b) : Nat) : Int), .int .u64 ((limb 2 (b) : Nat) : Int), .int .u64 ((limb 3 (b) : Nat) : Int)] 24)).alloc (.cells #[.int .u64 ((limb 0 (ga) : Nat) : Int), .int .u64 ((limb 1 (ga) : Nat) : Int), .int .u64 ((limb 2 (ga) : Nat) : Int), .int .u64 ((limb 3 (ga) : Nat) : Int)] 24)).heap.size = w.heap.size + 1 + 1 + 1 + 1 := by rw [← hs3]; exact Array.size_push ..
  obtain ⟨N6, e0⟩ : ∃ z, z = w.heap.size := ⟨_, rfl⟩
  obtain ⟨N7, e1⟩ : ∃ z, z = N6 + 1 := ⟨_, rfl⟩
  obtain ⟨N8, e2⟩ : ∃ z, z = N7 + 1 := ⟨_, rfl⟩
  obtain ⟨N9, e3⟩ : ∃ z, z = N8 + 1 := ⟨_, rfl⟩
  obtain ⟨N10, e4⟩ : ∃ z, z = N9 + 1 := ⟨_, rfl⟩
  obtain ⟨w1, hw1⟩ : ∃ z : World, z = ((((w.alloc (.cells #[.int .u64 ((limb 0 (a) : Nat) : Int), .int .u64 ((limb 1 (a) : Nat) : Int), .int .u64 ((limb 2 (a) : Nat) : Int), .int .u64 ((limb 3 (a) : Nat) : Int)] 24)).alloc (.cells #[.int .u64 ((limb 0 (be) : Nat) : Int), .int .u64 ((limb 1 (be) : Nat) : Int), .int .u64 ((limb 2 (be) : Nat) : Int), .int .u64 ((limb 3 (be) : Nat) : Int)] 24)).alloc (.cells #[.int .u64 ((limb 0 (b) : Nat) : Int), .int .u64 ((limb 1 (b) : Nat) : Int), .int .u64 ((limb 2 (b) : Nat) : Int), .int .u64 ((limb 3 (b) : Nat) : Int)] 24)).alloc (.cells #[.int .u64 ((limb 0 (ga) : Nat) : Int), .int .u64 ((limb 1 (ga) : Nat) : Int), .int .u64 ((limb 2 (ga) : Nat) : Int), .int .u64 ((limb 3 (ga) : Nat) : Int)] 24)).alloc (.cells #[.int .u64 0, .int .u64 0, .int .u64 0, .int .u64 0] 24) := ⟨_, rfl⟩
  have b6 : Blk w1 24 N6 (fun i => limb i a) := by rw [hw1]; exact ((((Blk.newAt _ _ _ (fun i => limb i a) e0).alloc _).alloc _).alloc _).alloc _
  have b7 : Blk w1 24 N7 (fun i => limb i be) := by rw [hw1]; exact (((Blk.newAt _ _ _ (fun i => limb i be) (by rw [e1, e0, hs1])).alloc _).alloc _).alloc _
  have b8 : Blk w1 24 N8 (fun i => limb i b) := by rw [hw1]; exact ((Blk.newAt _ _ _ (fun i => limb i b) (by rw [e2, e1, e0, hs2])).alloc _).alloc _
  have b9 : Blk w1 24 N9 (fun i => limb i ga) := by rw [hw1]; exact (Blk.newAt _ _ _ (fun i => limb i ga) (by rw [e3, e2, e1, e0, hs3])).alloc _
  have b10 : Blk w1 24 N10 (fun _ => 0) := by rw [hw1]; exact Blk.newAt _ _ _ (fun _ => 0) (by rw [e4, e3, e2, e1, e0, hs4])
  have hb1 : Below w.heap.size w w1 := by rw [hw1]; exact bAlloc (bAlloc (bAlloc (bAlloc (bAlloc (Below.refl _ _) _) _) _) _) _
  rw [← hw1]
  try rw [← e0]
  try rw [← e1]
  try rw [← e2]
  try rw [← e3]
  try rw [← e4]
  have l6 : w.heap.size ≤ N6 := by omega
  have l7 : w.heap.size ≤ N7 := by omega
  have l8 : w.heap.size ≤ N8 := by omega
  have l9 : w.heap.size ≤ N9 := by omega
  have l10 : w.heap.size ≤ N10 := by omega
  have n6_7 : N6 ≠ N7 := by omega
  have n6_8 : N6 ≠ N8 := by omega
  have n6_9 : N6 ≠ N9 := by omega
  have n6_10 : N6 ≠ N10 := by omega
  have n7_8 : N7 ≠ N8 := by omega
  have n7_9 : N7 ≠ N9 := by omega
  have n7_10 : N7 ≠ N10 := by omega
  have n8_9 : N8 ≠ N9 := by omega
  have n8_10 : N8 ≠ N10 := by omega
  have n9_10 : N9 ≠ N10 := by omega
  clear hw1 e0 e1 e2 e3 e4 hs1 hs2 hs3 hs4
  refine wp_region_Z (fun w' => Below w1.heap.size w1 w') 10 (by kernel_rfl) ?_
  obtain ⟨wD, hD⟩ : ∃ x : World, x = w1.drew := ⟨_, rfl⟩
  rw [← hD]
  have hp0_0 : Below w1.heap.size w1 wD := by rw [hD]; exact (Below.refl _ _).drew
  have hlow0 : Below w1.heap.size w1 wD := by rw [hD]; exact (Below.refl _ _).drew
  clear hD
  refine wpZ_take (i := 0) (v := .int .i64 si) 11 rfl rfl (by kernel_rfl) (by kernel_rfl) (by kernel_rfl) (Or.inl (by kernel_rfl)) (fun _ _ _ h => h) (Or.inl ⟨by rfl, fun w hSw => by go_simp⟩) hp0_0 ?_
  simp only [Act.put, List.setIfInBounds_toArray]
  dsimp only [List.set_cons_zero, List.set_cons_succ]
  refine wpZ_take (i := 1) (v := .int .i64 si) 12 rfl rfl (by kernel_rfl) (by kernel_rfl) (by kernel_rfl) (Or.inl (by kernel_rfl)) (fun _ _ _ h => h) (Or.inl ⟨by rfl, fun w hSw => by go_simp⟩) hp0_0 ?_
  simp only [Act.put, List.setIfInBounds_toArray]
  dsimp only [List.set_cons_zero, List.set_cons_succ]
  refine wpZ_take (i := 2) (v := .agg #[.int .u64 ((limb 0 (a) : Nat) : Int), .int .u64 ((limb 1 (a) : Nat) : Int), .int .u64 ((limb 2 (a) : Nat) : Int), .int .u64 ((limb 3 (a) : Nat) : Int)]) 13 rfl rfl (by kernel_rfl) (by kernel_rfl) (by kernel_rfl) (Or.inl (by kernel_rfl)) (fun _ _ _ h => h) (Or.inl ⟨by rfl, fun w hSw => by (have qq := (b6.belowAll hSw).cell; clear hSw; go_simp)⟩) hp0_0 ?_
  simp only [Act.put, List.setIfInBounds_toArray]
  dsimp only [List.set_cons_zero, List.set_cons_succ]
  refine wpZ_take (i := 3) (v := .agg #[.int .u64 ((limb 0 (be) : Nat) : Int), .int .u64 ((limb 1 (be) : Nat) : Int), .int .u64 ((limb 2 (be) : Nat) : Int), .int .u64 ((limb 3 (be) : Nat) : Int)]) 14 rfl rfl (by kernel_rfl) (by kernel_rfl) (by kernel_rfl) (Or.inl (by kernel_rfl)) (fun _ _ _ h => h) (Or.inl ⟨by rfl, fun w hSw => by (have qq := (b7.belowAll hSw).cell; clear hSw; go_simp)⟩) hp0_0 ?_
  simp only [Act.put, List.setIfInBounds_toArray]
  dsimp only [List.set_cons_zero, List.set_cons_succ]
  refine wpZ_take (i := 5) (v := .int .i64 si) 16 rfl rfl (by kernel_rfl) (by kernel_rfl) (by kernel_rfl) (Or.inl (by kernel_rfl)) (fun _ _ _ h => h) (Or.inl ⟨by rfl, fun w hSw => by go_simp⟩) hp0_0 ?_
  simp only [Act.put, List.setIfInBounds_toArray]
  dsimp only [List.set_cons_zero, List.set_cons_succ]
  refine wpZ_take (i := 6) (v := .agg #[.int .u64 ((limb 0 (b) : Nat) : Int), .int .u64 ((limb 1 (b) : Nat) : Int), .int .u64 ((limb 2 (b) : Nat) : Int), .int .u64 ((limb 3 (b) : Nat) : Int)]) 17 rfl rfl (by kernel_rfl) (by kernel_rfl) (by kernel_rfl) (Or.inl (by kernel_rfl)) (fun _ _ _ h => h) (Or.inl ⟨by rfl, fun w hSw => by (have qq := (b8.belowAll hSw).cell; clear hSw; go_simp)⟩) hp0_0 ?_
  simp only [Act.put, List.setIfInBounds_toArray]
  dsimp only [List.set_cons_zero, List.set_cons_succ]
  refine wpZ_take (i := 7) (v := .agg #[.int .u64 ((limb 0 (ga) : Nat) : Int), .int .u64 ((limb 1 (ga) : Nat) : Int), .int .u64 ((limb 2 (ga) : Nat) : Int), .int .u64 ((limb 3 (ga) : Nat) : Int)]) 18 rfl rfl (by kernel_rfl) (by kernel_rfl) (by kernel_rfl) (Or.inl (by kernel_rfl)) (fun _ _ _ h => h) (Or.inl ⟨by rfl, fun w hSw => by (have qq := (b9.belowAll hSw).cell; clear hSw; go_simp)⟩) hp0_0 ?_
  simp only [Act.put, List.setIfInBounds_toArray]
  dsimp only [List.set_cons_zero, List.set_cons_succ]
  refine wpZ_one (i := 4) (by kernel_rfl) rfl (fun K hK => ?_)
  go_simp
  refine (HA1.out wD).mono ?_
  rintro e wT1 ⟨rfl, hbT1⟩
  have hlowT1 := bStep hlow0 hbT1
  go_wp2_with fail
  refine hK.out _ _ (fun _ => hlowT1) ?_
  clear hK K hbT1
  refine wpZ_one (i := 8) (by kernel_rfl) rfl (fun K hK => ?_)
  go_simp
  refine (HA2.out wT1).mono ?_
  rintro e wT2 ⟨rfl, hbT2⟩
  have hlowT2 := bStep hlowT1 hbT2
  go_wp2_with fail
  refine hK.out _ _ (fun _ => hlowT2) ?_
  clear hK K hbT2
  refine wpZ_one (i := 9) (by kernel_rfl) rfl (fun K hK => ?_)
  go_simp
  refine (HMU.out wT2).mono ?_
  rintro e wT3 ⟨rfl, hbT3⟩
  have hlowT3 := bStep hlowT2 hbT3
  go_wp2_with fail
  refine hK.out _ _ (fun _ => hlowT3) ?_
  clear hK K hbT3
  refine wpZ_one (i := 10) (by kernel_rfl) rfl (fun K hK => ?_)
  have b10 := b10.belowAll hlowT3
  have c6 := b10.cell; have f6 := b10.frozen
  obtain ⟨w5, hw5, s6, hk5⟩ := b10.put4 Z
  go_simp
  refine hK.out _ _ (fun h => absurd rfl h) ?_
  clear hK K
  refine wpZ_done (by kernel_rfl) ?_ _
  have hbe := bKept (bStep hb1 hlowT3) l10 hk5
  clear c6 f6 hk5
  go_wp2
  have r0 := s6.cell 0 (by decide); have r1 := s6.cell 1 (by decide); have r2 := s6.cell 2 (by decide); have r3 := s6.cell 3 (by decide)
  refine bodyPost_ret (v := .agg #[.int .u64 ((limb 0 (Z) : Nat) : Int), .int .u64 ((limb 1 (Z) : Nat) : Int), .int .u64 ((limb 2 (Z) : Nat) : Int), .int .u64 ((limb 3 (Z) : Nat) : Int)]) (by simp [results, Tryd.results39, go_sem, r0, r1, r2, r3]) rfl ⟨rfl, ?_⟩
  exact hbe
set_option maxHeartbeats 4000000 in
set_option maxRecDepth 20000 in
theorem rchk_out (si : Int) (hs : si < 0 ∨ 3 < si) (cp cs : Array Value) (be ga : Nat) (w : World) :
    Calls Tryd.prog 22 #[.int .i64 si, .agg cp, .agg cs, .agg #[.int .u64 ((limb 0 (be) : Nat) : Int), .int .u64 ((limb 1 (be) : Nat) : Int), .int .u64 ((limb 2 (be) : Nat) : Int), .int .u64 ((limb 3 (be) : Nat) : Int)], .agg #[.int .u64 ((limb 0 (ga) : Nat) : Int), .int .u64 ((limb 1 (ga) : Nat) : Int), .int .u64 ((limb 2 (ga) : Nat) : Int), .int .u64 ((limb 3 (ga) : Nat) : Int)]] w fun e w' => e = .returned (.slice none 0 0) ∧ Below w.heap.size w w' := by
  have hbe : Below w.heap.size w ((((w.alloc (.cells cp 50)).alloc (.cells cs 52)).alloc (.cells #[.int .u64 ((limb 0 (be) : Nat) : Int), .int .u64 ((limb 1 (be) : Nat) : Int), .int .u64 ((limb 2 (be) : Nat) : Int), .int .u64 ((limb 3 (be) : Nat) : Int)] 24)).alloc (.cells #[.int .u64 ((limb 0 (ga) : Nat) : Int), .int .u64 ((limb 1 (ga) : Nat) : Int), .int .u64 ((limb 2 (ga) : Nat) : Int), .int .u64 ((limb 3 (ga) : Nat) : Int)] 24)) := bAlloc (bAlloc (bAlloc (bAlloc (Below.refl w.heap.size w) _) _) _) _
  by_cases h0 : si < 0
  · go_enter Tryd.func22, Tryd.ntmps22
    go_wp2
    go_ret
    exact ⟨rfl, hbe⟩
  · have h3 : (3 : Int) < si := by omega
    go_enter Tryd.func22, Tryd.ntmps22
    go_wp2
    go_ret
    exact ⟨rfl, hbe⟩
