/- The reference's term, chunks, end, Shift. -/
import Derived.Test.YtfbfenljfdnggaaGreatDoorVPC3
namespace Go.Proofs.YtfbfenljfdnggaaGreatDoor
open Go.RowKit
set_option maxHeartbeats 4000000 in
set_option maxRecDepth 20000 in
/-- The reference's term. -/
theorem rterm_any (s v be x ga : Nat) (hs : s < 4) (hv : v < 115792089237316195423570985008687907853269984665640564039457584007913129639936) (hbe : be < 115792089237316195423570985008687907853269984665640564039457584007913129639936) (hx : x < 115792089237316195423570985008687907853269984665640564039457584007913129639936) (hga : ga < 115792089237316195423570985008687907853269984665640564039457584007913129639936) (w : World) :
    Calls Tryz.prog 32 #[.int .i64 (s : Int), .agg #[.int .u64 ((limb 0 (v) : Nat) : Int), .int .u64 ((limb 1 (v) : Nat) : Int), .int .u64 ((limb 2 (v) : Nat) : Int), .int .u64 ((limb 3 (v) : Nat) : Int)], .agg #[.int .u64 ((limb 0 (be) : Nat) : Int), .int .u64 ((limb 1 (be) : Nat) : Int), .int .u64 ((limb 2 (be) : Nat) : Int), .int .u64 ((limb 3 (be) : Nat) : Int)], .agg #[.int .u64 ((limb 0 (x) : Nat) : Int), .int .u64 ((limb 1 (x) : Nat) : Int), .int .u64 ((limb 2 (x) : Nat) : Int), .int .u64 ((limb 3 (x) : Nat) : Int)], .agg #[.int .u64 ((limb 0 (ga) : Nat) : Int), .int .u64 ((limb 1 (ga) : Nat) : Int), .int .u64 ((limb 2 (ga) : Nat) : Int), .int .u64 ((limb 3 (ga) : Nat) : Int)]] w fun e w' => e = .returned (.agg #[.int .u64 ((limb 0 (lbP s be ga v x) : Nat) : Int), .int .u64 ((limb 1 (lbP s be ga v x) : Nat) : Int), .int .u64 ((limb 2 (lbP s be ga v x) : Nat) : Int), .int .u64 ((limb 3 (lbP s be ga v x) : Nat) : Int)]) ∧ Below w.heap.size w w' := by
  have HM1 : Hid (∀ w, Calls Tryz.prog 33 #[.int .i64 (s : Int), .agg #[.int .u64 ((limb 0 (be) : Nat) : Int), .int .u64 ((limb 1 (be) : Nat) : Int), .int .u64 ((limb 2 (be) : Nat) : Int), .int .u64 ((limb 3 (be) : Nat) : Int)], .agg #[.int .u64 ((limb 0 (x) : Nat) : Int), .int .u64 ((limb 1 (x) : Nat) : Int), .int .u64 ((limb 2 (x) : Nat) : Int), .int .u64 ((limb 3 (x) : Nat) : Int)]] w fun e w' => e = .returned (.agg #[.int .u64 ((limb 0 (mulP s be x) : Nat) : Int), .int .u64 ((limb 1 (mulP s be x) : Nat) : Int), .int .u64 ((limb 2 (mulP s be x) : Nat) : Int), .int .u64 ((limb 3 (mulP s be x) : Nat) : Int)]) ∧ Below w.heap.size w w') := fun w => ref2Mul_any s be x hs hbe hx w
  have HA1 : Hid (∀ w, Calls Tryz.prog 69 #[.int .i64 (s : Int), .agg #[.int .u64 ((limb 0 (v) : Nat) : Int), .int .u64 ((limb 1 (v) : Nat) : Int), .int .u64 ((limb 2 (v) : Nat) : Int), .int .u64 ((limb 3 (v) : Nat) : Int)], .agg #[.int .u64 ((limb 0 (mulP s be x) : Nat) : Int), .int .u64 ((limb 1 (mulP s be x) : Nat) : Int), .int .u64 ((limb 2 (mulP s be x) : Nat) : Int), .int .u64 ((limb 3 (mulP s be x) : Nat) : Int)]] w fun e w' => e = .returned (.agg #[.int .u64 ((limb 0 (addP s v (mulP s be x)) : Nat) : Int), .int .u64 ((limb 1 (addP s v (mulP s be x)) : Nat) : Int), .int .u64 ((limb 2 (addP s v (mulP s be x)) : Nat) : Int), .int .u64 ((limb 3 (addP s v (mulP s be x)) : Nat) : Int)]) ∧ Below w.heap.size w w') := fun w => ref2Add_any s v _ hs hv (lt_M s _ (mulP_lt _ _ _)) w
  have HA2 : Hid (∀ w, Calls Tryz.prog 69 #[.int .i64 (s : Int), .agg #[.int .u64 ((limb 0 (addP s v (mulP s be x)) : Nat) : Int), .int .u64 ((limb 1 (addP s v (mulP s be x)) : Nat) : Int), .int .u64 ((limb 2 (addP s v (mulP s be x)) : Nat) : Int), .int .u64 ((limb 3 (addP s v (mulP s be x)) : Nat) : Int)], .agg #[.int .u64 ((limb 0 (ga) : Nat) : Int), .int .u64 ((limb 1 (ga) : Nat) : Int), .int .u64 ((limb 2 (ga) : Nat) : Int), .int .u64 ((limb 3 (ga) : Nat) : Int)]] w fun e w' => e = .returned (.agg #[.int .u64 ((limb 0 (lbP s be ga v x) : Nat) : Int), .int .u64 ((limb 1 (lbP s be ga v x) : Nat) : Int), .int .u64 ((limb 2 (lbP s be ga v x) : Nat) : Int), .int .u64 ((limb 3 (lbP s be ga v x) : Nat) : Int)]) ∧ Below w.heap.size w w') := fun w => ref2Add_any s _ ga hs (lt_M s _ (addP_lt _ _ _)) hga w
  obtain ⟨X, eX⟩ : ∃ z, z = mulP s be x := ⟨_, rfl⟩
  rw [← eX] at HM1 HA1 HA2
  obtain ⟨Y, eY⟩ : ∃ z, z = addP s v X := ⟨_, rfl⟩
  rw [← eY] at HA1 HA2
  obtain ⟨Z, eZ⟩ : ∃ z, z = lbP s be ga v x := ⟨_, rfl⟩
  rw [← eZ] at HA2 ⊢
  obtain ⟨si, esi⟩ : ∃ z : Int, z = (s : Int) := ⟨_, rfl⟩
  rw [← esi] at HM1 HA1 HA2 ⊢
  clear eX eY eZ hbe hga hv hx hs esi
  go_enter Tryz.func32, Tryz.ntmps32
  go_upto_region 1 with fail
  have hs1 : (w.alloc (.cells #[.int .u64 ((limb 0 (v) : Nat) : Int), .int .u64 ((limb 1 (v) : Nat) : Int), .int .u64 ((limb 2 (v) : Nat) : Int), .int .u64 ((limb 3 (v) : Nat) : Int)] 25)).heap.size = w.heap.size + 1 := Array.size_push ..
  have hs2 : ((w.alloc (.cells #[.int .u64 ((limb 0 (v) : Nat) : Int), .int .u64 ((limb 1 (v) : Nat) : Int), .int .u64 ((limb 2 (v) : Nat) : Int), .int .u64 ((limb 3 (v) : Nat) : Int)] 25)).alloc (.cells #[.int .u64 ((limb 0 (be) : Nat) : Int), .int .u64 ((limb 1 (be) : Nat) : Int), .int .u64 ((limb 2 (be) : Nat) : Int), .int .u64 ((limb 3 (be) : Nat) : Int)] 25)).heap.size = w.heap.size + 1 + 1 := by rw [← hs1]; exact Array.size_push ..
  have hs3 : (((w.alloc (.cells #[.int .u64 ((limb 0 (v) : Nat) : Int), .int .u64 ((limb 1 (v) : Nat) : Int), .int .u64 ((limb 2 (v) : Nat) : Int), .int .u64 ((limb 3 (v) : Nat) : Int)] 25)).alloc (.cells #[.int .u64 ((limb 0 (be) : Nat) : Int), .int .u64 ((limb 1 (be) : Nat) : Int), .int .u64 ((limb 2 (be) : Nat) : Int), .int .u64 ((limb 3 (be) : Nat) : Int)] 25)).alloc (.cells #[.int .u64 ((limb 0 (x) : Nat) : Int), .int .u64 ((limb 1 (x) : Nat) : Int), .int .u64 ((limb 2 (x) : Nat) : Int), .int .u64 ((limb 3 (x) : Nat) : Int)] 25)).heap.size = w.heap.size + 1 + 1 + 1 := by rw [← hs2]; exact Array.size_push ..
  have hs4 : ((((w.alloc (.cells #[.int .u64 ((limb 0 (v) : Nat) : Int), .int .u64 ((limb 1 (v) : Nat) : Int), .int .u64 ((limb 2 (v) : Nat) : Int), .int .u64 ((limb 3 (v) : Nat) : Int)] 25)).alloc (.cells #[.int .u64 ((limb 0 (be) : Nat) : Int), .int .u64 ((limb 1 (be) : Nat) : Int), .int .u64 ((limb 2 (be) : Nat) : Int), .int .u64 ((limb 3 (be) : Nat) : Int)] 25)).alloc (.cells #[.int .u64 ((limb 0 (x) : Nat) : Int), .int .u64 ((limb 1 (x) : Nat) : Int), .int .u64 ((limb 2 (x) : Nat) : Int), .int .u64 ((limb 3 (x) : Nat) : Int)] 25)).alloc (.cells #[.int .u64 ((limb 0 (ga) : Nat) : Int), .int .u64 ((limb 1 (ga) : Nat) : Int), .int .u64 ((limb 2 (ga) : Nat) : Int), .int .u64 ((limb 3 (ga) : Nat) : Int)] 25)).heap.size = w.heap.size + 1 + 1 + 1 + 1 := by rw [← hs3]; exact Array.size_push ..
  obtain ⟨N6, e0⟩ : ∃ z, z = w.heap.size := ⟨_, rfl⟩
  obtain ⟨N7, e1⟩ : ∃ z, z = N6 + 1 := ⟨_, rfl⟩
  obtain ⟨N8, e2⟩ : ∃ z, z = N7 + 1 := ⟨_, rfl⟩
  obtain ⟨N9, e3⟩ : ∃ z, z = N8 + 1 := ⟨_, rfl⟩
  obtain ⟨N10, e4⟩ : ∃ z, z = N9 + 1 := ⟨_, rfl⟩
  obtain ⟨w1, hw1⟩ : ∃ z : World, z = ((((w.alloc (.cells #[.int .u64 ((limb 0 (v) : Nat) : Int), .int .u64 ((limb 1 (v) : Nat) : Int), .int .u64 ((limb 2 (v) : Nat) : Int), .int .u64 ((limb 3 (v) : Nat) : Int)] 25)).alloc (.cells #[.int .u64 ((limb 0 (be) : Nat) : Int), .int .u64 ((limb 1 (be) : Nat) : Int), .int .u64 ((limb 2 (be) : Nat) : Int), .int .u64 ((limb 3 (be) : Nat) : Int)] 25)).alloc (.cells #[.int .u64 ((limb 0 (x) : Nat) : Int), .int .u64 ((limb 1 (x) : Nat) : Int), .int .u64 ((limb 2 (x) : Nat) : Int), .int .u64 ((limb 3 (x) : Nat) : Int)] 25)).alloc (.cells #[.int .u64 ((limb 0 (ga) : Nat) : Int), .int .u64 ((limb 1 (ga) : Nat) : Int), .int .u64 ((limb 2 (ga) : Nat) : Int), .int .u64 ((limb 3 (ga) : Nat) : Int)] 25)).alloc (.cells #[.int .u64 0, .int .u64 0, .int .u64 0, .int .u64 0] 25) := ⟨_, rfl⟩
  have b6 : Blk w1 25 N6 (fun i => limb i v) := by rw [hw1]; exact ((((Blk.newAt _ _ _ (fun i => limb i v) e0).alloc _).alloc _).alloc _).alloc _
  have b7 : Blk w1 25 N7 (fun i => limb i be) := by rw [hw1]; exact (((Blk.newAt _ _ _ (fun i => limb i be) (by rw [e1, e0, hs1])).alloc _).alloc _).alloc _
  have b8 : Blk w1 25 N8 (fun i => limb i x) := by rw [hw1]; exact ((Blk.newAt _ _ _ (fun i => limb i x) (by rw [e2, e1, e0, hs2])).alloc _).alloc _
  have b9 : Blk w1 25 N9 (fun i => limb i ga) := by rw [hw1]; exact (Blk.newAt _ _ _ (fun i => limb i ga) (by rw [e3, e2, e1, e0, hs3])).alloc _
  have b10 : Blk w1 25 N10 (fun _ => 0) := by rw [hw1]; exact Blk.newAt _ _ _ (fun _ => 0) (by rw [e4, e3, e2, e1, e0, hs4])
  have hb1 : Below w.heap.size w w1 := by rw [hw1]; exact bAlloc (bAlloc (bAlloc (bAlloc (bAlloc (Below.refl _ _) _) _) _) _) _
  rw [← hw1]
  try rw [← e0]
  try rw [← e1]
  try rw [← e2]
  try rw [← e3]
  try rw [← e4]
  have l6 : w.heap.size ≤ N6 := by omega
  have l7 : w.heap.size ≤ N7 := by omega
  have l8 : w.heap.size ≤ N8 := by omega
  have l9 : w.heap.size ≤ N9 := by omega
  have l10 : w.heap.size ≤ N10 := by omega
  have n6_7 : N6 ≠ N7 := by omega
  have n6_8 : N6 ≠ N8 := by omega
  have n6_9 : N6 ≠ N9 := by omega
  have n6_10 : N6 ≠ N10 := by omega
  have n7_8 : N7 ≠ N8 := by omega
  have n7_9 : N7 ≠ N9 := by omega
  have n7_10 : N7 ≠ N10 := by omega
  have n8_9 : N8 ≠ N9 := by omega
  have n8_10 : N8 ≠ N10 := by omega
  have n9_10 : N9 ≠ N10 := by omega
  clear hw1 e0 e1 e2 e3 e4 hs1 hs2 hs3 hs4
  refine wp_region_Z (fun w' => Below w1.heap.size w1 w') 10 (by kernel_rfl) ?_
  obtain ⟨wD, hD⟩ : ∃ x : World, x = w1.drew := ⟨_, rfl⟩
  rw [← hD]
  have hp0_0 : Below w1.heap.size w1 wD := by rw [hD]; exact (Below.refl _ _).drew
  have hlow0 : Below w1.heap.size w1 wD := by rw [hD]; exact (Below.refl _ _).drew
  clear hD
  refine wpZ_take (i := 0) (v := .int .i64 si) 11 rfl rfl (by kernel_rfl) (by kernel_rfl) (by kernel_rfl) (Or.inl (by kernel_rfl)) (fun _ _ _ h => h) (Or.inl ⟨by rfl, fun w hSw => by go_simp⟩) hp0_0 ?_
  simp only [Act.put, List.setIfInBounds_toArray]
  dsimp only [List.set_cons_zero, List.set_cons_succ]
  refine wpZ_take (i := 1) (v := .int .i64 si) 12 rfl rfl (by kernel_rfl) (by kernel_rfl) (by kernel_rfl) (Or.inl (by kernel_rfl)) (fun _ _ _ h => h) (Or.inl ⟨by rfl, fun w hSw => by go_simp⟩) hp0_0 ?_
  simp only [Act.put, List.setIfInBounds_toArray]
  dsimp only [List.set_cons_zero, List.set_cons_succ]
  refine wpZ_take (i := 2) (v := .agg #[.int .u64 ((limb 0 (v) : Nat) : Int), .int .u64 ((limb 1 (v) : Nat) : Int), .int .u64 ((limb 2 (v) : Nat) : Int), .int .u64 ((limb 3 (v) : Nat) : Int)]) 13 rfl rfl (by kernel_rfl) (by kernel_rfl) (by kernel_rfl) (Or.inl (by kernel_rfl)) (fun _ _ _ h => h) (Or.inl ⟨by rfl, fun w hSw => by (have qq := (b6.belowAll hSw).cell; clear hSw; go_simp)⟩) hp0_0 ?_
  simp only [Act.put, List.setIfInBounds_toArray]
  dsimp only [List.set_cons_zero, List.set_cons_succ]
  refine wpZ_take (i := 3) (v := .int .i64 si) 14 rfl rfl (by kernel_rfl) (by kernel_rfl) (by kernel_rfl) (Or.inl (by kernel_rfl)) (fun _ _ _ h => h) (Or.inl ⟨by rfl, fun w hSw => by go_simp⟩) hp0_0 ?_
  simp only [Act.put, List.setIfInBounds_toArray]
  dsimp only [List.set_cons_zero, List.set_cons_succ]
  refine wpZ_take (i := 4) (v := .agg #[.int .u64 ((limb 0 (be) : Nat) : Int), .int .u64 ((limb 1 (be) : Nat) : Int), .int .u64 ((limb 2 (be) : Nat) : Int), .int .u64 ((limb 3 (be) : Nat) : Int)]) 15 rfl rfl (by kernel_rfl) (by kernel_rfl) (by kernel_rfl) (Or.inl (by kernel_rfl)) (fun _ _ _ h => h) (Or.inl ⟨by rfl, fun w hSw => by (have qq := (b7.belowAll hSw).cell; clear hSw; go_simp)⟩) hp0_0 ?_
  simp only [Act.put, List.setIfInBounds_toArray]
  dsimp only [List.set_cons_zero, List.set_cons_succ]
  refine wpZ_take (i := 5) (v := .agg #[.int .u64 ((limb 0 (x) : Nat) : Int), .int .u64 ((limb 1 (x) : Nat) : Int), .int .u64 ((limb 2 (x) : Nat) : Int), .int .u64 ((limb 3 (x) : Nat) : Int)]) 16 rfl rfl (by kernel_rfl) (by kernel_rfl) (by kernel_rfl) (Or.inl (by kernel_rfl)) (fun _ _ _ h => h) (Or.inl ⟨by rfl, fun w hSw => by (have qq := (b8.belowAll hSw).cell; clear hSw; go_simp)⟩) hp0_0 ?_
  simp only [Act.put, List.setIfInBounds_toArray]
  dsimp only [List.set_cons_zero, List.set_cons_succ]
  refine wpZ_take (i := 8) (v := .agg #[.int .u64 ((limb 0 (ga) : Nat) : Int), .int .u64 ((limb 1 (ga) : Nat) : Int), .int .u64 ((limb 2 (ga) : Nat) : Int), .int .u64 ((limb 3 (ga) : Nat) : Int)]) 19 rfl rfl (by kernel_rfl) (by kernel_rfl) (by kernel_rfl) (Or.inl (by kernel_rfl)) (fun _ _ _ h => h) (Or.inl ⟨by rfl, fun w hSw => by (have qq := (b9.belowAll hSw).cell; clear hSw; go_simp)⟩) hp0_0 ?_
  simp only [Act.put, List.setIfInBounds_toArray]
  dsimp only [List.set_cons_zero, List.set_cons_succ]
  refine wpZ_one (i := 6) (by kernel_rfl) rfl (fun K hK => ?_)
  go_simp
  refine (HM1.out wD).mono ?_
  rintro e wT1 ⟨rfl, hbT1⟩
  have hlowT1 := bStep hlow0 hbT1
  go_wp2_with fail
  refine hK.out _ _ (fun _ => hlowT1) ?_
  clear hK K hbT1
  refine wpZ_one (i := 7) (by kernel_rfl) rfl (fun K hK => ?_)
  go_simp
  refine (HA1.out wT1).mono ?_
  rintro e wT2 ⟨rfl, hbT2⟩
  have hlowT2 := bStep hlowT1 hbT2
  go_wp2_with fail
  refine hK.out _ _ (fun _ => hlowT2) ?_
  clear hK K hbT2
  refine wpZ_one (i := 9) (by kernel_rfl) rfl (fun K hK => ?_)
  go_simp
  refine (HA2.out wT2).mono ?_
  rintro e wT3 ⟨rfl, hbT3⟩
  have hlowT3 := bStep hlowT2 hbT3
  go_wp2_with fail
  refine hK.out _ _ (fun _ => hlowT3) ?_
  clear hK K hbT3
  refine wpZ_one (i := 10) (by kernel_rfl) rfl (fun K hK => ?_)
  have b10 := b10.belowAll hlowT3
  have c6 := b10.cell; have f6 := b10.frozen
  obtain ⟨w5, hw5, s6, hk5⟩ := b10.put4 Z
  go_simp
  refine hK.out _ _ (fun h => absurd rfl h) ?_
  clear hK K
  refine wpZ_done (by kernel_rfl) ?_ _
  have hbe := bKept (bStep hb1 hlowT3) l10 hk5
  clear c6 f6 hk5
  go_wp2
  have r0 := s6.cell 0 (by decide); have r1 := s6.cell 1 (by decide); have r2 := s6.cell 2 (by decide); have r3 := s6.cell 3 (by decide)
  refine bodyPost_ret (v := .agg #[.int .u64 ((limb 0 (Z) : Nat) : Int), .int .u64 ((limb 1 (Z) : Nat) : Int), .int .u64 ((limb 2 (Z) : Nat) : Int), .int .u64 ((limb 3 (Z) : Nat) : Int)]) (by simp [results, Tryz.results32, go_sem, r0, r1, r2, r3]) rfl ⟨rfl, ?_⟩
  exact hbe
set_option maxHeartbeats 2000000 in
theorem rchunks_any (n : Nat) (hn : n ≤ 1000) (w : World) : Calls Tryz.prog 30 #[.int .i64 (n : Int)] w fun e w' => e = .returned (.int .i64 (((n + 1) / 2 : Nat) : Int)) ∧ w' = w := by
  obtain ⟨q, eq⟩ : ∃ q, q = n + 1 := ⟨_, rfl⟩
  have h2 : IntKind.i64.wrap ((n : Int) + 1) = (q : Int) := by rw [eq, show (n : Int) + 1 = ((n + 1 : Nat) : Int) from by omega]; exact wrap_i64_nat _ (by omega)
  have h3 : Int.tdiv (q : Int) 2 = (((n + 1) / 2 : Nat) : Int) := by rw [eq]; rfl
  have h4 : IntKind.i64.wrap (((n + 1) / 2 : Nat) : Int) = (((n + 1) / 2 : Nat) : Int) := wrap_i64_nat _ (by omega)
  clear eq
  go_enter Tryz.func30, Tryz.ntmps30
  go_wp2
  go_ret
  exact ⟨rfl, rfl⟩
set_option maxHeartbeats 2000000 in
theorem rend_any (p n : Nat) (hp : p ≤ 1000) (w : World) : Calls Tryz.prog 31 #[.int .i64 (p : Int), .int .i64 (n : Int)] w fun e w' => e = .returned (.int .i64 ((min (2 * p + 2) n : Nat) : Int)) ∧ w' = w := by
  obtain ⟨f, ef⟩ : ∃ f, f = 2 * p := ⟨_, rfl⟩
  obtain ⟨m, em⟩ : ∃ m, m = f + 2 := ⟨_, rfl⟩
  have h1 : IntKind.i64.wrap (2 * (p : Int)) = (f : Int) := by rw [ef, show 2 * (p : Int) = ((2 * p : Nat) : Int) from by omega]; exact wrap_i64_nat _ (by omega)
  have h2 : IntKind.i64.wrap ((f : Int) + 2) = (m : Int) := by rw [em, show (f : Int) + 2 = ((f + 2 : Nat) : Int) from by omega]; exact wrap_i64_nat _ (by omega)
  have HE : Hid (2 * p + 2 = m) := by show _ = _; omega
  clear ef em
  by_cases h : m ≤ n
  · have h3 : ¬ (n : Int) < (m : Int) := by omega
    have HR : Hid (min (2 * p + 2) n = m) := by show _ = _; have := HE.out; omega
    rw [HR.out]
    go_enter Tryz.func31, Tryz.ntmps31
    go_wp2
    go_ret
    exact ⟨rfl, rfl⟩
  · have h3 : (n : Int) < (m : Int) := by omega
    have HR : Hid (min (2 * p + 2) n = n) := by show _ = _; have := HE.out; omega
    rw [HR.out]
    go_enter Tryz.func31, Tryz.ntmps31
    go_wp2
    go_ret
    exact ⟨rfl, rfl⟩
theorem stP_exp (s d : Nat) : ∀ i, stP s d i = expP s d i
  | 0 => by show 1 = powM (modN s) d 0; unfold powM; rw [Nat.pow_zero, Nat.mod_eq_of_lt (modN_odd s).2]
  | i + 1 => by show mulP s (stP s d i) d = _; rw [stP_exp s d i]; exact powM_step _ _ _
set_option maxHeartbeats 4000000 in
set_option maxRecDepth 20000 in
/-- The reference's Shift. -/
theorem rshift_any (s c : Nat) (hs : s < 4) (hc : c ≤ 1000) (w : World) :
    Calls Tryz.prog 34 #[.int .i64 (s : Int), .int .i64 (c : Int)] w fun e w' => e = .returned (.agg #[.int .u64 ((limb 0 (stP s (dP s) c) : Nat) : Int), .int .u64 ((limb 1 (stP s (dP s) c) : Nat) : Int), .int .u64 ((limb 2 (stP s (dP s) c) : Nat) : Int), .int .u64 ((limb 3 (stP s (dP s) c) : Nat) : Int)]) ∧ Below w.heap.size w w' := by
  have h5 : (5 : Nat) < 115792089237316195423570985008687907853269984665640564039457584007913129639936 := by decide
  have hA := adic_32 s
  have hpQ : 2 ^ adicN s < 18446744073709551616 := Nat.lt_of_le_of_lt (Nat.pow_le_pow_right (n := 2) (by decide) hA) (by decide)
  have HAD : Hid (∀ w, _) := fun w => ref2Adicity_any s hs w
  have HEX : ∀ w, Calls Tryz.prog 72 #[.int .i64 (s : Int), .agg #[.int .u64 ((limb 0 (5) : Nat) : Int), .int .u64 ((limb 1 (5) : Nat) : Int), .int .u64 ((limb 2 (5) : Nat) : Int), .int .u64 ((limb 3 (5) : Nat) : Int)], .agg #[.int .u64 ((limb 0 (2 ^ adicN s) : Nat) : Int), .int .u64 ((limb 1 (2 ^ adicN s) : Nat) : Int), .int .u64 ((limb 2 (2 ^ adicN s) : Nat) : Int), .int .u64 ((limb 3 (2 ^ adicN s) : Nat) : Int)]] w fun e w' => e = .returned (.agg #[.int .u64 ((limb 0 (dP s) : Nat) : Int), .int .u64 ((limb 1 (dP s) : Nat) : Int), .int .u64 ((limb 2 (dP s) : Nat) : Int), .int .u64 ((limb 3 (dP s) : Nat) : Int)]) ∧ Below w.heap.size w w' := fun w => ref2Exp_any s 5 (2 ^ adicN s) hs h5 (Nat.lt_of_lt_of_le hpQ (by decide)) w
  rw [word_agg 5 (by decide), word_agg (2 ^ adicN s) hpQ] at HEX
  have hDM : dP s < 115792089237316195423570985008687907853269984665640564039457584007913129639936 := lt_M s _ (expP_lt s _ _)
  have HE2 : ∀ w, Calls Tryz.prog 72 #[.int .i64 (s : Int), .agg #[.int .u64 ((limb 0 (dP s) : Nat) : Int), .int .u64 ((limb 1 (dP s) : Nat) : Int), .int .u64 ((limb 2 (dP s) : Nat) : Int), .int .u64 ((limb 3 (dP s) : Nat) : Int)], .agg #[.int .u64 ((limb 0 (c) : Nat) : Int), .int .u64 ((limb 1 (c) : Nat) : Int), .int .u64 ((limb 2 (c) : Nat) : Int), .int .u64 ((limb 3 (c) : Nat) : Int)]] w fun e w' => e = .returned (.agg #[.int .u64 ((limb 0 (stP s (dP s) c) : Nat) : Int), .int .u64 ((limb 1 (stP s (dP s) c) : Nat) : Int), .int .u64 ((limb 2 (stP s (dP s) c) : Nat) : Int), .int .u64 ((limb 3 (stP s (dP s) c) : Nat) : Int)]) ∧ Below w.heap.size w w' := fun w => by rw [stP_exp]; exact ref2Exp_any s (dP s) c hs hDM (Nat.lt_of_le_of_lt hc (by decide)) w
  rw [word_agg c (Nat.lt_of_le_of_lt hc (by decide))] at HE2
  obtain ⟨A, eA⟩ : ∃ A, A = adicN s := ⟨_, rfl⟩
  rw [← eA] at HAD HEX hA hpQ
  obtain ⟨P, eP⟩ : ∃ P, P = 2 ^ A := ⟨_, rfl⟩
  have hsh : (2 : Int) ^ A = (P : Int) := by rw [eP]; simp
  rw [← eP] at HEX hpQ
  have hPw : IntKind.u64.wrap (P : Int) = (P : Int) := by simp [IntKind.wrap, IntKind.bits, IntKind.signed]; omega
  have hAw : IntKind.u64.wrap (A : Int) = (A : Int) := by simp [IntKind.wrap, IntKind.bits, IntKind.signed]; omega
  have hcw : IntKind.u64.wrap (c : Int) = (c : Int) := by simp [IntKind.wrap, IntKind.bits, IntKind.signed]; omega
  have hA0 : ¬ (A : Int) < 0 := by omega
  have hmin : min A 64 = A := Nat.min_eq_left (by omega)
  obtain ⟨d, ed⟩ : ∃ d, d = dP s := ⟨_, rfl⟩
  rw [← ed] at HEX HE2 ⊢
  obtain ⟨y, ey⟩ : ∃ y, y = stP s d c := ⟨_, rfl⟩
  rw [← ey] at HE2 ⊢
  obtain ⟨si, esi⟩ : ∃ z : Int, z = (s : Int) := ⟨_, rfl⟩
  rw [← esi] at HAD HEX HE2 ⊢
  have HX1 : Hid (∀ w, Calls Tryz.prog 72 #[.int .i64 si, .agg #[.int .u64 5, .int .u64 0, .int .u64 0, .int .u64 0], .agg #[.int .u64 (P : Int), .int .u64 0, .int .u64 0, .int .u64 0]] w fun e w' => e = .returned (.agg #[.int .u64 ((limb 0 (d) : Nat) : Int), .int .u64 ((limb 1 (d) : Nat) : Int), .int .u64 ((limb 2 (d) : Nat) : Int), .int .u64 ((limb 3 (d) : Nat) : Int)]) ∧ Below w.heap.size w w') := HEX
  have HX2 : Hid (∀ w, Calls Tryz.prog 72 #[.int .i64 si, .agg #[.int .u64 ((limb 0 (d) : Nat) : Int), .int .u64 ((limb 1 (d) : Nat) : Int), .int .u64 ((limb 2 (d) : Nat) : Int), .int .u64 ((limb 3 (d) : Nat) : Int)], .agg #[.int .u64 (c : Int), .int .u64 0, .int .u64 0, .int .u64 0]] w fun e w' => e = .returned (.agg #[.int .u64 ((limb 0 (y) : Nat) : Int), .int .u64 ((limb 1 (y) : Nat) : Int), .int .u64 ((limb 2 (y) : Nat) : Int), .int .u64 ((limb 3 (y) : Nat) : Int)]) ∧ Below w.heap.size w w') := HE2
  clear HEX HE2 hDM eA eP ed ey esi hs h5 hA hpQ
  go_enter Tryz.func34, Tryz.ntmps34
  go_wp2_with fail
  obtain ⟨w0, hw0⟩ : ∃ z : World, z = w.alloc (.cells #[.int .u64 0, .int .u64 0, .int .u64 0, .int .u64 0] 25) := ⟨_, rfl⟩
  obtain ⟨N4, e4⟩ : ∃ z, z = w.heap.size := ⟨_, rfl⟩
  have b4 : Blk w0 25 N4 (fun _ => 0) := by rw [hw0]; exact Blk.newAt _ _ _ (fun _ => 0) e4
  have hb0 : Below w.heap.size w w0 := by rw [hw0]; exact bAlloc (Below.refl _ _) _
  have l4 : w.heap.size ≤ N4 := by omega
  rw [← hw0]
  try rw [← e4]
  clear hw0 e4
  refine (HAD.out w0).mono ?_
  rintro e w1 ⟨rfl, hb⟩
  have c4 := b4.belowAll hb
  have hb1 := bStep hb0 hb
  clear b4 hb0 hb HAD
  go_wp2_with fail
  refine (HX1.out w1).mono ?_
  rintro e w2 ⟨rfl, hb⟩
  have b4 := c4.belowAll hb
  have hb2 := bStep hb1 hb
  clear c4 hb1 hb HX1
  go_upto_region 3 with fail
  obtain ⟨w3, hw3⟩ : ∃ z : World, z = w2.alloc (.cells #[.int .u64 ((limb 0 (d) : Nat) : Int), .int .u64 ((limb 1 (d) : Nat) : Int), .int .u64 ((limb 2 (d) : Nat) : Int), .int .u64 ((limb 3 (d) : Nat) : Int)] 25) := ⟨_, rfl⟩
  obtain ⟨N7, e7⟩ : ∃ z, z = w2.heap.size := ⟨_, rfl⟩
  have b7 : Blk w3 25 N7 (fun i => limb i d) := by rw [hw3]; exact Blk.newAt _ _ _ (fun i => limb i d) e7
  have hbn : Below w2.heap.size w2 w3 := by rw [hw3]; exact bAlloc (Below.refl _ _) _
  have c4 := b4.belowAll hbn
  have hb3 := bStep hb2 hbn
  rw [← hw3]
  try rw [← e7]
  clear hw3 e7 hbn b4 hb2 hsh hPw hA0 hmin hAw
  have k7 := b7.cell
  go_wp2_with fail
  refine (HX2.out w3).mono ?_
  rintro e w4 ⟨rfl, hb⟩
  have b4 := c4.belowAll hb
  have hb4 := bStep hb3 hb
  clear k7 b7 c4 hb hb3 HX2
  have k4 := b4.cell; have f4 := b4.frozen
  obtain ⟨w5, hw5, s4, hk⟩ := b4.put4 y
  have hbe := bKept hb4 l4 hk
  clear hk
  go_wp2
  have r0 := s4.cell 0 (by decide); have r1 := s4.cell 1 (by decide); have r2 := s4.cell 2 (by decide); have r3 := s4.cell 3 (by decide)
  refine bodyPost_ret (v := .agg #[.int .u64 ((limb 0 (y) : Nat) : Int), .int .u64 ((limb 1 (y) : Nat) : Int), .int .u64 ((limb 2 (y) : Nat) : Int), .int .u64 ((limb 3 (y) : Nat) : Int)]) (by simp [results, Tryz.results34, go_sem, r0, r1, r2, r3]) rfl ⟨rfl, hbe⟩
end Go.Proofs.YtfbfenljfdnggaaGreatDoor
