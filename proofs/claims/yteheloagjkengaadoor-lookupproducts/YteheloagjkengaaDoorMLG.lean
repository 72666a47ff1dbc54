/- The reference's two; one. -/
import Derived.Test.YteheloagjkengaaDoorMLE
import Derived.Test.YteheloagjkengaaDoorL2
import Derived.Test.YteheloagjkengaaDoorLUF
namespace Go.Proofs.YteheloagjkengaaDoor
open Go.RowKit

theorem one_agg : (.agg #[.int .u64 ((limb 0 (1) : Nat) : Int), .int .u64 ((limb 1 (1) : Nat) : Int), .int .u64 ((limb 2 (1) : Nat) : Int), .int .u64 ((limb 3 (1) : Nat) : Int)] : Value) = .agg #[.int .u64 1, .int .u64 0, .int .u64 0, .int .u64 0] := word_agg 1 (by decide)
set_option maxHeartbeats 4000000 in
set_option maxRecDepth 20000 in
/-- The reference's two. -/
theorem two_any {si : Int} {ad mu : Nat → Nat → Nat} (hF : RFld si ad mu) (a be b ga : Nat) (ha : a < 115792089237316195423570985008687907853269984665640564039457584007913129639936) (hbe : be < 115792089237316195423570985008687907853269984665640564039457584007913129639936) (hb : b < 115792089237316195423570985008687907853269984665640564039457584007913129639936) (hga : ga < 115792089237316195423570985008687907853269984665640564039457584007913129639936) (w : World) :
    Calls Tryd.prog 19 #[.int .i64 si, .agg #[.int .u64 ((limb 0 (a) : Nat) : Int), .int .u64 ((limb 1 (a) : Nat) : Int), .int .u64 ((limb 2 (a) : Nat) : Int), .int .u64 ((limb 3 (a) : Nat) : Int)], .agg #[.int .u64 ((limb 0 (be) : Nat) : Int), .int .u64 ((limb 1 (be) : Nat) : Int), .int .u64 ((limb 2 (be) : Nat) : Int), .int .u64 ((limb 3 (be) : Nat) : Int)], .agg #[.int .u64 ((limb 0 (b) : Nat) : Int), .int .u64 ((limb 1 (b) : Nat) : Int), .int .u64 ((limb 2 (b) : Nat) : Int), .int .u64 ((limb 3 (b) : Nat) : Int)], .agg #[.int .u64 ((limb 0 (ga) : Nat) : Int), .int .u64 ((limb 1 (ga) : Nat) : Int), .int .u64 ((limb 2 (ga) : Nat) : Int), .int .u64 ((limb 3 (ga) : Nat) : Int)]] w fun e w' => e = .returned (.agg #[.int .u64 ((limb 0 (mu (ad a be) (ad b ga)) : Nat) : Int), .int .u64 ((limb 1 (mu (ad a be) (ad b ga)) : Nat) : Int), .int .u64 ((limb 2 (mu (ad a be) (ad b ga)) : Nat) : Int), .int .u64 ((limb 3 (mu (ad a be) (ad b ga)) : Nat) : Int)]) ∧ Below w.heap.size w w' := by
  have HA1 : Hid (∀ w, _) := fun w => hF.2.1 a be ha hbe w
  have HA2 : Hid (∀ w, _) := fun w => hF.2.1 b ga hb hga w
  have HMU : Hid (∀ w, _) := fun w => hF.2.2 (ad a be) (ad b ga) (hF.1 _ _).1 (hF.1 _ _).1 w
  obtain ⟨X, eX⟩ : ∃ z, z = ad a be := ⟨_, rfl⟩
  obtain ⟨Y, eY⟩ : ∃ z, z = ad b ga := ⟨_, rfl⟩
  rw [← eX] at HA1 HMU ⊢
  rw [← eY] at HA2 HMU ⊢
  obtain ⟨Z, eZ⟩ : ∃ z, z = mu X Y := ⟨_, rfl⟩
  rw [← eZ] at HMU ⊢
  clear eX eY eZ hF ha hb hbe hga
  go_enter Tryd.func19, Tryd.ntmps19
  go_upto_region 1 with fail
  have hs1 : (w.alloc (.cells #[.int .u64 ((limb 0 (a) : Nat) : Int), .int .u64 ((limb 1 (a) : Nat) : Int), .int .u64 ((limb 2 (a) : Nat) : Int), .int .u64 ((limb 3 (a) : Nat) : Int)] 25)).heap.size = w.heap.size + 1 := Array.size_push ..
  have hs2 : ((w.alloc (.cells #[.int .u64 ((limb 0 (a) : Nat) : Int), .int .u64 ((limb 1 (a) : Nat) : Int), .int .u64 ((limb 2 (a) : Nat) : Int), .int .u64 ((limb 3 (a) : Nat) : Int)] 25)).alloc (.cells #[.int .u64 ((limb 0 (be) : Nat) : Int), .int .u64 ((limb 1 (be) : Nat) : Int), .int .u64 ((limb 2 (be) : Nat) : Int), .int .u64 ((limb 3 (be) : Nat) : Int)] 25)).heap.size = w.heap.size + 1 + 1 := by rw [← hs1]; exact Array.size_push ..
  have hs3 : (((w.alloc (.cells #[.int .u64 ((limb 0 (a) : Nat) : Int), .int .u64 ((limb 1 (a) : Nat) : Int), .int .u64 ((limb 2 (a) : Nat) : Int), .int .u64 ((limb 3 (a) : Nat) : Int)] 25)).alloc (.cells #[.int .u64 ((limb 0 (be) : Nat) : Int), .int .u64 ((limb 1 (be) : Nat) : Int), .int .u64 ((limb 2 (be) : Nat) : Int), .int .u64 ((limb 3 (be) : Nat) : Int)] 25)).alloc (.cells #[.int .u64 ((limb 0 (b) : Nat) : Int), .int .u64 ((limb 1 (b) : Nat) : Int), .int .u64 ((limb 2 (b) : Nat) : Int), .int .u64 ((limb 3 (b) : Nat) : Int)] 25)).heap.size = w.heap.size + 1 + 1 + 1 := by rw [← hs2]; exact Array.size_push ..
  have hs4 : ((((w.alloc (.cells #[.int .u64 ((limb 0 (a) : Nat) : Int), .int .u64 ((limb 1 (a) : Nat) : Int), .int .u64 ((limb 2 (a) : Nat) : Int), .int .u64 ((limb 3 (a) : Nat) : Int)] 25)).alloc (.cells #[.int .u64 ((limb 0 (be) : Nat) : Int), .int .u64 ((limb 1 (be) : Nat) : Int), .int .u64 ((limb 2 (be) : Nat) : Int), .int .u64 ((limb 3 (be) : Nat) : Int)] 25)).alloc (.cells #[.int .u64 ((limb 0 (b) : Nat) : Int), .int .u64 ((limb 1 (b) : Nat) : Int), .int .u64 ((limb 2 (b) : Nat) : Int), .int .u64 ((limb 3 (b) : Nat) : Int)] 25)).alloc (.cells #[.int .u64 ((limb 0 (ga) : Nat) : Int), .int .u64 ((limb 1 (ga) : Nat) : Int), .int .u64 ((limb 2 (ga) : Nat) : Int), .int .u64 ((limb 3 (ga) : Nat) : Int)] 25)).heap.size = w.heap.size + 1 + 1 + 1 + 1 := by rw [← hs3]; exact Array.size_push ..
  obtain ⟨N6, e0⟩ : ∃ z, z = w.heap.size := ⟨_, rfl⟩
  obtain ⟨N7, e1⟩ : ∃ z, z = N6 + 1 := ⟨_, rfl⟩
  obtain ⟨N8, e2⟩ : ∃ z, z = N7 + 1 := ⟨_, rfl⟩
  obtain ⟨N9, e3⟩ : ∃ z, z = N8 + 1 := ⟨_, rfl⟩
  obtain ⟨N10, e4⟩ : ∃ z, z = N9 + 1 := ⟨_, rfl⟩
  obtain ⟨w1, hw1⟩ : ∃ z : World, z = ((((w.alloc (.cells #[.int .u64 ((limb 0 (a) : Nat) : Int), .int .u64 ((limb 1 (a) : Nat) : Int), .int .u64 ((limb 2 (a) : Nat) : Int), .int .u64 ((limb 3 (a) : Nat) : Int)] 25)).alloc (.cells #[.int .u64 ((limb 0 (be) : Nat) : Int), .int .u64 ((limb 1 (be) : Nat) : Int), .int .u64 ((limb 2 (be) : Nat) : Int), .int .u64 ((limb 3 (be) : Nat) : Int)] 25)).alloc (.cells #[.int .u64 ((limb 0 (b) : Nat) : Int), .int .u64 ((limb 1 (b) : Nat) : Int), .int .u64 ((limb 2 (b) : Nat) : Int), .int .u64 ((limb 3 (b) : Nat) : Int)] 25)).alloc (.cells #[.int .u64 ((limb 0 (ga) : Nat) : Int), .int .u64 ((limb 1 (ga) : Nat) : Int), .int .u64 ((limb 2 (ga) : Nat) : Int), .int .u64 ((limb 3 (ga) : Nat) : Int)] 25)).alloc (.cells #[.int .u64 0, .int .u64 0, .int .u64 0, .int .u64 0] 25) := ⟨_, rfl⟩
  have b6 : Blk w1 25 N6 (fun i => limb i a) := by rw [hw1]; exact ((((Blk.newAt _ _ _ (fun i => limb i a) e0).alloc _).alloc _).alloc _).alloc _
  have b7 : Blk w1 25 N7 (fun i => limb i be) := by rw [hw1]; exact (((Blk.newAt _ _ _ (fun i => limb i be) (by rw [e1, e0, hs1])).alloc _).alloc _).alloc _
  have b8 : Blk w1 25 N8 (fun i => limb i b) := by rw [hw1]; exact ((Blk.newAt _ _ _ (fun i => limb i b) (by rw [e2, e1, e0, hs2])).alloc _).alloc _
  have b9 : Blk w1 25 N9 (fun i => limb i ga) := by rw [hw1]; exact (Blk.newAt _ _ _ (fun i => limb i ga) (by rw [e3, e2, e1, e0, hs3])).alloc _
  have b10 : Blk w1 25 N10 (fun _ => 0) := by rw [hw1]; exact Blk.newAt _ _ _ (fun _ => 0) (by rw [e4, e3, e2, e1, e0, hs4])
  have hb1 : Below w.heap.size w w1 := by rw [hw1]; exact bAlloc (bAlloc (bAlloc (bAlloc (bAlloc (Below.refl _ _) _) _) _) _) _
  rw [← hw1]
  try rw [← e0]
  try rw [← e1]
  try rw [← e2]
  try rw [← e3]
  try rw [← e4]
  have l6 : w.heap.size ≤ N6 := by omega
  have l7 : w.heap.size ≤ N7 := by omega
  have l8 : w.heap.size ≤ N8 := by omega
  have l9 : w.heap.size ≤ N9 := by omega
  have l10 : w.heap.size ≤ N10 := by omega
  have n6_7 : N6 ≠ N7 := by omega
  have n6_8 : N6 ≠ N8 := by omega
  have n6_9 : N6 ≠ N9 := by omega
  have n6_10 : N6 ≠ N10 := by omega
  have n7_8 : N7 ≠ N8 := by omega
  have n7_9 : N7 ≠ N9 := by omega
  have n7_10 : N7 ≠ N10 := by omega
  have n8_9 : N8 ≠ N9 := by omega
  have n8_10 : N8 ≠ N10 := by omega
  have n9_10 : N9 ≠ N10 := by omega
  clear hw1 e0 e1 e2 e3 e4 hs1 hs2 hs3 hs4
  refine wp_region_Z (fun w' => Below w1.heap.size w1 w') 10 (by kernel_rfl) ?_
  obtain ⟨wD, hD⟩ : ∃ x : World, x = w1.drew := ⟨_, rfl⟩
  rw [← hD]
  have hp0_0 : Below w1.heap.size w1 wD := by rw [hD]; exact (Below.refl _ _).drew
  have hlow0 : Below w1.heap.size w1 wD := by rw [hD]; exact (Below.refl _ _).drew
  clear hD
  refine wpZ_take (i := 0) (v := .int .i64 si) 11 rfl rfl (by kernel_rfl) (by kernel_rfl) (by kernel_rfl) (Or.inl (by kernel_rfl)) (fun _ _ _ h => h) (Or.inl ⟨by rfl, fun w hSw => by go_simp⟩) hp0_0 ?_
  simp only [Act.put, List.setIfInBounds_toArray]
  dsimp only [List.set_cons_zero, List.set_cons_succ]
  refine wpZ_take (i := 1) (v := .int .i64 si) 12 rfl rfl (by kernel_rfl) (by kernel_rfl) (by kernel_rfl) (Or.inl (by kernel_rfl)) (fun _ _ _ h => h) (Or.inl ⟨by rfl, fun w hSw => by go_simp⟩) hp0_0 ?_
  simp only [Act.put, List.setIfInBounds_toArray]
  dsimp only [List.set_cons_zero, List.set_cons_succ]
  refine wpZ_take (i := 2) (v := .agg #[.int .u64 ((limb 0 (a) : Nat) : Int), .int .u64 ((limb 1 (a) : Nat) : Int), .int .u64 ((limb 2 (a) : Nat) : Int), .int .u64 ((limb 3 (a) : Nat) : Int)]) 13 rfl rfl (by kernel_rfl) (by kernel_rfl) (by kernel_rfl) (Or.inl (by kernel_rfl)) (fun _ _ _ h => h) (Or.inl ⟨by rfl, fun w hSw => by (have qq := (b6.belowAll hSw).cell; clear hSw; go_simp)⟩) hp0_0 ?_
  simp only [Act.put, List.setIfInBounds_toArray]
  dsimp only [List.set_cons_zero, List.set_cons_succ]
  refine wpZ_take (i := 3) (v := .agg #[.int .u64 ((limb 0 (be) : Nat) : Int), .int .u64 ((limb 1 (be) : Nat) : Int), .int .u64 ((limb 2 (be) : Nat) : Int), .int .u64 ((limb 3 (be) : Nat) : Int)]) 14 rfl rfl (by kernel_rfl) (by kernel_rfl) (by kernel_rfl) (Or.inl (by kernel_rfl)) (fun _ _ _ h => h) (Or.inl ⟨by rfl, fun w hSw => by (have qq := (b7.belowAll hSw).cell; clear hSw; go_simp)⟩) hp0_0 ?_
  simp only [Act.put, List.setIfInBounds_toArray]
  dsimp only [List.set_cons_zero, List.set_cons_succ]
  refine wpZ_take (i := 5) (v := .int .i64 si) 16 rfl rfl (by kernel_rfl) (by kernel_rfl) (by kernel_rfl) (Or.inl (by kernel_rfl)) (fun _ _ _ h => h) (Or.inl ⟨by rfl, fun w hSw => by go_simp⟩) hp0_0 ?_
  simp only [Act.put, List.setIfInBounds_toArray]
  dsimp only [List.set_cons_zero, List.set_cons_succ]
  refine wpZ_take (i := 6) (v := .agg #[.int .u64 ((limb 0 (b) : Nat) : Int), .int .u64 ((limb 1 (b) : Nat) : Int), .int .u64 ((limb 2 (b) : Nat) : Int), .int .u64 ((limb 3 (b) : Nat) : Int)]) 17 rfl rfl (by kernel_rfl) (by kernel_rfl) (by kernel_rfl) (Or.inl (by kernel_rfl)) (fun _ _ _ h => h) (Or.inl ⟨by rfl, fun w hSw => by (have qq := (b8.belowAll hSw).cell; clear hSw; go_simp)⟩) hp0_0 ?_
  simp only [Act.put, List.setIfInBounds_toArray]
  dsimp only [List.set_cons_zero, List.set_cons_succ]
  refine wpZ_take (i := 7) (v := .agg #[.int .u64 ((limb 0 (ga) : Nat) : Int), .int .u64 ((limb 1 (ga) : Nat) : Int), .int .u64 ((limb 2 (ga) : Nat) : Int), .int .u64 ((limb 3 (ga) : Nat) : Int)]) 18 rfl rfl (by kernel_rfl) (by kernel_rfl) (by kernel_rfl) (Or.inl (by kernel_rfl)) (fun _ _ _ h => h) (Or.inl ⟨by rfl, fun w hSw => by (have qq := (b9.belowAll hSw).cell; clear hSw; go_simp)⟩) hp0_0 ?_
  simp only [Act.put, List.setIfInBounds_toArray]
  dsimp only [List.set_cons_zero, List.set_cons_succ]
  refine wpZ_one (i := 4) (by kernel_rfl) rfl (fun K hK => ?_)
  go_simp
  refine (HA1.out wD).mono ?_
  rintro e wT1 ⟨rfl, hbT1⟩
  have hlowT1 := bStep hlow0 hbT1
  go_wp2_with fail
  refine hK.out _ _ (fun _ => hlowT1) ?_
  clear hK K hbT1
  refine wpZ_one (i := 8) (by kernel_rfl) rfl (fun K hK => ?_)
  go_simp
  refine (HA2.out wT1).mono ?_
  rintro e wT2 ⟨rfl, hbT2⟩
  have hlowT2 := bStep hlowT1 hbT2
  go_wp2_with fail
  refine hK.out _ _ (fun _ => hlowT2) ?_
  clear hK K hbT2
  refine wpZ_one (i := 9) (by kernel_rfl) rfl (fun K hK => ?_)
  go_simp
  refine (HMU.out wT2).mono ?_
  rintro e wT3 ⟨rfl, hbT3⟩
  have hlowT3 := bStep hlowT2 hbT3
  go_wp2_with fail
  refine hK.out _ _ (fun _ => hlowT3) ?_
  clear hK K hbT3
  refine wpZ_one (i := 10) (by kernel_rfl) rfl (fun K hK => ?_)
  have b10 := b10.belowAll hlowT3
  have c6 := b10.cell; have f6 := b10.frozen
  obtain ⟨w5, hw5, s6, hk5⟩ := b10.put4 Z
  go_simp
  refine hK.out _ _ (fun h => absurd rfl h) ?_
  clear hK K
  refine wpZ_done (by kernel_rfl) ?_ _
  have hbe := bKept (bStep hb1 hlowT3) l10 hk5
  clear c6 f6 hk5
  go_wp2
  have r0 := s6.cell 0 (by decide); have r1 := s6.cell 1 (by decide); have r2 := s6.cell 2 (by decide); have r3 := s6.cell 3 (by decide)
  refine bodyPost_ret (v := .agg #[.int .u64 ((limb 0 (Z) : Nat) : Int), .int .u64 ((limb 1 (Z) : Nat) : Int), .int .u64 ((limb 2 (Z) : Nat) : Int), .int .u64 ((limb 3 (Z) : Nat) : Int)]) (by simp [results, Tryd.results19, go_sem, r0, r1, r2, r3]) rfl ⟨rfl, ?_⟩
  exact hbe
end Go.Proofs.YteheloagjkengaaDoor

/- The second reference's Inv and By. -/
namespace Go.Proofs.YteheloagjkengaaDoor
open Go.RowKit

set_option maxHeartbeats 8000000 in
set_option maxRecDepth 20000 in
theorem rInv_zero (s a : Nat) (hs : s < 4) (ha : a < 115792089237316195423570985008687907853269984665640564039457584007913129639936) (hz : a % modN s = 0) (w : World) :
    Calls Tryd.prog 38 #[.int .i64 (s : Int), .agg #[.int .u64 ((limb 0 (a) : Nat) : Int), .int .u64 ((limb 1 (a) : Nat) : Int), .int .u64 ((limb 2 (a) : Nat) : Int), .int .u64 ((limb 3 (a) : Nat) : Int)]] w fun e w' => e = .returned (.tuple #[.agg #[.int .u64 0, .int .u64 0, .int .u64 0, .int .u64 0], .int .i64 10]) ∧ Below w.heap.size w w' := by
  have HM := fun w => ref2Modulus_any s hs w
  have OF := fun w => ref2Of_any s a hs ha w
  have hgl := (modN_good s).lt
  have lx := Nat.mod_lt a (modN_pos s)
  have QZ := fun w => eqlE (a % modN s) 0 (by omega) (by decide) w
  rw [show decide (a % modN s = 0) = true from by simp [hz]] at QZ
  obtain ⟨x, ex⟩ : ∃ x, x = a % modN s := ⟨_, rfl⟩
  rw [← ex] at OF QZ
  obtain ⟨m, em⟩ : ∃ m, m = modN s := ⟨_, rfl⟩
  rw [← em] at HM
  clear ex em hgl lx hz hs ha
  go_enter Tryd.func38, Tryd.ntmps38
  go_wp2_with fail
  obtain ⟨w0, hw0⟩ : ∃ w0 : World, w0 = (w.alloc (.cells #[.int .u64 ((limb 0 (a) : Nat) : Int), .int .u64 ((limb 1 (a) : Nat) : Int), .int .u64 ((limb 2 (a) : Nat) : Int), .int .u64 ((limb 3 (a) : Nat) : Int)] 25)).alloc (.cells #[.int .u64 0, .int .u64 0, .int .u64 0, .int .u64 0] 25) := ⟨_, rfl⟩
  have ba0 : Blk w0 25 w.heap.size (fun i => limb i a) := by rw [hw0]; exact (Blk.newAt _ _ _ (fun i => limb i a) (by simp)).alloc _
  have br0 : Blk w0 25 (w.heap.size + 1) (fun _ => 0) := by rw [hw0]; exact Blk.newAt _ _ _ (fun _ => 0) (by simp)
  have hb0 : Below w.heap.size w w0 := by
    rw [hw0]
    repeat (first | with_reducible exact Below.refl _ _ | with_reducible refine Below.alloc ?_ (by first | omega | (simp; omega) | simp) _)
  rw [← hw0]
  clear hw0
  refine (HM _).mono ?_
  rintro e w1 ⟨rfl, hb1⟩
  have ba1 := ba0.belowAll hb1; have br1 := br0.belowAll hb1
  have hbw1 := bStep hb0 hb1
  have lr1 := br1.lt
  clear ba0 br0 hb0 hb1 HM
  obtain ⟨N6, e6⟩ : ∃ N6, N6 = w1.heap.size := ⟨_, rfl⟩
  obtain ⟨w2, hw2⟩ : ∃ w2 : World, w2 = w1.alloc (.cells #[.int .u64 ((limb 0 (m) : Nat) : Int), .int .u64 ((limb 1 (m) : Nat) : Int), .int .u64 ((limb 2 (m) : Nat) : Int), .int .u64 ((limb 3 (m) : Nat) : Int)] 25) := ⟨_, rfl⟩
  have ba2 : Blk w2 25 w.heap.size (fun i => limb i a) := by rw [hw2]; exact ba1.alloc _
  have br2 : Blk w2 25 (w.heap.size + 1) (fun _ => 0) := by rw [hw2]; exact br1.alloc _
  have bm2 : Blk w2 25 N6 (fun i => limb i m) := by rw [hw2]; exact Blk.newAt _ _ _ (fun i => limb i m) e6
  have hbw2 : Below w.heap.size w w2 := by rw [hw2]; exact bAlloc hbw1 _
  have l6 : w.heap.size + 1 < N6 := by rw [e6]; exact lr1
  go_upto_region 2 with fail
  rw [← hw2, ← e6]
  clear hw2 e6 ba1 br1 hbw1 lr1
  obtain ⟨N8, e8⟩ : ∃ N8, N8 = w2.heap.size := ⟨_, rfl⟩
  obtain ⟨w3, hw3⟩ : ∃ w3 : World, w3 = w2.alloc (.cells #[.int .u64 0, .int .u64 0, .int .u64 0, .int .u64 0] 25) := ⟨_, rfl⟩
  have ba3 : Blk w3 25 w.heap.size (fun i => limb i a) := by rw [hw3]; exact ba2.alloc _
  have br3 : Blk w3 25 (w.heap.size + 1) (fun _ => 0) := by rw [hw3]; exact br2.alloc _
  have bm3 : Blk w3 25 N6 (fun i => limb i m) := by rw [hw3]; exact bm2.alloc _
  have bz3 : Blk w3 25 N8 (fun i => limb i 0) := by rw [hw3]; exact (Blk.newAt _ _ _ (fun _ => 0) e8).congr (fun i _ => limb_zero i)
  have hbw3 : Below w.heap.size w w3 := by rw [hw3]; exact bAlloc hbw2 _
  have l8 : N6 < N8 := by rw [e8]; exact bm2.lt
  go_upto_region 5 with fail
  rw [← hw3, ← e8]
  clear hw3 e8 ba2 br2 bm2 hbw2
  go_wp2_with fail
  go_region_held3 (fun w' => (∀ i, i < 4 → w'.cell? ⟨w.heap.size, i, none⟩ = some (.int .u64 ((limb i a : Nat) : Int))) ∧ (∀ i, i < 4 → w'.cell? ⟨N8, i, none⟩ = some (.int .u64 ((limb i 0 : Nat) : Int))))
    (first | with_reducible exact hold2 hbA (by with_reducible assumption) | with_reducible exact ⟨ba3.drew.cell, bz3.drew.cell⟩)
    (first | (go_at_call 22; with_reducible refine (OF _).mono ?_; rintro e w4 ⟨rfl, hbA⟩) | fail)
  have ba4 := ba3.drew.belowAll hbA; have br4 := br3.drew.belowAll hbA; have bm4 := bm3.drew.belowAll hbA; have bz4 := bz3.drew.belowAll hbA
  have hbw4 := bStep hbw3.drew hbA
  clear ba3 br3 bm3 bz3 hbw3 hbA OF QZ
  have cr := br4.cell; have fr := br4.frozen; have lr := br4.lt; have cz := bz4.cell
  go_wp2
  refine bodyPost_ret (v := .tuple #[.agg #[.int .u64 0, .int .u64 0, .int .u64 0, .int .u64 0], .int .i64 10]) (by simp [results, Tryd.results38, go_sem, cr, limb_zero]) rfl ⟨rfl, ?_⟩
  repeat (first | with_reducible exact hbw4 | with_reducible refine Below.setCell ?_ (by first | omega | (simp; omega) | simp) _)
set_option maxHeartbeats 8000000 in
set_option maxRecDepth 20000 in
theorem rInv_some (s a : Nat) (hs : s < 4) (ha : a < 115792089237316195423570985008687907853269984665640564039457584007913129639936) (hz : a % modN s ≠ 0) (w : World) :
    Calls Tryd.prog 38 #[.int .i64 (s : Int), .agg #[.int .u64 ((limb 0 (a) : Nat) : Int), .int .u64 ((limb 1 (a) : Nat) : Int), .int .u64 ((limb 2 (a) : Nat) : Int), .int .u64 ((limb 3 (a) : Nat) : Int)]] w fun e w' => e = .returned (.tuple #[.agg #[.int .u64 ((limb 0 (invU (modN s) a) : Nat) : Int), .int .u64 ((limb 1 (invU (modN s) a) : Nat) : Int), .int .u64 ((limb 2 (invU (modN s) a) : Nat) : Int), .int .u64 ((limb 3 (invU (modN s) a) : Nat) : Int)], .int .i64 0]) ∧ Below w.heap.size w w' := by
  have HM := fun w => ref2Modulus_any s hs w
  have OF := fun w => ref2Of_any s a hs ha w
  have hgl := (modN_good s).lt
  have lx := Nat.mod_lt a (modN_pos s)
  have QZ := fun w => eqlE (a % modN s) 0 (by omega) (by decide) w
  rw [show decide (a % modN s = 0) = false from by simp [hz]] at QZ
  have hod := modN_odd s
  have MI := fun w => ref2Minus_any (modN s) 2 hgl.2.2 (by decide) w
  rw [word_agg 2 (by decide), show sub256 (modN s) 2 = modN s - 2 from by unfold sub256; omega, show (((2 : Nat)) : Int) = 2 from rfl] at MI
  have EX := fun w => ref2Exp_any s a (modN s - 2) hs ha (by omega) w
  rw [show expP s a (modN s - 2) = invU (modN s) a from rfl] at EX
  obtain ⟨x, ex⟩ : ∃ x, x = a % modN s := ⟨_, rfl⟩
  rw [← ex] at OF QZ
  obtain ⟨q, eq⟩ : ∃ q, q = invU (modN s) a := ⟨_, rfl⟩
  rw [← eq] at EX ⊢
  obtain ⟨m2, em2⟩ : ∃ m2, m2 = modN s - 2 := ⟨_, rfl⟩
  rw [← em2] at EX MI
  obtain ⟨m, em⟩ : ∃ m, m = modN s := ⟨_, rfl⟩
  rw [← em] at HM MI
  clear ex em hgl lx hz hs ha eq em2 hod
  go_enter Tryd.func38, Tryd.ntmps38
  go_wp2_with fail
  obtain ⟨w0, hw0⟩ : ∃ w0 : World, w0 = (w.alloc (.cells #[.int .u64 ((limb 0 (a) : Nat) : Int), .int .u64 ((limb 1 (a) : Nat) : Int), .int .u64 ((limb 2 (a) : Nat) : Int), .int .u64 ((limb 3 (a) : Nat) : Int)] 25)).alloc (.cells #[.int .u64 0, .int .u64 0, .int .u64 0, .int .u64 0] 25) := ⟨_, rfl⟩
  have ba0 : Blk w0 25 w.heap.size (fun i => limb i a) := by rw [hw0]; exact (Blk.newAt _ _ _ (fun i => limb i a) (by simp)).alloc _
  have br0 : Blk w0 25 (w.heap.size + 1) (fun _ => 0) := by rw [hw0]; exact Blk.newAt _ _ _ (fun _ => 0) (by simp)
  have hb0 : Below w.heap.size w w0 := by
    rw [hw0]
    repeat (first | with_reducible exact Below.refl _ _ | with_reducible refine Below.alloc ?_ (by first | omega | (simp; omega) | simp) _)
  rw [← hw0]
  clear hw0
  refine (HM _).mono ?_
  rintro e w1 ⟨rfl, hb1⟩
  have ba1 := ba0.belowAll hb1; have br1 := br0.belowAll hb1
  have hbw1 := bStep hb0 hb1
  have lr1 := br1.lt
  clear ba0 br0 hb0 hb1 HM
  obtain ⟨N6, e6⟩ : ∃ N6, N6 = w1.heap.size := ⟨_, rfl⟩
  obtain ⟨w2, hw2⟩ : ∃ w2 : World, w2 = w1.alloc (.cells #[.int .u64 ((limb 0 (m) : Nat) : Int), .int .u64 ((limb 1 (m) : Nat) : Int), .int .u64 ((limb 2 (m) : Nat) : Int), .int .u64 ((limb 3 (m) : Nat) : Int)] 25) := ⟨_, rfl⟩
  have ba2 : Blk w2 25 w.heap.size (fun i => limb i a) := by rw [hw2]; exact ba1.alloc _
  have br2 : Blk w2 25 (w.heap.size + 1) (fun _ => 0) := by rw [hw2]; exact br1.alloc _
  have bm2 : Blk w2 25 N6 (fun i => limb i m) := by rw [hw2]; exact Blk.newAt _ _ _ (fun i => limb i m) e6
  have hbw2 : Below w.heap.size w w2 := by rw [hw2]; exact bAlloc hbw1 _
  have l6 : w.heap.size + 1 < N6 := by rw [e6]; exact lr1
  go_upto_region 2 with fail
  rw [← hw2, ← e6]
  clear hw2 e6 ba1 br1 hbw1 lr1
  obtain ⟨N8, e8⟩ : ∃ N8, N8 = w2.heap.size := ⟨_, rfl⟩
  obtain ⟨w3, hw3⟩ : ∃ w3 : World, w3 = w2.alloc (.cells #[.int .u64 0, .int .u64 0, .int .u64 0, .int .u64 0] 25) := ⟨_, rfl⟩
  have ba3 : Blk w3 25 w.heap.size (fun i => limb i a) := by rw [hw3]; exact ba2.alloc _
  have br3 : Blk w3 25 (w.heap.size + 1) (fun _ => 0) := by rw [hw3]; exact br2.alloc _
  have bm3 : Blk w3 25 N6 (fun i => limb i m) := by rw [hw3]; exact bm2.alloc _
  have bz3 : Blk w3 25 N8 (fun i => limb i 0) := by rw [hw3]; exact (Blk.newAt _ _ _ (fun _ => 0) e8).congr (fun i _ => limb_zero i)
  have hbw3 : Below w.heap.size w w3 := by rw [hw3]; exact bAlloc hbw2 _
  have l8 : N6 < N8 := by rw [e8]; exact bm2.lt
  go_upto_region 5 with fail
  rw [← hw3, ← e8]
  clear hw3 e8 ba2 br2 bm2 hbw2
  go_wp2_with fail
  go_region_held3 (fun w' => (∀ i, i < 4 → w'.cell? ⟨w.heap.size, i, none⟩ = some (.int .u64 ((limb i a : Nat) : Int))) ∧ (∀ i, i < 4 → w'.cell? ⟨N8, i, none⟩ = some (.int .u64 ((limb i 0 : Nat) : Int))))
    (first | with_reducible exact hold2 hbA (by with_reducible assumption) | with_reducible exact ⟨ba3.drew.cell, bz3.drew.cell⟩)
    (first | (go_at_call 22; with_reducible refine (OF _).mono ?_; rintro e w4 ⟨rfl, hbA⟩) | fail)
  have ba4 := ba3.drew.belowAll hbA; have br4 := br3.drew.belowAll hbA; have bm4 := bm3.drew.belowAll hbA; have bz4 := bz3.drew.belowAll hbA
  have hbw4 := bStep hbw3.drew hbA
  clear ba3 br3 bm3 bz3 hbw3 hbA OF QZ
  have ca := ba4.cell; have cm := bm4.cell
  go_wp2_with fail
  go_region_with (first | (go_at_call 37; with_reducible refine (MI _).mono ?_; rintro e wA ⟨rfl, hbA⟩; have baA := ba4.drew.belowAll hbA; have caA := baA.cell; clear baA) | (go_at_call 51; with_reducible refine (EX _).mono ?_; rintro e wB ⟨rfl, hbB⟩; have brB := (br4.drew.belowAll hbA).belowAll hbB; have crB := brB.cell; have frB := brB.frozen; clear brB) | fail)
  all_goals
    go_wp2
    refine bodyPost_ret (v := .tuple #[.agg #[.int .u64 ((limb 0 (q) : Nat) : Int), .int .u64 ((limb 1 (q) : Nat) : Int), .int .u64 ((limb 2 (q) : Nat) : Int), .int .u64 ((limb 3 (q) : Nat) : Int)], .int .i64 0]) (by simp [results, Tryd.results38, go_sem, crB]) rfl ⟨rfl, ?_⟩
    have hbwB := bStep (bStep hbw4.drew hbA) hbB
    repeat (first | with_reducible exact hbwB | with_reducible refine Below.drew ?_ | with_reducible refine Below.setCell ?_ (by first | omega | (simp; omega) | simp) _)
set_option maxHeartbeats 2000000 in
set_option maxRecDepth 20000 in
theorem rbyU (c a b : Nat) (hc : c < 4) (ha : a < 115792089237316195423570985008687907853269984665640564039457584007913129639936) (hb : b < 115792089237316195423570985008687907853269984665640564039457584007913129639936) (h0 : b % modN c ≠ 0) (w : World) :
    Calls Tryd.prog 21 #[.int .i64 (c : Int), .agg #[.int .u64 ((limb 0 (a) : Nat) : Int), .int .u64 ((limb 1 (a) : Nat) : Int), .int .u64 ((limb 2 (a) : Nat) : Int), .int .u64 ((limb 3 (a) : Nat) : Int)], .agg #[.int .u64 ((limb 0 (b) : Nat) : Int), .int .u64 ((limb 1 (b) : Nat) : Int), .int .u64 ((limb 2 (b) : Nat) : Int), .int .u64 ((limb 3 (b) : Nat) : Int)]] w fun e w' => e = .returned (.agg #[.int .u64 ((limb 0 (mulP c a (invU (modN c) b)) : Nat) : Int), .int .u64 ((limb 1 (mulP c a (invU (modN c) b)) : Nat) : Int), .int .u64 ((limb 2 (mulP c a (invU (modN c) b)) : Nat) : Int), .int .u64 ((limb 3 (mulP c a (invU (modN c) b)) : Nat) : Int)]) ∧ Below w.heap.size w w' := by
  have HI : Hid (∀ w, _) := fun w => rInv_some c b hc hb h0 w
  have HM : Hid (∀ w, _) := fun w => ref2Mul_any c a (invU (modN c) b) hc ha (lt_M c _ (invU_lt _ _ (modN_pos c))) w
  obtain ⟨iv, eiv⟩ : ∃ z, z = invU (modN c) b := ⟨_, rfl⟩
  rw [← eiv] at HI HM ⊢
  obtain ⟨r, er'⟩ : ∃ z, z = mulP c a iv := ⟨_, rfl⟩
  rw [← er'] at HM ⊢
  clear eiv er' h0
  go_enter Tryd.func21, Tryd.ntmps21
  go_upto_region 1 with fail
  obtain ⟨w0, hw0⟩ : ∃ w0 : World, w0 = ((w.alloc (.cells #[.int .u64 ((limb 0 (a) : Nat) : Int), .int .u64 ((limb 1 (a) : Nat) : Int), .int .u64 ((limb 2 (a) : Nat) : Int), .int .u64 ((limb 3 (a) : Nat) : Int)] 25)).alloc (.cells #[.int .u64 ((limb 0 (b) : Nat) : Int), .int .u64 ((limb 1 (b) : Nat) : Int), .int .u64 ((limb 2 (b) : Nat) : Int), .int .u64 ((limb 3 (b) : Nat) : Int)] 25)).alloc (.cells #[.int .u64 0, .int .u64 0, .int .u64 0, .int .u64 0] 25) := ⟨_, rfl⟩
  have ba : Blk w0 25 w.heap.size (fun i => limb i a) := by rw [hw0]; exact ((Blk.newAt _ _ _ (fun i => limb i a) rfl).alloc _).alloc _
  have bb : Blk w0 25 (w.heap.size + 1) (fun i => limb i b) := by rw [hw0]; exact (Blk.newAt _ _ _ (fun i => limb i b) (by simp)).alloc _
  have br : Blk w0 25 (w.heap.size + 1 + 1) (fun _ => 0) := by rw [hw0]; exact Blk.newAt _ _ _ (fun _ => 0) (by simp)
  have hbw0 : Below w.heap.size w w0 := by rw [hw0]; exact bAlloc (bAlloc ((Below.refl _ _).alloc (Nat.le_refl _) _) _) _
  have hrw : w.heap.size ≤ w.heap.size + 1 + 1 := by omega
  rw [← hw0]
  clear hw0
  have cb := bb.cell
  go_wp2_with fail
  refine (HI.out _).mono ?_
  rintro e w1 ⟨rfl, hb1⟩
  have ba2 := (ba.belowAll hb1).alloc (.cells #[.int .u64 ((limb 0 (iv) : Nat) : Int), .int .u64 ((limb 1 (iv) : Nat) : Int), .int .u64 ((limb 2 (iv) : Nat) : Int), .int .u64 ((limb 3 (iv) : Nat) : Int)] 25)
  have br2 := (br.belowAll hb1).alloc (.cells #[.int .u64 ((limb 0 (iv) : Nat) : Int), .int .u64 ((limb 1 (iv) : Nat) : Int), .int .u64 ((limb 2 (iv) : Nat) : Int), .int .u64 ((limb 3 (iv) : Nat) : Int)] 25)
  have bi2 : Blk (w1.alloc (.cells #[.int .u64 ((limb 0 (iv) : Nat) : Int), .int .u64 ((limb 1 (iv) : Nat) : Int), .int .u64 ((limb 2 (iv) : Nat) : Int), .int .u64 ((limb 3 (iv) : Nat) : Int)] 25)) 25 w1.heap.size (fun i => limb i iv) := Blk.newAt _ _ _ (fun i => limb i iv) rfl
  have hbw2 := bAlloc (bStep hbw0 hb1) (.cells #[.int .u64 ((limb 0 (iv) : Nat) : Int), .int .u64 ((limb 1 (iv) : Nat) : Int), .int .u64 ((limb 2 (iv) : Nat) : Int), .int .u64 ((limb 3 (iv) : Nat) : Int)] 25)
  clear cb hb1 ba bb br hbw0
  go_upto_region 2 with fail
  obtain ⟨w2, hw2⟩ : ∃ x : World, x = w1.alloc (.cells #[.int .u64 ((limb 0 (iv) : Nat) : Int), .int .u64 ((limb 1 (iv) : Nat) : Int), .int .u64 ((limb 2 (iv) : Nat) : Int), .int .u64 ((limb 3 (iv) : Nat) : Int)] 25) := ⟨_, rfl⟩
  obtain ⟨N, hN⟩ : ∃ N, N = w1.heap.size := ⟨_, rfl⟩
  rw [← hw2] at ba2 br2 bi2 hbw2 ⊢
  rw [← hN] at bi2 ⊢
  clear hw2 hN
  have ca := ba2.cell; have ci := bi2.cell
  go_wp2_with fail
  refine (HM.out _).mono ?_
  rintro e w3 ⟨rfl, hb3⟩
  have cR := (br2.belowAll hb3).cell; have fR := (br2.belowAll hb3).frozen
  go_wp2
  refine bodyPost_ret (v := .agg #[.int .u64 ((limb 0 (r) : Nat) : Int), .int .u64 ((limb 1 (r) : Nat) : Int), .int .u64 ((limb 2 (r) : Nat) : Int), .int .u64 ((limb 3 (r) : Nat) : Int)]) (by simp [results, Tryd.results21, go_sem, cR]) rfl ⟨rfl, ?_⟩
  exact bSet4 (bStep hbw2 hb3) hrw _ _ _ _
end Go.Proofs.YteheloagjkengaaDoor

