/- LookupChecks' walk. -/
import Derived.Test.YtobeeoelfmfpdaaDoorXLV6
namespace Go.Proofs.YtobeeoelfmfpdaaDoor
open Go.RowKit
set_option maxHeartbeats 4000000 in
set_option maxRecDepth 20000 in
/-- The walk, with letters for what both sides answer. -/
theorem chks_walk (si : Int) (cp cs : Array Value) (be ga n : Nat) (f : Nat → Nat) (hn : n ≤ 1000) (hf : ∀ i, i < n → f i < 115792089237316195423570985008687907853269984665640564039457584007913129639936) (zp : cp.size = 16) (zs : cs.size = 28)
    (hp : ∀ w, Glob w → Calls Tryd.prog 21 #[.int .i64 si, .agg cp, .agg cs, .agg #[.int .u64 ((limb 0 (be) : Nat) : Int), .int .u64 ((limb 1 (be) : Nat) : Int), .int .u64 ((limb 2 (be) : Nat) : Int), .int .u64 ((limb 3 (be) : Nat) : Int)], .agg #[.int .u64 ((limb 0 (ga) : Nat) : Int), .int .u64 ((limb 1 (ga) : Nat) : Int), .int .u64 ((limb 2 (ga) : Nat) : Int), .int .u64 ((limb 3 (ga) : Nat) : Int)]] w fun e w' => (∃ (o : Option Addr) (c : Nat), e = .returned (.slice o n c) ∧ Es w' (.slice o n c) n f) ∧ Below w.heap.size w w')
    (hr : ∀ w, Calls Tryd.prog 22 #[.int .i64 si, .agg cp, .agg cs, .agg #[.int .u64 ((limb 0 (be) : Nat) : Int), .int .u64 ((limb 1 (be) : Nat) : Int), .int .u64 ((limb 2 (be) : Nat) : Int), .int .u64 ((limb 3 (be) : Nat) : Int)], .agg #[.int .u64 ((limb 0 (ga) : Nat) : Int), .int .u64 ((limb 1 (ga) : Nat) : Int), .int .u64 ((limb 2 (ga) : Nat) : Int), .int .u64 ((limb 3 (ga) : Nat) : Int)]] w fun e w' => (∃ (o : Option Addr) (c : Nat), e = .returned (.slice o n c) ∧ Es w' (.slice o n c) n f) ∧ Below w.heap.size w w')
    (w : World) (hg : Glob w) :
    Calls Tryd.prog 5 #[.int .i64 si, .agg cp, .agg cs, .agg #[.int .u64 ((limb 0 (be) : Nat) : Int), .int .u64 ((limb 1 (be) : Nat) : Int), .int .u64 ((limb 2 (be) : Nat) : Int), .int .u64 ((limb 3 (be) : Nat) : Int)], .agg #[.int .u64 ((limb 0 (ga) : Nat) : Int), .int .u64 ((limb 1 (ga) : Nat) : Int), .int .u64 ((limb 2 (ga) : Nat) : Int), .int .u64 ((limb 3 (ga) : Nat) : Int)]] w fun e w' => e = .returned (.bool true) ∧ Below w.heap.size w w' := by
  have HG : Hid (Glob w) := hg
  have HP : Hid (∀ w, Glob w → _) := hp
  have HR : Hid (∀ w, _) := hr
  have HAL : Hid (∀ w, Glob w → _) := fun w hg => alive17_any w hg
  have HFM : Hid (n ≤ 1000 ∧ ∀ i, i < n → f i < 115792089237316195423570985008687907853269984665640564039457584007913129639936) := ⟨hn, hf⟩
  have HSP : Hid ((Tryd.prog.info? 50).map (·.size) = some cp.size) := by rw [zp]; exact sizP
  have HSS : Hid ((Tryd.prog.info? 52).map (·.size) = some cs.size) := by rw [zs]; exact sizS
  clear hg hp hr hn hf zp zs
  go_enter Tryd.func5, Tryd.ntmps5
  go_wp2_with fail
  have hs1 : (w.alloc (.cells cp 50)).heap.size = w.heap.size + 1 := Array.size_push ..
  have hs2 : ((w.alloc (.cells cp 50)).alloc (.cells cs 52)).heap.size = w.heap.size + 1 + 1 := by rw [← hs1]; exact Array.size_push ..
  have hs3 : (((w.alloc (.cells cp 50)).alloc (.cells cs 52)).alloc (.cells #[.int .u64 ((limb 0 (be) : Nat) : Int), .int .u64 ((limb 1 (be) : Nat) : Int), .int .u64 ((limb 2 (be) : Nat) : Int), .int .u64 ((limb 3 (be) : Nat) : Int)] 24)).heap.size = w.heap.size + 1 + 1 + 1 := by rw [← hs2]; exact Array.size_push ..
  obtain ⟨N6, e0⟩ : ∃ z, z = w.heap.size := ⟨_, rfl⟩
  obtain ⟨N7, e1⟩ : ∃ z, z = N6 + 1 := ⟨_, rfl⟩
  obtain ⟨N8, e2⟩ : ∃ z, z = N7 + 1 := ⟨_, rfl⟩
  obtain ⟨N9, e3⟩ : ∃ z, z = N8 + 1 := ⟨_, rfl⟩
  obtain ⟨w1, hw1⟩ : ∃ z : World, z = (((w.alloc (.cells cp 50)).alloc (.cells cs 52)).alloc (.cells #[.int .u64 ((limb 0 (be) : Nat) : Int), .int .u64 ((limb 1 (be) : Nat) : Int), .int .u64 ((limb 2 (be) : Nat) : Int), .int .u64 ((limb 3 (be) : Nat) : Int)] 24)).alloc (.cells #[.int .u64 ((limb 0 (ga) : Nat) : Int), .int .u64 ((limb 1 (ga) : Nat) : Int), .int .u64 ((limb 2 (ga) : Nat) : Int), .int .u64 ((limb 3 (ga) : Nat) : Int)] 24) := ⟨_, rfl⟩
  have b6 : Lay w1 50 N6 cp := by rw [hw1]; exact (((Lay.newAt _ _ _ e0).alloc _).alloc _).alloc _
  have b7 : Lay w1 52 N7 cs := by rw [hw1]; exact ((Lay.newAt _ _ _ (by rw [e1, e0, hs1])).alloc _).alloc _
  have b8 : Blk w1 24 N8 (fun i => limb i be) := by rw [hw1]; exact (Blk.newAt _ _ _ (fun i => limb i be) (by rw [e2, e1, e0, hs2])).alloc _
  have b9 : Blk w1 24 N9 (fun i => limb i ga) := by rw [hw1]; exact Blk.newAt _ _ _ (fun i => limb i ga) (by rw [e3, e2, e1, e0, hs3])
  have hb1 : Below w.heap.size w w1 := by rw [hw1]; exact bAlloc (bAlloc (bAlloc (bAlloc (Below.refl _ _) _) _) _) _
  rw [← hw1]
  try rw [← e0]
  try rw [← e1]
  try rw [← e2]
  try rw [← e3]
  have l6 : w.heap.size ≤ N6 := by omega
  have l7 : w.heap.size ≤ N7 := by omega
  have l8 : w.heap.size ≤ N8 := by omega
  have l9 : w.heap.size ≤ N9 := by omega
  have n6_7 : N6 ≠ N7 := by omega
  have n6_8 : N6 ≠ N8 := by omega
  have n6_9 : N6 ≠ N9 := by omega
  have n7_8 : N7 ≠ N8 := by omega
  have n7_9 : N7 ≠ N9 := by omega
  have n8_9 : N8 ≠ N9 := by omega
  clear hw1 e0 e1 e2 e3 hs1 hs2 hs3
  have HG1 : Hid (Glob w1) := HG.out.below hb1
  refine (HAL.out w1 HG1.out).mono ?_
  rintro e w2 ⟨rfl, hbx⟩
  have hb2 := bStep hb1 hbx
  have c6 := b6.belowAll hbx; have c7 := b7.belowAll hbx; have c8 := b8.belowAll hbx; have c9 := b9.belowAll hbx
  clear b6 b7 b8 b9 hb1 hbx HAL HG1
  have HG2 : Hid (Glob w2) := HG.out.below hb2
  go_upto_region 3 with fail
  refine wp_region_Z (fun w' => Below w2.heap.size w2 w') 99 (by kernel_rfl) ?_
  obtain ⟨wD, hD⟩ : ∃ x : World, x = w2.drew := ⟨_, rfl⟩
  rw [← hD]
  have hp0_0 : Below w2.heap.size w2 wD := by rw [hD]; exact (Below.refl _ _).drew
  have hlow0 : Below w2.heap.size w2 wD := by rw [hD]; exact (Below.refl _ _).drew
  clear hD
  refine wpZ_take (i := 0) (v := .int .i64 si) 13 rfl rfl (by kernel_rfl) (by kernel_rfl) (by kernel_rfl) (Or.inr (by decide)) (fun _ _ _ h => h) (Or.inl ⟨by rfl, fun w hSw => by go_simp⟩) hp0_0 ?_
  simp only [Act.put, List.setIfInBounds_toArray]
  dsimp only [List.set_cons_zero, List.set_cons_succ]
  refine wpZ_take (i := 1) (v := .agg cp) 14 rfl rfl (by kernel_rfl) (by kernel_rfl) (by kernel_rfl) (Or.inr (by decide)) (fun _ _ _ h => h) (yLd undP rfl _ rfl N6 rfl cp HSP.out (fun w hSw => c6.belowAll hSw)) hp0_0 ?_
  simp only [Act.put, List.setIfInBounds_toArray]
  dsimp only [List.set_cons_zero, List.set_cons_succ]
  refine wpZ_take (i := 2) (v := .agg cs) 15 rfl rfl (by kernel_rfl) (by kernel_rfl) (by kernel_rfl) (Or.inr (by decide)) (fun _ _ _ h => h) (yLd undS rfl _ rfl N7 rfl cs HSS.out (fun w hSw => c7.belowAll hSw)) hp0_0 ?_
  simp only [Act.put, List.setIfInBounds_toArray]
  dsimp only [List.set_cons_zero, List.set_cons_succ]
  refine wpZ_take (i := 3) (v := .agg #[.int .u64 ((limb 0 (be) : Nat) : Int), .int .u64 ((limb 1 (be) : Nat) : Int), .int .u64 ((limb 2 (be) : Nat) : Int), .int .u64 ((limb 3 (be) : Nat) : Int)]) 16 rfl rfl (by kernel_rfl) (by kernel_rfl) (by kernel_rfl) (Or.inr (by decide)) (fun _ _ _ h => h) (Or.inl ⟨by rfl, fun w hSw => by (have qq := (c8.belowAll hSw).cell; clear hSw; go_simp)⟩) hp0_0 ?_
  simp only [Act.put, List.setIfInBounds_toArray]
  dsimp only [List.set_cons_zero, List.set_cons_succ]
  refine wpZ_take (i := 4) (v := .agg #[.int .u64 ((limb 0 (ga) : Nat) : Int), .int .u64 ((limb 1 (ga) : Nat) : Int), .int .u64 ((limb 2 (ga) : Nat) : Int), .int .u64 ((limb 3 (ga) : Nat) : Int)]) 17 rfl rfl (by kernel_rfl) (by kernel_rfl) (by kernel_rfl) (Or.inr (by decide)) (fun _ _ _ h => h) (Or.inl ⟨by rfl, fun w hSw => by (have qq := (c9.belowAll hSw).cell; clear hSw; go_simp)⟩) hp0_0 ?_
  simp only [Act.put, List.setIfInBounds_toArray]
  dsimp only [List.set_cons_zero, List.set_cons_succ]
  refine wpZ_take (i := 6) (v := .int .i64 si) 19 rfl rfl (by kernel_rfl) (by kernel_rfl) (by kernel_rfl) (Or.inr (by decide)) (fun _ _ _ h => h) (Or.inl ⟨by rfl, fun w hSw => by go_simp⟩) hp0_0 ?_
  simp only [Act.put, List.setIfInBounds_toArray]
  dsimp only [List.set_cons_zero, List.set_cons_succ]
  refine wpZ_take (i := 7) (v := .agg cp) 20 rfl rfl (by kernel_rfl) (by kernel_rfl) (by kernel_rfl) (Or.inr (by decide)) (fun _ _ _ h => h) (yLd undP rfl _ rfl N6 rfl cp HSP.out (fun w hSw => c6.belowAll hSw)) hp0_0 ?_
  simp only [Act.put, List.setIfInBounds_toArray]
  dsimp only [List.set_cons_zero, List.set_cons_succ]
  refine wpZ_take (i := 8) (v := .agg cs) 21 rfl rfl (by kernel_rfl) (by kernel_rfl) (by kernel_rfl) (Or.inr (by decide)) (fun _ _ _ h => h) (yLd undS rfl _ rfl N7 rfl cs HSS.out (fun w hSw => c7.belowAll hSw)) hp0_0 ?_
  simp only [Act.put, List.setIfInBounds_toArray]
  dsimp only [List.set_cons_zero, List.set_cons_succ]
  refine wpZ_take (i := 9) (v := .agg #[.int .u64 ((limb 0 (be) : Nat) : Int), .int .u64 ((limb 1 (be) : Nat) : Int), .int .u64 ((limb 2 (be) : Nat) : Int), .int .u64 ((limb 3 (be) : Nat) : Int)]) 22 rfl rfl (by kernel_rfl) (by kernel_rfl) (by kernel_rfl) (Or.inr (by decide)) (fun _ _ _ h => h) (Or.inl ⟨by rfl, fun w hSw => by (have qq := (c8.belowAll hSw).cell; clear hSw; go_simp)⟩) hp0_0 ?_
  simp only [Act.put, List.setIfInBounds_toArray]
  dsimp only [List.set_cons_zero, List.set_cons_succ]
  refine wpZ_take (i := 10) (v := .agg #[.int .u64 ((limb 0 (ga) : Nat) : Int), .int .u64 ((limb 1 (ga) : Nat) : Int), .int .u64 ((limb 2 (ga) : Nat) : Int), .int .u64 ((limb 3 (ga) : Nat) : Int)]) 23 rfl rfl (by kernel_rfl) (by kernel_rfl) (by kernel_rfl) (Or.inr (by decide)) (fun _ _ _ h => h) (Or.inl ⟨by rfl, fun w hSw => by (have qq := (c9.belowAll hSw).cell; clear hSw; go_simp)⟩) hp0_0 ?_
  simp only [Act.put, List.setIfInBounds_toArray]
  dsimp only [List.set_cons_zero, List.set_cons_succ]
  refine wpZ_one (i := 5) (by kernel_rfl) rfl (fun K hK => ?_)
  go_simp
  refine (HP.out wD (HG2.out.below hlow0)).mono ?_
  rintro e wT1 ⟨⟨oa, ca, rfl, ea⟩, hbT1⟩
  have hlowT1 := bStep hlow0 hbT1
  go_wp2_with fail
  refine hK.out _ _ (fun _ => hlowT1) ?_
  clear hK K hbT1
  refine wpZ_one (i := 11) (by kernel_rfl) rfl (fun K hK => ?_)
  go_simp
  refine (HR.out wT1).mono ?_
  rintro e wT2 ⟨⟨ob, cb, rfl, eb⟩, hbT2⟩
  have hlowT2 := bStep hlowT1 hbT2
  have ea2 := ea.below hbT2
  clear ea
  go_wp2_with fail
  refine hK.out _ _ (fun _ => hlowT2) ?_
  clear hK K hbT2
  refine wpZ_one (i := 12) (by kernel_rfl) rfl (fun K hK => ?_)
  go_simp
  refine (sameE_self _ _ n f HFM.out.1 HFM.out.2 wT2 ea2 eb).mono ?_
  rintro e wT3 ⟨rfl, hbT3⟩
  have hlowT3 := bStep hlowT2 hbT3
  go_wp2_with fail
  refine hK.out _ _ (fun _ => hlowT3) ?_
  clear hK K hbT3
  refine wpZ_take (i := 13) (v := .bool true) 10 rfl rfl (by kernel_rfl) (by kernel_rfl) (by kernel_rfl) (Or.inr (by decide)) (fun _ _ _ h => h) (Or.inl ⟨by rfl, fun w hSw => by go_simp⟩) hlowT3 ?_
  simp only [Act.put, List.setIfInBounds_toArray]
  dsimp only [List.set_cons_zero, List.set_cons_succ]
  refine wpZ_done (by kernel_rfl) ?_ _
  have hbe := bStep hb2 hlowT3
  go_wp2
  go_ret
  exact ⟨rfl, hbe⟩
theorem chks_all (si : Int) (cp cs : Array Value) (be ga x0 x1 x2 x3 x4 x5 x6 y0 y1 y2 y3 : Nat) (hP : SpV cp y0 y1 y2 y3) (hC : SkV cs x0 x1 x2 x3 x4 x5 x6) (hbe : be < 115792089237316195423570985008687907853269984665640564039457584007913129639936) (hga : ga < 115792089237316195423570985008687907853269984665640564039457584007913129639936) (hx0 : x0 < 115792089237316195423570985008687907853269984665640564039457584007913129639936) (hx1 : x1 < 115792089237316195423570985008687907853269984665640564039457584007913129639936) (hx2 : x2 < 115792089237316195423570985008687907853269984665640564039457584007913129639936) (hx3 : x3 < 115792089237316195423570985008687907853269984665640564039457584007913129639936) (hx4 : x4 < 115792089237316195423570985008687907853269984665640564039457584007913129639936) (hx5 : x5 < 115792089237316195423570985008687907853269984665640564039457584007913129639936) (hx6 : x6 < 115792089237316195423570985008687907853269984665640564039457584007913129639936) (hy1 : y1 < 115792089237316195423570985008687907853269984665640564039457584007913129639936) (hy2 : y2 < 115792089237316195423570985008687907853269984665640564039457584007913129639936) (hy3 : y3 < 115792089237316195423570985008687907853269984665640564039457584007913129639936) (w : World) (hg : Glob w) :
    Calls Tryd.prog 5 #[.int .i64 si, .agg cp, .agg cs, .agg #[.int .u64 ((limb 0 (be) : Nat) : Int), .int .u64 ((limb 1 (be) : Nat) : Int), .int .u64 ((limb 2 (be) : Nat) : Int), .int .u64 ((limb 3 (be) : Nat) : Int)], .agg #[.int .u64 ((limb 0 (ga) : Nat) : Int), .int .u64 ((limb 1 (ga) : Nat) : Int), .int .u64 ((limb 2 (ga) : Nat) : Int), .int .u64 ((limb 3 (ga) : Nat) : Int)]] w fun e w' => e = .returned (.bool true) ∧ Below w.heap.size w w' := by
  by_cases hs : si < 0 ∨ 3 < si
  · refine chks_walk si cp cs be ga 0 (fun _ => 0) (by decide) (fun i hi => by omega) hP.1 hC.1 (fun w _ => (chk_out si (by omega) cp cs be ga w).mono ?_) (fun w => (rchk_out si hs cp cs be ga w).mono ?_) w hg
    · rintro e w' ⟨rfl, hb⟩
      exact ⟨⟨none, 0, rfl, Or.inl ⟨rfl, rfl⟩⟩, hb⟩
    · rintro e w' ⟨rfl, hb⟩
      exact ⟨⟨none, 0, rfl, Or.inl ⟨rfl, rfl⟩⟩, hb⟩
  obtain ⟨s, rfl⟩ := Int.eq_ofNat_of_zero_le (show 0 ≤ si by omega)
  have hs4 : s < 4 := by omega
  refine chks_walk (s : Int) cp cs be ga 5 (chkV (addP s) (mulP s) (subP s) be ga x0 x1 x2 x3 x4 x5 x6 y1 y2 y3) (by decide) (fun i hi => ?_) hP.1 hC.1 (fun w hg => (chk_in s hs4 cp cs be ga x0 x1 x2 x3 x4 x5 x6 y0 y1 y2 y3 hP hC hbe hga hx0 hx1 hx2 hx3 hx4 hx5 hx6 hy1 hy2 hy3 w hg).mono ?_) (fun w => (rchk_in s hs4 cp cs be ga x0 x1 x2 x3 x4 x5 x6 y0 y1 y2 y3 hP hC hbe hga hx0 hx1 hx2 hx3 hx4 hx5 hx6 hy1 hy2 hy3 w).mono ?_) w hg
  · unfold chkV
    split
    · exact mulP_M _ _ _
    · split
      · exact mulP_M _ _ _
      · split
        · exact mulP_M _ _ _
        · split
          · exact mulP_M _ _ _
          · exact mulP_M _ _ _
  · rintro e w' ⟨⟨N, rfl, _, b⟩, hb⟩
    exact ⟨⟨_, _, rfl, b.es (by unfold maxLen; omega)⟩, hb⟩
  · rintro e w' ⟨⟨N, rfl, _, b⟩, hb⟩
    exact ⟨⟨_, _, rfl, b.es (by unfold maxLen; omega)⟩, hb⟩
