/- CurveProducts: the walk. -/
import Derived.Test.YtjpjnmhjbmmaiaaGreatDoorSM9
import Derived.Test.YtjpjnmhjbmmaiaaGreatDoorSKV
namespace Go.Proofs.YtjpjnmhjbmmaiaaGreatDoor
open Go.RowKit
set_option maxHeartbeats 4000000 in
set_option maxRecDepth 20000 in
theorem cprods_gen (c : Int) (k x y X Y : Nat) (i I : Bool) (hX : X < 115792089237316195423570985008687907853269984665640564039457584007913129639936) (hY : Y < 115792089237316195423570985008687907853269984665640564039457584007913129639936)
    (D1 : ∀ w, GlobC w → Calls Tryz.prog 16 #[.int .i64 c, .agg #[.int .u64 ((limb 0 (k) : Nat) : Int), .int .u64 ((limb 1 (k) : Nat) : Int), .int .u64 ((limb 2 (k) : Nat) : Int), .int .u64 ((limb 3 (k) : Nat) : Int)], .agg #[.int .u64 ((limb 0 (x) : Nat) : Int), .int .u64 ((limb 1 (x) : Nat) : Int), .int .u64 ((limb 2 (x) : Nat) : Int), .int .u64 ((limb 3 (x) : Nat) : Int), .int .u64 ((limb 0 (y) : Nat) : Int), .int .u64 ((limb 1 (y) : Nat) : Int), .int .u64 ((limb 2 (y) : Nat) : Int), .int .u64 ((limb 3 (y) : Nat) : Int), .bool i]] w fun e w' => e = .returned (.agg #[.int .u64 ((limb 0 (X) : Nat) : Int), .int .u64 ((limb 1 (X) : Nat) : Int), .int .u64 ((limb 2 (X) : Nat) : Int), .int .u64 ((limb 3 (X) : Nat) : Int), .int .u64 ((limb 0 (Y) : Nat) : Int), .int .u64 ((limb 1 (Y) : Nat) : Int), .int .u64 ((limb 2 (Y) : Nat) : Int), .int .u64 ((limb 3 (Y) : Nat) : Int), .bool I]) ∧ Below w.heap.size w w')
    (D2 : ∀ w, Calls Tryz.prog 17 #[.int .i64 c, .agg #[.int .u64 ((limb 0 (k) : Nat) : Int), .int .u64 ((limb 1 (k) : Nat) : Int), .int .u64 ((limb 2 (k) : Nat) : Int), .int .u64 ((limb 3 (k) : Nat) : Int)], .agg #[.int .u64 ((limb 0 (x) : Nat) : Int), .int .u64 ((limb 1 (x) : Nat) : Int), .int .u64 ((limb 2 (x) : Nat) : Int), .int .u64 ((limb 3 (x) : Nat) : Int), .int .u64 ((limb 0 (y) : Nat) : Int), .int .u64 ((limb 1 (y) : Nat) : Int), .int .u64 ((limb 2 (y) : Nat) : Int), .int .u64 ((limb 3 (y) : Nat) : Int), .bool i]] w fun e w' => e = .returned (.agg #[.int .u64 ((limb 0 (X) : Nat) : Int), .int .u64 ((limb 1 (X) : Nat) : Int), .int .u64 ((limb 2 (X) : Nat) : Int), .int .u64 ((limb 3 (X) : Nat) : Int), .int .u64 ((limb 0 (Y) : Nat) : Int), .int .u64 ((limb 1 (Y) : Nat) : Int), .int .u64 ((limb 2 (Y) : Nat) : Int), .int .u64 ((limb 3 (Y) : Nat) : Int), .bool I]) ∧ Below w.heap.size w w')
    (w : World) (hg : GlobC w) :
    Calls Tryz.prog 4 #[.int .i64 c, .agg #[.int .u64 ((limb 0 (k) : Nat) : Int), .int .u64 ((limb 1 (k) : Nat) : Int), .int .u64 ((limb 2 (k) : Nat) : Int), .int .u64 ((limb 3 (k) : Nat) : Int)], .agg #[.int .u64 ((limb 0 (x) : Nat) : Int), .int .u64 ((limb 1 (x) : Nat) : Int), .int .u64 ((limb 2 (x) : Nat) : Int), .int .u64 ((limb 3 (x) : Nat) : Int), .int .u64 ((limb 0 (y) : Nat) : Int), .int .u64 ((limb 1 (y) : Nat) : Int), .int .u64 ((limb 2 (y) : Nat) : Int), .int .u64 ((limb 3 (y) : Nat) : Int), .bool i]] w fun e w' => e = .returned (.bool true) ∧ Below w.heap.size w w' := by
  have HG0 : Hid (GlobC w) := hg
  have HAL : Hid (∀ w, GlobC w → _) := fun w hg => alive4_any w hg
  have HD1 := (show Hid _ from D1); have HD2 := (show Hid _ from D2)
  have QP := fun w => eqlP_self X Y I hX hY w
  have hA := bits_or_u64_nat (limb 1 k) (limb 2 k) (limb_lt _ _) (limb_lt _ _)
  have hB := bits_or_u64_nat (limb 1 k ||| limb 2 k) (limb 3 k) (Nat.or_lt_two_pow (n := 64) (limb_lt _ _) (limb_lt _ _)) (limb_lt _ _)
  obtain ⟨m1, e1⟩ : ∃ m, m = limb 1 k ||| limb 2 k := ⟨_, rfl⟩
  rw [← e1] at hA hB
  obtain ⟨m2, e2⟩ : ∃ m, m = m1 ||| limb 3 k := ⟨_, rfl⟩
  rw [← e2] at hB
  clear hg D1 D2 hX hY e1 e2
  go_enter Tryz.func4, Tryz.ntmps4
  go_upto_region 1 with fail
  obtain ⟨w0, hw0⟩ : ∃ w0 : World, w0 = (w.alloc (.cells #[.int .u64 ((limb 0 (k) : Nat) : Int), .int .u64 ((limb 1 (k) : Nat) : Int), .int .u64 ((limb 2 (k) : Nat) : Int), .int .u64 ((limb 3 (k) : Nat) : Int)] 24)).alloc (.cells #[.int .u64 ((limb 0 x : Nat) : Int), .int .u64 ((limb 1 x : Nat) : Int), .int .u64 ((limb 2 x : Nat) : Int), .int .u64 ((limb 3 x : Nat) : Int), .int .u64 ((limb 0 y : Nat) : Int), .int .u64 ((limb 1 y : Nat) : Int), .int .u64 ((limb 2 y : Nat) : Int), .int .u64 ((limb 3 y : Nat) : Int), .bool i] 26) := ⟨_, rfl⟩
  have bk0 : Blk w0 24 w.heap.size (fun i => limb i k) := by rw [hw0]; exact (Blk.newAt _ _ _ (fun i => limb i k) rfl).alloc _
  have bp0 : Pt w0 (w.heap.size + 1) x y i := by rw [hw0]; exact Pt.newAt _ _ _ _ _ (by simp)
  have hbw0 : Below w.heap.size w w0 := by rw [hw0]; exact bAlloc ((Below.refl _ _).alloc (Nat.le_refl _) _) _
  rw [← hw0]
  clear hw0
  go_wp2_with fail
  refine (HAL.out _ (HG0.out.below hbw0)).mono ?_
  rintro e w1 ⟨rfl, hb1⟩
  have bk1 := bk0.belowAll hb1; have bp1 := bp0.belowAll hb1
  have hbw1 := bStep hbw0 hb1
  have HG1 : Hid (GlobC w1) := HG0.out.below hbw1
  clear bk0 bp0 hbw0 hb1 HAL HG0
  have ck := bk1.cell
  by_cases h1 : 1 < c
  · by_cases h2 : (0 : Int) < ((m2 : Nat) : Int)
    · go_wp2
      go_ret
      exact ⟨rfl, hbw1⟩
    · go_upto_region 5 with fail
      clear ck
      have HS0 : Hid (Below w1.heap.size w1 w1.drew) := (Below.refl _ _).drew
      refine wp_region_Z (fun w' => Below w1.heap.size w1 w') 99 (by kernel_rfl) ?_
      refine wpZ_take (i := 0) (v := .int .i64 c) 22 rfl rfl (by kernel_rfl) (by kernel_rfl) (by kernel_rfl) (Or.inr (by decide)) (fun _ _ _ h => h) (Or.inl ⟨by rfl, fun w hSw => by go_simp⟩) HS0.out ?_
      simp only [Act.put, List.setIfInBounds_toArray]
      dsimp only [List.set_cons_zero, List.set_cons_succ]
      refine wpZ_take (i := 1) (v := .agg #[.int .u64 ((limb 0 (k) : Nat) : Int), .int .u64 ((limb 1 (k) : Nat) : Int), .int .u64 ((limb 2 (k) : Nat) : Int), .int .u64 ((limb 3 (k) : Nat) : Int)]) 23 rfl rfl (by kernel_rfl) (by kernel_rfl) (by kernel_rfl) (Or.inr (by decide)) (fun _ _ _ h => h) (Or.inl ⟨by rfl, fun w hSw => by (have qq := (bk1.belowAll hSw).cell; clear hSw; go_simp)⟩) HS0.out ?_
      simp only [Act.put, List.setIfInBounds_toArray]
      dsimp only [List.set_cons_zero, List.set_cons_succ]
      refine wpZ_take (i := 2) (v := .agg #[.int .u64 ((limb 0 (x) : Nat) : Int), .int .u64 ((limb 1 (x) : Nat) : Int), .int .u64 ((limb 2 (x) : Nat) : Int), .int .u64 ((limb 3 (x) : Nat) : Int), .int .u64 ((limb 0 (y) : Nat) : Int), .int .u64 ((limb 1 (y) : Nat) : Int), .int .u64 ((limb 2 (y) : Nat) : Int), .int .u64 ((limb 3 (y) : Nat) : Int), .bool i]) 24 rfl rfl (by kernel_rfl) (by kernel_rfl) (by kernel_rfl) (Or.inr (by decide)) (fun _ _ _ h => h) (Or.inl ⟨by rfl, fun w hSw => by (obtain ⟨q0, q1, q2, q3, q4, q5, q6, q7, q8, qf⟩ := (bp1.belowAll hSw).cells; clear hSw; go_simp)⟩) HS0.out ?_
      simp only [Act.put, List.setIfInBounds_toArray]
      dsimp only [List.set_cons_zero, List.set_cons_succ]
      refine wpZ_take (i := 4) (v := .int .i64 c) 26 rfl rfl (by kernel_rfl) (by kernel_rfl) (by kernel_rfl) (Or.inr (by decide)) (fun _ _ _ h => h) (Or.inl ⟨by rfl, fun w hSw => by go_simp⟩) HS0.out ?_
      simp only [Act.put, List.setIfInBounds_toArray]
      dsimp only [List.set_cons_zero, List.set_cons_succ]
      refine wpZ_take (i := 5) (v := .agg #[.int .u64 ((limb 0 (k) : Nat) : Int), .int .u64 ((limb 1 (k) : Nat) : Int), .int .u64 ((limb 2 (k) : Nat) : Int), .int .u64 ((limb 3 (k) : Nat) : Int)]) 27 rfl rfl (by kernel_rfl) (by kernel_rfl) (by kernel_rfl) (Or.inr (by decide)) (fun _ _ _ h => h) (Or.inl ⟨by rfl, fun w hSw => by (have qq := (bk1.belowAll hSw).cell; clear hSw; go_simp)⟩) HS0.out ?_
      simp only [Act.put, List.setIfInBounds_toArray]
      dsimp only [List.set_cons_zero, List.set_cons_succ]
      refine wpZ_take (i := 6) (v := .agg #[.int .u64 ((limb 0 (x) : Nat) : Int), .int .u64 ((limb 1 (x) : Nat) : Int), .int .u64 ((limb 2 (x) : Nat) : Int), .int .u64 ((limb 3 (x) : Nat) : Int), .int .u64 ((limb 0 (y) : Nat) : Int), .int .u64 ((limb 1 (y) : Nat) : Int), .int .u64 ((limb 2 (y) : Nat) : Int), .int .u64 ((limb 3 (y) : Nat) : Int), .bool i]) 28 rfl rfl (by kernel_rfl) (by kernel_rfl) (by kernel_rfl) (Or.inr (by decide)) (fun _ _ _ h => h) (Or.inl ⟨by rfl, fun w hSw => by (obtain ⟨q0, q1, q2, q3, q4, q5, q6, q7, q8, qf⟩ := (bp1.belowAll hSw).cells; clear hSw; go_simp)⟩) HS0.out ?_
      simp only [Act.put, List.setIfInBounds_toArray]
      dsimp only [List.set_cons_zero, List.set_cons_succ]
      refine wpZ_one (i := 3) (by kernel_rfl) rfl (fun K hK => ?_)
      go_simp
      refine (HD1.out w1.drew (HG1.out.below (HS0.out))).mono ?_
      rintro e wK1 ⟨rfl, hbK1⟩
      have hSK1 : Below w1.heap.size w1 wK1 := bStep (HS0.out) hbK1
      go_wp2_with fail
      refine hK.out _ _ (fun _ => hSK1) ?_
      clear hK K
      refine wpZ_one (i := 7) (by kernel_rfl) rfl (fun K hK => ?_)
      go_simp
      refine (HD2.out wK1).mono ?_
      rintro e wK2 ⟨rfl, hbK2⟩
      have hSK2 : Below w1.heap.size w1 wK2 := bStep (hSK1) hbK2
      go_wp2_with fail
      refine hK.out _ _ (fun _ => hSK2) ?_
      clear hK K
      refine wpZ_take (i := 8) (v := .bool true) 30 rfl rfl (by kernel_rfl) (by kernel_rfl) (by kernel_rfl) (Or.inr (by decide)) (fun _ _ _ h => h) (Or.inl ⟨by rfl, fun w hSw => by go_simp⟩) hSK2 ?_
      simp only [Act.put, List.setIfInBounds_toArray]
      dsimp only [List.set_cons_zero, List.set_cons_succ]
      refine wpZ_take (i := 9) (v := .bool true) 6 rfl rfl (by kernel_rfl) (by kernel_rfl) (by kernel_rfl) (Or.inr (by decide)) (fun _ _ _ h => h) (Or.inl ⟨by rfl, fun w hSw => by go_simp⟩) hSK2 ?_
      simp only [Act.put, List.setIfInBounds_toArray]
      dsimp only [List.set_cons_zero, List.set_cons_succ]
      refine wpZ_done (by kernel_rfl) ?_ _
      go_wp2
      go_ret
      exact ⟨rfl, bStep hbw1 (hSK2)⟩
  · go_upto_region 5 with fail
    clear ck
    have HS0 : Hid (Below w1.heap.size w1 w1.drew) := (Below.refl _ _).drew
    refine wp_region_Z (fun w' => Below w1.heap.size w1 w') 99 (by kernel_rfl) ?_
    refine wpZ_take (i := 0) (v := .int .i64 c) 22 rfl rfl (by kernel_rfl) (by kernel_rfl) (by kernel_rfl) (Or.inr (by decide)) (fun _ _ _ h => h) (Or.inl ⟨by rfl, fun w hSw => by go_simp⟩) HS0.out ?_
    simp only [Act.put, List.setIfInBounds_toArray]
    dsimp only [List.set_cons_zero, List.set_cons_succ]
    refine wpZ_take (i := 1) (v := .agg #[.int .u64 ((limb 0 (k) : Nat) : Int), .int .u64 ((limb 1 (k) : Nat) : Int), .int .u64 ((limb 2 (k) : Nat) : Int), .int .u64 ((limb 3 (k) : Nat) : Int)]) 23 rfl rfl (by kernel_rfl) (by kernel_rfl) (by kernel_rfl) (Or.inr (by decide)) (fun _ _ _ h => h) (Or.inl ⟨by rfl, fun w hSw => by (have qq := (bk1.belowAll hSw).cell; clear hSw; go_simp)⟩) HS0.out ?_
    simp only [Act.put, List.setIfInBounds_toArray]
    dsimp only [List.set_cons_zero, List.set_cons_succ]
    refine wpZ_take (i := 2) (v := .agg #[.int .u64 ((limb 0 (x) : Nat) : Int), .int .u64 ((limb 1 (x) : Nat) : Int), .int .u64 ((limb 2 (x) : Nat) : Int), .int .u64 ((limb 3 (x) : Nat) : Int), .int .u64 ((limb 0 (y) : Nat) : Int), .int .u64 ((limb 1 (y) : Nat) : Int), .int .u64 ((limb 2 (y) : Nat) : Int), .int .u64 ((limb 3 (y) : Nat) : Int), .bool i]) 24 rfl rfl (by kernel_rfl) (by kernel_rfl) (by kernel_rfl) (Or.inr (by decide)) (fun _ _ _ h => h) (Or.inl ⟨by rfl, fun w hSw => by (obtain ⟨q0, q1, q2, q3, q4, q5, q6, q7, q8, qf⟩ := (bp1.belowAll hSw).cells; clear hSw; go_simp)⟩) HS0.out ?_
    simp only [Act.put, List.setIfInBounds_toArray]
    dsimp only [List.set_cons_zero, List.set_cons_succ]
    refine wpZ_take (i := 4) (v := .int .i64 c) 26 rfl rfl (by kernel_rfl) (by kernel_rfl) (by kernel_rfl) (Or.inr (by decide)) (fun _ _ _ h => h) (Or.inl ⟨by rfl, fun w hSw => by go_simp⟩) HS0.out ?_
    simp only [Act.put, List.setIfInBounds_toArray]
    dsimp only [List.set_cons_zero, List.set_cons_succ]
    refine wpZ_take (i := 5) (v := .agg #[.int .u64 ((limb 0 (k) : Nat) : Int), .int .u64 ((limb 1 (k) : Nat) : Int), .int .u64 ((limb 2 (k) : Nat) : Int), .int .u64 ((limb 3 (k) : Nat) : Int)]) 27 rfl rfl (by kernel_rfl) (by kernel_rfl) (by kernel_rfl) (Or.inr (by decide)) (fun _ _ _ h => h) (Or.inl ⟨by rfl, fun w hSw => by (have qq := (bk1.belowAll hSw).cell; clear hSw; go_simp)⟩) HS0.out ?_
    simp only [Act.put, List.setIfInBounds_toArray]
    dsimp only [List.set_cons_zero, List.set_cons_succ]
    refine wpZ_take (i := 6) (v := .agg #[.int .u64 ((limb 0 (x) : Nat) : Int), .int .u64 ((limb 1 (x) : Nat) : Int), .int .u64 ((limb 2 (x) : Nat) : Int), .int .u64 ((limb 3 (x) : Nat) : Int), .int .u64 ((limb 0 (y) : Nat) : Int), .int .u64 ((limb 1 (y) : Nat) : Int), .int .u64 ((limb 2 (y) : Nat) : Int), .int .u64 ((limb 3 (y) : Nat) : Int), .bool i]) 28 rfl rfl (by kernel_rfl) (by kernel_rfl) (by kernel_rfl) (Or.inr (by decide)) (fun _ _ _ h => h) (Or.inl ⟨by rfl, fun w hSw => by (obtain ⟨q0, q1, q2, q3, q4, q5, q6, q7, q8, qf⟩ := (bp1.belowAll hSw).cells; clear hSw; go_simp)⟩) HS0.out ?_
    simp only [Act.put, List.setIfInBounds_toArray]
    dsimp only [List.set_cons_zero, List.set_cons_succ]
    refine wpZ_one (i := 3) (by kernel_rfl) rfl (fun K hK => ?_)
    go_simp
    refine (HD1.out w1.drew (HG1.out.below (HS0.out))).mono ?_
    rintro e wK1 ⟨rfl, hbK1⟩
    have hSK1 : Below w1.heap.size w1 wK1 := bStep (HS0.out) hbK1
    go_wp2_with fail
    refine hK.out _ _ (fun _ => hSK1) ?_
    clear hK K
    refine wpZ_one (i := 7) (by kernel_rfl) rfl (fun K hK => ?_)
    go_simp
    refine (HD2.out wK1).mono ?_
    rintro e wK2 ⟨rfl, hbK2⟩
    have hSK2 : Below w1.heap.size w1 wK2 := bStep (hSK1) hbK2
    go_wp2_with fail
    refine hK.out _ _ (fun _ => hSK2) ?_
    clear hK K
    refine wpZ_take (i := 8) (v := .bool true) 30 rfl rfl (by kernel_rfl) (by kernel_rfl) (by kernel_rfl) (Or.inr (by decide)) (fun _ _ _ h => h) (Or.inl ⟨by rfl, fun w hSw => by go_simp⟩) hSK2 ?_
    simp only [Act.put, List.setIfInBounds_toArray]
    dsimp only [List.set_cons_zero, List.set_cons_succ]
    refine wpZ_take (i := 9) (v := .bool true) 6 rfl rfl (by kernel_rfl) (by kernel_rfl) (by kernel_rfl) (Or.inr (by decide)) (fun _ _ _ h => h) (Or.inl ⟨by rfl, fun w hSw => by go_simp⟩) hSK2 ?_
    simp only [Act.put, List.setIfInBounds_toArray]
    dsimp only [List.set_cons_zero, List.set_cons_succ]
    refine wpZ_done (by kernel_rfl) ?_ _
    go_wp2
    go_ret
    exact ⟨rfl, bStep hbw1 (hSK2)⟩
theorem ron_outD (c : Int) (hc : c < 0 ∨ 4 ≤ c) (x y : Nat) (i : Bool) (w : World) : Calls Tryz.prog 11 #[.int .i64 c, .agg #[.int .u64 ((limb 0 (x) : Nat) : Int), .int .u64 ((limb 1 (x) : Nat) : Int), .int .u64 ((limb 2 (x) : Nat) : Int), .int .u64 ((limb 3 (x) : Nat) : Int), .int .u64 ((limb 0 (y) : Nat) : Int), .int .u64 ((limb 1 (y) : Nat) : Int), .int .u64 ((limb 2 (y) : Nat) : Int), .int .u64 ((limb 3 (y) : Nat) : Int), .bool i]] w fun e w' => e = .returned (.bool false) ∧ Below w.heap.size w w' := by
  by_cases h0 : c < 0
  · clear hc
    go_enter Tryz.func11, Tryz.ntmps11
    go_wp2
    go_ret
    exact ⟨rfl, (Below.refl _ _).alloc (Nat.le_refl _) _⟩
  · have h3 : 3 < c := by omega
    clear hc
    go_enter Tryz.func11, Tryz.ntmps11
    go_wp2
    go_ret
    exact ⟨rfl, (Below.refl _ _).alloc (Nat.le_refl _) _⟩
theorem cprods_walk (c : Int) (k x y : Nat) (i : Bool) (hk : k < 115792089237316195423570985008687907853269984665640564039457584007913129639936) (hx : x < 115792089237316195423570985008687907853269984665640564039457584007913129639936) (hy : y < 115792089237316195423570985008687907853269984665640564039457584007913129639936) (w : World) (hg : GlobC w) :
    Calls Tryz.prog 4 #[.int .i64 c, .agg #[.int .u64 ((limb 0 (k) : Nat) : Int), .int .u64 ((limb 1 (k) : Nat) : Int), .int .u64 ((limb 2 (k) : Nat) : Int), .int .u64 ((limb 3 (k) : Nat) : Int)], .agg #[.int .u64 ((limb 0 (x) : Nat) : Int), .int .u64 ((limb 1 (x) : Nat) : Int), .int .u64 ((limb 2 (x) : Nat) : Int), .int .u64 ((limb 3 (x) : Nat) : Int), .int .u64 ((limb 0 (y) : Nat) : Int), .int .u64 ((limb 1 (y) : Nat) : Int), .int .u64 ((limb 2 (y) : Nat) : Int), .int .u64 ((limb 3 (y) : Nat) : Int), .bool i]] w fun e w' => e = .returned (.bool true) ∧ Below w.heap.size w w' := by
  by_cases hc : c < 0 ∨ 4 ≤ c
  · exact cprods_gen c k x y 0 0 i true (by decide) (by decide) (fun w hg => mul_not c k x y i (fun w _ => on_out c hc x y i w) w hg) (fun w => rmul_not c k x y i (fun w => ron_outD c hc x y i w) w) w hg
  · obtain ⟨t, rfl⟩ := Int.eq_ofNat_of_zero_le (show 0 ≤ c by omega)
    have ht : t < 4 := by omega
    by_cases hon : onC t x y i
    · have hl := on_lt (mulUp_on (k % modN (xc t)) hon 256)
      exact cprods_gen (t : Int) k x y _ _ i _ (lt_M t _ hl.1) (lt_M t _ hl.2) (fun w hg => mul_on t k x y i ht hk hx hy hon w hg) (fun w => rmul_on t k x y i ht hk hx hy hon w) w hg
    · refine cprods_gen (t : Int) k x y 0 0 i true (by decide) (by decide) (fun w hg => mul_not (t : Int) k x y i (fun w hg => ?_) w hg) (fun w => rmul_not (t : Int) k x y i (fun w => ?_) w) w hg
      · have := on_in t x y i ht hx hy w hg
        rw [decide_eq_false hon] at this
        exact this
      · have := ron_in t x y i ht hx hy w
        rw [decide_eq_false hon] at this
        exact this
end Go.Proofs.YtjpjnmhjbmmaiaaGreatDoor
