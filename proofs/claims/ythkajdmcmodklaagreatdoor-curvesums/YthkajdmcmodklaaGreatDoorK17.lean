/- CurveSums: the walk. -/
import Derived.Test.YthkajdmcmodklaaGreatDoorKV
import Derived.Test.YthkajdmcmodklaaGreatDoorK9
import Derived.Test.YthkajdmcmodklaaGreatDoorK6
namespace Go.Proofs.YthkajdmcmodklaaGreatDoor
open Go.RowKit

set_option maxHeartbeats 8000000 in
set_option maxRecDepth 20000 in
theorem csums_gen (c : Int) (x y u v nx ny ax ay : Nat) (i j b ni ai : Bool) (h1 : nx < 115792089237316195423570985008687907853269984665640564039457584007913129639936) (h2 : ny < 115792089237316195423570985008687907853269984665640564039457584007913129639936) (h3 : ax < 115792089237316195423570985008687907853269984665640564039457584007913129639936) (h4 : ay < 115792089237316195423570985008687907853269984665640564039457584007913129639936)
    (D1 : ∀ w, GlobC w → Calls Tryz.prog 10 #[.int .i64 c, .agg #[.int .u64 ((limb 0 (x) : Nat) : Int), .int .u64 ((limb 1 (x) : Nat) : Int), .int .u64 ((limb 2 (x) : Nat) : Int), .int .u64 ((limb 3 (x) : Nat) : Int), .int .u64 ((limb 0 (y) : Nat) : Int), .int .u64 ((limb 1 (y) : Nat) : Int), .int .u64 ((limb 2 (y) : Nat) : Int), .int .u64 ((limb 3 (y) : Nat) : Int), .bool i]] w fun e w' => e = .returned (.bool b) ∧ Below w.heap.size w w')
    (D2 : ∀ w, GlobC w → Calls Tryz.prog 11 #[.int .i64 c, .agg #[.int .u64 ((limb 0 (x) : Nat) : Int), .int .u64 ((limb 1 (x) : Nat) : Int), .int .u64 ((limb 2 (x) : Nat) : Int), .int .u64 ((limb 3 (x) : Nat) : Int), .int .u64 ((limb 0 (y) : Nat) : Int), .int .u64 ((limb 1 (y) : Nat) : Int), .int .u64 ((limb 2 (y) : Nat) : Int), .int .u64 ((limb 3 (y) : Nat) : Int), .bool i]] w fun e w' => e = .returned (.bool b) ∧ Below w.heap.size w w')
    (D3 : ∀ w, GlobC w → Calls Tryz.prog 12 #[.int .i64 c, .agg #[.int .u64 ((limb 0 (x) : Nat) : Int), .int .u64 ((limb 1 (x) : Nat) : Int), .int .u64 ((limb 2 (x) : Nat) : Int), .int .u64 ((limb 3 (x) : Nat) : Int), .int .u64 ((limb 0 (y) : Nat) : Int), .int .u64 ((limb 1 (y) : Nat) : Int), .int .u64 ((limb 2 (y) : Nat) : Int), .int .u64 ((limb 3 (y) : Nat) : Int), .bool i]] w fun e w' => e = .returned (.agg #[.int .u64 ((limb 0 (nx) : Nat) : Int), .int .u64 ((limb 1 (nx) : Nat) : Int), .int .u64 ((limb 2 (nx) : Nat) : Int), .int .u64 ((limb 3 (nx) : Nat) : Int), .int .u64 ((limb 0 (ny) : Nat) : Int), .int .u64 ((limb 1 (ny) : Nat) : Int), .int .u64 ((limb 2 (ny) : Nat) : Int), .int .u64 ((limb 3 (ny) : Nat) : Int), .bool ni]) ∧ Below w.heap.size w w')
    (D4 : ∀ w, GlobC w → Calls Tryz.prog 13 #[.int .i64 c, .agg #[.int .u64 ((limb 0 (x) : Nat) : Int), .int .u64 ((limb 1 (x) : Nat) : Int), .int .u64 ((limb 2 (x) : Nat) : Int), .int .u64 ((limb 3 (x) : Nat) : Int), .int .u64 ((limb 0 (y) : Nat) : Int), .int .u64 ((limb 1 (y) : Nat) : Int), .int .u64 ((limb 2 (y) : Nat) : Int), .int .u64 ((limb 3 (y) : Nat) : Int), .bool i]] w fun e w' => e = .returned (.agg #[.int .u64 ((limb 0 (nx) : Nat) : Int), .int .u64 ((limb 1 (nx) : Nat) : Int), .int .u64 ((limb 2 (nx) : Nat) : Int), .int .u64 ((limb 3 (nx) : Nat) : Int), .int .u64 ((limb 0 (ny) : Nat) : Int), .int .u64 ((limb 1 (ny) : Nat) : Int), .int .u64 ((limb 2 (ny) : Nat) : Int), .int .u64 ((limb 3 (ny) : Nat) : Int), .bool ni]) ∧ Below w.heap.size w w')
    (D5 : ∀ w, GlobC w → Calls Tryz.prog 14 #[.int .i64 c, .agg #[.int .u64 ((limb 0 (x) : Nat) : Int), .int .u64 ((limb 1 (x) : Nat) : Int), .int .u64 ((limb 2 (x) : Nat) : Int), .int .u64 ((limb 3 (x) : Nat) : Int), .int .u64 ((limb 0 (y) : Nat) : Int), .int .u64 ((limb 1 (y) : Nat) : Int), .int .u64 ((limb 2 (y) : Nat) : Int), .int .u64 ((limb 3 (y) : Nat) : Int), .bool i], .agg #[.int .u64 ((limb 0 (u) : Nat) : Int), .int .u64 ((limb 1 (u) : Nat) : Int), .int .u64 ((limb 2 (u) : Nat) : Int), .int .u64 ((limb 3 (u) : Nat) : Int), .int .u64 ((limb 0 (v) : Nat) : Int), .int .u64 ((limb 1 (v) : Nat) : Int), .int .u64 ((limb 2 (v) : Nat) : Int), .int .u64 ((limb 3 (v) : Nat) : Int), .bool j]] w fun e w' => e = .returned (.agg #[.int .u64 ((limb 0 (ax) : Nat) : Int), .int .u64 ((limb 1 (ax) : Nat) : Int), .int .u64 ((limb 2 (ax) : Nat) : Int), .int .u64 ((limb 3 (ax) : Nat) : Int), .int .u64 ((limb 0 (ay) : Nat) : Int), .int .u64 ((limb 1 (ay) : Nat) : Int), .int .u64 ((limb 2 (ay) : Nat) : Int), .int .u64 ((limb 3 (ay) : Nat) : Int), .bool ai]) ∧ Below w.heap.size w w')
    (D6 : ∀ w, GlobC w → Calls Tryz.prog 15 #[.int .i64 c, .agg #[.int .u64 ((limb 0 (x) : Nat) : Int), .int .u64 ((limb 1 (x) : Nat) : Int), .int .u64 ((limb 2 (x) : Nat) : Int), .int .u64 ((limb 3 (x) : Nat) : Int), .int .u64 ((limb 0 (y) : Nat) : Int), .int .u64 ((limb 1 (y) : Nat) : Int), .int .u64 ((limb 2 (y) : Nat) : Int), .int .u64 ((limb 3 (y) : Nat) : Int), .bool i], .agg #[.int .u64 ((limb 0 (u) : Nat) : Int), .int .u64 ((limb 1 (u) : Nat) : Int), .int .u64 ((limb 2 (u) : Nat) : Int), .int .u64 ((limb 3 (u) : Nat) : Int), .int .u64 ((limb 0 (v) : Nat) : Int), .int .u64 ((limb 1 (v) : Nat) : Int), .int .u64 ((limb 2 (v) : Nat) : Int), .int .u64 ((limb 3 (v) : Nat) : Int), .bool j]] w fun e w' => e = .returned (.agg #[.int .u64 ((limb 0 (ax) : Nat) : Int), .int .u64 ((limb 1 (ax) : Nat) : Int), .int .u64 ((limb 2 (ax) : Nat) : Int), .int .u64 ((limb 3 (ax) : Nat) : Int), .int .u64 ((limb 0 (ay) : Nat) : Int), .int .u64 ((limb 1 (ay) : Nat) : Int), .int .u64 ((limb 2 (ay) : Nat) : Int), .int .u64 ((limb 3 (ay) : Nat) : Int), .bool ai]) ∧ Below w.heap.size w w')
    (w : World) (hg : GlobC w) :
    Calls Tryz.prog 3 #[.int .i64 c, .agg #[.int .u64 ((limb 0 (x) : Nat) : Int), .int .u64 ((limb 1 (x) : Nat) : Int), .int .u64 ((limb 2 (x) : Nat) : Int), .int .u64 ((limb 3 (x) : Nat) : Int), .int .u64 ((limb 0 (y) : Nat) : Int), .int .u64 ((limb 1 (y) : Nat) : Int), .int .u64 ((limb 2 (y) : Nat) : Int), .int .u64 ((limb 3 (y) : Nat) : Int), .bool i], .agg #[.int .u64 ((limb 0 (u) : Nat) : Int), .int .u64 ((limb 1 (u) : Nat) : Int), .int .u64 ((limb 2 (u) : Nat) : Int), .int .u64 ((limb 3 (u) : Nat) : Int), .int .u64 ((limb 0 (v) : Nat) : Int), .int .u64 ((limb 1 (v) : Nat) : Int), .int .u64 ((limb 2 (v) : Nat) : Int), .int .u64 ((limb 3 (v) : Nat) : Int), .bool j]] w fun e w' => e = .returned (.bool true) ∧ Below w.heap.size w w' := by
  have HG0 : Hid (GlobC w) := hg
  have HD1 := (show Hid _ from D1); have HD2 := (show Hid _ from D2); have HD3 := (show Hid _ from D3); have HD4 := (show Hid _ from D4); have HD5 := (show Hid _ from D5); have HD6 := (show Hid _ from D6)
  have HAL : Hid (∀ w, GlobC w → _) := fun w hg => alive4_any w hg
  have QN := fun w => eqlP_self nx ny ni h1 h2 w
  have QA := fun w => eqlP_self ax ay ai h3 h4 w
  have QB : (b == b) = true := by simp
  clear hg D1 D2 D3 D4 D5 D6 h1 h2 h3 h4
  go_enter Tryz.func3, Tryz.ntmps3
  go_upto_region 1 with fail
  obtain ⟨w0, hw0⟩ : ∃ w0 : World, w0 = (w.alloc (.cells #[.int .u64 ((limb 0 x : Nat) : Int), .int .u64 ((limb 1 x : Nat) : Int), .int .u64 ((limb 2 x : Nat) : Int), .int .u64 ((limb 3 x : Nat) : Int), .int .u64 ((limb 0 y : Nat) : Int), .int .u64 ((limb 1 y : Nat) : Int), .int .u64 ((limb 2 y : Nat) : Int), .int .u64 ((limb 3 y : Nat) : Int), .bool i] 26)).alloc (.cells #[.int .u64 ((limb 0 u : Nat) : Int), .int .u64 ((limb 1 u : Nat) : Int), .int .u64 ((limb 2 u : Nat) : Int), .int .u64 ((limb 3 u : Nat) : Int), .int .u64 ((limb 0 v : Nat) : Int), .int .u64 ((limb 1 v : Nat) : Int), .int .u64 ((limb 2 v : Nat) : Int), .int .u64 ((limb 3 v : Nat) : Int), .bool j] 26) := ⟨_, rfl⟩
  have bp0 : Pt w0 w.heap.size x y i := by rw [hw0]; exact (Pt.newAt _ _ _ _ _ rfl).alloc _
  have bq0 : Pt w0 (w.heap.size + 1) u v j := by rw [hw0]; exact Pt.newAt _ _ _ _ _ (by simp)
  have hbw0 : Below w.heap.size w w0 := by rw [hw0]; exact bAlloc ((Below.refl _ _).alloc (Nat.le_refl _) _) _
  rw [← hw0]
  clear hw0
  go_wp2_with fail
  refine (HAL.out _ (HG0.out.below hbw0)).mono ?_
  rintro e w1 ⟨rfl, hb1⟩
  have bp := bp0.belowAll hb1; have bq := bq0.belowAll hb1
  have hbw1 := bStep hbw0 hb1
  have HG : Hid (GlobC w1) := HG0.out.below hbw1
  clear bp0 bq0 hbw0 hb1 HAL
  go_upto_region 3 with fail
  have HS0 : Hid (Below w1.heap.size w1 w1.drew) := (Below.refl _ _).drew
  refine wp_region_Z (fun w' => Below w1.heap.size w1 w') 99 (by kernel_rfl) ?_
  refine wpZ_take (i := 0) (v := .int .i64 c) 9 rfl rfl (by kernel_rfl) (by kernel_rfl) (by kernel_rfl) (Or.inr (by decide)) (fun _ _ _ h => h) (Or.inl ⟨by rfl, fun w hSw => by go_simp⟩) HS0.out ?_
  simp only [Act.put, List.setIfInBounds_toArray]
  dsimp only [List.set_cons_zero, List.set_cons_succ]
  refine wpZ_take (i := 1) (v := .agg #[.int .u64 ((limb 0 (x) : Nat) : Int), .int .u64 ((limb 1 (x) : Nat) : Int), .int .u64 ((limb 2 (x) : Nat) : Int), .int .u64 ((limb 3 (x) : Nat) : Int), .int .u64 ((limb 0 (y) : Nat) : Int), .int .u64 ((limb 1 (y) : Nat) : Int), .int .u64 ((limb 2 (y) : Nat) : Int), .int .u64 ((limb 3 (y) : Nat) : Int), .bool i]) 10 rfl rfl (by kernel_rfl) (by kernel_rfl) (by kernel_rfl) (Or.inr (by decide)) (fun _ _ _ h => h) (Or.inl ⟨by rfl, fun w hSw => by (obtain ⟨q0, q1, q2, q3, q4, q5, q6, q7, q8, qf⟩ := (bp.belowAll hSw).cells; clear hSw; go_simp)⟩) HS0.out ?_
  simp only [Act.put, List.setIfInBounds_toArray]
  dsimp only [List.set_cons_zero, List.set_cons_succ]
  refine wpZ_take (i := 3) (v := .int .i64 c) 12 rfl rfl (by kernel_rfl) (by kernel_rfl) (by kernel_rfl) (Or.inr (by decide)) (fun _ _ _ h => h) (Or.inl ⟨by rfl, fun w hSw => by go_simp⟩) HS0.out ?_
  simp only [Act.put, List.setIfInBounds_toArray]
  dsimp only [List.set_cons_zero, List.set_cons_succ]
  refine wpZ_take (i := 4) (v := .agg #[.int .u64 ((limb 0 (x) : Nat) : Int), .int .u64 ((limb 1 (x) : Nat) : Int), .int .u64 ((limb 2 (x) : Nat) : Int), .int .u64 ((limb 3 (x) : Nat) : Int), .int .u64 ((limb 0 (y) : Nat) : Int), .int .u64 ((limb 1 (y) : Nat) : Int), .int .u64 ((limb 2 (y) : Nat) : Int), .int .u64 ((limb 3 (y) : Nat) : Int), .bool i]) 13 rfl rfl (by kernel_rfl) (by kernel_rfl) (by kernel_rfl) (Or.inr (by decide)) (fun _ _ _ h => h) (Or.inl ⟨by rfl, fun w hSw => by (obtain ⟨q0, q1, q2, q3, q4, q5, q6, q7, q8, qf⟩ := (bp.belowAll hSw).cells; clear hSw; go_simp)⟩) HS0.out ?_
  simp only [Act.put, List.setIfInBounds_toArray]
  dsimp only [List.set_cons_zero, List.set_cons_succ]
  refine wpZ_one (i := 2) (by kernel_rfl) rfl (fun K hK => ?_)
  go_simp
  refine (HD1.out w1.drew (HG.out.below (HS0.out))).mono ?_
  rintro e wK1 ⟨rfl, hbK1⟩
  have hSK1 : Below w1.heap.size w1 wK1 := bStep (HS0.out) hbK1
  go_wp2_with fail
  refine hK.out _ _ (fun _ => hSK1) ?_
  clear hK K
  refine wpZ_one (i := 5) (by kernel_rfl) rfl (fun K hK => ?_)
  go_simp
  refine (HD2.out wK1 (HG.out.below (hSK1))).mono ?_
  rintro e wK2 ⟨rfl, hbK2⟩
  have hSK2 : Below w1.heap.size w1 wK2 := bStep (hSK1) hbK2
  go_wp2_with fail
  refine hK.out _ _ (fun _ => hSK2) ?_
  clear hK K
  refine wpZ_take (i := 6) (v := .bool true) 15 rfl rfl (by kernel_rfl) (by kernel_rfl) (by kernel_rfl) (Or.inr (by decide)) (fun _ _ _ h => h) (Or.inl ⟨by rfl, fun w hSw => by go_simp⟩) hSK2 ?_
  simp only [Act.put, List.setIfInBounds_toArray]
  dsimp only [List.set_cons_zero, List.set_cons_succ]
  refine wpZ_take (i := 7) (v := .bool true) 16 rfl rfl (by kernel_rfl) (by kernel_rfl) (by kernel_rfl) (Or.inr (by decide)) (fun _ _ _ h => h) (Or.inl ⟨by rfl, fun w hSw => by go_simp⟩) hSK2 ?_
  simp only [Act.put, List.setIfInBounds_toArray]
  dsimp only [List.set_cons_zero, List.set_cons_succ]
  refine wpZ_take (i := 8) (v := .int .i64 c) 17 rfl rfl (by kernel_rfl) (by kernel_rfl) (by kernel_rfl) (Or.inr (by decide)) (fun _ _ _ h => h) (Or.inl ⟨by rfl, fun w hSw => by go_simp⟩) hSK2 ?_
  simp only [Act.put, List.setIfInBounds_toArray]
  dsimp only [List.set_cons_zero, List.set_cons_succ]
  refine wpZ_take (i := 9) (v := .agg #[.int .u64 ((limb 0 (x) : Nat) : Int), .int .u64 ((limb 1 (x) : Nat) : Int), .int .u64 ((limb 2 (x) : Nat) : Int), .int .u64 ((limb 3 (x) : Nat) : Int), .int .u64 ((limb 0 (y) : Nat) : Int), .int .u64 ((limb 1 (y) : Nat) : Int), .int .u64 ((limb 2 (y) : Nat) : Int), .int .u64 ((limb 3 (y) : Nat) : Int), .bool i]) 18 rfl rfl (by kernel_rfl) (by kernel_rfl) (by kernel_rfl) (Or.inr (by decide)) (fun _ _ _ h => h) (Or.inl ⟨by rfl, fun w hSw => by (obtain ⟨q0, q1, q2, q3, q4, q5, q6, q7, q8, qf⟩ := (bp.belowAll hSw).cells; clear hSw; go_simp)⟩) hSK2 ?_
  simp only [Act.put, List.setIfInBounds_toArray]
  dsimp only [List.set_cons_zero, List.set_cons_succ]
  refine wpZ_take (i := 11) (v := .int .i64 c) 20 rfl rfl (by kernel_rfl) (by kernel_rfl) (by kernel_rfl) (Or.inr (by decide)) (fun _ _ _ h => h) (Or.inl ⟨by rfl, fun w hSw => by go_simp⟩) hSK2 ?_
  simp only [Act.put, List.setIfInBounds_toArray]
  dsimp only [List.set_cons_zero, List.set_cons_succ]
  refine wpZ_take (i := 12) (v := .agg #[.int .u64 ((limb 0 (x) : Nat) : Int), .int .u64 ((limb 1 (x) : Nat) : Int), .int .u64 ((limb 2 (x) : Nat) : Int), .int .u64 ((limb 3 (x) : Nat) : Int), .int .u64 ((limb 0 (y) : Nat) : Int), .int .u64 ((limb 1 (y) : Nat) : Int), .int .u64 ((limb 2 (y) : Nat) : Int), .int .u64 ((limb 3 (y) : Nat) : Int), .bool i]) 21 rfl rfl (by kernel_rfl) (by kernel_rfl) (by kernel_rfl) (Or.inr (by decide)) (fun _ _ _ h => h) (Or.inl ⟨by rfl, fun w hSw => by (obtain ⟨q0, q1, q2, q3, q4, q5, q6, q7, q8, qf⟩ := (bp.belowAll hSw).cells; clear hSw; go_simp)⟩) hSK2 ?_
  simp only [Act.put, List.setIfInBounds_toArray]
  dsimp only [List.set_cons_zero, List.set_cons_succ]
  refine wpZ_one (i := 10) (by kernel_rfl) rfl (fun K hK => ?_)
  go_simp
  refine (HD3.out wK2 (HG.out.below (hSK2))).mono ?_
  rintro e wK3 ⟨rfl, hbK3⟩
  have hSK3 : Below w1.heap.size w1 wK3 := bStep (hSK2) hbK3
  go_wp2_with fail
  refine hK.out _ _ (fun _ => hSK3) ?_
  clear hK K
  refine wpZ_one (i := 13) (by kernel_rfl) rfl (fun K hK => ?_)
  go_simp
  refine (HD4.out wK3 (HG.out.below (hSK3))).mono ?_
  rintro e wK4 ⟨rfl, hbK4⟩
  have hSK4 : Below w1.heap.size w1 wK4 := bStep (hSK3) hbK4
  go_wp2_with fail
  refine hK.out _ _ (fun _ => hSK4) ?_
  clear hK K
  refine wpZ_take (i := 14) (v := .bool true) 23 rfl rfl (by kernel_rfl) (by kernel_rfl) (by kernel_rfl) (Or.inr (by decide)) (fun _ _ _ h => h) (Or.inl ⟨by rfl, fun w hSw => by go_simp⟩) hSK4 ?_
  simp only [Act.put, List.setIfInBounds_toArray]
  dsimp only [List.set_cons_zero, List.set_cons_succ]
  refine wpZ_take (i := 15) (v := .bool true) 24 rfl rfl (by kernel_rfl) (by kernel_rfl) (by kernel_rfl) (Or.inr (by decide)) (fun _ _ _ h => h) (Or.inl ⟨by rfl, fun w hSw => by go_simp⟩) hSK4 ?_
  simp only [Act.put, List.setIfInBounds_toArray]
  dsimp only [List.set_cons_zero, List.set_cons_succ]
  refine wpZ_take (i := 16) (v := .bool true) 25 rfl rfl (by kernel_rfl) (by kernel_rfl) (by kernel_rfl) (Or.inr (by decide)) (fun _ _ _ h => h) (Or.inl ⟨by rfl, fun w hSw => by go_simp⟩) hSK4 ?_
  simp only [Act.put, List.setIfInBounds_toArray]
  dsimp only [List.set_cons_zero, List.set_cons_succ]
  refine wpZ_take (i := 17) (v := .int .i64 c) 26 rfl rfl (by kernel_rfl) (by kernel_rfl) (by kernel_rfl) (Or.inr (by decide)) (fun _ _ _ h => h) (Or.inl ⟨by rfl, fun w hSw => by go_simp⟩) hSK4 ?_
  simp only [Act.put, List.setIfInBounds_toArray]
  dsimp only [List.set_cons_zero, List.set_cons_succ]
  refine wpZ_take (i := 18) (v := .agg #[.int .u64 ((limb 0 (x) : Nat) : Int), .int .u64 ((limb 1 (x) : Nat) : Int), .int .u64 ((limb 2 (x) : Nat) : Int), .int .u64 ((limb 3 (x) : Nat) : Int), .int .u64 ((limb 0 (y) : Nat) : Int), .int .u64 ((limb 1 (y) : Nat) : Int), .int .u64 ((limb 2 (y) : Nat) : Int), .int .u64 ((limb 3 (y) : Nat) : Int), .bool i]) 27 rfl rfl (by kernel_rfl) (by kernel_rfl) (by kernel_rfl) (Or.inr (by decide)) (fun _ _ _ h => h) (Or.inl ⟨by rfl, fun w hSw => by (obtain ⟨q0, q1, q2, q3, q4, q5, q6, q7, q8, qf⟩ := (bp.belowAll hSw).cells; clear hSw; go_simp)⟩) hSK4 ?_
  simp only [Act.put, List.setIfInBounds_toArray]
  dsimp only [List.set_cons_zero, List.set_cons_succ]
  refine wpZ_take (i := 19) (v := .agg #[.int .u64 ((limb 0 (u) : Nat) : Int), .int .u64 ((limb 1 (u) : Nat) : Int), .int .u64 ((limb 2 (u) : Nat) : Int), .int .u64 ((limb 3 (u) : Nat) : Int), .int .u64 ((limb 0 (v) : Nat) : Int), .int .u64 ((limb 1 (v) : Nat) : Int), .int .u64 ((limb 2 (v) : Nat) : Int), .int .u64 ((limb 3 (v) : Nat) : Int), .bool j]) 28 rfl rfl (by kernel_rfl) (by kernel_rfl) (by kernel_rfl) (Or.inr (by decide)) (fun _ _ _ h => h) (Or.inl ⟨by rfl, fun w hSw => by (obtain ⟨q0, q1, q2, q3, q4, q5, q6, q7, q8, qf⟩ := (bq.belowAll hSw).cells; clear hSw; go_simp)⟩) hSK4 ?_
  simp only [Act.put, List.setIfInBounds_toArray]
  dsimp only [List.set_cons_zero, List.set_cons_succ]
  refine wpZ_take (i := 21) (v := .int .i64 c) 30 rfl rfl (by kernel_rfl) (by kernel_rfl) (by kernel_rfl) (Or.inr (by decide)) (fun _ _ _ h => h) (Or.inl ⟨by rfl, fun w hSw => by go_simp⟩) hSK4 ?_
  simp only [Act.put, List.setIfInBounds_toArray]
  dsimp only [List.set_cons_zero, List.set_cons_succ]
  refine wpZ_take (i := 22) (v := .agg #[.int .u64 ((limb 0 (x) : Nat) : Int), .int .u64 ((limb 1 (x) : Nat) : Int), .int .u64 ((limb 2 (x) : Nat) : Int), .int .u64 ((limb 3 (x) : Nat) : Int), .int .u64 ((limb 0 (y) : Nat) : Int), .int .u64 ((limb 1 (y) : Nat) : Int), .int .u64 ((limb 2 (y) : Nat) : Int), .int .u64 ((limb 3 (y) : Nat) : Int), .bool i]) 31 rfl rfl (by kernel_rfl) (by kernel_rfl) (by kernel_rfl) (Or.inr (by decide)) (fun _ _ _ h => h) (Or.inl ⟨by rfl, fun w hSw => by (obtain ⟨q0, q1, q2, q3, q4, q5, q6, q7, q8, qf⟩ := (bp.belowAll hSw).cells; clear hSw; go_simp)⟩) hSK4 ?_
  simp only [Act.put, List.setIfInBounds_toArray]
  dsimp only [List.set_cons_zero, List.set_cons_succ]
  refine wpZ_take (i := 23) (v := .agg #[.int .u64 ((limb 0 (u) : Nat) : Int), .int .u64 ((limb 1 (u) : Nat) : Int), .int .u64 ((limb 2 (u) : Nat) : Int), .int .u64 ((limb 3 (u) : Nat) : Int), .int .u64 ((limb 0 (v) : Nat) : Int), .int .u64 ((limb 1 (v) : Nat) : Int), .int .u64 ((limb 2 (v) : Nat) : Int), .int .u64 ((limb 3 (v) : Nat) : Int), .bool j]) 32 rfl rfl (by kernel_rfl) (by kernel_rfl) (by kernel_rfl) (Or.inr (by decide)) (fun _ _ _ h => h) (Or.inl ⟨by rfl, fun w hSw => by (obtain ⟨q0, q1, q2, q3, q4, q5, q6, q7, q8, qf⟩ := (bq.belowAll hSw).cells; clear hSw; go_simp)⟩) hSK4 ?_
  simp only [Act.put, List.setIfInBounds_toArray]
  dsimp only [List.set_cons_zero, List.set_cons_succ]
  refine wpZ_one (i := 20) (by kernel_rfl) rfl (fun K hK => ?_)
  go_simp
  refine (HD5.out wK4 (HG.out.below (hSK4))).mono ?_
  rintro e wK5 ⟨rfl, hbK5⟩
  have hSK5 : Below w1.heap.size w1 wK5 := bStep (hSK4) hbK5
  go_wp2_with fail
  refine hK.out _ _ (fun _ => hSK5) ?_
  clear hK K
  refine wpZ_one (i := 24) (by kernel_rfl) rfl (fun K hK => ?_)
  go_simp
  refine (HD6.out wK5 (HG.out.below (hSK5))).mono ?_
  rintro e wK6 ⟨rfl, hbK6⟩
  have hSK6 : Below w1.heap.size w1 wK6 := bStep (hSK5) hbK6
  go_wp2_with fail
  refine hK.out _ _ (fun _ => hSK6) ?_
  clear hK K
  refine wpZ_take (i := 25) (v := .bool true) 34 rfl rfl (by kernel_rfl) (by kernel_rfl) (by kernel_rfl) (Or.inr (by decide)) (fun _ _ _ h => h) (Or.inl ⟨by rfl, fun w hSw => by go_simp⟩) hSK6 ?_
  simp only [Act.put, List.setIfInBounds_toArray]
  dsimp only [List.set_cons_zero, List.set_cons_succ]
  refine wpZ_take (i := 26) (v := .bool true) 35 rfl rfl (by kernel_rfl) (by kernel_rfl) (by kernel_rfl) (Or.inr (by decide)) (fun _ _ _ h => h) (Or.inl ⟨by rfl, fun w hSw => by go_simp⟩) hSK6 ?_
  simp only [Act.put, List.setIfInBounds_toArray]
  dsimp only [List.set_cons_zero, List.set_cons_succ]
  refine wpZ_take (i := 27) (v := .bool true) 6 rfl rfl (by kernel_rfl) (by kernel_rfl) (by kernel_rfl) (Or.inr (by decide)) (fun _ _ _ h => h) (Or.inl ⟨by rfl, fun w hSw => by go_simp⟩) hSK6 ?_
  simp only [Act.put, List.setIfInBounds_toArray]
  dsimp only [List.set_cons_zero, List.set_cons_succ]
  refine wpZ_done (by kernel_rfl) ?_ _
  go_wp2
  go_ret
  exact ⟨rfl, bStep hbw1 (hSK6)⟩

theorem addPt_lt (c x y : Nat) (i : Bool) (u v : Nat) (j : Bool) (hx : x < 115792089237316195423570985008687907853269984665640564039457584007913129639936) (hy : y < 115792089237316195423570985008687907853269984665640564039457584007913129639936) (hu : u < 115792089237316195423570985008687907853269984665640564039457584007913129639936) (hv : v < 115792089237316195423570985008687907853269984665640564039457584007913129639936) : (addPt c x y i u v j).1 < 115792089237316195423570985008687907853269984665640564039457584007913129639936 ∧ (addPt c x y i u v j).2.1 < 115792089237316195423570985008687907853269984665640564039457584007913129639936 := by
  unfold addPt
  split
  · exact ⟨by decide, by decide⟩
  · split
    · exact ⟨hu, hv⟩
    · split
      · exact ⟨hx, hy⟩
      · split
        · exact ⟨by decide, by decide⟩
        · exact ⟨subP_M _ _ _, subP_M _ _ _⟩
/-- CurveSums of a curve that there is. -/
theorem csums_in (c x y u v : Nat) (i j : Bool) (hc : c < 4) (hx : x < 115792089237316195423570985008687907853269984665640564039457584007913129639936) (hy : y < 115792089237316195423570985008687907853269984665640564039457584007913129639936) (hu : u < 115792089237316195423570985008687907853269984665640564039457584007913129639936) (hv : v < 115792089237316195423570985008687907853269984665640564039457584007913129639936) (w : World) (hg : GlobC w) :
    Calls Tryz.prog 3 #[.int .i64 (c : Int), .agg #[.int .u64 ((limb 0 (x) : Nat) : Int), .int .u64 ((limb 1 (x) : Nat) : Int), .int .u64 ((limb 2 (x) : Nat) : Int), .int .u64 ((limb 3 (x) : Nat) : Int), .int .u64 ((limb 0 (y) : Nat) : Int), .int .u64 ((limb 1 (y) : Nat) : Int), .int .u64 ((limb 2 (y) : Nat) : Int), .int .u64 ((limb 3 (y) : Nat) : Int), .bool i], .agg #[.int .u64 ((limb 0 (u) : Nat) : Int), .int .u64 ((limb 1 (u) : Nat) : Int), .int .u64 ((limb 2 (u) : Nat) : Int), .int .u64 ((limb 3 (u) : Nat) : Int), .int .u64 ((limb 0 (v) : Nat) : Int), .int .u64 ((limb 1 (v) : Nat) : Int), .int .u64 ((limb 2 (v) : Nat) : Int), .int .u64 ((limb 3 (v) : Nat) : Int), .bool j]] w fun e w' => e = .returned (.bool true) ∧ Below w.heap.size w w' := by
  refine csums_gen c x y u v (negX c x y i) (negY c x y i) (addPt c x y i u v j).1 (addPt c x y i u v j).2.1 i j (decide (onC c x y i)) (negI c x y i) (addPt c x y i u v j).2.2 ?_ ?_ (addPt_lt c x y i u v j hx hy hu hv).1 (addPt_lt c x y i u v j hx hy hu hv).2 (fun w hg => on_in c x y i hc hx hy w hg) (fun w _ => ron_in c x y i hc hx hy w) (fun w hg => neg_in c x y i hc hx hy w hg) (fun w _ => rneg_in c x y i hc hx hy w) (fun w hg => add_in c x y u v i j hc hx hy hu hv w hg) (fun w _ => ?_) w hg
  · unfold negX; split; exact hx; decide
  · unfold negY; split; exact subP_M _ _ _; decide
  · rw [add_same]; exact radd_in c x y u v i j hc hx hy hu hv w

end Go.Proofs.YthkajdmcmodklaaGreatDoor
