/- Curves that there aren't; CurveSums of anything. -/
import Derived.Test.YthkajdmcmodklaaGreatDoorK17
namespace Go.Proofs.YthkajdmcmodklaaGreatDoor
open Go.RowKit

set_option maxHeartbeats 2000000 in
theorem ron_out (c : Int) (hc : c < 0 ∨ 4 ≤ c) (x y : Nat) (i : Bool) (w : World) : Calls Tryz.prog 11 #[.int .i64 c, .agg #[.int .u64 ((limb 0 (x) : Nat) : Int), .int .u64 ((limb 1 (x) : Nat) : Int), .int .u64 ((limb 2 (x) : Nat) : Int), .int .u64 ((limb 3 (x) : Nat) : Int), .int .u64 ((limb 0 (y) : Nat) : Int), .int .u64 ((limb 1 (y) : Nat) : Int), .int .u64 ((limb 2 (y) : Nat) : Int), .int .u64 ((limb 3 (y) : Nat) : Int), .bool i]] w fun e w' => e = .returned (.bool false) ∧ Below w.heap.size w w' := by
  by_cases h0 : c < 0
  · clear hc
    go_enter Tryz.func11, Tryz.ntmps11
    go_wp2
    go_ret
    exact ⟨rfl, (Below.refl _ _).alloc (Nat.le_refl _) _⟩
  · have h3 : 3 < c := by omega
    clear hc
    go_enter Tryz.func11, Tryz.ntmps11
    go_wp2
    go_ret
    exact ⟨rfl, (Below.refl _ _).alloc (Nat.le_refl _) _⟩
set_option maxHeartbeats 4000000 in
set_option maxRecDepth 20000 in
theorem neg_out (c : Int) (hc : c < 0 ∨ 4 ≤ c) (x y : Nat) (i : Bool) (w : World) : Calls Tryz.prog 12 #[.int .i64 c, .agg #[.int .u64 ((limb 0 (x) : Nat) : Int), .int .u64 ((limb 1 (x) : Nat) : Int), .int .u64 ((limb 2 (x) : Nat) : Int), .int .u64 ((limb 3 (x) : Nat) : Int), .int .u64 ((limb 0 (y) : Nat) : Int), .int .u64 ((limb 1 (y) : Nat) : Int), .int .u64 ((limb 2 (y) : Nat) : Int), .int .u64 ((limb 3 (y) : Nat) : Int), .bool i]] w fun e w' => e = .returned (.agg #[.int .u64 ((limb 0 (0) : Nat) : Int), .int .u64 ((limb 1 (0) : Nat) : Int), .int .u64 ((limb 2 (0) : Nat) : Int), .int .u64 ((limb 3 (0) : Nat) : Int), .int .u64 ((limb 0 (0) : Nat) : Int), .int .u64 ((limb 1 (0) : Nat) : Int), .int .u64 ((limb 2 (0) : Nat) : Int), .int .u64 ((limb 3 (0) : Nat) : Int), .bool true]) ∧ Below w.heap.size w w' := by
  have HON : Hid (∀ w, _) := fun w => on_out c hc x y i w
  have HIN : Hid (∀ w, _) := infinity_any
  clear hc
  go_enter Tryz.func12, Tryz.ntmps12
  go_upto_region 1 with fail
  obtain ⟨w0, hw0⟩ : ∃ w0 : World, w0 = (w.alloc (.cells #[.int .u64 ((limb 0 x : Nat) : Int), .int .u64 ((limb 1 x : Nat) : Int), .int .u64 ((limb 2 x : Nat) : Int), .int .u64 ((limb 3 x : Nat) : Int), .int .u64 ((limb 0 y : Nat) : Int), .int .u64 ((limb 1 y : Nat) : Int), .int .u64 ((limb 2 y : Nat) : Int), .int .u64 ((limb 3 y : Nat) : Int), .bool i] 26)).alloc (.cells #[.int .u64 0, .int .u64 0, .int .u64 0, .int .u64 0, .int .u64 0, .int .u64 0, .int .u64 0, .int .u64 0, .bool false] 26) := ⟨_, rfl⟩
  have bp : Pt w0 w.heap.size x y i := by rw [hw0]; exact (Pt.newAt _ _ _ _ _ rfl).alloc _
  have br : Pt w0 (w.heap.size + 1) 0 0 false := by rw [hw0]; exact Pt.zeroAt _ _ (by simp)
  have hbw0 : Below w.heap.size w w0 := by rw [hw0]; exact bAlloc ((Below.refl _ _).alloc (Nat.le_refl _) _) _
  have hrw : w.heap.size ≤ w.heap.size + 1 := Nat.le_succ _
  rw [← hw0]
  clear hw0
  go_cut [13] (fun b wx => b = .bool true ∧ Below w0.heap.size w0 wx)
  case first =>
    have HS0 : Hid (Below w0.heap.size w0 w0.drew) := (Below.refl _ _).drew
    refine wp_region_Z (fun w' => Below w0.heap.size w0 w') 99 (by kernel_rfl) ?_
    refine wpZ_take (i := 0) (v := .int .i64 c) 5 rfl rfl (by kernel_rfl) (by kernel_rfl) (by kernel_rfl) (Or.inr (by decide)) (fun _ _ _ h => h) (Or.inl ⟨by rfl, fun w hSw => by go_simp⟩) HS0.out ?_
    simp only [Act.put, List.setIfInBounds_toArray]
    dsimp only [List.set_cons_zero, List.set_cons_succ]
    refine wpZ_take (i := 1) (v := .agg #[.int .u64 ((limb 0 (x) : Nat) : Int), .int .u64 ((limb 1 (x) : Nat) : Int), .int .u64 ((limb 2 (x) : Nat) : Int), .int .u64 ((limb 3 (x) : Nat) : Int), .int .u64 ((limb 0 (y) : Nat) : Int), .int .u64 ((limb 1 (y) : Nat) : Int), .int .u64 ((limb 2 (y) : Nat) : Int), .int .u64 ((limb 3 (y) : Nat) : Int), .bool i]) 6 rfl rfl (by kernel_rfl) (by kernel_rfl) (by kernel_rfl) (Or.inr (by decide)) (fun _ _ _ h => h) (Or.inl ⟨by rfl, fun w hSw => by (obtain ⟨q0, q1, q2, q3, q4, q5, q6, q7, q8, qf⟩ := (bp.belowAll hSw).cells; clear hSw; go_simp)⟩) HS0.out ?_
    simp only [Act.put, List.setIfInBounds_toArray]
    dsimp only [List.set_cons_zero, List.set_cons_succ]
    refine wpZ_one (i := 2) (by kernel_rfl) rfl (fun K hK => ?_)
    go_simp
    refine (HON.out w0.drew).mono ?_
    rintro e wK1 ⟨rfl, hbK1⟩
    have hSK1 : Below w0.heap.size w0 wK1 := bStep (HS0.out) hbK1
    go_wp2_with fail
    refine hK.out _ _ (fun _ => hSK1) ?_
    clear hK K
    refine wpZ_take (i := 3) (v := .bool true) 8 rfl rfl (by kernel_rfl) (by kernel_rfl) (by kernel_rfl) (Or.inr (by decide)) (fun _ _ _ h => h) (Or.inl ⟨by rfl, fun w hSw => by go_simp⟩) hSK1 ?_
    simp only [Act.put, List.setIfInBounds_toArray]
    dsimp only [List.set_cons_zero, List.set_cons_succ]
    refine wpZ_take (i := 4) (v := .bool true) 9 rfl rfl (by kernel_rfl) (by kernel_rfl) (by kernel_rfl) (Or.inr (by decide)) (fun _ _ _ h => h) (Or.inl ⟨by rfl, fun w hSw => by go_simp⟩) hSK1 ?_
    simp only [Act.put, List.setIfInBounds_toArray]
    dsimp only [List.set_cons_zero, List.set_cons_succ]
    refine wpZ_take (i := 5) (v := undef) 10 rfl rfl (by kernel_rfl) (by kernel_rfl) (by kernel_rfl) (Or.inr (by decide)) (fun _ _ _ h => h) (Or.inr ⟨by rfl, rfl⟩) hSK1 ?_
    simp only [Act.put, List.setIfInBounds_toArray]
    dsimp only [List.set_cons_zero, List.set_cons_succ]
    refine wpZ_take (i := 6) (v := undef) 11 rfl rfl (by kernel_rfl) (by kernel_rfl) (by kernel_rfl) (Or.inr (by decide)) (fun _ _ _ h => h) (Or.inr ⟨by rfl, rfl⟩) hSK1 ?_
    simp only [Act.put, List.setIfInBounds_toArray]
    dsimp only [List.set_cons_zero, List.set_cons_succ]
    refine wpZ_take (i := 7) (v := undef) 12 rfl rfl (by kernel_rfl) (by kernel_rfl) (by kernel_rfl) (Or.inr (by decide)) (fun _ _ _ h => h) (Or.inr ⟨by rfl, rfl⟩) hSK1 ?_
    simp only [Act.put, List.setIfInBounds_toArray]
    dsimp only [List.set_cons_zero, List.set_cons_succ]
    refine wpZ_take (i := 8) (v := .bool true) 13 rfl rfl (by kernel_rfl) (by kernel_rfl) (by kernel_rfl) (Or.inr (by decide)) (fun _ _ _ h => h) (Or.inl ⟨by rfl, fun w hSw => by go_simp⟩) hSK1 ?_
    simp only [Act.put, List.setIfInBounds_toArray]
    dsimp only [List.set_cons_zero, List.set_cons_succ]
    refine wpZ_done (by kernel_rfl) ?_ _
    go_wp2_with fail
    go_meet
    exact ⟨rfl, hSK1⟩
  obtain ⟨rfl, hbx⟩ := hcut
  have br1 := br.belowAll hbx
  have hbw1 := bStep hbw0 hbx
  clear bp br hbw0 hbx
  go_wp2_with fail
  refine (HIN.out _).mono ?_
  rintro e w3 ⟨rfl, hb3⟩
  obtain ⟨r0, r1, r2, r3, r4, r5, r6, r7, r8, rf⟩ := (br1.belowAll hb3).cells
  go_wp2
  refine bodyPost_ret (v := .agg #[.int .u64 ((limb 0 (0) : Nat) : Int), .int .u64 ((limb 1 (0) : Nat) : Int), .int .u64 ((limb 2 (0) : Nat) : Int), .int .u64 ((limb 3 (0) : Nat) : Int), .int .u64 ((limb 0 (0) : Nat) : Int), .int .u64 ((limb 1 (0) : Nat) : Int), .int .u64 ((limb 2 (0) : Nat) : Int), .int .u64 ((limb 3 (0) : Nat) : Int), .bool true]) (by simp [results, Tryz.results12, go_sem, r0, r1, r2, r3, r4, r5, r6, r7, r8]) rfl ⟨rfl, ?_⟩
  exact bSet9 (bStep hbw1 hb3) hrw _ _ _ _ _ _ _ _ _
set_option maxHeartbeats 4000000 in
set_option maxRecDepth 20000 in
theorem rneg_out (c : Int) (hc : c < 0 ∨ 4 ≤ c) (x y : Nat) (i : Bool) (w : World) : Calls Tryz.prog 13 #[.int .i64 c, .agg #[.int .u64 ((limb 0 (x) : Nat) : Int), .int .u64 ((limb 1 (x) : Nat) : Int), .int .u64 ((limb 2 (x) : Nat) : Int), .int .u64 ((limb 3 (x) : Nat) : Int), .int .u64 ((limb 0 (y) : Nat) : Int), .int .u64 ((limb 1 (y) : Nat) : Int), .int .u64 ((limb 2 (y) : Nat) : Int), .int .u64 ((limb 3 (y) : Nat) : Int), .bool i]] w fun e w' => e = .returned (.agg #[.int .u64 ((limb 0 (0) : Nat) : Int), .int .u64 ((limb 1 (0) : Nat) : Int), .int .u64 ((limb 2 (0) : Nat) : Int), .int .u64 ((limb 3 (0) : Nat) : Int), .int .u64 ((limb 0 (0) : Nat) : Int), .int .u64 ((limb 1 (0) : Nat) : Int), .int .u64 ((limb 2 (0) : Nat) : Int), .int .u64 ((limb 3 (0) : Nat) : Int), .bool true]) ∧ Below w.heap.size w w' := by
  have HON : Hid (∀ w, _) := fun w => ron_out c hc x y i w
  have HIN : Hid (∀ w, _) := rInfinity_any
  clear hc
  go_enter Tryz.func13, Tryz.ntmps13
  go_upto_region 1 with fail
  obtain ⟨w0, hw0⟩ : ∃ w0 : World, w0 = (w.alloc (.cells #[.int .u64 ((limb 0 x : Nat) : Int), .int .u64 ((limb 1 x : Nat) : Int), .int .u64 ((limb 2 x : Nat) : Int), .int .u64 ((limb 3 x : Nat) : Int), .int .u64 ((limb 0 y : Nat) : Int), .int .u64 ((limb 1 y : Nat) : Int), .int .u64 ((limb 2 y : Nat) : Int), .int .u64 ((limb 3 y : Nat) : Int), .bool i] 26)).alloc (.cells #[.int .u64 0, .int .u64 0, .int .u64 0, .int .u64 0, .int .u64 0, .int .u64 0, .int .u64 0, .int .u64 0, .bool false] 26) := ⟨_, rfl⟩
  have bp : Pt w0 w.heap.size x y i := by rw [hw0]; exact (Pt.newAt _ _ _ _ _ rfl).alloc _
  have br : Pt w0 (w.heap.size + 1) 0 0 false := by rw [hw0]; exact Pt.zeroAt _ _ (by simp)
  have hbw0 : Below w.heap.size w w0 := by rw [hw0]; exact bAlloc ((Below.refl _ _).alloc (Nat.le_refl _) _) _
  have hrw : w.heap.size ≤ w.heap.size + 1 := Nat.le_succ _
  rw [← hw0]
  clear hw0
  obtain ⟨q0, q1, q2, q3, q4, q5, q6, q7, q8, qf⟩ := bp.cells
  go_wp2_with fail
  refine (HON.out _).mono ?_
  rintro e w1 ⟨rfl, hb1⟩
  clear q0 q1 q2 q3 q4 q5 q6 q7 q8 qf
  have br1 := br.belowAll hb1
  have hbw1 := bStep hbw0 hb1
  clear bp br hbw0 hb1
  go_wp2_with fail
  refine (HIN.out _).mono ?_
  rintro e w3 ⟨rfl, hb3⟩
  obtain ⟨r0, r1, r2, r3, r4, r5, r6, r7, r8, rf⟩ := (br1.belowAll hb3).cells
  go_wp2
  refine bodyPost_ret (v := .agg #[.int .u64 ((limb 0 (0) : Nat) : Int), .int .u64 ((limb 1 (0) : Nat) : Int), .int .u64 ((limb 2 (0) : Nat) : Int), .int .u64 ((limb 3 (0) : Nat) : Int), .int .u64 ((limb 0 (0) : Nat) : Int), .int .u64 ((limb 1 (0) : Nat) : Int), .int .u64 ((limb 2 (0) : Nat) : Int), .int .u64 ((limb 3 (0) : Nat) : Int), .bool true]) (by simp [results, Tryz.results13, go_sem, r0, r1, r2, r3, r4, r5, r6, r7, r8]) rfl ⟨rfl, ?_⟩
  exact bSet9 (bStep hbw1 hb3) hrw _ _ _ _ _ _ _ _ _
set_option maxHeartbeats 4000000 in
set_option maxRecDepth 20000 in
theorem add_out (c : Int) (hc : c < 0 ∨ 4 ≤ c) (x y u v : Nat) (i j : Bool) (w : World) : Calls Tryz.prog 14 #[.int .i64 c, .agg #[.int .u64 ((limb 0 (x) : Nat) : Int), .int .u64 ((limb 1 (x) : Nat) : Int), .int .u64 ((limb 2 (x) : Nat) : Int), .int .u64 ((limb 3 (x) : Nat) : Int), .int .u64 ((limb 0 (y) : Nat) : Int), .int .u64 ((limb 1 (y) : Nat) : Int), .int .u64 ((limb 2 (y) : Nat) : Int), .int .u64 ((limb 3 (y) : Nat) : Int), .bool i], .agg #[.int .u64 ((limb 0 (u) : Nat) : Int), .int .u64 ((limb 1 (u) : Nat) : Int), .int .u64 ((limb 2 (u) : Nat) : Int), .int .u64 ((limb 3 (u) : Nat) : Int), .int .u64 ((limb 0 (v) : Nat) : Int), .int .u64 ((limb 1 (v) : Nat) : Int), .int .u64 ((limb 2 (v) : Nat) : Int), .int .u64 ((limb 3 (v) : Nat) : Int), .bool j]] w fun e w' => e = .returned (.agg #[.int .u64 ((limb 0 (0) : Nat) : Int), .int .u64 ((limb 1 (0) : Nat) : Int), .int .u64 ((limb 2 (0) : Nat) : Int), .int .u64 ((limb 3 (0) : Nat) : Int), .int .u64 ((limb 0 (0) : Nat) : Int), .int .u64 ((limb 1 (0) : Nat) : Int), .int .u64 ((limb 2 (0) : Nat) : Int), .int .u64 ((limb 3 (0) : Nat) : Int), .bool true]) ∧ Below w.heap.size w w' := by
  have HON : Hid (∀ w, _) := fun w => on_out c hc x y i w
  have HIN : Hid (∀ w, _) := infinity_any
  clear hc
  go_enter Tryz.func14, Tryz.ntmps14
  go_upto_region 1 with fail
  obtain ⟨w0, hw0⟩ : ∃ w0 : World, w0 = ((w.alloc (.cells #[.int .u64 ((limb 0 x : Nat) : Int), .int .u64 ((limb 1 x : Nat) : Int), .int .u64 ((limb 2 x : Nat) : Int), .int .u64 ((limb 3 x : Nat) : Int), .int .u64 ((limb 0 y : Nat) : Int), .int .u64 ((limb 1 y : Nat) : Int), .int .u64 ((limb 2 y : Nat) : Int), .int .u64 ((limb 3 y : Nat) : Int), .bool i] 26)).alloc (.cells #[.int .u64 ((limb 0 u : Nat) : Int), .int .u64 ((limb 1 u : Nat) : Int), .int .u64 ((limb 2 u : Nat) : Int), .int .u64 ((limb 3 u : Nat) : Int), .int .u64 ((limb 0 v : Nat) : Int), .int .u64 ((limb 1 v : Nat) : Int), .int .u64 ((limb 2 v : Nat) : Int), .int .u64 ((limb 3 v : Nat) : Int), .bool j] 26)).alloc (.cells #[.int .u64 0, .int .u64 0, .int .u64 0, .int .u64 0, .int .u64 0, .int .u64 0, .int .u64 0, .int .u64 0, .bool false] 26) := ⟨_, rfl⟩
  have bp : Pt w0 w.heap.size x y i := by rw [hw0]; exact ((Pt.newAt _ _ _ _ _ rfl).alloc _).alloc _
  have br : Pt w0 (w.heap.size + 1 + 1) 0 0 false := by rw [hw0]; exact Pt.zeroAt _ _ (by simp)
  have hbw0 : Below w.heap.size w w0 := by rw [hw0]; exact bAlloc (bAlloc ((Below.refl _ _).alloc (Nat.le_refl _) _) _) _
  have hrw : w.heap.size ≤ w.heap.size + 1 + 1 := by omega
  rw [← hw0]
  clear hw0
  obtain ⟨q0, q1, q2, q3, q4, q5, q6, q7, q8, qf⟩ := bp.cells
  go_wp2_with fail
  refine (HON.out _).mono ?_
  rintro e w1 ⟨rfl, hb1⟩
  clear q0 q1 q2 q3 q4 q5 q6 q7 q8 qf
  have br1 := br.belowAll hb1
  have hbw1 := bStep hbw0 hb1
  clear bp br hbw0 hb1
  go_wp2_with fail
  refine (HIN.out _).mono ?_
  rintro e w3 ⟨rfl, hb3⟩
  obtain ⟨r0, r1, r2, r3, r4, r5, r6, r7, r8, rf⟩ := (br1.belowAll hb3).cells
  go_wp2
  refine bodyPost_ret (v := .agg #[.int .u64 ((limb 0 (0) : Nat) : Int), .int .u64 ((limb 1 (0) : Nat) : Int), .int .u64 ((limb 2 (0) : Nat) : Int), .int .u64 ((limb 3 (0) : Nat) : Int), .int .u64 ((limb 0 (0) : Nat) : Int), .int .u64 ((limb 1 (0) : Nat) : Int), .int .u64 ((limb 2 (0) : Nat) : Int), .int .u64 ((limb 3 (0) : Nat) : Int), .bool true]) (by simp [results, Tryz.results14, go_sem, r0, r1, r2, r3, r4, r5, r6, r7, r8]) rfl ⟨rfl, ?_⟩
  exact bSet9 (bStep hbw1 hb3) hrw _ _ _ _ _ _ _ _ _
set_option maxHeartbeats 4000000 in
set_option maxRecDepth 20000 in
theorem radd_out (c : Int) (hc : c < 0 ∨ 4 ≤ c) (x y u v : Nat) (i j : Bool) (w : World) : Calls Tryz.prog 15 #[.int .i64 c, .agg #[.int .u64 ((limb 0 (x) : Nat) : Int), .int .u64 ((limb 1 (x) : Nat) : Int), .int .u64 ((limb 2 (x) : Nat) : Int), .int .u64 ((limb 3 (x) : Nat) : Int), .int .u64 ((limb 0 (y) : Nat) : Int), .int .u64 ((limb 1 (y) : Nat) : Int), .int .u64 ((limb 2 (y) : Nat) : Int), .int .u64 ((limb 3 (y) : Nat) : Int), .bool i], .agg #[.int .u64 ((limb 0 (u) : Nat) : Int), .int .u64 ((limb 1 (u) : Nat) : Int), .int .u64 ((limb 2 (u) : Nat) : Int), .int .u64 ((limb 3 (u) : Nat) : Int), .int .u64 ((limb 0 (v) : Nat) : Int), .int .u64 ((limb 1 (v) : Nat) : Int), .int .u64 ((limb 2 (v) : Nat) : Int), .int .u64 ((limb 3 (v) : Nat) : Int), .bool j]] w fun e w' => e = .returned (.agg #[.int .u64 ((limb 0 (0) : Nat) : Int), .int .u64 ((limb 1 (0) : Nat) : Int), .int .u64 ((limb 2 (0) : Nat) : Int), .int .u64 ((limb 3 (0) : Nat) : Int), .int .u64 ((limb 0 (0) : Nat) : Int), .int .u64 ((limb 1 (0) : Nat) : Int), .int .u64 ((limb 2 (0) : Nat) : Int), .int .u64 ((limb 3 (0) : Nat) : Int), .bool true]) ∧ Below w.heap.size w w' := by
  have HON : Hid (∀ w, _) := fun w => ron_out c hc x y i w
  have HIN : Hid (∀ w, _) := rInfinity_any
  clear hc
  go_enter Tryz.func15, Tryz.ntmps15
  go_upto_region 1 with fail
  obtain ⟨w0, hw0⟩ : ∃ w0 : World, w0 = ((w.alloc (.cells #[.int .u64 ((limb 0 x : Nat) : Int), .int .u64 ((limb 1 x : Nat) : Int), .int .u64 ((limb 2 x : Nat) : Int), .int .u64 ((limb 3 x : Nat) : Int), .int .u64 ((limb 0 y : Nat) : Int), .int .u64 ((limb 1 y : Nat) : Int), .int .u64 ((limb 2 y : Nat) : Int), .int .u64 ((limb 3 y : Nat) : Int), .bool i] 26)).alloc (.cells #[.int .u64 ((limb 0 u : Nat) : Int), .int .u64 ((limb 1 u : Nat) : Int), .int .u64 ((limb 2 u : Nat) : Int), .int .u64 ((limb 3 u : Nat) : Int), .int .u64 ((limb 0 v : Nat) : Int), .int .u64 ((limb 1 v : Nat) : Int), .int .u64 ((limb 2 v : Nat) : Int), .int .u64 ((limb 3 v : Nat) : Int), .bool j] 26)).alloc (.cells #[.int .u64 0, .int .u64 0, .int .u64 0, .int .u64 0, .int .u64 0, .int .u64 0, .int .u64 0, .int .u64 0, .bool false] 26) := ⟨_, rfl⟩
  have bp : Pt w0 w.heap.size x y i := by rw [hw0]; exact ((Pt.newAt _ _ _ _ _ rfl).alloc _).alloc _
  have br : Pt w0 (w.heap.size + 1 + 1) 0 0 false := by rw [hw0]; exact Pt.zeroAt _ _ (by simp)
  have hbw0 : Below w.heap.size w w0 := by rw [hw0]; exact bAlloc (bAlloc ((Below.refl _ _).alloc (Nat.le_refl _) _) _) _
  have hrw : w.heap.size ≤ w.heap.size + 1 + 1 := by omega
  rw [← hw0]
  clear hw0
  obtain ⟨q0, q1, q2, q3, q4, q5, q6, q7, q8, qf⟩ := bp.cells
  go_wp2_with fail
  refine (HON.out _).mono ?_
  rintro e w1 ⟨rfl, hb1⟩
  clear q0 q1 q2 q3 q4 q5 q6 q7 q8 qf
  have br1 := br.belowAll hb1
  have hbw1 := bStep hbw0 hb1
  clear bp br hbw0 hb1
  go_wp2_with fail
  refine (HIN.out _).mono ?_
  rintro e w3 ⟨rfl, hb3⟩
  obtain ⟨r0, r1, r2, r3, r4, r5, r6, r7, r8, rf⟩ := (br1.belowAll hb3).cells
  go_wp2
  refine bodyPost_ret (v := .agg #[.int .u64 ((limb 0 (0) : Nat) : Int), .int .u64 ((limb 1 (0) : Nat) : Int), .int .u64 ((limb 2 (0) : Nat) : Int), .int .u64 ((limb 3 (0) : Nat) : Int), .int .u64 ((limb 0 (0) : Nat) : Int), .int .u64 ((limb 1 (0) : Nat) : Int), .int .u64 ((limb 2 (0) : Nat) : Int), .int .u64 ((limb 3 (0) : Nat) : Int), .bool true]) (by simp [results, Tryz.results15, go_sem, r0, r1, r2, r3, r4, r5, r6, r7, r8]) rfl ⟨rfl, ?_⟩
  exact bSet9 (bStep hbw1 hb3) hrw _ _ _ _ _ _ _ _ _
/-- CurveSums of anything. -/
theorem csums_walk (c : Int) (x y u v : Nat) (i j : Bool) (hx : x < 115792089237316195423570985008687907853269984665640564039457584007913129639936) (hy : y < 115792089237316195423570985008687907853269984665640564039457584007913129639936) (hu : u < 115792089237316195423570985008687907853269984665640564039457584007913129639936) (hv : v < 115792089237316195423570985008687907853269984665640564039457584007913129639936) (w : World) (hg : GlobC w) :
    Calls Tryz.prog 3 #[.int .i64 c, .agg #[.int .u64 ((limb 0 (x) : Nat) : Int), .int .u64 ((limb 1 (x) : Nat) : Int), .int .u64 ((limb 2 (x) : Nat) : Int), .int .u64 ((limb 3 (x) : Nat) : Int), .int .u64 ((limb 0 (y) : Nat) : Int), .int .u64 ((limb 1 (y) : Nat) : Int), .int .u64 ((limb 2 (y) : Nat) : Int), .int .u64 ((limb 3 (y) : Nat) : Int), .bool i], .agg #[.int .u64 ((limb 0 (u) : Nat) : Int), .int .u64 ((limb 1 (u) : Nat) : Int), .int .u64 ((limb 2 (u) : Nat) : Int), .int .u64 ((limb 3 (u) : Nat) : Int), .int .u64 ((limb 0 (v) : Nat) : Int), .int .u64 ((limb 1 (v) : Nat) : Int), .int .u64 ((limb 2 (v) : Nat) : Int), .int .u64 ((limb 3 (v) : Nat) : Int), .bool j]] w fun e w' => e = .returned (.bool true) ∧ Below w.heap.size w w' := by
  by_cases hc : c < 0 ∨ 4 ≤ c
  · exact csums_gen c x y u v 0 0 0 0 i j false true true (by decide) (by decide) (by decide) (by decide) (fun w _ => on_out c hc x y i w) (fun w _ => ron_out c hc x y i w) (fun w _ => neg_out c hc x y i w) (fun w _ => rneg_out c hc x y i w) (fun w _ => add_out c hc x y u v i j w) (fun w _ => radd_out c hc x y u v i j w) w hg
  · obtain ⟨n, rfl⟩ : ∃ n : Nat, c = (n : Int) := ⟨c.toNat, by omega⟩
    exact csums_in n x y u v i j (by omega) hx hy hu hv w hg

end Go.Proofs.YthkajdmcmodklaaGreatDoor
