/- What curve.opposite and curve.Neg do. -/
import Derived.Test.YtjpjnmhjbmmaiaaGreatDoorUKD
namespace Go.Proofs.YtjpjnmhjbmmaiaaGreatDoor
open Go.RowKit
set_option maxHeartbeats 4000000 in
set_option maxRecDepth 20000 in
theorem opposite_any (c x y : Nat) (i : Bool) (hc : c < 4) (hy : y < 115792089237316195423570985008687907853269984665640564039457584007913129639936) (w : World) (hg : GlobC w) : Calls Tryz.prog 35 #[.int .i64 (c : Int), .agg #[.int .u64 ((limb 0 (x) : Nat) : Int), .int .u64 ((limb 1 (x) : Nat) : Int), .int .u64 ((limb 2 (x) : Nat) : Int), .int .u64 ((limb 3 (x) : Nat) : Int), .int .u64 ((limb 0 (y) : Nat) : Int), .int .u64 ((limb 1 (y) : Nat) : Int), .int .u64 ((limb 2 (y) : Nat) : Int), .int .u64 ((limb 3 (y) : Nat) : Int), .bool i]] w fun e w' => e = .returned (.agg #[.int .u64 ((limb 0 (x) : Nat) : Int), .int .u64 ((limb 1 (x) : Nat) : Int), .int .u64 ((limb 2 (x) : Nat) : Int), .int .u64 ((limb 3 (x) : Nat) : Int), .int .u64 ((limb 0 ((subP c 0 y)) : Nat) : Int), .int .u64 ((limb 1 ((subP c 0 y)) : Nat) : Int), .int .u64 ((limb 2 ((subP c 0 y)) : Nat) : Int), .int .u64 ((limb 3 ((subP c 0 y)) : Nat) : Int), .bool false]) ∧ Below w.heap.size w w' := by
  have HG0 : Hid (GlobC w) := hg
  have HN : Hid (∀ w, Glob w → _) := fun w hg => fNeg_any c y hc hy w hg
  obtain ⟨ny, eny⟩ : ∃ z, z = subP c 0 y := ⟨_, rfl⟩
  rw [← eny] at HN ⊢
  clear hg eny
  go_enter Tryz.func35, Tryz.ntmps35
  go_upto_region 1 with fail
  obtain ⟨w0, hw0⟩ : ∃ w0 : World, w0 = (w.alloc (.cells #[.int .u64 ((limb 0 x : Nat) : Int), .int .u64 ((limb 1 x : Nat) : Int), .int .u64 ((limb 2 x : Nat) : Int), .int .u64 ((limb 3 x : Nat) : Int), .int .u64 ((limb 0 y : Nat) : Int), .int .u64 ((limb 1 y : Nat) : Int), .int .u64 ((limb 2 y : Nat) : Int), .int .u64 ((limb 3 y : Nat) : Int), .bool i] 26)).alloc (.cells #[.int .u64 0, .int .u64 0, .int .u64 0, .int .u64 0, .int .u64 0, .int .u64 0, .int .u64 0, .int .u64 0, .bool false] 26) := ⟨_, rfl⟩
  have bp : Pt w0 w.heap.size x y i := by rw [hw0]; exact (Pt.newAt _ _ _ _ _ rfl).alloc _
  have br : Pt w0 (w.heap.size + 1) 0 0 false := by rw [hw0]; exact Pt.zeroAt _ _ (by simp)
  have hbw0 : Below w.heap.size w w0 := by rw [hw0]; exact bAlloc ((Below.refl _ _).alloc (Nat.le_refl _) _) _
  have hrw : w.heap.size ≤ w.heap.size + 1 := Nat.le_succ _
  rw [← hw0]
  clear hw0
  have HG : Hid (GlobC w0) := HG0.out.below hbw0
  have HS0 : Hid (Below w0.heap.size w0 w0.drew) := (Below.refl _ _).drew
  refine wp_region_Z (fun w' => Below w0.heap.size w0 w') 7 (by kernel_rfl) ?_
  refine wpZ_take (i := 0) (v := .pointer (some ⟨w.heap.size, 0, none⟩)) 5 rfl rfl (by kernel_rfl) (by kernel_rfl) (by kernel_rfl) (Or.inl (by kernel_rfl)) (fun _ _ _ h => h) (Or.inl ⟨by rfl, fun w hSw => by go_simp⟩) HS0.out ?_
  simp only [Act.put, List.setIfInBounds_toArray]
  dsimp only [List.set_cons_zero, List.set_cons_succ]
  refine wpZ_take (i := 1) (v := .agg #[.int .u64 ((limb 0 (x) : Nat) : Int), .int .u64 ((limb 1 (x) : Nat) : Int), .int .u64 ((limb 2 (x) : Nat) : Int), .int .u64 ((limb 3 (x) : Nat) : Int)]) 6 rfl rfl (by kernel_rfl) (by kernel_rfl) (by kernel_rfl) (Or.inl (by kernel_rfl)) (fun _ _ _ h => h) (Or.inl ⟨by rfl, fun w hSw => by (obtain ⟨q0, q1, q2, q3, q4, q5, q6, q7, q8, qf⟩ := (bp.belowAll hSw).cells; clear hSw; go_simp)⟩) HS0.out ?_
  simp only [Act.put, List.setIfInBounds_toArray]
  dsimp only [List.set_cons_zero, List.set_cons_succ]
  refine wpZ_take (i := 2) (v := .int .i64 (c : Int)) 7 rfl rfl (by kernel_rfl) (by kernel_rfl) (by kernel_rfl) (Or.inl (by kernel_rfl)) (fun _ _ _ h => h) (Or.inl ⟨by rfl, fun w hSw => by go_simp⟩) HS0.out ?_
  simp only [Act.put, List.setIfInBounds_toArray]
  dsimp only [List.set_cons_zero, List.set_cons_succ]
  refine wpZ_take (i := 3) (v := .pointer (some ⟨w.heap.size, 4, none⟩)) 8 rfl rfl (by kernel_rfl) (by kernel_rfl) (by kernel_rfl) (Or.inl (by kernel_rfl)) (fun _ _ _ h => h) (Or.inl ⟨by rfl, fun w hSw => by go_simp⟩) HS0.out ?_
  simp only [Act.put, List.setIfInBounds_toArray]
  dsimp only [List.set_cons_zero, List.set_cons_succ]
  refine wpZ_take (i := 4) (v := .agg #[.int .u64 ((limb 0 (y) : Nat) : Int), .int .u64 ((limb 1 (y) : Nat) : Int), .int .u64 ((limb 2 (y) : Nat) : Int), .int .u64 ((limb 3 (y) : Nat) : Int)]) 9 rfl rfl (by kernel_rfl) (by kernel_rfl) (by kernel_rfl) (Or.inl (by kernel_rfl)) (fun _ _ _ h => h) (Or.inl ⟨by rfl, fun w hSw => by (obtain ⟨q0, q1, q2, q3, q4, q5, q6, q7, q8, qf⟩ := (bp.belowAll hSw).cells; clear hSw; go_simp)⟩) HS0.out ?_
  simp only [Act.put, List.setIfInBounds_toArray]
  dsimp only [List.set_cons_zero, List.set_cons_succ]
  refine wpZ_one (i := 5) (by kernel_rfl) rfl (fun K hK => ?_)
  go_simp
  refine (HN.out w0.drew (HG.out.below (HS0.out)).1).mono ?_
  rintro e wK1 ⟨rfl, hbK1⟩
  have hSK1 : Below w0.heap.size w0 wK1 := bStep (HS0.out) hbK1
  go_wp2_with fail
  refine hK.out _ _ (fun _ => hSK1) ?_
  clear hK K
  refine wpZ_take (i := 6) (v := .agg #[.int .u64 ((limb 0 (x) : Nat) : Int), .int .u64 ((limb 1 (x) : Nat) : Int), .int .u64 ((limb 2 (x) : Nat) : Int), .int .u64 ((limb 3 (x) : Nat) : Int), .int .u64 ((limb 0 (ny) : Nat) : Int), .int .u64 ((limb 1 (ny) : Nat) : Int), .int .u64 ((limb 2 (ny) : Nat) : Int), .int .u64 ((limb 3 (ny) : Nat) : Int), .bool false]) 11 rfl rfl (by kernel_rfl) (by kernel_rfl) (by kernel_rfl) (Or.inl (by kernel_rfl)) (fun _ _ _ h => h) (Or.inl ⟨by rfl, fun w hSw => by go_simp⟩) hSK1 ?_
  simp only [Act.put, List.setIfInBounds_toArray]
  dsimp only [List.set_cons_zero, List.set_cons_succ]
  refine wpZ_one (i := 7) (by kernel_rfl) rfl (fun K hK => ?_)
  obtain ⟨r0, r1, r2, r3, r4, r5, r6, r7, r8, rf⟩ := (br.belowAll (hSK1)).cells
  go_simp
  refine hK.out _ _ (fun h => absurd rfl h) ?_
  clear hK K
  refine wpZ_done (by kernel_rfl) ?_ _
  go_wp2
  refine bodyPost_ret (v := .agg #[.int .u64 ((limb 0 (x) : Nat) : Int), .int .u64 ((limb 1 (x) : Nat) : Int), .int .u64 ((limb 2 (x) : Nat) : Int), .int .u64 ((limb 3 (x) : Nat) : Int), .int .u64 ((limb 0 (ny) : Nat) : Int), .int .u64 ((limb 1 (ny) : Nat) : Int), .int .u64 ((limb 2 (ny) : Nat) : Int), .int .u64 ((limb 3 (ny) : Nat) : Int), .bool false]) (by simp [results, Tryz.results35, go_sem, r0, r1, r2, r3, r4, r5, r6, r7, r8]) rfl ⟨rfl, ?_⟩
  exact bSet9 (bStep hbw0 (hSK1)) hrw _ _ _ _ _ _ _ _ _
set_option maxHeartbeats 8000000 in
set_option maxRecDepth 20000 in
theorem neg_in (c x y : Nat) (i : Bool) (hc : c < 4) (hx : x < 115792089237316195423570985008687907853269984665640564039457584007913129639936) (hy : y < 115792089237316195423570985008687907853269984665640564039457584007913129639936) (w : World) (hg : GlobC w) : Calls Tryz.prog 12 #[.int .i64 (c : Int), .agg #[.int .u64 ((limb 0 (x) : Nat) : Int), .int .u64 ((limb 1 (x) : Nat) : Int), .int .u64 ((limb 2 (x) : Nat) : Int), .int .u64 ((limb 3 (x) : Nat) : Int), .int .u64 ((limb 0 (y) : Nat) : Int), .int .u64 ((limb 1 (y) : Nat) : Int), .int .u64 ((limb 2 (y) : Nat) : Int), .int .u64 ((limb 3 (y) : Nat) : Int), .bool i]] w fun e w' => e = .returned (.agg #[.int .u64 ((limb 0 ((negX c x y i)) : Nat) : Int), .int .u64 ((limb 1 ((negX c x y i)) : Nat) : Int), .int .u64 ((limb 2 ((negX c x y i)) : Nat) : Int), .int .u64 ((limb 3 ((negX c x y i)) : Nat) : Int), .int .u64 ((limb 0 ((negY c x y i)) : Nat) : Int), .int .u64 ((limb 1 ((negY c x y i)) : Nat) : Int), .int .u64 ((limb 2 ((negY c x y i)) : Nat) : Int), .int .u64 ((limb 3 ((negY c x y i)) : Nat) : Int), .bool (negI c x y i)]) ∧ Below w.heap.size w w' := by
  have HG0 : Hid (GlobC w) := hg
  have HON : Hid (∀ w, GlobC w → _) := fun w hg => on_in c x y i hc hx hy w hg
  have HIN : Hid (∀ w, _) := infinity_any
  have HOP : Hid (∀ w, GlobC w → _) := fun w hg => opposite_any c x y i hc hy w hg
  have QI := fun w => eqlP x y 0 0 i true hx hy (by decide) (by decide) w
  have HA : Hid (¬ (onC c x y i ∧ i = false) → (.agg #[.int .u64 ((limb 0 ((negX c x y i)) : Nat) : Int), .int .u64 ((limb 1 ((negX c x y i)) : Nat) : Int), .int .u64 ((limb 2 ((negX c x y i)) : Nat) : Int), .int .u64 ((limb 3 ((negX c x y i)) : Nat) : Int), .int .u64 ((limb 0 ((negY c x y i)) : Nat) : Int), .int .u64 ((limb 1 ((negY c x y i)) : Nat) : Int), .int .u64 ((limb 2 ((negY c x y i)) : Nat) : Int), .int .u64 ((limb 3 ((negY c x y i)) : Nat) : Int), .bool (negI c x y i)] : Value) = .agg #[.int .u64 ((limb 0 (0) : Nat) : Int), .int .u64 ((limb 1 (0) : Nat) : Int), .int .u64 ((limb 2 (0) : Nat) : Int), .int .u64 ((limb 3 (0) : Nat) : Int), .int .u64 ((limb 0 (0) : Nat) : Int), .int .u64 ((limb 1 (0) : Nat) : Int), .int .u64 ((limb 2 (0) : Nat) : Int), .int .u64 ((limb 3 (0) : Nat) : Int), .bool true]) := fun h => by unfold negX negY negI; rw [if_neg h, if_neg h, decide_eq_false h]; rfl
  have HB : Hid (onC c x y i ∧ i = false → (.agg #[.int .u64 ((limb 0 ((negX c x y i)) : Nat) : Int), .int .u64 ((limb 1 ((negX c x y i)) : Nat) : Int), .int .u64 ((limb 2 ((negX c x y i)) : Nat) : Int), .int .u64 ((limb 3 ((negX c x y i)) : Nat) : Int), .int .u64 ((limb 0 ((negY c x y i)) : Nat) : Int), .int .u64 ((limb 1 ((negY c x y i)) : Nat) : Int), .int .u64 ((limb 2 ((negY c x y i)) : Nat) : Int), .int .u64 ((limb 3 ((negY c x y i)) : Nat) : Int), .bool (negI c x y i)] : Value) = .agg #[.int .u64 ((limb 0 (x) : Nat) : Int), .int .u64 ((limb 1 (x) : Nat) : Int), .int .u64 ((limb 2 (x) : Nat) : Int), .int .u64 ((limb 3 (x) : Nat) : Int), .int .u64 ((limb 0 ((subP c 0 y)) : Nat) : Int), .int .u64 ((limb 1 ((subP c 0 y)) : Nat) : Int), .int .u64 ((limb 2 ((subP c 0 y)) : Nat) : Int), .int .u64 ((limb 3 ((subP c 0 y)) : Nat) : Int), .bool false]) := fun h => by unfold negX negY negI; rw [if_pos h, if_pos h, decide_eq_true h]; rfl
  obtain ⟨V, eV⟩ : ∃ V : Value, V = .agg #[.int .u64 ((limb 0 ((negX c x y i)) : Nat) : Int), .int .u64 ((limb 1 ((negX c x y i)) : Nat) : Int), .int .u64 ((limb 2 ((negX c x y i)) : Nat) : Int), .int .u64 ((limb 3 ((negX c x y i)) : Nat) : Int), .int .u64 ((limb 0 ((negY c x y i)) : Nat) : Int), .int .u64 ((limb 1 ((negY c x y i)) : Nat) : Int), .int .u64 ((limb 2 ((negY c x y i)) : Nat) : Int), .int .u64 ((limb 3 ((negY c x y i)) : Nat) : Int), .bool (negI c x y i)] := ⟨_, rfl⟩
  rw [← eV] at HA HB ⊢
  obtain ⟨ny, eny⟩ : ∃ z, z = subP c 0 y := ⟨_, rfl⟩
  rw [← eny] at HOP HB
  have HCO : Hid (onC c x y i → (x = 0 ∧ y = 0 ∧ i = true) ∨ i = false) := fun h => by
    unfold onC at h
    rcases h with h | h
    · exact Or.inl h
    · exact Or.inr h.1
  clear hg eny eV
  go_enter Tryz.func12, Tryz.ntmps12
  go_upto_region 1 with fail
  obtain ⟨w0, hw0⟩ : ∃ w0 : World, w0 = (w.alloc (.cells #[.int .u64 ((limb 0 x : Nat) : Int), .int .u64 ((limb 1 x : Nat) : Int), .int .u64 ((limb 2 x : Nat) : Int), .int .u64 ((limb 3 x : Nat) : Int), .int .u64 ((limb 0 y : Nat) : Int), .int .u64 ((limb 1 y : Nat) : Int), .int .u64 ((limb 2 y : Nat) : Int), .int .u64 ((limb 3 y : Nat) : Int), .bool i] 26)).alloc (.cells #[.int .u64 0, .int .u64 0, .int .u64 0, .int .u64 0, .int .u64 0, .int .u64 0, .int .u64 0, .int .u64 0, .bool false] 26) := ⟨_, rfl⟩
  have bp : Pt w0 w.heap.size x y i := by rw [hw0]; exact (Pt.newAt _ _ _ _ _ rfl).alloc _
  have br : Pt w0 (w.heap.size + 1) 0 0 false := by rw [hw0]; exact Pt.zeroAt _ _ (by simp)
  have hbw0 : Below w.heap.size w w0 := by rw [hw0]; exact bAlloc ((Below.refl _ _).alloc (Nat.le_refl _) _) _
  have hrw : w.heap.size ≤ w.heap.size + 1 := Nat.le_succ _
  rw [← hw0]
  clear hw0
  have HG : Hid (GlobC w0) := HG0.out.below hbw0
  by_cases hon : onC c x y i
  · rw [decide_eq_true hon] at HON
    by_cases hI : x = 0 ∧ y = 0 ∧ i = true
    · rw [decide_eq_true hI] at QI
      have HV := HA.out (fun h => by rw [h.2] at hI; exact absurd hI.2.2 (by decide))
      have HVV := (show Hid _ from HV)
      clear HV hI hon HA HB HCO
      go_cut [13] (fun b wx => b = .bool true ∧ Below w0.heap.size w0 wx)
      case first =>
        have HS0 : Hid (Below w0.heap.size w0 w0.drew) := (Below.refl _ _).drew
        refine wp_region_Z (fun w' => Below w0.heap.size w0 w') 99 (by kernel_rfl) ?_
        refine wpZ_take (i := 0) (v := .int .i64 (c : Int)) 5 rfl rfl (by kernel_rfl) (by kernel_rfl) (by kernel_rfl) (Or.inr (by decide)) (fun _ _ _ h => h) (Or.inl ⟨by rfl, fun w hSw => by go_simp⟩) HS0.out ?_
        simp only [Act.put, List.setIfInBounds_toArray]
        dsimp only [List.set_cons_zero, List.set_cons_succ]
        refine wpZ_take (i := 1) (v := .agg #[.int .u64 ((limb 0 (x) : Nat) : Int), .int .u64 ((limb 1 (x) : Nat) : Int), .int .u64 ((limb 2 (x) : Nat) : Int), .int .u64 ((limb 3 (x) : Nat) : Int), .int .u64 ((limb 0 (y) : Nat) : Int), .int .u64 ((limb 1 (y) : Nat) : Int), .int .u64 ((limb 2 (y) : Nat) : Int), .int .u64 ((limb 3 (y) : Nat) : Int), .bool i]) 6 rfl rfl (by kernel_rfl) (by kernel_rfl) (by kernel_rfl) (Or.inr (by decide)) (fun _ _ _ h => h) (Or.inl ⟨by rfl, fun w hSw => by (obtain ⟨q0, q1, q2, q3, q4, q5, q6, q7, q8, qf⟩ := (bp.belowAll hSw).cells; clear hSw; go_simp)⟩) HS0.out ?_
        simp only [Act.put, List.setIfInBounds_toArray]
        dsimp only [List.set_cons_zero, List.set_cons_succ]
        refine wpZ_one (i := 2) (by kernel_rfl) rfl (fun K hK => ?_)
        go_simp
        refine (HON.out w0.drew (HG.out.below (HS0.out))).mono ?_
        rintro e wK1 ⟨rfl, hbK1⟩
        have hSK1 : Below w0.heap.size w0 wK1 := bStep (HS0.out) hbK1
        go_wp2_with fail
        refine hK.out _ _ (fun _ => hSK1) ?_
        clear hK K
        refine wpZ_take (i := 3) (v := .bool false) 8 rfl rfl (by kernel_rfl) (by kernel_rfl) (by kernel_rfl) (Or.inr (by decide)) (fun _ _ _ h => h) (Or.inl ⟨by rfl, fun w hSw => by go_simp⟩) hSK1 ?_
        simp only [Act.put, List.setIfInBounds_toArray]
        dsimp only [List.set_cons_zero, List.set_cons_succ]
        refine wpZ_take (i := 4) (v := .bool false) 9 rfl rfl (by kernel_rfl) (by kernel_rfl) (by kernel_rfl) (Or.inr (by decide)) (fun _ _ _ h => h) (Or.inl ⟨by rfl, fun w hSw => by go_simp⟩) hSK1 ?_
        simp only [Act.put, List.setIfInBounds_toArray]
        dsimp only [List.set_cons_zero, List.set_cons_succ]
        refine wpZ_take (i := 5) (v := .agg #[.int .u64 ((limb 0 (x) : Nat) : Int), .int .u64 ((limb 1 (x) : Nat) : Int), .int .u64 ((limb 2 (x) : Nat) : Int), .int .u64 ((limb 3 (x) : Nat) : Int), .int .u64 ((limb 0 (y) : Nat) : Int), .int .u64 ((limb 1 (y) : Nat) : Int), .int .u64 ((limb 2 (y) : Nat) : Int), .int .u64 ((limb 3 (y) : Nat) : Int), .bool i]) 10 rfl rfl (by kernel_rfl) (by kernel_rfl) (by kernel_rfl) (Or.inr (by decide)) (fun _ _ _ h => h) (Or.inl ⟨by rfl, fun w hSw => by (obtain ⟨q0, q1, q2, q3, q4, q5, q6, q7, q8, qf⟩ := (bp.belowAll hSw).cells; clear hSw; go_simp)⟩) hSK1 ?_
        simp only [Act.put, List.setIfInBounds_toArray]
        dsimp only [List.set_cons_zero, List.set_cons_succ]
        refine wpZ_one (i := 6) (by kernel_rfl) rfl (fun K hK => ?_)
        go_simp
        refine (HIN.out wK1).mono ?_
        rintro e wK2 ⟨rfl, hbK2⟩
        have hSK2 : Below w0.heap.size w0 wK2 := bStep (hSK1) hbK2
        go_wp2_with fail
        refine hK.out _ _ (fun _ => hSK2) ?_
        clear hK K
        refine wpZ_take (i := 7) (v := .bool true) 12 rfl rfl (by kernel_rfl) (by kernel_rfl) (by kernel_rfl) (Or.inr (by decide)) (fun _ _ _ h => h) (Or.inl ⟨by rfl, fun w hSw => by go_simp⟩) hSK2 ?_
        simp only [Act.put, List.setIfInBounds_toArray]
        dsimp only [List.set_cons_zero, List.set_cons_succ]
        refine wpZ_take (i := 8) (v := .bool true) 13 rfl rfl (by kernel_rfl) (by kernel_rfl) (by kernel_rfl) (Or.inr (by decide)) (fun _ _ _ h => h) (Or.inl ⟨by rfl, fun w hSw => by go_simp⟩) hSK2 ?_
        simp only [Act.put, List.setIfInBounds_toArray]
        dsimp only [List.set_cons_zero, List.set_cons_succ]
        refine wpZ_done (by kernel_rfl) ?_ _
        go_wp2_with fail
        go_meet
        exact ⟨rfl, hSK2⟩
      obtain ⟨rfl, hbx⟩ := hcut
      have bp1 := bp.belowAll hbx; have br1 := br.belowAll hbx
      have hbw1 := bStep hbw0 hbx
      have HG1 : Hid (GlobC wc) := HG.out.below hbx
      clear bp br hbw0 hbx HG
      obtain ⟨q0, q1, q2, q3, q4, q5, q6, q7, q8, qf⟩ := bp1.cells
      go_wp2_with fail
      refine (HIN.out _).mono ?_
      rintro e w3 ⟨rfl, hb3⟩
      obtain ⟨r0, r1, r2, r3, r4, r5, r6, r7, r8, rf⟩ := (br1.belowAll hb3).cells
      go_wp2
      refine bodyPost_ret (v := .agg #[.int .u64 ((limb 0 (0) : Nat) : Int), .int .u64 ((limb 1 (0) : Nat) : Int), .int .u64 ((limb 2 (0) : Nat) : Int), .int .u64 ((limb 3 (0) : Nat) : Int), .int .u64 ((limb 0 (0) : Nat) : Int), .int .u64 ((limb 1 (0) : Nat) : Int), .int .u64 ((limb 2 (0) : Nat) : Int), .int .u64 ((limb 3 (0) : Nat) : Int), .bool true]) (by simp [results, Tryz.results12, go_sem, r0, r1, r2, r3, r4, r5, r6, r7, r8]) rfl ⟨by rw [HVV.out], ?_⟩
      exact bSet9 (bStep hbw1 hb3) hrw _ _ _ _ _ _ _ _ _
    · rw [decide_eq_false hI] at QI
      have hif : i = false := by
        rcases HCO.out hon with h | h
        · exact absurd h hI
        · exact h
      have HV := HB.out ⟨hon, hif⟩
      have HVV := (show Hid _ from HV)
      clear HV hI hon HA HB HCO hif
      go_cut [13] (fun b wx => b = .bool false ∧ Below w0.heap.size w0 wx)
      case first =>
        have HS0 : Hid (Below w0.heap.size w0 w0.drew) := (Below.refl _ _).drew
        refine wp_region_Z (fun w' => Below w0.heap.size w0 w') 99 (by kernel_rfl) ?_
        refine wpZ_take (i := 0) (v := .int .i64 (c : Int)) 5 rfl rfl (by kernel_rfl) (by kernel_rfl) (by kernel_rfl) (Or.inr (by decide)) (fun _ _ _ h => h) (Or.inl ⟨by rfl, fun w hSw => by go_simp⟩) HS0.out ?_
        simp only [Act.put, List.setIfInBounds_toArray]
        dsimp only [List.set_cons_zero, List.set_cons_succ]
        refine wpZ_take (i := 1) (v := .agg #[.int .u64 ((limb 0 (x) : Nat) : Int), .int .u64 ((limb 1 (x) : Nat) : Int), .int .u64 ((limb 2 (x) : Nat) : Int), .int .u64 ((limb 3 (x) : Nat) : Int), .int .u64 ((limb 0 (y) : Nat) : Int), .int .u64 ((limb 1 (y) : Nat) : Int), .int .u64 ((limb 2 (y) : Nat) : Int), .int .u64 ((limb 3 (y) : Nat) : Int), .bool i]) 6 rfl rfl (by kernel_rfl) (by kernel_rfl) (by kernel_rfl) (Or.inr (by decide)) (fun _ _ _ h => h) (Or.inl ⟨by rfl, fun w hSw => by (obtain ⟨q0, q1, q2, q3, q4, q5, q6, q7, q8, qf⟩ := (bp.belowAll hSw).cells; clear hSw; go_simp)⟩) HS0.out ?_
        simp only [Act.put, List.setIfInBounds_toArray]
        dsimp only [List.set_cons_zero, List.set_cons_succ]
        refine wpZ_one (i := 2) (by kernel_rfl) rfl (fun K hK => ?_)
        go_simp
        refine (HON.out w0.drew (HG.out.below (HS0.out))).mono ?_
        rintro e wK1 ⟨rfl, hbK1⟩
        have hSK1 : Below w0.heap.size w0 wK1 := bStep (HS0.out) hbK1
        go_wp2_with fail
        refine hK.out _ _ (fun _ => hSK1) ?_
        clear hK K
        refine wpZ_take (i := 3) (v := .bool false) 8 rfl rfl (by kernel_rfl) (by kernel_rfl) (by kernel_rfl) (Or.inr (by decide)) (fun _ _ _ h => h) (Or.inl ⟨by rfl, fun w hSw => by go_simp⟩) hSK1 ?_
        simp only [Act.put, List.setIfInBounds_toArray]
        dsimp only [List.set_cons_zero, List.set_cons_succ]
        refine wpZ_take (i := 4) (v := .bool false) 9 rfl rfl (by kernel_rfl) (by kernel_rfl) (by kernel_rfl) (Or.inr (by decide)) (fun _ _ _ h => h) (Or.inl ⟨by rfl, fun w hSw => by go_simp⟩) hSK1 ?_
        simp only [Act.put, List.setIfInBounds_toArray]
        dsimp only [List.set_cons_zero, List.set_cons_succ]
        refine wpZ_take (i := 5) (v := .agg #[.int .u64 ((limb 0 (x) : Nat) : Int), .int .u64 ((limb 1 (x) : Nat) : Int), .int .u64 ((limb 2 (x) : Nat) : Int), .int .u64 ((limb 3 (x) : Nat) : Int), .int .u64 ((limb 0 (y) : Nat) : Int), .int .u64 ((limb 1 (y) : Nat) : Int), .int .u64 ((limb 2 (y) : Nat) : Int), .int .u64 ((limb 3 (y) : Nat) : Int), .bool i]) 10 rfl rfl (by kernel_rfl) (by kernel_rfl) (by kernel_rfl) (Or.inr (by decide)) (fun _ _ _ h => h) (Or.inl ⟨by rfl, fun w hSw => by (obtain ⟨q0, q1, q2, q3, q4, q5, q6, q7, q8, qf⟩ := (bp.belowAll hSw).cells; clear hSw; go_simp)⟩) hSK1 ?_
        simp only [Act.put, List.setIfInBounds_toArray]
        dsimp only [List.set_cons_zero, List.set_cons_succ]
        refine wpZ_one (i := 6) (by kernel_rfl) rfl (fun K hK => ?_)
        go_simp
        refine (HIN.out wK1).mono ?_
        rintro e wK2 ⟨rfl, hbK2⟩
        have hSK2 : Below w0.heap.size w0 wK2 := bStep (hSK1) hbK2
        go_wp2_with fail
        refine hK.out _ _ (fun _ => hSK2) ?_
        clear hK K
        refine wpZ_take (i := 7) (v := .bool false) 12 rfl rfl (by kernel_rfl) (by kernel_rfl) (by kernel_rfl) (Or.inr (by decide)) (fun _ _ _ h => h) (Or.inl ⟨by rfl, fun w hSw => by go_simp⟩) hSK2 ?_
        simp only [Act.put, List.setIfInBounds_toArray]
        dsimp only [List.set_cons_zero, List.set_cons_succ]
        refine wpZ_take (i := 8) (v := .bool false) 13 rfl rfl (by kernel_rfl) (by kernel_rfl) (by kernel_rfl) (Or.inr (by decide)) (fun _ _ _ h => h) (Or.inl ⟨by rfl, fun w hSw => by go_simp⟩) hSK2 ?_
        simp only [Act.put, List.setIfInBounds_toArray]
        dsimp only [List.set_cons_zero, List.set_cons_succ]
        refine wpZ_done (by kernel_rfl) ?_ _
        go_wp2_with fail
        go_meet
        exact ⟨rfl, hSK2⟩
      obtain ⟨rfl, hbx⟩ := hcut
      have bp1 := bp.belowAll hbx; have br1 := br.belowAll hbx
      have hbw1 := bStep hbw0 hbx
      have HG1 : Hid (GlobC wc) := HG.out.below hbx
      clear bp br hbw0 hbx HG
      obtain ⟨q0, q1, q2, q3, q4, q5, q6, q7, q8, qf⟩ := bp1.cells
      go_wp2_with fail
      refine (HOP.out _ HG1.out).mono ?_
      rintro e w3 ⟨rfl, hb3⟩
      obtain ⟨r0, r1, r2, r3, r4, r5, r6, r7, r8, rf⟩ := (br1.belowAll hb3).cells
      go_wp2
      refine bodyPost_ret (v := .agg #[.int .u64 ((limb 0 (x) : Nat) : Int), .int .u64 ((limb 1 (x) : Nat) : Int), .int .u64 ((limb 2 (x) : Nat) : Int), .int .u64 ((limb 3 (x) : Nat) : Int), .int .u64 ((limb 0 (ny) : Nat) : Int), .int .u64 ((limb 1 (ny) : Nat) : Int), .int .u64 ((limb 2 (ny) : Nat) : Int), .int .u64 ((limb 3 (ny) : Nat) : Int), .bool false]) (by simp [results, Tryz.results12, go_sem, r0, r1, r2, r3, r4, r5, r6, r7, r8]) rfl ⟨by rw [HVV.out], ?_⟩
      exact bSet9 (bStep hbw1 hb3) hrw _ _ _ _ _ _ _ _ _
  · rw [decide_eq_false hon] at HON
    have HV := HA.out (fun h => hon h.1)
    have HVV := (show Hid _ from HV)
    clear HV hon HA HB HCO QI
    go_cut [13] (fun b wx => b = .bool true ∧ Below w0.heap.size w0 wx)
    case first =>
      have HS0 : Hid (Below w0.heap.size w0 w0.drew) := (Below.refl _ _).drew
      refine wp_region_Z (fun w' => Below w0.heap.size w0 w') 99 (by kernel_rfl) ?_
      refine wpZ_take (i := 0) (v := .int .i64 (c : Int)) 5 rfl rfl (by kernel_rfl) (by kernel_rfl) (by kernel_rfl) (Or.inr (by decide)) (fun _ _ _ h => h) (Or.inl ⟨by rfl, fun w hSw => by go_simp⟩) HS0.out ?_
      simp only [Act.put, List.setIfInBounds_toArray]
      dsimp only [List.set_cons_zero, List.set_cons_succ]
      refine wpZ_take (i := 1) (v := .agg #[.int .u64 ((limb 0 (x) : Nat) : Int), .int .u64 ((limb 1 (x) : Nat) : Int), .int .u64 ((limb 2 (x) : Nat) : Int), .int .u64 ((limb 3 (x) : Nat) : Int), .int .u64 ((limb 0 (y) : Nat) : Int), .int .u64 ((limb 1 (y) : Nat) : Int), .int .u64 ((limb 2 (y) : Nat) : Int), .int .u64 ((limb 3 (y) : Nat) : Int), .bool i]) 6 rfl rfl (by kernel_rfl) (by kernel_rfl) (by kernel_rfl) (Or.inr (by decide)) (fun _ _ _ h => h) (Or.inl ⟨by rfl, fun w hSw => by (obtain ⟨q0, q1, q2, q3, q4, q5, q6, q7, q8, qf⟩ := (bp.belowAll hSw).cells; clear hSw; go_simp)⟩) HS0.out ?_
      simp only [Act.put, List.setIfInBounds_toArray]
      dsimp only [List.set_cons_zero, List.set_cons_succ]
      refine wpZ_one (i := 2) (by kernel_rfl) rfl (fun K hK => ?_)
      go_simp
      refine (HON.out w0.drew (HG.out.below (HS0.out))).mono ?_
      rintro e wK1 ⟨rfl, hbK1⟩
      have hSK1 : Below w0.heap.size w0 wK1 := bStep (HS0.out) hbK1
      go_wp2_with fail
      refine hK.out _ _ (fun _ => hSK1) ?_
      clear hK K
      refine wpZ_take (i := 3) (v := .bool true) 8 rfl rfl (by kernel_rfl) (by kernel_rfl) (by kernel_rfl) (Or.inr (by decide)) (fun _ _ _ h => h) (Or.inl ⟨by rfl, fun w hSw => by go_simp⟩) hSK1 ?_
      simp only [Act.put, List.setIfInBounds_toArray]
      dsimp only [List.set_cons_zero, List.set_cons_succ]
      refine wpZ_take (i := 4) (v := .bool true) 9 rfl rfl (by kernel_rfl) (by kernel_rfl) (by kernel_rfl) (Or.inr (by decide)) (fun _ _ _ h => h) (Or.inl ⟨by rfl, fun w hSw => by go_simp⟩) hSK1 ?_
      simp only [Act.put, List.setIfInBounds_toArray]
      dsimp only [List.set_cons_zero, List.set_cons_succ]
      refine wpZ_take (i := 5) (v := undef) 10 rfl rfl (by kernel_rfl) (by kernel_rfl) (by kernel_rfl) (Or.inr (by decide)) (fun _ _ _ h => h) (Or.inr ⟨by rfl, rfl⟩) hSK1 ?_
      simp only [Act.put, List.setIfInBounds_toArray]
      dsimp only [List.set_cons_zero, List.set_cons_succ]
      refine wpZ_take (i := 6) (v := undef) 11 rfl rfl (by kernel_rfl) (by kernel_rfl) (by kernel_rfl) (Or.inr (by decide)) (fun _ _ _ h => h) (Or.inr ⟨by rfl, rfl⟩) hSK1 ?_
      simp only [Act.put, List.setIfInBounds_toArray]
      dsimp only [List.set_cons_zero, List.set_cons_succ]
      refine wpZ_take (i := 7) (v := undef) 12 rfl rfl (by kernel_rfl) (by kernel_rfl) (by kernel_rfl) (Or.inr (by decide)) (fun _ _ _ h => h) (Or.inr ⟨by rfl, rfl⟩) hSK1 ?_
      simp only [Act.put, List.setIfInBounds_toArray]
      dsimp only [List.set_cons_zero, List.set_cons_succ]
      refine wpZ_take (i := 8) (v := .bool true) 13 rfl rfl (by kernel_rfl) (by kernel_rfl) (by kernel_rfl) (Or.inr (by decide)) (fun _ _ _ h => h) (Or.inl ⟨by rfl, fun w hSw => by go_simp⟩) hSK1 ?_
      simp only [Act.put, List.setIfInBounds_toArray]
      dsimp only [List.set_cons_zero, List.set_cons_succ]
      refine wpZ_done (by kernel_rfl) ?_ _
      go_wp2_with fail
      go_meet
      exact ⟨rfl, hSK1⟩
    obtain ⟨rfl, hbx⟩ := hcut
    have bp1 := bp.belowAll hbx; have br1 := br.belowAll hbx
    have hbw1 := bStep hbw0 hbx
    have HG1 : Hid (GlobC wc) := HG.out.below hbx
    clear bp br hbw0 hbx HG
    obtain ⟨q0, q1, q2, q3, q4, q5, q6, q7, q8, qf⟩ := bp1.cells
    go_wp2_with fail
    refine (HIN.out _).mono ?_
    rintro e w3 ⟨rfl, hb3⟩
    obtain ⟨r0, r1, r2, r3, r4, r5, r6, r7, r8, rf⟩ := (br1.belowAll hb3).cells
    go_wp2
    refine bodyPost_ret (v := .agg #[.int .u64 ((limb 0 (0) : Nat) : Int), .int .u64 ((limb 1 (0) : Nat) : Int), .int .u64 ((limb 2 (0) : Nat) : Int), .int .u64 ((limb 3 (0) : Nat) : Int), .int .u64 ((limb 0 (0) : Nat) : Int), .int .u64 ((limb 1 (0) : Nat) : Int), .int .u64 ((limb 2 (0) : Nat) : Int), .int .u64 ((limb 3 (0) : Nat) : Int), .bool true]) (by simp [results, Tryz.results12, go_sem, r0, r1, r2, r3, r4, r5, r6, r7, r8]) rfl ⟨by rw [HVV.out], ?_⟩
    exact bSet9 (bStep hbw1 hb3) hrw _ _ _ _ _ _ _ _ _
end Go.Proofs.YtjpjnmhjbmmaiaaGreatDoor
