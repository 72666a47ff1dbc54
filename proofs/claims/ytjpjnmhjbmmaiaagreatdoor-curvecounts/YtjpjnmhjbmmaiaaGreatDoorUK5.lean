/- What curve.slope does. -/
import Derived.Test.YtjpjnmhjbmmaiaaGreatDoorUK4
import Derived.Test.YtjpjnmhjbmmaiaaGreatDoorUM2
namespace Go.Proofs.YtjpjnmhjbmmaiaaGreatDoor
open Go.RowKit
set_option maxHeartbeats 16000000 in
set_option maxRecDepth 20000 in
theorem slope_any (c x y u v : Nat) (hc : c < 4) (hx : x < 115792089237316195423570985008687907853269984665640564039457584007913129639936) (hy : y < 115792089237316195423570985008687907853269984665640564039457584007913129639936) (hu : u < 115792089237316195423570985008687907853269984665640564039457584007913129639936) (hv : v < 115792089237316195423570985008687907853269984665640564039457584007913129639936) (w : World) (hg : GlobC w) :
    Calls Tryz.prog 37 #[.int .i64 (c : Int), .agg #[.int .u64 ((limb 0 (x) : Nat) : Int), .int .u64 ((limb 1 (x) : Nat) : Int), .int .u64 ((limb 2 (x) : Nat) : Int), .int .u64 ((limb 3 (x) : Nat) : Int), .int .u64 ((limb 0 (y) : Nat) : Int), .int .u64 ((limb 1 (y) : Nat) : Int), .int .u64 ((limb 2 (y) : Nat) : Int), .int .u64 ((limb 3 (y) : Nat) : Int), .bool false], .agg #[.int .u64 ((limb 0 (u) : Nat) : Int), .int .u64 ((limb 1 (u) : Nat) : Int), .int .u64 ((limb 2 (u) : Nat) : Int), .int .u64 ((limb 3 (u) : Nat) : Int), .int .u64 ((limb 0 (v) : Nat) : Int), .int .u64 ((limb 1 (v) : Nat) : Int), .int .u64 ((limb 2 (v) : Nat) : Int), .int .u64 ((limb 3 (v) : Nat) : Int), .bool false]] w fun e w' => e = .returned (.agg #[.int .u64 ((limb 0 (slopeC c x y u v (decide (x = u ∧ y = v))) : Nat) : Int), .int .u64 ((limb 1 (slopeC c x y u v (decide (x = u ∧ y = v))) : Nat) : Int), .int .u64 ((limb 2 (slopeC c x y u v (decide (x = u ∧ y = v))) : Nat) : Int), .int .u64 ((limb 3 (slopeC c x y u v (decide (x = u ∧ y = v))) : Nat) : Int)]) ∧ Below w.heap.size w w' := by
  have HG0 : Hid (GlobC w) := hg
  have HS1 : Hid (∀ w, Glob w → _) := fun w hg => fSub_any c v y hc hv hy w hg
  have HS2 : Hid (∀ w, Glob w → _) := fun w hg => fSub_any c u x hc hu hx w hg
  have HM1 : Hid (∀ w, Glob w → _) := fun w hg => fMul_any c x x hc hx hx w hg
  have HM2 : Hid (∀ w, Glob w → _) := fun w hg => fMul_any c 3 (mulP c x x) hc (by decide) (mulP_M _ _ _) w hg
  rw [three_agg] at HM2
  have HA : Hid (∀ w, Glob w → _) := fun w hg => fAdd_any c y y hc hy hy w hg
  have QI := fun w => eqlP x y u v false false hx hy hu hv w
  have RT : Hid (slopeC c x y u v true = mulP c (mulP c 3 (mulP c x x)) (invC c (addP c y y))) := rfl
  have RF : Hid (slopeC c x y u v false = mulP c (subP c v y) (invC c (subP c u x))) := rfl
  have HIT : Hid (∀ w, Glob w → _) := fun w hg => inv_c c (addP c y y) hc (addP_M _ _ _) w hg
  have HIF : Hid (∀ w, Glob w → _) := fun w hg => inv_c c (subP c u x) hc (subP_M _ _ _) w hg
  have HLT : Hid (∀ w, Glob w → _) := fun w hg => fMul_any c (mulP c 3 (mulP c x x)) (invC c (addP c y y)) hc (mulP_M _ _ _) (lt_M c _ (invC_lt _ _)) w hg
  have HLF : Hid (∀ w, Glob w → _) := fun w hg => fMul_any c (subP c v y) (invC c (subP c u x)) hc (subP_M _ _ _) (lt_M c _ (invC_lt _ _)) w hg
  obtain ⟨d1, e1⟩ : ∃ z, z = subP c v y := ⟨_, rfl⟩
  obtain ⟨d2, e2⟩ : ∃ z, z = subP c u x := ⟨_, rfl⟩
  obtain ⟨xx, e3⟩ : ∃ z, z = mulP c x x := ⟨_, rfl⟩
  rw [← e3] at HM1 HM2 RT HLT
  obtain ⟨x3, e4⟩ : ∃ z, z = mulP c 3 xx := ⟨_, rfl⟩
  obtain ⟨yy, e5⟩ : ∃ z, z = addP c y y := ⟨_, rfl⟩
  rw [← e1] at HS1 RF HLF
  rw [← e2] at HS2 RF HIF HLF
  rw [← e4] at HM2 RT HLT
  rw [← e5] at HA RT HIT HLT
  obtain ⟨i1, e6⟩ : ∃ z, z = invC c yy := ⟨_, rfl⟩
  obtain ⟨i2, e7⟩ : ∃ z, z = invC c d2 := ⟨_, rfl⟩
  rw [← e6] at HIT RT HLT
  rw [← e7] at HIF RF HLF
  obtain ⟨s1, e8⟩ : ∃ z, z = mulP c x3 i1 := ⟨_, rfl⟩
  obtain ⟨s2, e9⟩ : ∃ z, z = mulP c d1 i2 := ⟨_, rfl⟩
  rw [← e8] at RT HLT
  rw [← e9] at RF HLF
  clear hg e1 e2 e3 e4 e5 e6 e7 e8 e9
  obtain ⟨ans, eans⟩ : ∃ z, z = slopeC c x y u v (decide (x = u ∧ y = v)) := ⟨_, rfl⟩
  rw [← eans]
  have EA : Hid (ans = slopeC c x y u v (decide (x = u ∧ y = v))) := eans
  clear eans
  go_enter Tryz.func37, Tryz.ntmps37
  go_upto_region 1 with fail
  obtain ⟨w0, hw0⟩ : ∃ w0 : World, w0 = ((w.alloc (.cells #[.int .u64 ((limb 0 x : Nat) : Int), .int .u64 ((limb 1 x : Nat) : Int), .int .u64 ((limb 2 x : Nat) : Int), .int .u64 ((limb 3 x : Nat) : Int), .int .u64 ((limb 0 y : Nat) : Int), .int .u64 ((limb 1 y : Nat) : Int), .int .u64 ((limb 2 y : Nat) : Int), .int .u64 ((limb 3 y : Nat) : Int), .bool false] 26)).alloc (.cells #[.int .u64 ((limb 0 u : Nat) : Int), .int .u64 ((limb 1 u : Nat) : Int), .int .u64 ((limb 2 u : Nat) : Int), .int .u64 ((limb 3 u : Nat) : Int), .int .u64 ((limb 0 v : Nat) : Int), .int .u64 ((limb 1 v : Nat) : Int), .int .u64 ((limb 2 v : Nat) : Int), .int .u64 ((limb 3 v : Nat) : Int), .bool false] 26)).alloc (.cells #[.int .u64 0, .int .u64 0, .int .u64 0, .int .u64 0] 24) := ⟨_, rfl⟩
  have bp : Pt w0 w.heap.size x y false := by rw [hw0]; exact ((Pt.newAt _ _ _ _ _ rfl).alloc _).alloc _
  have bq : Pt w0 (w.heap.size + 1) u v false := by rw [hw0]; exact (Pt.newAt _ _ _ _ _ (by simp)).alloc _
  have br : Blk w0 24 (w.heap.size + 1 + 1) (fun _ => 0) := by rw [hw0]; exact Blk.newAt _ _ _ (fun _ => 0) (by simp)
  have hbw0 : Below w.heap.size w w0 := by rw [hw0]; exact bAlloc (bAlloc ((Below.refl _ _).alloc (Nat.le_refl _) _) _) _
  have hrw : w.heap.size ≤ w.heap.size + 1 + 1 := by omega
  rw [← hw0]
  clear hw0
  have HG : Hid (GlobC w0) := HG0.out.below hbw0
  go_cut [7, 8] (fun p7 p8 wx => ∃ N7 N8 : Nat, p7 = .pointer (some ⟨N7, 0, none⟩) ∧ p8 = .pointer (some ⟨N8, 0, none⟩) ∧ N7 ≠ N8 ∧ w0.heap.size ≤ N7 ∧ w0.heap.size ≤ N8 ∧ Blk wx 24 N7 (fun i => limb i d1) ∧ Blk wx 24 N8 (fun i => limb i d2) ∧ Below w0.heap.size w0 wx)
  case first =>
    have HS0 : Hid (Below w0.heap.size w0 w0.drew) := (Below.refl _ _).drew
    refine wp_region_Z (fun w' => Kp w0 w') 99 (by kernel_rfl) ?_
    refine wpZ_take (i := 0) (v := .int .i64 (c : Int)) 11 rfl rfl (by kernel_rfl) (by kernel_rfl) (by kernel_rfl) (Or.inr (by decide)) (fun _ _ _ h => h) (Or.inl ⟨by rfl, fun w hSw => by go_simp⟩) (HS0.out) ?_
    simp only [Act.put, List.setIfInBounds_toArray]
    dsimp only [List.set_cons_zero, List.set_cons_succ]
    refine wpZ_take (i := 1) (v := .pointer (some ⟨(w.heap.size + 1), 4, none⟩)) 12 rfl rfl (by kernel_rfl) (by kernel_rfl) (by kernel_rfl) (Or.inr (by decide)) (fun _ _ _ h => h) (Or.inl ⟨by rfl, fun w hSw => by go_simp⟩) (HS0.out) ?_
    simp only [Act.put, List.setIfInBounds_toArray]
    dsimp only [List.set_cons_zero, List.set_cons_succ]
    refine wpZ_take (i := 2) (v := .agg #[.int .u64 ((limb 0 (v) : Nat) : Int), .int .u64 ((limb 1 (v) : Nat) : Int), .int .u64 ((limb 2 (v) : Nat) : Int), .int .u64 ((limb 3 (v) : Nat) : Int)]) 13 rfl rfl (by kernel_rfl) (by kernel_rfl) (by kernel_rfl) (Or.inr (by decide)) (fun _ _ _ h => h) (Or.inl ⟨by rfl, fun w hSw => by (obtain ⟨q0, q1, q2, q3, q4, q5, q6, q7, q8, qf⟩ := (bq.belowAll hSw).cells; clear hSw; go_simp)⟩) (HS0.out) ?_
    simp only [Act.put, List.setIfInBounds_toArray]
    dsimp only [List.set_cons_zero, List.set_cons_succ]
    refine wpZ_take (i := 3) (v := .pointer (some ⟨w.heap.size, 4, none⟩)) 14 rfl rfl (by kernel_rfl) (by kernel_rfl) (by kernel_rfl) (Or.inr (by decide)) (fun _ _ _ h => h) (Or.inl ⟨by rfl, fun w hSw => by go_simp⟩) (HS0.out) ?_
    simp only [Act.put, List.setIfInBounds_toArray]
    dsimp only [List.set_cons_zero, List.set_cons_succ]
    refine wpZ_take (i := 4) (v := .agg #[.int .u64 ((limb 0 (y) : Nat) : Int), .int .u64 ((limb 1 (y) : Nat) : Int), .int .u64 ((limb 2 (y) : Nat) : Int), .int .u64 ((limb 3 (y) : Nat) : Int)]) 15 rfl rfl (by kernel_rfl) (by kernel_rfl) (by kernel_rfl) (Or.inr (by decide)) (fun _ _ _ h => h) (Or.inl ⟨by rfl, fun w hSw => by (obtain ⟨q0, q1, q2, q3, q4, q5, q6, q7, q8, qf⟩ := (bp.belowAll hSw).cells; clear hSw; go_simp)⟩) (HS0.out) ?_
    simp only [Act.put, List.setIfInBounds_toArray]
    dsimp only [List.set_cons_zero, List.set_cons_succ]
    refine wpZ_take (i := 6) (v := .int .i64 (c : Int)) 17 rfl rfl (by kernel_rfl) (by kernel_rfl) (by kernel_rfl) (Or.inr (by decide)) (fun _ _ _ h => h) (Or.inl ⟨by rfl, fun w hSw => by go_simp⟩) (HS0.out) ?_
    simp only [Act.put, List.setIfInBounds_toArray]
    dsimp only [List.set_cons_zero, List.set_cons_succ]
    refine wpZ_take (i := 7) (v := .pointer (some ⟨(w.heap.size + 1), 0, none⟩)) 18 rfl rfl (by kernel_rfl) (by kernel_rfl) (by kernel_rfl) (Or.inr (by decide)) (fun _ _ _ h => h) (Or.inl ⟨by rfl, fun w hSw => by go_simp⟩) (HS0.out) ?_
    simp only [Act.put, List.setIfInBounds_toArray]
    dsimp only [List.set_cons_zero, List.set_cons_succ]
    refine wpZ_take (i := 8) (v := .agg #[.int .u64 ((limb 0 (u) : Nat) : Int), .int .u64 ((limb 1 (u) : Nat) : Int), .int .u64 ((limb 2 (u) : Nat) : Int), .int .u64 ((limb 3 (u) : Nat) : Int)]) 19 rfl rfl (by kernel_rfl) (by kernel_rfl) (by kernel_rfl) (Or.inr (by decide)) (fun _ _ _ h => h) (Or.inl ⟨by rfl, fun w hSw => by (obtain ⟨q0, q1, q2, q3, q4, q5, q6, q7, q8, qf⟩ := (bq.belowAll hSw).cells; clear hSw; go_simp)⟩) (HS0.out) ?_
    simp only [Act.put, List.setIfInBounds_toArray]
    dsimp only [List.set_cons_zero, List.set_cons_succ]
    refine wpZ_take (i := 9) (v := .pointer (some ⟨w.heap.size, 0, none⟩)) 20 rfl rfl (by kernel_rfl) (by kernel_rfl) (by kernel_rfl) (Or.inr (by decide)) (fun _ _ _ h => h) (Or.inl ⟨by rfl, fun w hSw => by go_simp⟩) (HS0.out) ?_
    simp only [Act.put, List.setIfInBounds_toArray]
    dsimp only [List.set_cons_zero, List.set_cons_succ]
    refine wpZ_take (i := 10) (v := .agg #[.int .u64 ((limb 0 (x) : Nat) : Int), .int .u64 ((limb 1 (x) : Nat) : Int), .int .u64 ((limb 2 (x) : Nat) : Int), .int .u64 ((limb 3 (x) : Nat) : Int)]) 21 rfl rfl (by kernel_rfl) (by kernel_rfl) (by kernel_rfl) (Or.inr (by decide)) (fun _ _ _ h => h) (Or.inl ⟨by rfl, fun w hSw => by (obtain ⟨q0, q1, q2, q3, q4, q5, q6, q7, q8, qf⟩ := (bp.belowAll hSw).cells; clear hSw; go_simp)⟩) (HS0.out) ?_
    simp only [Act.put, List.setIfInBounds_toArray]
    dsimp only [List.set_cons_zero, List.set_cons_succ]
    refine wpZ_three (i := 5) (j := 12) (l := 13) (by kernel_rfl) rfl rfl rfl (fun K hK => ?_) (fun K hK => ?_) (fun K hK => ?_) 
    · go_simp
      refine (HS1.out w0.drew (HG.out.below (HS0.out)).1).mono ?_
      rintro e wK1 ⟨rfl, hbK1⟩
      have hSK1 : Below w0.heap.size w0 wK1 := bStep (HS0.out) hbK1
      go_wp2_with fail
      refine hK.out _ _ (fun _ => hSK1) ?_
      clear hK K
      refine wpZ_three (i := 11) (j := 12) (l := 13) (by kernel_rfl) rfl rfl rfl (fun K hK => ?_) (fun K hK => ?_) (fun K hK => ?_) 
      · go_simp
        refine (HS2.out wK1 (HG.out.below (hSK1)).1).mono ?_
        rintro e wK2 ⟨rfl, hbK2⟩
        have hSK2 : Below w0.heap.size w0 wK2 := bStep (hSK1) hbK2
        go_wp2_with fail
        refine hK.out _ _ (fun _ => hSK2) ?_
        clear hK K
        refine wpZ_two (i := 12) (j := 13) (by kernel_rfl) rfl rfl (fun K hK => ?_) (fun K hK => ?_) 
        · go_simp
          obtain ⟨N7_3, wK3, hN, hw, hSK3, b7_3, lN7_3, hx⟩ := pkA hSK2
          rw [hw, hN]
          refine hK.out _ _ (fun _ => hSK3) ?_
          clear hK K hw hN hx
          refine wpZ_one (i := 13) (by kernel_rfl) rfl (fun K hK => ?_)
          go_simp
          obtain ⟨N8_4, wK4, hN, hw, hSK4, b8_4, lN8_4, hx⟩ := pkA hSK3
          rw [hw, hN]
          refine hK.out _ _ (fun _ => hSK4) ?_
          have b7_4 := b7_3.belowAll hx
          have neN7_3_N8_4 : N7_3 ≠ N8_4 := by have := b7_3.lt; omega
          clear hK K hw hN hx
          refine wpZ_one (i := 14) (by kernel_rfl) rfl (fun K hK => ?_)
          have cS := b7_4.cell; have fS := b7_4.frozen
          go_simp
          obtain ⟨wK5, hw, hSK5, b7_5, hx⟩ := pkS b7_4 (hSK4) lN7_3 d1
          rw [hw]
          refine hK.out _ _ (fun _ => hSK5) ?_
          have b8_5 := hx b8_4 (by omega)
          clear hK K cS fS hw hx
          refine wpZ_one (i := 15) (by kernel_rfl) rfl (fun K hK => ?_)
          have cS := b8_5.cell; have fS := b8_5.frozen
          go_simp
          obtain ⟨wK6, hw, hSK6, b8_6, hx⟩ := pkS b8_5 (hSK5) lN8_4 d2
          rw [hw]
          refine hK.out _ _ (fun _ => hSK6) ?_
          have b7_6 := hx b7_5 (by omega)
          clear hK K cS fS hw hx
          refine wpZ_done (by kernel_rfl) ?_ _
          go_wp2_with fail
          go_meet
          exact ⟨_, _, rfl, rfl, by omega, lN7_3, lN8_4, b7_6, b8_6, hSK6⟩
        · go_simp
          obtain ⟨N8_3, wK3, hN, hw, hSK3, b8_3, lN8_3, hx⟩ := pkA hSK2
          rw [hw, hN]
          refine hK.out _ _ (fun _ => hSK3) ?_
          clear hK K hw hN hx
          refine wpZ_one (i := 12) (by kernel_rfl) rfl (fun K hK => ?_)
          go_simp
          obtain ⟨N7_4, wK4, hN, hw, hSK4, b7_4, lN7_4, hx⟩ := pkA hSK3
          rw [hw, hN]
          refine hK.out _ _ (fun _ => hSK4) ?_
          have b8_4 := b8_3.belowAll hx
          have neN8_3_N7_4 : N8_3 ≠ N7_4 := by have := b8_3.lt; omega
          clear hK K hw hN hx
          refine wpZ_one (i := 14) (by kernel_rfl) rfl (fun K hK => ?_)
          have cS := b7_4.cell; have fS := b7_4.frozen
          go_simp
          obtain ⟨wK5, hw, hSK5, b7_5, hx⟩ := pkS b7_4 (hSK4) lN7_4 d1
          rw [hw]
          refine hK.out _ _ (fun _ => hSK5) ?_
          have b8_5 := hx b8_4 (by omega)
          clear hK K cS fS hw hx
          refine wpZ_one (i := 15) (by kernel_rfl) rfl (fun K hK => ?_)
          have cS := b8_5.cell; have fS := b8_5.frozen
          go_simp
          obtain ⟨wK6, hw, hSK6, b8_6, hx⟩ := pkS b8_5 (hSK5) lN8_3 d2
          rw [hw]
          refine hK.out _ _ (fun _ => hSK6) ?_
          have b7_6 := hx b7_5 (by omega)
          clear hK K cS fS hw hx
          refine wpZ_done (by kernel_rfl) ?_ _
          go_wp2_with fail
          go_meet
          exact ⟨_, _, rfl, rfl, by omega, lN7_4, lN8_3, b7_6, b8_6, hSK6⟩
      · go_simp
        obtain ⟨N7_2, wK2, hN, hw, hSK2, b7_2, lN7_2, hx⟩ := pkA hSK1
        rw [hw, hN]
        refine hK.out _ _ (fun _ => hSK2) ?_
        clear hK K hw hN hx
        refine wpZ_two (i := 11) (j := 13) (by kernel_rfl) rfl rfl (fun K hK => ?_) (fun K hK => ?_) 
        · go_simp
          refine (HS2.out wK2 (HG.out.below (hSK2)).1).mono ?_
          rintro e wK3 ⟨rfl, hbK3⟩
          have hSK3 : Below w0.heap.size w0 wK3 := bStep (hSK2) hbK3
          go_wp2_with fail
          refine hK.out _ _ (fun _ => hSK3) ?_
          clear hK K
          have b7_3 := b7_2.belowAll hbK3
          refine wpZ_one (i := 13) (by kernel_rfl) rfl (fun K hK => ?_)
          go_simp
          obtain ⟨N8_4, wK4, hN, hw, hSK4, b8_4, lN8_4, hx⟩ := pkA hSK3
          rw [hw, hN]
          refine hK.out _ _ (fun _ => hSK4) ?_
          have b7_4 := b7_3.belowAll hx
          have neN7_2_N8_4 : N7_2 ≠ N8_4 := by have := b7_3.lt; omega
          clear hK K hw hN hx
          refine wpZ_one (i := 14) (by kernel_rfl) rfl (fun K hK => ?_)
          have cS := b7_4.cell; have fS := b7_4.frozen
          go_simp
          obtain ⟨wK5, hw, hSK5, b7_5, hx⟩ := pkS b7_4 (hSK4) lN7_2 d1
          rw [hw]
          refine hK.out _ _ (fun _ => hSK5) ?_
          have b8_5 := hx b8_4 (by omega)
          clear hK K cS fS hw hx
          refine wpZ_one (i := 15) (by kernel_rfl) rfl (fun K hK => ?_)
          have cS := b8_5.cell; have fS := b8_5.frozen
          go_simp
          obtain ⟨wK6, hw, hSK6, b8_6, hx⟩ := pkS b8_5 (hSK5) lN8_4 d2
          rw [hw]
          refine hK.out _ _ (fun _ => hSK6) ?_
          have b7_6 := hx b7_5 (by omega)
          clear hK K cS fS hw hx
          refine wpZ_done (by kernel_rfl) ?_ _
          go_wp2_with fail
          go_meet
          exact ⟨_, _, rfl, rfl, by omega, lN7_2, lN8_4, b7_6, b8_6, hSK6⟩
        · go_simp
          obtain ⟨N8_3, wK3, hN, hw, hSK3, b8_3, lN8_3, hx⟩ := pkA hSK2
          rw [hw, hN]
          refine hK.out _ _ (fun _ => hSK3) ?_
          have b7_3 := b7_2.belowAll hx
          have neN7_2_N8_3 : N7_2 ≠ N8_3 := by have := b7_2.lt; omega
          clear hK K hw hN hx
          refine wpZ_one (i := 11) (by kernel_rfl) rfl (fun K hK => ?_)
          go_simp
          refine (HS2.out wK3 (HG.out.below (hSK3)).1).mono ?_
          rintro e wK4 ⟨rfl, hbK4⟩
          have hSK4 : Below w0.heap.size w0 wK4 := bStep (hSK3) hbK4
          go_wp2_with fail
          refine hK.out _ _ (fun _ => hSK4) ?_
          clear hK K
          have b7_4 := b7_3.belowAll hbK4
          have b8_4 := b8_3.belowAll hbK4
          refine wpZ_one (i := 14) (by kernel_rfl) rfl (fun K hK => ?_)
          have cS := b7_4.cell; have fS := b7_4.frozen
          go_simp
          obtain ⟨wK5, hw, hSK5, b7_5, hx⟩ := pkS b7_4 (hSK4) lN7_2 d1
          rw [hw]
          refine hK.out _ _ (fun _ => hSK5) ?_
          have b8_5 := hx b8_4 (by omega)
          clear hK K cS fS hw hx
          refine wpZ_one (i := 15) (by kernel_rfl) rfl (fun K hK => ?_)
          have cS := b8_5.cell; have fS := b8_5.frozen
          go_simp
          obtain ⟨wK6, hw, hSK6, b8_6, hx⟩ := pkS b8_5 (hSK5) lN8_3 d2
          rw [hw]
          refine hK.out _ _ (fun _ => hSK6) ?_
          have b7_6 := hx b7_5 (by omega)
          clear hK K cS fS hw hx
          refine wpZ_done (by kernel_rfl) ?_ _
          go_wp2_with fail
          go_meet
          exact ⟨_, _, rfl, rfl, by omega, lN7_2, lN8_3, b7_6, b8_6, hSK6⟩
      · go_simp
        obtain ⟨N8_2, wK2, hN, hw, hSK2, b8_2, lN8_2, hx⟩ := pkA hSK1
        rw [hw, hN]
        refine hK.out _ _ (fun _ => hSK2) ?_
        clear hK K hw hN hx
        refine wpZ_two (i := 11) (j := 12) (by kernel_rfl) rfl rfl (fun K hK => ?_) (fun K hK => ?_) 
        · go_simp
          refine (HS2.out wK2 (HG.out.below (hSK2)).1).mono ?_
          rintro e wK3 ⟨rfl, hbK3⟩
          have hSK3 : Below w0.heap.size w0 wK3 := bStep (hSK2) hbK3
          go_wp2_with fail
          refine hK.out _ _ (fun _ => hSK3) ?_
          clear hK K
          have b8_3 := b8_2.belowAll hbK3
          refine wpZ_one (i := 12) (by kernel_rfl) rfl (fun K hK => ?_)
          go_simp
          obtain ⟨N7_4, wK4, hN, hw, hSK4, b7_4, lN7_4, hx⟩ := pkA hSK3
          rw [hw, hN]
          refine hK.out _ _ (fun _ => hSK4) ?_
          have b8_4 := b8_3.belowAll hx
          have neN8_2_N7_4 : N8_2 ≠ N7_4 := by have := b8_3.lt; omega
          clear hK K hw hN hx
          refine wpZ_one (i := 14) (by kernel_rfl) rfl (fun K hK => ?_)
          have cS := b7_4.cell; have fS := b7_4.frozen
          go_simp
          obtain ⟨wK5, hw, hSK5, b7_5, hx⟩ := pkS b7_4 (hSK4) lN7_4 d1
          rw [hw]
          refine hK.out _ _ (fun _ => hSK5) ?_
          have b8_5 := hx b8_4 (by omega)
          clear hK K cS fS hw hx
          refine wpZ_one (i := 15) (by kernel_rfl) rfl (fun K hK => ?_)
          have cS := b8_5.cell; have fS := b8_5.frozen
          go_simp
          obtain ⟨wK6, hw, hSK6, b8_6, hx⟩ := pkS b8_5 (hSK5) lN8_2 d2
          rw [hw]
          refine hK.out _ _ (fun _ => hSK6) ?_
          have b7_6 := hx b7_5 (by omega)
          clear hK K cS fS hw hx
          refine wpZ_done (by kernel_rfl) ?_ _
          go_wp2_with fail
          go_meet
          exact ⟨_, _, rfl, rfl, by omega, lN7_4, lN8_2, b7_6, b8_6, hSK6⟩
        · go_simp
          obtain ⟨N7_3, wK3, hN, hw, hSK3, b7_3, lN7_3, hx⟩ := pkA hSK2
          rw [hw, hN]
          refine hK.out _ _ (fun _ => hSK3) ?_
          have b8_3 := b8_2.belowAll hx
          have neN8_2_N7_3 : N8_2 ≠ N7_3 := by have := b8_2.lt; omega
          clear hK K hw hN hx
          refine wpZ_one (i := 11) (by kernel_rfl) rfl (fun K hK => ?_)
          go_simp
          refine (HS2.out wK3 (HG.out.below (hSK3)).1).mono ?_
          rintro e wK4 ⟨rfl, hbK4⟩
          have hSK4 : Below w0.heap.size w0 wK4 := bStep (hSK3) hbK4
          go_wp2_with fail
          refine hK.out _ _ (fun _ => hSK4) ?_
          clear hK K
          have b8_4 := b8_3.belowAll hbK4
          have b7_4 := b7_3.belowAll hbK4
          refine wpZ_one (i := 14) (by kernel_rfl) rfl (fun K hK => ?_)
          have cS := b7_4.cell; have fS := b7_4.frozen
          go_simp
          obtain ⟨wK5, hw, hSK5, b7_5, hx⟩ := pkS b7_4 (hSK4) lN7_3 d1
          rw [hw]
          refine hK.out _ _ (fun _ => hSK5) ?_
          have b8_5 := hx b8_4 (by omega)
          clear hK K cS fS hw hx
          refine wpZ_one (i := 15) (by kernel_rfl) rfl (fun K hK => ?_)
          have cS := b8_5.cell; have fS := b8_5.frozen
          go_simp
          obtain ⟨wK6, hw, hSK6, b8_6, hx⟩ := pkS b8_5 (hSK5) lN8_2 d2
          rw [hw]
          refine hK.out _ _ (fun _ => hSK6) ?_
          have b7_6 := hx b7_5 (by omega)
          clear hK K cS fS hw hx
          refine wpZ_done (by kernel_rfl) ?_ _
          go_wp2_with fail
          go_meet
          exact ⟨_, _, rfl, rfl, by omega, lN7_3, lN8_2, b7_6, b8_6, hSK6⟩
    · go_simp
      obtain ⟨N7_1, wK1, hN, hw, hSK1, b7_1, lN7_1, hx⟩ := pkD w0
      rw [hw, hN]
      refine hK.out _ _ (fun _ => hSK1) ?_
      clear hK K hw hN hx
      refine wpZ_two (i := 5) (j := 13) (by kernel_rfl) rfl rfl (fun K hK => ?_) (fun K hK => ?_) 
      · go_simp
        refine (HS1.out wK1 (HG.out.below (hSK1)).1).mono ?_
        rintro e wK2 ⟨rfl, hbK2⟩
        have hSK2 : Below w0.heap.size w0 wK2 := bStep (hSK1) hbK2
        go_wp2_with fail
        refine hK.out _ _ (fun _ => hSK2) ?_
        clear hK K
        have b7_2 := b7_1.belowAll hbK2
        refine wpZ_two (i := 11) (j := 13) (by kernel_rfl) rfl rfl (fun K hK => ?_) (fun K hK => ?_) 
        · go_simp
          refine (HS2.out wK2 (HG.out.below (hSK2)).1).mono ?_
          rintro e wK3 ⟨rfl, hbK3⟩
          have hSK3 : Below w0.heap.size w0 wK3 := bStep (hSK2) hbK3
          go_wp2_with fail
          refine hK.out _ _ (fun _ => hSK3) ?_
          clear hK K
          have b7_3 := b7_2.belowAll hbK3
          refine wpZ_one (i := 13) (by kernel_rfl) rfl (fun K hK => ?_)
          go_simp
          obtain ⟨N8_4, wK4, hN, hw, hSK4, b8_4, lN8_4, hx⟩ := pkA hSK3
          rw [hw, hN]
          refine hK.out _ _ (fun _ => hSK4) ?_
          have b7_4 := b7_3.belowAll hx
          have neN7_1_N8_4 : N7_1 ≠ N8_4 := by have := b7_3.lt; omega
          clear hK K hw hN hx
          refine wpZ_one (i := 14) (by kernel_rfl) rfl (fun K hK => ?_)
          have cS := b7_4.cell; have fS := b7_4.frozen
          go_simp
          obtain ⟨wK5, hw, hSK5, b7_5, hx⟩ := pkS b7_4 (hSK4) lN7_1 d1
          rw [hw]
          refine hK.out _ _ (fun _ => hSK5) ?_
          have b8_5 := hx b8_4 (by omega)
          clear hK K cS fS hw hx
          refine wpZ_one (i := 15) (by kernel_rfl) rfl (fun K hK => ?_)
          have cS := b8_5.cell; have fS := b8_5.frozen
          go_simp
          obtain ⟨wK6, hw, hSK6, b8_6, hx⟩ := pkS b8_5 (hSK5) lN8_4 d2
          rw [hw]
          refine hK.out _ _ (fun _ => hSK6) ?_
          have b7_6 := hx b7_5 (by omega)
          clear hK K cS fS hw hx
          refine wpZ_done (by kernel_rfl) ?_ _
          go_wp2_with fail
          go_meet
          exact ⟨_, _, rfl, rfl, by omega, lN7_1, lN8_4, b7_6, b8_6, hSK6⟩
        · go_simp
          obtain ⟨N8_3, wK3, hN, hw, hSK3, b8_3, lN8_3, hx⟩ := pkA hSK2
          rw [hw, hN]
          refine hK.out _ _ (fun _ => hSK3) ?_
          have b7_3 := b7_2.belowAll hx
          have neN7_1_N8_3 : N7_1 ≠ N8_3 := by have := b7_2.lt; omega
          clear hK K hw hN hx
          refine wpZ_one (i := 11) (by kernel_rfl) rfl (fun K hK => ?_)
          go_simp
          refine (HS2.out wK3 (HG.out.below (hSK3)).1).mono ?_
          rintro e wK4 ⟨rfl, hbK4⟩
          have hSK4 : Below w0.heap.size w0 wK4 := bStep (hSK3) hbK4
          go_wp2_with fail
          refine hK.out _ _ (fun _ => hSK4) ?_
          clear hK K
          have b7_4 := b7_3.belowAll hbK4
          have b8_4 := b8_3.belowAll hbK4
          refine wpZ_one (i := 14) (by kernel_rfl) rfl (fun K hK => ?_)
          have cS := b7_4.cell; have fS := b7_4.frozen
          go_simp
          obtain ⟨wK5, hw, hSK5, b7_5, hx⟩ := pkS b7_4 (hSK4) lN7_1 d1
          rw [hw]
          refine hK.out _ _ (fun _ => hSK5) ?_
          have b8_5 := hx b8_4 (by omega)
          clear hK K cS fS hw hx
          refine wpZ_one (i := 15) (by kernel_rfl) rfl (fun K hK => ?_)
          have cS := b8_5.cell; have fS := b8_5.frozen
          go_simp
          obtain ⟨wK6, hw, hSK6, b8_6, hx⟩ := pkS b8_5 (hSK5) lN8_3 d2
          rw [hw]
          refine hK.out _ _ (fun _ => hSK6) ?_
          have b7_6 := hx b7_5 (by omega)
          clear hK K cS fS hw hx
          refine wpZ_done (by kernel_rfl) ?_ _
          go_wp2_with fail
          go_meet
          exact ⟨_, _, rfl, rfl, by omega, lN7_1, lN8_3, b7_6, b8_6, hSK6⟩
      · go_simp
        obtain ⟨N8_2, wK2, hN, hw, hSK2, b8_2, lN8_2, hx⟩ := pkA hSK1
        rw [hw, hN]
        refine hK.out _ _ (fun _ => hSK2) ?_
        have b7_2 := b7_1.belowAll hx
        have neN7_1_N8_2 : N7_1 ≠ N8_2 := by have := b7_1.lt; omega
        clear hK K hw hN hx
        refine wpZ_one (i := 5) (by kernel_rfl) rfl (fun K hK => ?_)
        go_simp
        refine (HS1.out wK2 (HG.out.below (hSK2)).1).mono ?_
        rintro e wK3 ⟨rfl, hbK3⟩
        have hSK3 : Below w0.heap.size w0 wK3 := bStep (hSK2) hbK3
        go_wp2_with fail
        refine hK.out _ _ (fun _ => hSK3) ?_
        clear hK K
        have b7_3 := b7_2.belowAll hbK3
        have b8_3 := b8_2.belowAll hbK3
        refine wpZ_one (i := 11) (by kernel_rfl) rfl (fun K hK => ?_)
        go_simp
        refine (HS2.out wK3 (HG.out.below (hSK3)).1).mono ?_
        rintro e wK4 ⟨rfl, hbK4⟩
        have hSK4 : Below w0.heap.size w0 wK4 := bStep (hSK3) hbK4
        go_wp2_with fail
        refine hK.out _ _ (fun _ => hSK4) ?_
        clear hK K
        have b7_4 := b7_3.belowAll hbK4
        have b8_4 := b8_3.belowAll hbK4
        refine wpZ_one (i := 14) (by kernel_rfl) rfl (fun K hK => ?_)
        have cS := b7_4.cell; have fS := b7_4.frozen
        go_simp
        obtain ⟨wK5, hw, hSK5, b7_5, hx⟩ := pkS b7_4 (hSK4) lN7_1 d1
        rw [hw]
        refine hK.out _ _ (fun _ => hSK5) ?_
        have b8_5 := hx b8_4 (by omega)
        clear hK K cS fS hw hx
        refine wpZ_one (i := 15) (by kernel_rfl) rfl (fun K hK => ?_)
        have cS := b8_5.cell; have fS := b8_5.frozen
        go_simp
        obtain ⟨wK6, hw, hSK6, b8_6, hx⟩ := pkS b8_5 (hSK5) lN8_2 d2
        rw [hw]
        refine hK.out _ _ (fun _ => hSK6) ?_
        have b7_6 := hx b7_5 (by omega)
        clear hK K cS fS hw hx
        refine wpZ_done (by kernel_rfl) ?_ _
        go_wp2_with fail
        go_meet
        exact ⟨_, _, rfl, rfl, by omega, lN7_1, lN8_2, b7_6, b8_6, hSK6⟩
    · go_simp
      obtain ⟨N8_1, wK1, hN, hw, hSK1, b8_1, lN8_1, hx⟩ := pkD w0
      rw [hw, hN]
      refine hK.out _ _ (fun _ => hSK1) ?_
      clear hK K hw hN hx
      refine wpZ_two (i := 5) (j := 12) (by kernel_rfl) rfl rfl (fun K hK => ?_) (fun K hK => ?_) 
      · go_simp
        refine (HS1.out wK1 (HG.out.below (hSK1)).1).mono ?_
        rintro e wK2 ⟨rfl, hbK2⟩
        have hSK2 : Below w0.heap.size w0 wK2 := bStep (hSK1) hbK2
        go_wp2_with fail
        refine hK.out _ _ (fun _ => hSK2) ?_
        clear hK K
        have b8_2 := b8_1.belowAll hbK2
        refine wpZ_two (i := 11) (j := 12) (by kernel_rfl) rfl rfl (fun K hK => ?_) (fun K hK => ?_) 
        · go_simp
          refine (HS2.out wK2 (HG.out.below (hSK2)).1).mono ?_
          rintro e wK3 ⟨rfl, hbK3⟩
          have hSK3 : Below w0.heap.size w0 wK3 := bStep (hSK2) hbK3
          go_wp2_with fail
          refine hK.out _ _ (fun _ => hSK3) ?_
          clear hK K
          have b8_3 := b8_2.belowAll hbK3
          refine wpZ_one (i := 12) (by kernel_rfl) rfl (fun K hK => ?_)
          go_simp
          obtain ⟨N7_4, wK4, hN, hw, hSK4, b7_4, lN7_4, hx⟩ := pkA hSK3
          rw [hw, hN]
          refine hK.out _ _ (fun _ => hSK4) ?_
          have b8_4 := b8_3.belowAll hx
          have neN8_1_N7_4 : N8_1 ≠ N7_4 := by have := b8_3.lt; omega
          clear hK K hw hN hx
          refine wpZ_one (i := 14) (by kernel_rfl) rfl (fun K hK => ?_)
          have cS := b7_4.cell; have fS := b7_4.frozen
          go_simp
          obtain ⟨wK5, hw, hSK5, b7_5, hx⟩ := pkS b7_4 (hSK4) lN7_4 d1
          rw [hw]
          refine hK.out _ _ (fun _ => hSK5) ?_
          have b8_5 := hx b8_4 (by omega)
          clear hK K cS fS hw hx
          refine wpZ_one (i := 15) (by kernel_rfl) rfl (fun K hK => ?_)
          have cS := b8_5.cell; have fS := b8_5.frozen
          go_simp
          obtain ⟨wK6, hw, hSK6, b8_6, hx⟩ := pkS b8_5 (hSK5) lN8_1 d2
          rw [hw]
          refine hK.out _ _ (fun _ => hSK6) ?_
          have b7_6 := hx b7_5 (by omega)
          clear hK K cS fS hw hx
          refine wpZ_done (by kernel_rfl) ?_ _
          go_wp2_with fail
          go_meet
          exact ⟨_, _, rfl, rfl, by omega, lN7_4, lN8_1, b7_6, b8_6, hSK6⟩
        · go_simp
          obtain ⟨N7_3, wK3, hN, hw, hSK3, b7_3, lN7_3, hx⟩ := pkA hSK2
          rw [hw, hN]
          refine hK.out _ _ (fun _ => hSK3) ?_
          have b8_3 := b8_2.belowAll hx
          have neN8_1_N7_3 : N8_1 ≠ N7_3 := by have := b8_2.lt; omega
          clear hK K hw hN hx
          refine wpZ_one (i := 11) (by kernel_rfl) rfl (fun K hK => ?_)
          go_simp
          refine (HS2.out wK3 (HG.out.below (hSK3)).1).mono ?_
          rintro e wK4 ⟨rfl, hbK4⟩
          have hSK4 : Below w0.heap.size w0 wK4 := bStep (hSK3) hbK4
          go_wp2_with fail
          refine hK.out _ _ (fun _ => hSK4) ?_
          clear hK K
          have b8_4 := b8_3.belowAll hbK4
          have b7_4 := b7_3.belowAll hbK4
          refine wpZ_one (i := 14) (by kernel_rfl) rfl (fun K hK => ?_)
          have cS := b7_4.cell; have fS := b7_4.frozen
          go_simp
          obtain ⟨wK5, hw, hSK5, b7_5, hx⟩ := pkS b7_4 (hSK4) lN7_3 d1
          rw [hw]
          refine hK.out _ _ (fun _ => hSK5) ?_
          have b8_5 := hx b8_4 (by omega)
          clear hK K cS fS hw hx
          refine wpZ_one (i := 15) (by kernel_rfl) rfl (fun K hK => ?_)
          have cS := b8_5.cell; have fS := b8_5.frozen
          go_simp
          obtain ⟨wK6, hw, hSK6, b8_6, hx⟩ := pkS b8_5 (hSK5) lN8_1 d2
          rw [hw]
          refine hK.out _ _ (fun _ => hSK6) ?_
          have b7_6 := hx b7_5 (by omega)
          clear hK K cS fS hw hx
          refine wpZ_done (by kernel_rfl) ?_ _
          go_wp2_with fail
          go_meet
          exact ⟨_, _, rfl, rfl, by omega, lN7_3, lN8_1, b7_6, b8_6, hSK6⟩
      · go_simp
        obtain ⟨N7_2, wK2, hN, hw, hSK2, b7_2, lN7_2, hx⟩ := pkA hSK1
        rw [hw, hN]
        refine hK.out _ _ (fun _ => hSK2) ?_
        have b8_2 := b8_1.belowAll hx
        have neN8_1_N7_2 : N8_1 ≠ N7_2 := by have := b8_1.lt; omega
        clear hK K hw hN hx
        refine wpZ_one (i := 5) (by kernel_rfl) rfl (fun K hK => ?_)
        go_simp
        refine (HS1.out wK2 (HG.out.below (hSK2)).1).mono ?_
        rintro e wK3 ⟨rfl, hbK3⟩
        have hSK3 : Below w0.heap.size w0 wK3 := bStep (hSK2) hbK3
        go_wp2_with fail
        refine hK.out _ _ (fun _ => hSK3) ?_
        clear hK K
        have b8_3 := b8_2.belowAll hbK3
        have b7_3 := b7_2.belowAll hbK3
        refine wpZ_one (i := 11) (by kernel_rfl) rfl (fun K hK => ?_)
        go_simp
        refine (HS2.out wK3 (HG.out.below (hSK3)).1).mono ?_
        rintro e wK4 ⟨rfl, hbK4⟩
        have hSK4 : Below w0.heap.size w0 wK4 := bStep (hSK3) hbK4
        go_wp2_with fail
        refine hK.out _ _ (fun _ => hSK4) ?_
        clear hK K
        have b8_4 := b8_3.belowAll hbK4
        have b7_4 := b7_3.belowAll hbK4
        refine wpZ_one (i := 14) (by kernel_rfl) rfl (fun K hK => ?_)
        have cS := b7_4.cell; have fS := b7_4.frozen
        go_simp
        obtain ⟨wK5, hw, hSK5, b7_5, hx⟩ := pkS b7_4 (hSK4) lN7_2 d1
        rw [hw]
        refine hK.out _ _ (fun _ => hSK5) ?_
        have b8_5 := hx b8_4 (by omega)
        clear hK K cS fS hw hx
        refine wpZ_one (i := 15) (by kernel_rfl) rfl (fun K hK => ?_)
        have cS := b8_5.cell; have fS := b8_5.frozen
        go_simp
        obtain ⟨wK6, hw, hSK6, b8_6, hx⟩ := pkS b8_5 (hSK5) lN8_1 d2
        rw [hw]
        refine hK.out _ _ (fun _ => hSK6) ?_
        have b7_6 := hx b7_5 (by omega)
        clear hK K cS fS hw hx
        refine wpZ_done (by kernel_rfl) ?_ _
        go_wp2_with fail
        go_meet
        exact ⟨_, _, rfl, rfl, by omega, lN7_2, lN8_1, b7_6, b8_6, hSK6⟩
  obtain ⟨N7, N8, rfl, rfl, hne, l7, l8, b7, b8, hbx⟩ := hcut
  have bp1 := bp.belowAll hbx; have bq1 := bq.belowAll hbx; have br1 := br.belowAll hbx
  have lr := br.lt
  have hbw1 := bStep hbw0 hbx
  have HG1 : Hid (GlobC wc) := HG.out.below hbx
  have hN7 : w.heap.size + 1 + 1 < N7 := Nat.lt_of_lt_of_le lr l7
  have hN8 : w.heap.size + 1 + 1 < N8 := Nat.lt_of_lt_of_le lr l8
  clear bp bq br hbw0 hbx HG HS1 HS2 lr l7 l8
  obtain ⟨w1, hw1⟩ : ∃ x, x = wc := ⟨_, rfl⟩
  rw [← hw1] at b7 b8 bp1 bq1 br1 hbw1 HG1 ⊢
  clear hw1
  obtain ⟨q0, q1, q2, q3, q4, q5, q6, q7, q8, qf⟩ := bp1.cells
  obtain ⟨p0, p1, p2, p3, p4, p5, p6, p7, p8, pf⟩ := bq1.cells
  by_cases hs : x = u ∧ y = v
  · have dS : decide (x = u ∧ y = v ∧ false = false) = true := decide_eq_true ⟨hs.1, hs.2, rfl⟩
    rw [dS] at QI
    have HV : Hid (ans = s1) := by show _ = _; rw [EA.out, decide_eq_true hs, RT.out]
    clear dS hs EA RT RF HIF HLF
    go_wp2_with fail
    refine (HM1.out _ HG1.out.1).mono ?_
    rintro e w2 ⟨rfl, hb2⟩
    have HG2 : Hid (GlobC w2) := HG1.out.below hb2
    clear p0 p1 p2 p3 p4 p5 p6 p7 p8 pf q0 q1 q2 q3 q4 q5 q6 q7 q8 qf
    go_wp2_with fail
    refine (HM2.out _ HG2.out.1).mono ?_
    rintro e w3 ⟨rfl, hb3⟩
    have hb13 : Below w1.heap.size w1 w3 := bStep hb2 hb3
    have c7 := (b7.belowAll hb13).cell; have f7 := (b7.belowAll hb13).frozen
    have hbw3 := bStep hbw1 hb13
    go_upto_region 4 with fail
    obtain ⟨w4, hw4⟩ : ∃ x : World, x = (((w3.setCell ⟨N7, 0, none⟩ (.int .u64 ((limb 0 x3 : Nat) : Int))).setCell ⟨N7, 1, none⟩ (.int .u64 ((limb 1 x3 : Nat) : Int))).setCell ⟨N7, 2, none⟩ (.int .u64 ((limb 2 x3 : Nat) : Int))).setCell ⟨N7, 3, none⟩ (.int .u64 ((limb 3 x3 : Nat) : Int)) := ⟨_, rfl⟩
    have b74 : Blk w4 24 N7 (fun i => limb i x3) := by rw [hw4]; exact (b7.belowAll hb13).set4 (fun i => limb i x3)
    have b84 : Blk w4 24 N8 (fun i => limb i d2) := by rw [hw4]; exact (b8.belowAll hb13).other4 (by omega) _ _ _ _
    have br4 : Blk w4 24 (w.heap.size + 1 + 1) (fun _ => 0) := by rw [hw4]; exact (br1.belowAll hb13).other4 (by omega) _ _ _ _
    have bp4 : Pt w4 w.heap.size x y false := by rw [hw4]; exact ((((bp1.belowAll hb13).other (by dsimp only; omega) _).other (by dsimp only; omega) _).other (by dsimp only; omega) _).other (by dsimp only; omega) _
    have hbw4 : Below w.heap.size w w4 := by rw [hw4]; exact bSet4 hbw3 (by omega) _ _ _ _
    have HG4 : Hid (GlobC w4) := HG0.out.below hbw4
    rw [← hw4]
    clear hw4 c7 f7 hb13 hb3 hb2 hbw3 hbw1 b7 b8 br1 bp1 bq1 HG2 HG1 HM1 HM2
    obtain ⟨q0, q1, q2, q3, q4, q5, q6, q7, q8, qf⟩ := bp4.cells
    go_wp2_with fail
    refine (HA.out _ HG4.out.1).mono ?_
    rintro e w5 ⟨rfl, hb5⟩
    have c8 := (b84.belowAll hb5).cell; have f8 := (b84.belowAll hb5).frozen
    have hbw5 := bStep hbw4 hb5
    clear q0 q1 q2 q3 q4 q5 q6 q7 q8 qf
    go_upto_region 5 with fail
    obtain ⟨w6, hw6⟩ : ∃ x : World, x = (((w5.setCell ⟨N8, 0, none⟩ (.int .u64 ((limb 0 yy : Nat) : Int))).setCell ⟨N8, 1, none⟩ (.int .u64 ((limb 1 yy : Nat) : Int))).setCell ⟨N8, 2, none⟩ (.int .u64 ((limb 2 yy : Nat) : Int))).setCell ⟨N8, 3, none⟩ (.int .u64 ((limb 3 yy : Nat) : Int)) := ⟨_, rfl⟩
    have b86 : Blk w6 24 N8 (fun i => limb i yy) := by rw [hw6]; exact (b84.belowAll hb5).set4 (fun i => limb i yy)
    have b76 : Blk w6 24 N7 (fun i => limb i x3) := by rw [hw6]; exact (b74.belowAll hb5).other4 (by omega) _ _ _ _
    have br6 : Blk w6 24 (w.heap.size + 1 + 1) (fun _ => 0) := by rw [hw6]; exact (br4.belowAll hb5).other4 (by omega) _ _ _ _
    have hbw6 : Below w.heap.size w w6 := by rw [hw6]; exact bSet4 hbw5 (by omega) _ _ _ _
    have HG6 : Hid (GlobC w6) := HG0.out.below hbw6
    rw [← hw6]
    clear hw6 c8 f8 hb5 hbw5 hbw4 b74 b84 br4 bp4 HG4 HA
    have c8 := b86.cell
    go_wp2_with fail
    refine (HIT.out _ HG6.out.1).mono ?_
    rintro e w7 ⟨er, rfl, hb7⟩
    have b77 := (b76.belowAll hb7).alloc (.cells #[.int .u64 ((limb 0 (i1) : Nat) : Int), .int .u64 ((limb 1 (i1) : Nat) : Int), .int .u64 ((limb 2 (i1) : Nat) : Int), .int .u64 ((limb 3 (i1) : Nat) : Int)] 24)
    have br7 := (br6.belowAll hb7).alloc (.cells #[.int .u64 ((limb 0 (i1) : Nat) : Int), .int .u64 ((limb 1 (i1) : Nat) : Int), .int .u64 ((limb 2 (i1) : Nat) : Int), .int .u64 ((limb 3 (i1) : Nat) : Int)] 24)
    have bi7 : Blk (w7.alloc (.cells #[.int .u64 ((limb 0 (i1) : Nat) : Int), .int .u64 ((limb 1 (i1) : Nat) : Int), .int .u64 ((limb 2 (i1) : Nat) : Int), .int .u64 ((limb 3 (i1) : Nat) : Int)] 24)) 24 w7.heap.size (fun i => limb i i1) := Blk.newAt _ _ _ (fun i => limb i i1) rfl
    have hbw7 := bAlloc (bStep hbw6 hb7) (.cells #[.int .u64 ((limb 0 (i1) : Nat) : Int), .int .u64 ((limb 1 (i1) : Nat) : Int), .int .u64 ((limb 2 (i1) : Nat) : Int), .int .u64 ((limb 3 (i1) : Nat) : Int)] 24)
    clear c8 hb7
    go_upto_region 6 with fail
    obtain ⟨w8, hw8⟩ : ∃ x : World, x = w7.alloc (.cells #[.int .u64 ((limb 0 (i1) : Nat) : Int), .int .u64 ((limb 1 (i1) : Nat) : Int), .int .u64 ((limb 2 (i1) : Nat) : Int), .int .u64 ((limb 3 (i1) : Nat) : Int)] 24) := ⟨_, rfl⟩
    obtain ⟨N9, hN9⟩ : ∃ N, N = w7.heap.size := ⟨_, rfl⟩
    rw [← hw8] at b77 br7 bi7 hbw7 ⊢
    rw [← hN9] at bi7 ⊢
    clear hw8 hN9
    have HG8 : Hid (GlobC w8) := HG0.out.below hbw7
    have c7 := b77.cell; have c9 := bi7.cell
    go_wp2_with fail
    refine (HLT.out _ HG8.out.1).mono ?_
    rintro e w9 ⟨rfl, hb9⟩
    have cR := (br7.belowAll hb9).cell; have fR := (br7.belowAll hb9).frozen
    go_wp2
    refine bodyPost_ret (v := .agg #[.int .u64 ((limb 0 (s1) : Nat) : Int), .int .u64 ((limb 1 (s1) : Nat) : Int), .int .u64 ((limb 2 (s1) : Nat) : Int), .int .u64 ((limb 3 (s1) : Nat) : Int)]) (by simp [results, Tryz.results37, go_sem, cR]) rfl ⟨by rw [HV.out], ?_⟩
    exact bSet4 (bStep hbw7 hb9) hrw _ _ _ _
  · have dS : decide (x = u ∧ y = v ∧ false = false) = false := decide_eq_false (fun h => hs ⟨h.1, h.2.1⟩)
    rw [dS] at QI
    have HV : Hid (ans = s2) := by show _ = _; rw [EA.out, decide_eq_false hs, RF.out]
    clear dS hs EA RT RF HIT HLT HM1 HM2 HA
    go_upto_region 5 with fail
    clear p0 p1 p2 p3 p4 p5 p6 p7 p8 pf q0 q1 q2 q3 q4 q5 q6 q7 q8 qf bp1 bq1
    obtain ⟨w6, hw6⟩ : ∃ x, x = w1 := ⟨_, rfl⟩
    rw [← hw6] at b7 b8 br1 hbw1 HG1 ⊢
    have b76 := b7; have b86 := b8; have br6 := br1; have hbw6 := hbw1
    have HG6 : Hid (GlobC w6) := HG1
    clear hw6 b7 b8 br1 hbw1 HG1
    have c8 := b86.cell
    go_wp2_with fail
    refine (HIF.out _ HG6.out.1).mono ?_
    rintro e w7 ⟨er, rfl, hb7⟩
    have b77 := (b76.belowAll hb7).alloc (.cells #[.int .u64 ((limb 0 (i2) : Nat) : Int), .int .u64 ((limb 1 (i2) : Nat) : Int), .int .u64 ((limb 2 (i2) : Nat) : Int), .int .u64 ((limb 3 (i2) : Nat) : Int)] 24)
    have br7 := (br6.belowAll hb7).alloc (.cells #[.int .u64 ((limb 0 (i2) : Nat) : Int), .int .u64 ((limb 1 (i2) : Nat) : Int), .int .u64 ((limb 2 (i2) : Nat) : Int), .int .u64 ((limb 3 (i2) : Nat) : Int)] 24)
    have bi7 : Blk (w7.alloc (.cells #[.int .u64 ((limb 0 (i2) : Nat) : Int), .int .u64 ((limb 1 (i2) : Nat) : Int), .int .u64 ((limb 2 (i2) : Nat) : Int), .int .u64 ((limb 3 (i2) : Nat) : Int)] 24)) 24 w7.heap.size (fun i => limb i i2) := Blk.newAt _ _ _ (fun i => limb i i2) rfl
    have hbw7 := bAlloc (bStep hbw6 hb7) (.cells #[.int .u64 ((limb 0 (i2) : Nat) : Int), .int .u64 ((limb 1 (i2) : Nat) : Int), .int .u64 ((limb 2 (i2) : Nat) : Int), .int .u64 ((limb 3 (i2) : Nat) : Int)] 24)
    clear c8 hb7
    go_upto_region 6 with fail
    obtain ⟨w8, hw8⟩ : ∃ x : World, x = w7.alloc (.cells #[.int .u64 ((limb 0 (i2) : Nat) : Int), .int .u64 ((limb 1 (i2) : Nat) : Int), .int .u64 ((limb 2 (i2) : Nat) : Int), .int .u64 ((limb 3 (i2) : Nat) : Int)] 24) := ⟨_, rfl⟩
    obtain ⟨N9, hN9⟩ : ∃ N, N = w7.heap.size := ⟨_, rfl⟩
    rw [← hw8] at b77 br7 bi7 hbw7 ⊢
    rw [← hN9] at bi7 ⊢
    clear hw8 hN9
    have HG8 : Hid (GlobC w8) := HG0.out.below hbw7
    have c7 := b77.cell; have c9 := bi7.cell
    go_wp2_with fail
    refine (HLF.out _ HG8.out.1).mono ?_
    rintro e w9 ⟨rfl, hb9⟩
    have cR := (br7.belowAll hb9).cell; have fR := (br7.belowAll hb9).frozen
    go_wp2
    refine bodyPost_ret (v := .agg #[.int .u64 ((limb 0 (s2) : Nat) : Int), .int .u64 ((limb 1 (s2) : Nat) : Int), .int .u64 ((limb 2 (s2) : Nat) : Int), .int .u64 ((limb 3 (s2) : Nat) : Int)]) (by simp [results, Tryz.results37, go_sem, cR]) rfl ⟨by rw [HV.out], ?_⟩
    exact bSet4 (bStep hbw7 hb9) hrw _ _ _ _
end Go.Proofs.YtjpjnmhjbmmaiaaGreatDoor
