/- PolySums: the walk. -/
import Derived.Test.YtfjdnlcfhgamfaaDoorSPR3
import Derived.Test.YtfjdnlcfhgamfaaDoorSL9D
namespace Go.Proofs.YtfjdnlcfhgamfaaDoor
open Go.RowKit
set_option maxHeartbeats 16000000 in
set_option maxRecDepth 40000 in
theorem psums_all (si : Int) (oa ob : Option Addr) (n cn m cm x y K1 K2 K3 : Nat) (f g F1 F2 F3 : Nat → Nat) (hn : n ≤ 60) (hm : m ≤ 60) (hf : ∀ i, i < n → f i < 115792089237316195423570985008687907853269984665640564039457584007913129639936) (hgm : ∀ i, i < m → g i < 115792089237316195423570985008687907853269984665640564039457584007913129639936) (hy : y < 115792089237316195423570985008687907853269984665640564039457584007913129639936) (hK : K1 ≤ 1000 ∧ K2 ≤ 1000 ∧ K3 ≤ 1000) (hF1 : ∀ i, i < K1 → F1 i < 115792089237316195423570985008687907853269984665640564039457584007913129639936) (hF2 : ∀ i, i < K2 → F2 i < 115792089237316195423570985008687907853269984665640564039457584007913129639936) (hF3 : ∀ i, i < K3 → F3 i < 115792089237316195423570985008687907853269984665640564039457584007913129639936)
    (HT0 : ∀ w v, Glob w → Es w v n f → Calls Tryd.prog 14 #[.int .i64 si, v] w fun e w' => (∃ r, e = .returned r ∧ Es w' r K1 F1) ∧ Below w.heap.size w w')
    (HRT0 : ∀ w, Es w (.slice oa n cn) n f → Calls Tryd.prog 15 #[.int .i64 si, .slice oa n cn] w fun e w' => (∃ r, e = .returned r ∧ Es w' r K1 F1) ∧ Below w.heap.size w w')
    (HA0 : ∀ w v u, Glob w → Es w v n f → Es w u m g → Calls Tryd.prog 16 #[.int .i64 si, v, u] w fun e w' => (∃ r, e = .returned r ∧ Es w' r K2 F2) ∧ Below w.heap.size w w')
    (HRA0 : ∀ w, Es w (.slice oa n cn) n f → Es w (.slice ob m cm) m g → Calls Tryd.prog 17 #[.int .i64 si, .slice oa n cn, .slice ob m cm] w fun e w' => (∃ r, e = .returned r ∧ Es w' r K2 F2) ∧ Below w.heap.size w w')
    (HS0 : ∀ w v, Glob w → Es w v n f → Calls Tryd.prog 18 #[.int .i64 si, v, .agg #[.int .u64 ((limb 0 (x) : Nat) : Int), .int .u64 ((limb 1 (x) : Nat) : Int), .int .u64 ((limb 2 (x) : Nat) : Int), .int .u64 ((limb 3 (x) : Nat) : Int)]] w fun e w' => (∃ r, e = .returned r ∧ Es w' r K3 F3) ∧ Below w.heap.size w w')
    (HRS0 : ∀ w, Es w (.slice oa n cn) n f → Calls Tryd.prog 19 #[.int .i64 si, .slice oa n cn, .agg #[.int .u64 ((limb 0 (x) : Nat) : Int), .int .u64 ((limb 1 (x) : Nat) : Int), .int .u64 ((limb 2 (x) : Nat) : Int), .int .u64 ((limb 3 (x) : Nat) : Int)]] w fun e w' => (∃ r, e = .returned r ∧ Es w' r K3 F3) ∧ Below w.heap.size w w')
    (HE0 : ∀ w v, Glob w → Es w v n f → Calls Tryd.prog 20 #[.int .i64 si, v, .agg #[.int .u64 ((limb 0 (x) : Nat) : Int), .int .u64 ((limb 1 (x) : Nat) : Int), .int .u64 ((limb 2 (x) : Nat) : Int), .int .u64 ((limb 3 (x) : Nat) : Int)]] w fun e w' => e = .returned (.agg #[.int .u64 ((limb 0 (y) : Nat) : Int), .int .u64 ((limb 1 (y) : Nat) : Int), .int .u64 ((limb 2 (y) : Nat) : Int), .int .u64 ((limb 3 (y) : Nat) : Int)]) ∧ Below w.heap.size w w')
    (HRE0 : ∀ w, Es w (.slice oa n cn) n f → Calls Tryd.prog 21 #[.int .i64 si, .slice oa n cn, .agg #[.int .u64 ((limb 0 (x) : Nat) : Int), .int .u64 ((limb 1 (x) : Nat) : Int), .int .u64 ((limb 2 (x) : Nat) : Int), .int .u64 ((limb 3 (x) : Nat) : Int)]] w fun e w' => e = .returned (.agg #[.int .u64 ((limb 0 (y) : Nat) : Int), .int .u64 ((limb 1 (y) : Nat) : Int), .int .u64 ((limb 2 (y) : Nat) : Int), .int .u64 ((limb 3 (y) : Nat) : Int)]) ∧ Below w.heap.size w w')
    (w : World) (hg : Glob w) (hv : Es w (.slice oa n cn) n f) (hu : Es w (.slice ob m cm) m g) :
    Calls Tryd.prog 3 #[.int .i64 si, .slice oa n cn, .slice ob m cm, .agg #[.int .u64 ((limb 0 (x) : Nat) : Int), .int .u64 ((limb 1 (x) : Nat) : Int), .int .u64 ((limb 2 (x) : Nat) : Int), .int .u64 ((limb 3 (x) : Nat) : Int)]] w fun e w' => e = .returned (.bool true) ∧ Below w.heap.size w w' := by
  have HT : Hid (∀ w v, Glob w → Es w v n f → Calls Tryd.prog 14 #[.int .i64 si, v] w fun e w' => (∃ r, e = .returned r ∧ Es w' r K1 F1) ∧ Below w.heap.size w w') := HT0
  clear HT0
  have HRT : Hid (∀ w, Es w (.slice oa n cn) n f → Calls Tryd.prog 15 #[.int .i64 si, .slice oa n cn] w fun e w' => (∃ r, e = .returned r ∧ Es w' r K1 F1) ∧ Below w.heap.size w w') := HRT0
  clear HRT0
  have HA : Hid (∀ w v u, Glob w → Es w v n f → Es w u m g → Calls Tryd.prog 16 #[.int .i64 si, v, u] w fun e w' => (∃ r, e = .returned r ∧ Es w' r K2 F2) ∧ Below w.heap.size w w') := HA0
  clear HA0
  have HRA : Hid (∀ w, Es w (.slice oa n cn) n f → Es w (.slice ob m cm) m g → Calls Tryd.prog 17 #[.int .i64 si, .slice oa n cn, .slice ob m cm] w fun e w' => (∃ r, e = .returned r ∧ Es w' r K2 F2) ∧ Below w.heap.size w w') := HRA0
  clear HRA0
  have HS : Hid (∀ w v, Glob w → Es w v n f → Calls Tryd.prog 18 #[.int .i64 si, v, .agg #[.int .u64 ((limb 0 (x) : Nat) : Int), .int .u64 ((limb 1 (x) : Nat) : Int), .int .u64 ((limb 2 (x) : Nat) : Int), .int .u64 ((limb 3 (x) : Nat) : Int)]] w fun e w' => (∃ r, e = .returned r ∧ Es w' r K3 F3) ∧ Below w.heap.size w w') := HS0
  clear HS0
  have HRS : Hid (∀ w, Es w (.slice oa n cn) n f → Calls Tryd.prog 19 #[.int .i64 si, .slice oa n cn, .agg #[.int .u64 ((limb 0 (x) : Nat) : Int), .int .u64 ((limb 1 (x) : Nat) : Int), .int .u64 ((limb 2 (x) : Nat) : Int), .int .u64 ((limb 3 (x) : Nat) : Int)]] w fun e w' => (∃ r, e = .returned r ∧ Es w' r K3 F3) ∧ Below w.heap.size w w') := HRS0
  clear HRS0
  have HE : Hid (∀ w v, Glob w → Es w v n f → Calls Tryd.prog 20 #[.int .i64 si, v, .agg #[.int .u64 ((limb 0 (x) : Nat) : Int), .int .u64 ((limb 1 (x) : Nat) : Int), .int .u64 ((limb 2 (x) : Nat) : Int), .int .u64 ((limb 3 (x) : Nat) : Int)]] w fun e w' => e = .returned (.agg #[.int .u64 ((limb 0 (y) : Nat) : Int), .int .u64 ((limb 1 (y) : Nat) : Int), .int .u64 ((limb 2 (y) : Nat) : Int), .int .u64 ((limb 3 (y) : Nat) : Int)]) ∧ Below w.heap.size w w') := HE0
  clear HE0
  have HRE : Hid (∀ w, Es w (.slice oa n cn) n f → Calls Tryd.prog 21 #[.int .i64 si, .slice oa n cn, .agg #[.int .u64 ((limb 0 (x) : Nat) : Int), .int .u64 ((limb 1 (x) : Nat) : Int), .int .u64 ((limb 2 (x) : Nat) : Int), .int .u64 ((limb 3 (x) : Nat) : Int)]] w fun e w' => e = .returned (.agg #[.int .u64 ((limb 0 (y) : Nat) : Int), .int .u64 ((limb 1 (y) : Nat) : Int), .int .u64 ((limb 2 (y) : Nat) : Int), .int .u64 ((limb 3 (y) : Nat) : Int)]) ∧ Below w.heap.size w w') := HRE0
  clear HRE0
  have SP : Hid (∀ w, Es w (.slice oa n cn) n f → _) := fun w h => spare_fullE n _ f (by omega) w h
  have CQ : Hid (∀ w, Es w (.slice ob m cm) m g → _) := fun w h => copyE_any m _ g (by omega) w h
  have HG : Hid (Glob w) := hg
  have HVA0 : Hid (Es w (.slice oa n cn) n f) := hv
  have HVB0 : Hid (Es w (.slice ob m cm) m g) := hu
  have HFM : Hid (∀ i, i < n → f i < 115792089237316195423570985008687907853269984665640564039457584007913129639936) := hf
  have HGM : Hid (∀ i, i < m → g i < 115792089237316195423570985008687907853269984665640564039457584007913129639936) := hgm
  have HM1 : Hid (∀ i, i < K1 → F1 i < 115792089237316195423570985008687907853269984665640564039457584007913129639936) := hF1
  have HM2 : Hid (∀ i, i < K2 → F2 i < 115792089237316195423570985008687907853269984665640564039457584007913129639936) := hF2
  have HM3 : Hid (∀ i, i < K3 → F3 i < 115792089237316195423570985008687907853269984665640564039457584007913129639936) := hF3
  have HN : Hid (K1 ≤ 1000 ∧ K2 ≤ 1000 ∧ K3 ≤ 1000) := hK
  have HEQ : Hid (∀ w, (binOp .eql 25 (.agg #[.int .u64 ((limb 0 (y) : Nat) : Int), .int .u64 ((limb 1 (y) : Nat) : Int), .int .u64 ((limb 2 (y) : Nat) : Int), .int .u64 ((limb 3 (y) : Nat) : Int)]) (.agg #[.int .u64 ((limb 0 (y) : Nat) : Int), .int .u64 ((limb 1 (y) : Nat) : Int), .int .u64 ((limb 2 (y) : Nat) : Int), .int .u64 ((limb 3 (y) : Nat) : Int)])).run Tryd.prog w = .ok (.bool true) w) := fun w => by have h := eqlE y y hy hy w; rw [decide_eq_true rfl] at h; exact h
  have HGR : Hid (∀ w, _) := fun w => great7_any oa ob n cn m cm w
  rw [decide_eq_false (by omega)] at HGR
  clear hg hv hu hf hgm hF1 hF2 hF3 hK hy
  go_enter Tryd.func3, Tryd.ntmps3
  go_wp2_with fail
  obtain ⟨w0, hw0⟩ : ∃ z : World, z = w.alloc (.cells #[.int .u64 ((limb 0 (x) : Nat) : Int), .int .u64 ((limb 1 (x) : Nat) : Int), .int .u64 ((limb 2 (x) : Nat) : Int), .int .u64 ((limb 3 (x) : Nat) : Int)] 25) := ⟨_, rfl⟩
  obtain ⟨N7, e7⟩ : ∃ z, z = w.heap.size := ⟨_, rfl⟩
  have bx0 : Blk w0 25 N7 (fun i => limb i x) := by rw [hw0]; exact Blk.newAt _ _ _ (fun i => limb i x) e7
  have hb0 : Below w.heap.size w w0 := by rw [hw0]; exact bAlloc (Below.refl _ _) _
  rw [← hw0, ← e7]
  clear hw0 e7
  refine (alive7_any w0 (HG.out.below hb0)).mono ?_
  rintro e w1 ⟨rfl, hq⟩
  have hb1 := bStep hb0 hq
  have bx1 := bx0.belowAll hq
  clear hb0 hq bx0
  go_wp2_with fail
  refine (HGR.out w1).mono ?_
  rintro e w1' ⟨rfl, hw⟩
  obtain rfl := hw.symm
  clear hw HGR
  go_wp2_with fail
  refine (SP.out w1 (HVA0.out.below hb1)).mono ?_
  rintro e w2 ⟨g0, cf, rfl, hfu, lg, hq⟩
  have hb2 := bStep hb1 hq
  have bx2 := bx1.belowAll hq
  have HFU2 : Hid (FullE w2 g0 n cf f) := hfu
  have hnc : (n : Int) ≤ (cf : Int) := by have := hfu.1; omega
  clear hb1 hq bx1 hfu lg
  go_wp2_with fail
  refine (CQ.out w2 (HVB0.out.below hb2)).mono ?_
  rintro e w3 ⟨vq, rfl, hown, hq⟩
  have hb3 := bStep hb2 hq
  have bx3 := bx2.belowAll hq
  have HFU : Hid (FullE w3 g0 n cf f) := HFU2.out.belowAll hq
  have HQ : Hid (Es w3 vq m g) := own_Es hown
  have HVA : Hid (Es w3 (.slice oa n cn) n f) := HVA0.out.below hb3
  have HVB : Hid (Es w3 (.slice ob m cm) m g) := HVB0.out.below hb3
  have HG3 : Hid (Glob w3) := HG.out.below hb3
  clear hb2 hq bx2 HFU2 hown CQ HVA0 HVB0 HG
  go_upto_region 7 with fail
  refine wp_region_Z (fun w' => Below w3.heap.size w3 w') 99 (by kernel_rfl) ?_
  obtain ⟨wD, hD⟩ : ∃ x : World, x = w3.drew := ⟨_, rfl⟩
  rw [← hD]
  have hp0_0 : Below w3.heap.size w3 wD := by rw [hD]; exact (Below.refl _ _).drew
  have hlow0 : Below w3.heap.size w3 wD := by rw [hD]; exact (Below.refl _ _).drew
  clear hD
  refine wpZ_take (i := 0) (v := .int .i64 si) 20 rfl rfl (by kernel_rfl) (by kernel_rfl) (by kernel_rfl) (Or.inr (by decide)) (fun _ _ _ h => h) (Or.inl ⟨by rfl, fun w hSw => by go_simp⟩) hp0_0 ?_
  simp only [Act.put, List.setIfInBounds_toArray]
  dsimp only [List.set_cons_zero, List.set_cons_succ]
  refine wpZ_take (i := 1) (v := .slice (some ⟨g0, 0, none⟩) (n + 4) cf) 21 rfl rfl (by kernel_rfl) (by kernel_rfl) (by kernel_rfl) (Or.inr (by decide)) (fun _ _ _ h => h) (Or.inl ⟨by rfl, fun w hSw => by go_simp⟩) hp0_0 ?_
  simp only [Act.put, List.setIfInBounds_toArray]
  dsimp only [List.set_cons_zero, List.set_cons_succ]
  refine wpZ_take (i := 2) (v := .slice oa n cn) 22 rfl rfl (by kernel_rfl) (by kernel_rfl) (by kernel_rfl) (Or.inr (by decide)) (fun _ _ _ h => h) (Or.inl ⟨by rfl, fun w hSw => by go_simp⟩) hp0_0 ?_
  simp only [Act.put, List.setIfInBounds_toArray]
  dsimp only [List.set_cons_zero, List.set_cons_succ]
  refine wpZ_take (i := 6) (v := .int .i64 si) 26 rfl rfl (by kernel_rfl) (by kernel_rfl) (by kernel_rfl) (Or.inr (by decide)) (fun _ _ _ h => h) (Or.inl ⟨by rfl, fun w hSw => by go_simp⟩) hp0_0 ?_
  simp only [Act.put, List.setIfInBounds_toArray]
  dsimp only [List.set_cons_zero, List.set_cons_succ]
  refine wpZ_take (i := 7) (v := .slice oa n cn) 27 rfl rfl (by kernel_rfl) (by kernel_rfl) (by kernel_rfl) (Or.inr (by decide)) (fun _ _ _ h => h) (Or.inl ⟨by rfl, fun w hSw => by go_simp⟩) hp0_0 ?_
  simp only [Act.put, List.setIfInBounds_toArray]
  dsimp only [List.set_cons_zero, List.set_cons_succ]
  refine wpZ_one (i := 3) (by kernel_rfl) rfl (fun K hK => ?_)
  go_simp
  refine hK.out _ _ (fun _ => hp0_0) ?_
  clear hK K
  refine wpZ_take (i := 4) (v := .slice (some ⟨g0, 0, none⟩) n cf) 24 rfl rfl (by kernel_rfl) (by kernel_rfl) (by kernel_rfl) (Or.inr (by decide)) (fun _ _ _ h => h) (Or.inl ⟨by rfl, fun w hSw => by go_simp⟩) hp0_0 ?_
  simp only [Act.put, List.setIfInBounds_toArray]
  dsimp only [List.set_cons_zero, List.set_cons_succ]
  refine wpZ_one (i := 5) (by kernel_rfl) rfl (fun K hK => ?_)
  go_simp
  refine (HT.out wD (.slice (some ⟨g0, 0, none⟩) n cf) (HG3.out.below hlow0) (HFU.out.belowAll hlow0).part).mono ?_
  rintro e wL1 ⟨⟨v1, rfl, q1⟩, hbL1⟩
  have hlowL1 := bStep hlow0 hbL1
  have Ea_1 : Hid (Es wL1 v1 K1 F1) := q1
  clear q1
  go_wp2_with fail
  refine hK.out _ _ (fun _ => hlowL1) ?_
  clear hK K hbL1
  refine wpZ_one (i := 8) (by kernel_rfl) rfl (fun K hK => ?_)
  go_simp
  refine (HRT.out wL1 (HVA.out.below hlowL1)).mono ?_
  rintro e wL2 ⟨⟨v2, rfl, q2⟩, hbL2⟩
  have hlowL2 := bStep hlowL1 hbL2
  have Ea_2 : Hid (Es wL2 v1 K1 F1) := (Ea_1.out).below hbL2
  have Eb_2 : Hid (Es wL2 v2 K1 F1) := q2
  clear q2
  go_wp2_with fail
  refine hK.out _ _ (fun _ => hlowL2) ?_
  clear hK K hbL2
  refine wpZ_one (i := 9) (by kernel_rfl) rfl (fun K hK => ?_)
  go_simp
  refine (sameE_self v1 v2 K1 F1 HN.out.1 HM1.out wL2 Ea_2.out Eb_2.out).mono ?_
  rintro e wL3 ⟨rfl, hbL3⟩
  have hlowL3 := bStep hlowL2 hbL3
  have Ea_3 : Hid (Es wL3 v1 K1 F1) := (Ea_2.out).below hbL3
  have Eb_3 : Hid (Es wL3 v2 K1 F1) := (Eb_2.out).below hbL3
  go_wp2_with fail
  refine hK.out _ _ (fun _ => hlowL3) ?_
  clear hK K hbL3
  refine wpZ_take (i := 10) (v := .bool true) 30 rfl rfl (by kernel_rfl) (by kernel_rfl) (by kernel_rfl) (Or.inr (by decide)) (fun _ _ _ h => h) (Or.inl ⟨by rfl, fun w hSw => by go_simp⟩) hlowL3 ?_
  simp only [Act.put, List.setIfInBounds_toArray]
  dsimp only [List.set_cons_zero, List.set_cons_succ]
  refine wpZ_take (i := 11) (v := .int .i64 si) 31 rfl rfl (by kernel_rfl) (by kernel_rfl) (by kernel_rfl) (Or.inr (by decide)) (fun _ _ _ h => h) (Or.inl ⟨by rfl, fun w hSw => by go_simp⟩) hlowL3 ?_
  simp only [Act.put, List.setIfInBounds_toArray]
  dsimp only [List.set_cons_zero, List.set_cons_succ]
  refine wpZ_take (i := 12) (v := .slice (some ⟨g0, 0, none⟩) (n + 4) cf) 32 rfl rfl (by kernel_rfl) (by kernel_rfl) (by kernel_rfl) (Or.inr (by decide)) (fun _ _ _ h => h) (Or.inl ⟨by rfl, fun w hSw => by go_simp⟩) hlowL3 ?_
  simp only [Act.put, List.setIfInBounds_toArray]
  dsimp only [List.set_cons_zero, List.set_cons_succ]
  refine wpZ_take (i := 13) (v := .slice oa n cn) 33 rfl rfl (by kernel_rfl) (by kernel_rfl) (by kernel_rfl) (Or.inr (by decide)) (fun _ _ _ h => h) (Or.inl ⟨by rfl, fun w hSw => by go_simp⟩) hlowL3 ?_
  simp only [Act.put, List.setIfInBounds_toArray]
  dsimp only [List.set_cons_zero, List.set_cons_succ]
  refine wpZ_take (i := 16) (v := vq) 36 rfl rfl (by kernel_rfl) (by kernel_rfl) (by kernel_rfl) (Or.inr (by decide)) (fun _ _ _ h => h) (Or.inl ⟨by rfl, fun w hSw => by go_simp⟩) hlowL3 ?_
  simp only [Act.put, List.setIfInBounds_toArray]
  dsimp only [List.set_cons_zero, List.set_cons_succ]
  refine wpZ_take (i := 18) (v := .int .i64 si) 38 rfl rfl (by kernel_rfl) (by kernel_rfl) (by kernel_rfl) (Or.inr (by decide)) (fun _ _ _ h => h) (Or.inl ⟨by rfl, fun w hSw => by go_simp⟩) hlowL3 ?_
  simp only [Act.put, List.setIfInBounds_toArray]
  dsimp only [List.set_cons_zero, List.set_cons_succ]
  refine wpZ_take (i := 19) (v := .slice oa n cn) 39 rfl rfl (by kernel_rfl) (by kernel_rfl) (by kernel_rfl) (Or.inr (by decide)) (fun _ _ _ h => h) (Or.inl ⟨by rfl, fun w hSw => by go_simp⟩) hlowL3 ?_
  simp only [Act.put, List.setIfInBounds_toArray]
  dsimp only [List.set_cons_zero, List.set_cons_succ]
  refine wpZ_take (i := 20) (v := .slice ob m cm) 40 rfl rfl (by kernel_rfl) (by kernel_rfl) (by kernel_rfl) (Or.inr (by decide)) (fun _ _ _ h => h) (Or.inl ⟨by rfl, fun w hSw => by go_simp⟩) hlowL3 ?_
  simp only [Act.put, List.setIfInBounds_toArray]
  dsimp only [List.set_cons_zero, List.set_cons_succ]
  refine wpZ_one (i := 14) (by kernel_rfl) rfl (fun K hK => ?_)
  go_simp
  refine hK.out _ _ (fun _ => hlowL3) ?_
  clear hK K
  refine wpZ_take (i := 15) (v := .slice (some ⟨g0, 0, none⟩) n cf) 35 rfl rfl (by kernel_rfl) (by kernel_rfl) (by kernel_rfl) (Or.inr (by decide)) (fun _ _ _ h => h) (Or.inl ⟨by rfl, fun w hSw => by go_simp⟩) hlowL3 ?_
  simp only [Act.put, List.setIfInBounds_toArray]
  dsimp only [List.set_cons_zero, List.set_cons_succ]
  refine wpZ_one (i := 17) (by kernel_rfl) rfl (fun K hK => ?_)
  go_simp
  refine (HA.out wL3 (.slice (some ⟨g0, 0, none⟩) n cf) vq (HG3.out.below hlowL3) (HFU.out.belowAll hlowL3).part (HQ.out.below hlowL3)).mono ?_
  rintro e wL4 ⟨⟨v3, rfl, q3⟩, hbL4⟩
  have hlowL4 := bStep hlowL3 hbL4
  have Ec_4 : Hid (Es wL4 v3 K2 F2) := q3
  clear q3
  go_wp2_with fail
  refine hK.out _ _ (fun _ => hlowL4) ?_
  clear hK K hbL4
  refine wpZ_one (i := 21) (by kernel_rfl) rfl (fun K hK => ?_)
  go_simp
  refine (HRA.out wL4 (HVA.out.below hlowL4) (HVB.out.below hlowL4)).mono ?_
  rintro e wL5 ⟨⟨v4, rfl, q4⟩, hbL5⟩
  have hlowL5 := bStep hlowL4 hbL5
  have Ec_5 : Hid (Es wL5 v3 K2 F2) := (Ec_4.out).below hbL5
  have Ed_5 : Hid (Es wL5 v4 K2 F2) := q4
  clear q4
  go_wp2_with fail
  refine hK.out _ _ (fun _ => hlowL5) ?_
  clear hK K hbL5
  refine wpZ_one (i := 22) (by kernel_rfl) rfl (fun K hK => ?_)
  go_simp
  refine (sameE_self v3 v4 K2 F2 HN.out.2.1 HM2.out wL5 Ec_5.out Ed_5.out).mono ?_
  rintro e wL6 ⟨rfl, hbL6⟩
  have hlowL6 := bStep hlowL5 hbL6
  have Ec_6 : Hid (Es wL6 v3 K2 F2) := (Ec_5.out).below hbL6
  have Ed_6 : Hid (Es wL6 v4 K2 F2) := (Ed_5.out).below hbL6
  go_wp2_with fail
  refine hK.out _ _ (fun _ => hlowL6) ?_
  clear hK K hbL6
  refine wpZ_take (i := 23) (v := .bool true) 43 rfl rfl (by kernel_rfl) (by kernel_rfl) (by kernel_rfl) (Or.inr (by decide)) (fun _ _ _ h => h) (Or.inl ⟨by rfl, fun w hSw => by go_simp⟩) hlowL6 ?_
  simp only [Act.put, List.setIfInBounds_toArray]
  dsimp only [List.set_cons_zero, List.set_cons_succ]
  refine wpZ_take (i := 24) (v := .bool true) 44 rfl rfl (by kernel_rfl) (by kernel_rfl) (by kernel_rfl) (Or.inr (by decide)) (fun _ _ _ h => h) (Or.inl ⟨by rfl, fun w hSw => by go_simp⟩) hlowL6 ?_
  simp only [Act.put, List.setIfInBounds_toArray]
  dsimp only [List.set_cons_zero, List.set_cons_succ]
  refine wpZ_take (i := 25) (v := .int .i64 si) 45 rfl rfl (by kernel_rfl) (by kernel_rfl) (by kernel_rfl) (Or.inr (by decide)) (fun _ _ _ h => h) (Or.inl ⟨by rfl, fun w hSw => by go_simp⟩) hlowL6 ?_
  simp only [Act.put, List.setIfInBounds_toArray]
  dsimp only [List.set_cons_zero, List.set_cons_succ]
  refine wpZ_take (i := 26) (v := .slice (some ⟨g0, 0, none⟩) (n + 4) cf) 46 rfl rfl (by kernel_rfl) (by kernel_rfl) (by kernel_rfl) (Or.inr (by decide)) (fun _ _ _ h => h) (Or.inl ⟨by rfl, fun w hSw => by go_simp⟩) hlowL6 ?_
  simp only [Act.put, List.setIfInBounds_toArray]
  dsimp only [List.set_cons_zero, List.set_cons_succ]
  refine wpZ_take (i := 27) (v := .slice oa n cn) 47 rfl rfl (by kernel_rfl) (by kernel_rfl) (by kernel_rfl) (Or.inr (by decide)) (fun _ _ _ h => h) (Or.inl ⟨by rfl, fun w hSw => by go_simp⟩) hlowL6 ?_
  simp only [Act.put, List.setIfInBounds_toArray]
  dsimp only [List.set_cons_zero, List.set_cons_succ]
  refine wpZ_take (i := 30) (v := .agg #[.int .u64 ((limb 0 (x) : Nat) : Int), .int .u64 ((limb 1 (x) : Nat) : Int), .int .u64 ((limb 2 (x) : Nat) : Int), .int .u64 ((limb 3 (x) : Nat) : Int)]) 50 rfl rfl (by kernel_rfl) (by kernel_rfl) (by kernel_rfl) (Or.inr (by decide)) (fun _ _ _ h => h) (Or.inl ⟨by rfl, fun w hSw => by (have qq := (bx3.belowAll hSw).cell; clear hSw; go_simp)⟩) hlowL6 ?_
  simp only [Act.put, List.setIfInBounds_toArray]
  dsimp only [List.set_cons_zero, List.set_cons_succ]
  refine wpZ_take (i := 32) (v := .int .i64 si) 52 rfl rfl (by kernel_rfl) (by kernel_rfl) (by kernel_rfl) (Or.inr (by decide)) (fun _ _ _ h => h) (Or.inl ⟨by rfl, fun w hSw => by go_simp⟩) hlowL6 ?_
  simp only [Act.put, List.setIfInBounds_toArray]
  dsimp only [List.set_cons_zero, List.set_cons_succ]
  refine wpZ_take (i := 33) (v := .slice oa n cn) 53 rfl rfl (by kernel_rfl) (by kernel_rfl) (by kernel_rfl) (Or.inr (by decide)) (fun _ _ _ h => h) (Or.inl ⟨by rfl, fun w hSw => by go_simp⟩) hlowL6 ?_
  simp only [Act.put, List.setIfInBounds_toArray]
  dsimp only [List.set_cons_zero, List.set_cons_succ]
  refine wpZ_take (i := 34) (v := .agg #[.int .u64 ((limb 0 (x) : Nat) : Int), .int .u64 ((limb 1 (x) : Nat) : Int), .int .u64 ((limb 2 (x) : Nat) : Int), .int .u64 ((limb 3 (x) : Nat) : Int)]) 54 rfl rfl (by kernel_rfl) (by kernel_rfl) (by kernel_rfl) (Or.inr (by decide)) (fun _ _ _ h => h) (Or.inl ⟨by rfl, fun w hSw => by (have qq := (bx3.belowAll hSw).cell; clear hSw; go_simp)⟩) hlowL6 ?_
  simp only [Act.put, List.setIfInBounds_toArray]
  dsimp only [List.set_cons_zero, List.set_cons_succ]
  refine wpZ_one (i := 28) (by kernel_rfl) rfl (fun K hK => ?_)
  go_simp
  refine hK.out _ _ (fun _ => hlowL6) ?_
  clear hK K
  refine wpZ_take (i := 29) (v := .slice (some ⟨g0, 0, none⟩) n cf) 49 rfl rfl (by kernel_rfl) (by kernel_rfl) (by kernel_rfl) (Or.inr (by decide)) (fun _ _ _ h => h) (Or.inl ⟨by rfl, fun w hSw => by go_simp⟩) hlowL6 ?_
  simp only [Act.put, List.setIfInBounds_toArray]
  dsimp only [List.set_cons_zero, List.set_cons_succ]
  refine wpZ_one (i := 31) (by kernel_rfl) rfl (fun K hK => ?_)
  go_simp
  refine (HS.out wL6 (.slice (some ⟨g0, 0, none⟩) n cf) (HG3.out.below hlowL6) (HFU.out.belowAll hlowL6).part).mono ?_
  rintro e wL7 ⟨⟨v5, rfl, q5⟩, hbL7⟩
  have hlowL7 := bStep hlowL6 hbL7
  have Ee_7 : Hid (Es wL7 v5 K3 F3) := q5
  clear q5
  go_wp2_with fail
  refine hK.out _ _ (fun _ => hlowL7) ?_
  clear hK K hbL7
  refine wpZ_one (i := 35) (by kernel_rfl) rfl (fun K hK => ?_)
  go_simp
  refine (HRS.out wL7 (HVA.out.below hlowL7)).mono ?_
  rintro e wL8 ⟨⟨v6, rfl, q6⟩, hbL8⟩
  have hlowL8 := bStep hlowL7 hbL8
  have Ee_8 : Hid (Es wL8 v5 K3 F3) := (Ee_7.out).below hbL8
  have Ef_8 : Hid (Es wL8 v6 K3 F3) := q6
  clear q6
  go_wp2_with fail
  refine hK.out _ _ (fun _ => hlowL8) ?_
  clear hK K hbL8
  refine wpZ_one (i := 36) (by kernel_rfl) rfl (fun K hK => ?_)
  go_simp
  refine (sameE_self v5 v6 K3 F3 HN.out.2.2 HM3.out wL8 Ee_8.out Ef_8.out).mono ?_
  rintro e wL9 ⟨rfl, hbL9⟩
  have hlowL9 := bStep hlowL8 hbL9
  have Ee_9 : Hid (Es wL9 v5 K3 F3) := (Ee_8.out).below hbL9
  have Ef_9 : Hid (Es wL9 v6 K3 F3) := (Ef_8.out).below hbL9
  go_wp2_with fail
  refine hK.out _ _ (fun _ => hlowL9) ?_
  clear hK K hbL9
  refine wpZ_take (i := 37) (v := .bool true) 57 rfl rfl (by kernel_rfl) (by kernel_rfl) (by kernel_rfl) (Or.inr (by decide)) (fun _ _ _ h => h) (Or.inl ⟨by rfl, fun w hSw => by go_simp⟩) hlowL9 ?_
  simp only [Act.put, List.setIfInBounds_toArray]
  dsimp only [List.set_cons_zero, List.set_cons_succ]
  refine wpZ_take (i := 38) (v := .bool true) 58 rfl rfl (by kernel_rfl) (by kernel_rfl) (by kernel_rfl) (Or.inr (by decide)) (fun _ _ _ h => h) (Or.inl ⟨by rfl, fun w hSw => by go_simp⟩) hlowL9 ?_
  simp only [Act.put, List.setIfInBounds_toArray]
  dsimp only [List.set_cons_zero, List.set_cons_succ]
  refine wpZ_take (i := 39) (v := .int .i64 si) 59 rfl rfl (by kernel_rfl) (by kernel_rfl) (by kernel_rfl) (Or.inr (by decide)) (fun _ _ _ h => h) (Or.inl ⟨by rfl, fun w hSw => by go_simp⟩) hlowL9 ?_
  simp only [Act.put, List.setIfInBounds_toArray]
  dsimp only [List.set_cons_zero, List.set_cons_succ]
  refine wpZ_take (i := 40) (v := .slice (some ⟨g0, 0, none⟩) (n + 4) cf) 60 rfl rfl (by kernel_rfl) (by kernel_rfl) (by kernel_rfl) (Or.inr (by decide)) (fun _ _ _ h => h) (Or.inl ⟨by rfl, fun w hSw => by go_simp⟩) hlowL9 ?_
  simp only [Act.put, List.setIfInBounds_toArray]
  dsimp only [List.set_cons_zero, List.set_cons_succ]
  refine wpZ_take (i := 41) (v := .slice oa n cn) 61 rfl rfl (by kernel_rfl) (by kernel_rfl) (by kernel_rfl) (Or.inr (by decide)) (fun _ _ _ h => h) (Or.inl ⟨by rfl, fun w hSw => by go_simp⟩) hlowL9 ?_
  simp only [Act.put, List.setIfInBounds_toArray]
  dsimp only [List.set_cons_zero, List.set_cons_succ]
  refine wpZ_take (i := 44) (v := .agg #[.int .u64 ((limb 0 (x) : Nat) : Int), .int .u64 ((limb 1 (x) : Nat) : Int), .int .u64 ((limb 2 (x) : Nat) : Int), .int .u64 ((limb 3 (x) : Nat) : Int)]) 64 rfl rfl (by kernel_rfl) (by kernel_rfl) (by kernel_rfl) (Or.inr (by decide)) (fun _ _ _ h => h) (Or.inl ⟨by rfl, fun w hSw => by (have qq := (bx3.belowAll hSw).cell; clear hSw; go_simp)⟩) hlowL9 ?_
  simp only [Act.put, List.setIfInBounds_toArray]
  dsimp only [List.set_cons_zero, List.set_cons_succ]
  refine wpZ_take (i := 46) (v := .int .i64 si) 66 rfl rfl (by kernel_rfl) (by kernel_rfl) (by kernel_rfl) (Or.inr (by decide)) (fun _ _ _ h => h) (Or.inl ⟨by rfl, fun w hSw => by go_simp⟩) hlowL9 ?_
  simp only [Act.put, List.setIfInBounds_toArray]
  dsimp only [List.set_cons_zero, List.set_cons_succ]
  refine wpZ_take (i := 47) (v := .slice oa n cn) 67 rfl rfl (by kernel_rfl) (by kernel_rfl) (by kernel_rfl) (Or.inr (by decide)) (fun _ _ _ h => h) (Or.inl ⟨by rfl, fun w hSw => by go_simp⟩) hlowL9 ?_
  simp only [Act.put, List.setIfInBounds_toArray]
  dsimp only [List.set_cons_zero, List.set_cons_succ]
  refine wpZ_take (i := 48) (v := .agg #[.int .u64 ((limb 0 (x) : Nat) : Int), .int .u64 ((limb 1 (x) : Nat) : Int), .int .u64 ((limb 2 (x) : Nat) : Int), .int .u64 ((limb 3 (x) : Nat) : Int)]) 68 rfl rfl (by kernel_rfl) (by kernel_rfl) (by kernel_rfl) (Or.inr (by decide)) (fun _ _ _ h => h) (Or.inl ⟨by rfl, fun w hSw => by (have qq := (bx3.belowAll hSw).cell; clear hSw; go_simp)⟩) hlowL9 ?_
  simp only [Act.put, List.setIfInBounds_toArray]
  dsimp only [List.set_cons_zero, List.set_cons_succ]
  refine wpZ_one (i := 42) (by kernel_rfl) rfl (fun K hK => ?_)
  go_simp
  refine hK.out _ _ (fun _ => hlowL9) ?_
  clear hK K
  refine wpZ_take (i := 43) (v := .slice (some ⟨g0, 0, none⟩) n cf) 63 rfl rfl (by kernel_rfl) (by kernel_rfl) (by kernel_rfl) (Or.inr (by decide)) (fun _ _ _ h => h) (Or.inl ⟨by rfl, fun w hSw => by go_simp⟩) hlowL9 ?_
  simp only [Act.put, List.setIfInBounds_toArray]
  dsimp only [List.set_cons_zero, List.set_cons_succ]
  refine wpZ_one (i := 45) (by kernel_rfl) rfl (fun K hK => ?_)
  go_simp
  refine (HE.out wL9 (.slice (some ⟨g0, 0, none⟩) n cf) (HG3.out.below hlowL9) (HFU.out.belowAll hlowL9).part).mono ?_
  rintro e wL10 ⟨rfl, hbL10⟩
  have hlowL10 := bStep hlowL9 hbL10
  go_wp2_with fail
  refine hK.out _ _ (fun _ => hlowL10) ?_
  clear hK K hbL10
  refine wpZ_one (i := 49) (by kernel_rfl) rfl (fun K hK => ?_)
  go_simp
  refine (HRE.out wL10 (HVA.out.below hlowL10)).mono ?_
  rintro e wL11 ⟨rfl, hbL11⟩
  have hlowL11 := bStep hlowL10 hbL11
  go_wp2_with fail
  refine hK.out _ _ (fun _ => hlowL11) ?_
  clear hK K hbL11
  refine wpZ_take (i := 50) (v := .bool true) 70 rfl rfl (by kernel_rfl) (by kernel_rfl) (by kernel_rfl) (Or.inr (by decide)) (fun _ _ _ h => h) (Or.inl ⟨by rfl, fun w hSw => by (have qq := HEQ.out; clear hSw; go_simp)⟩) hlowL11 ?_
  simp only [Act.put, List.setIfInBounds_toArray]
  dsimp only [List.set_cons_zero, List.set_cons_succ]
  refine wpZ_take (i := 51) (v := .bool true) 71 rfl rfl (by kernel_rfl) (by kernel_rfl) (by kernel_rfl) (Or.inr (by decide)) (fun _ _ _ h => h) (Or.inl ⟨by rfl, fun w hSw => by go_simp⟩) hlowL11 ?_
  simp only [Act.put, List.setIfInBounds_toArray]
  dsimp only [List.set_cons_zero, List.set_cons_succ]
  refine wpZ_take (i := 52) (v := .bool true) 72 rfl rfl (by kernel_rfl) (by kernel_rfl) (by kernel_rfl) (Or.inr (by decide)) (fun _ _ _ h => h) (Or.inl ⟨by rfl, fun w hSw => by go_simp⟩) hlowL11 ?_
  simp only [Act.put, List.setIfInBounds_toArray]
  dsimp only [List.set_cons_zero, List.set_cons_succ]
  refine wpZ_take (i := 53) (v := .slice (some ⟨g0, 0, none⟩) (n + 4) cf) 73 rfl rfl (by kernel_rfl) (by kernel_rfl) (by kernel_rfl) (Or.inr (by decide)) (fun _ _ _ h => h) (Or.inl ⟨by rfl, fun w hSw => by go_simp⟩) hlowL11 ?_
  simp only [Act.put, List.setIfInBounds_toArray]
  dsimp only [List.set_cons_zero, List.set_cons_succ]
  refine wpZ_take (i := 54) (v := .slice oa n cn) 74 rfl rfl (by kernel_rfl) (by kernel_rfl) (by kernel_rfl) (Or.inr (by decide)) (fun _ _ _ h => h) (Or.inl ⟨by rfl, fun w hSw => by go_simp⟩) hlowL11 ?_
  simp only [Act.put, List.setIfInBounds_toArray]
  dsimp only [List.set_cons_zero, List.set_cons_succ]
  refine wpZ_one (i := 55) (by kernel_rfl) rfl (fun K hK => ?_)
  go_simp
  refine (SP.out wL11 (HVA.out.below hlowL11)).mono ?_
  rintro e wL12 ⟨g2, c2, rfl, hfu2, lg2, hbL12⟩
  have hlowL12 := bStep hlowL11 hbL12
  have HF2 : Hid (FullE wL12 g2 n c2 f) := hfu2
  clear hfu2 lg2
  go_wp2_with fail
  refine hK.out _ _ (fun _ => hlowL12) ?_
  clear hK K hbL12
  refine wpZ_one (i := 56) (by kernel_rfl) rfl (fun K hK => ?_)
  go_simp
  refine (sameE_self (.slice (some ⟨g0, 0, none⟩) (n + 4) cf) (.slice (some ⟨g2, 0, none⟩) (n + 4) c2) (n + 4) (spE f n) (by omega) (spE_lt HFM.out) wL12 (HFU.out.belowAll hlowL12).all HF2.out.all).mono ?_
  rintro e wL13 ⟨rfl, hbL13⟩
  have hlowL13 := bStep hlowL12 hbL13
  go_wp2_with fail
  refine hK.out _ _ (fun _ => hlowL13) ?_
  clear hK K hbL13
  refine wpZ_take (i := 57) (v := .bool true) 77 rfl rfl (by kernel_rfl) (by kernel_rfl) (by kernel_rfl) (Or.inr (by decide)) (fun _ _ _ h => h) (Or.inl ⟨by rfl, fun w hSw => by go_simp⟩) hlowL13 ?_
  simp only [Act.put, List.setIfInBounds_toArray]
  dsimp only [List.set_cons_zero, List.set_cons_succ]
  refine wpZ_take (i := 58) (v := .bool true) 78 rfl rfl (by kernel_rfl) (by kernel_rfl) (by kernel_rfl) (Or.inr (by decide)) (fun _ _ _ h => h) (Or.inl ⟨by rfl, fun w hSw => by go_simp⟩) hlowL13 ?_
  simp only [Act.put, List.setIfInBounds_toArray]
  dsimp only [List.set_cons_zero, List.set_cons_succ]
  refine wpZ_take (i := 59) (v := vq) 79 rfl rfl (by kernel_rfl) (by kernel_rfl) (by kernel_rfl) (Or.inr (by decide)) (fun _ _ _ h => h) (Or.inl ⟨by rfl, fun w hSw => by go_simp⟩) hlowL13 ?_
  simp only [Act.put, List.setIfInBounds_toArray]
  dsimp only [List.set_cons_zero, List.set_cons_succ]
  refine wpZ_take (i := 60) (v := .slice ob m cm) 80 rfl rfl (by kernel_rfl) (by kernel_rfl) (by kernel_rfl) (Or.inr (by decide)) (fun _ _ _ h => h) (Or.inl ⟨by rfl, fun w hSw => by go_simp⟩) hlowL13 ?_
  simp only [Act.put, List.setIfInBounds_toArray]
  dsimp only [List.set_cons_zero, List.set_cons_succ]
  refine wpZ_one (i := 61) (by kernel_rfl) rfl (fun K hK => ?_)
  go_simp
  refine (sameE_self vq (.slice ob m cm) m g (by omega) HGM.out wL13 (HQ.out.below hlowL13) (HVB.out.below hlowL13)).mono ?_
  rintro e wL14 ⟨rfl, hbL14⟩
  have hlowL14 := bStep hlowL13 hbL14
  go_wp2_with fail
  refine hK.out _ _ (fun _ => hlowL14) ?_
  clear hK K hbL14
  refine wpZ_take (i := 62) (v := .bool true) 82 rfl rfl (by kernel_rfl) (by kernel_rfl) (by kernel_rfl) (Or.inr (by decide)) (fun _ _ _ h => h) (Or.inl ⟨by rfl, fun w hSw => by go_simp⟩) hlowL14 ?_
  simp only [Act.put, List.setIfInBounds_toArray]
  dsimp only [List.set_cons_zero, List.set_cons_succ]
  refine wpZ_take (i := 63) (v := .bool true) 8 rfl rfl (by kernel_rfl) (by kernel_rfl) (by kernel_rfl) (Or.inr (by decide)) (fun _ _ _ h => h) (Or.inl ⟨by rfl, fun w hSw => by go_simp⟩) hlowL14 ?_
  simp only [Act.put, List.setIfInBounds_toArray]
  dsimp only [List.set_cons_zero, List.set_cons_succ]
  refine wpZ_done (by kernel_rfl) ?_ _
  have hbf := bStep hb3 hlowL14
  go_wp2
  go_ret
  exact ⟨rfl, hbf⟩
end Go.Proofs.YtfjdnlcfhgamfaaDoor
