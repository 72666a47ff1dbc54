/- DomainValues: the walk. -/
import Derived.Test.YtfkdfngegeeciaaDoorD26
import Derived.Test.YtfkdfngegeeciaaDoorDGr
import Derived.Test.YtfkdfngegeeciaaDoorL9D
namespace Go.Proofs.YtfkdfngegeeciaaDoor
open Go.RowKit

set_option maxHeartbeats 16000000 in
set_option maxRecDepth 20000 in
theorem vals_all (s k EV EC : Int) (x n c NV NC : Nat) (oa : Option Addr) (f FV FC : Nat → Nat) (hf : ∀ i, i < n → f i < 115792089237316195423570985008687907853269984665640564039457584007913129639936) (hNV : NV ≤ 1000) (hNC : NC ≤ 1000) (hFV : ∀ i, i < NV → FV i < 115792089237316195423570985008687907853269984665640564039457584007913129639936) (hFC : ∀ i, i < NC → FC i < 115792089237316195423570985008687907853269984665640564039457584007913129639936)
    (VL : ∀ w v, GlobD w → Es w v n f → Calls Tryd.prog 19 #[.int .i64 s, .int .i64 k, .agg #[.int .u64 ((limb 0 (x) : Nat) : Int), .int .u64 ((limb 1 (x) : Nat) : Int), .int .u64 ((limb 2 (x) : Nat) : Int), .int .u64 ((limb 3 (x) : Nat) : Int)], v] w fun e w' => (∃ u, e = .returned (.tuple #[u, .int .i64 EV]) ∧ Es w' u NV FV) ∧ Below w.heap.size w w')
    (CO : ∀ w v, GlobD w → Es w v n f → Calls Tryd.prog 21 #[.int .i64 s, .int .i64 k, .agg #[.int .u64 ((limb 0 (x) : Nat) : Int), .int .u64 ((limb 1 (x) : Nat) : Int), .int .u64 ((limb 2 (x) : Nat) : Int), .int .u64 ((limb 3 (x) : Nat) : Int)], v] w fun e w' => (∃ u, e = .returned (.tuple #[u, .int .i64 EC]) ∧ Es w' u NC FC) ∧ Below w.heap.size w w')
    (RV : ∀ w, Es w (.slice oa n c) n f → Calls Tryd.prog 20 #[.int .i64 s, .int .i64 k, .agg #[.int .u64 ((limb 0 (x) : Nat) : Int), .int .u64 ((limb 1 (x) : Nat) : Int), .int .u64 ((limb 2 (x) : Nat) : Int), .int .u64 ((limb 3 (x) : Nat) : Int)], .slice oa n c] w fun e w' => (∃ u, e = .returned (.tuple #[u, .int .i64 EV]) ∧ Es w' u NV FV) ∧ Below w.heap.size w w')
    (RC : ∀ w, Es w (.slice oa n c) n f → Calls Tryd.prog 22 #[.int .i64 s, .int .i64 k, .agg #[.int .u64 ((limb 0 (x) : Nat) : Int), .int .u64 ((limb 1 (x) : Nat) : Int), .int .u64 ((limb 2 (x) : Nat) : Int), .int .u64 ((limb 3 (x) : Nat) : Int)], .slice oa n c] w fun e w' => (∃ u, e = .returned (.tuple #[u, .int .i64 EC]) ∧ Es w' u NC FC) ∧ Below w.heap.size w w')
    (w : World) (hg : GlobD w) (hB : Es w (.slice oa n c) n f) : Calls Tryd.prog 4 #[.int .i64 s, .int .i64 k, .agg #[.int .u64 ((limb 0 (x) : Nat) : Int), .int .u64 ((limb 1 (x) : Nat) : Int), .int .u64 ((limb 2 (x) : Nat) : Int), .int .u64 ((limb 3 (x) : Nat) : Int)], .slice oa n c] w fun e w' => e = .returned (.bool true) ∧ Below w.heap.size w w' := by
  have HG : Hid (GlobD w) := hg
  have HB : Hid (Es w (.slice oa n c) n f) := hB
  have HVL : Hid (∀ w v, GlobD w → Es w v n f → _) := VL
  have HCO : Hid (∀ w v, GlobD w → Es w v n f → _) := CO
  have HRV : Hid (∀ w, Es w (.slice oa n c) n f → _) := RV
  have HRC : Hid (∀ w, Es w (.slice oa n c) n f → _) := RC
  have HNM : Hid (NV ≤ 1000 ∧ NC ≤ 1000) := ⟨hNV, hNC⟩
  have HF : Hid (∀ i, i < n → f i < 115792089237316195423570985008687907853269984665640564039457584007913129639936) := hf
  have HFV : Hid (∀ i, i < NV → FV i < 115792089237316195423570985008687907853269984665640564039457584007913129639936) := hFV
  have HFC : Hid (∀ i, i < NC → FC i < 115792089237316195423570985008687907853269984665640564039457584007913129639936) := hFC
  clear hg hB VL CO RV RC hf hNV hNC hFV hFC
  go_enter Tryd.func4, Tryd.ntmps4
  go_upto_region 1 with fail
  obtain ⟨w0, hw0⟩ : ∃ z : World, z = w.alloc (.cells #[.int .u64 ((limb 0 (x) : Nat) : Int), .int .u64 ((limb 1 (x) : Nat) : Int), .int .u64 ((limb 2 (x) : Nat) : Int), .int .u64 ((limb 3 (x) : Nat) : Int)] 24) := ⟨_, rfl⟩
  obtain ⟨N6, e6⟩ : ∃ z, z = w.heap.size := ⟨_, rfl⟩
  have bx_w0 : Blk w0 24 N6 (fun i => limb i x) := by rw [hw0]; exact Blk.newAt _ _ _ (fun i => limb i x) e6
  have hb_w0 : Below w.heap.size w w0 := by rw [hw0]; exact bAlloc (Below.refl _ _) _
  rw [← hw0, ← e6]
  clear hw0 e6
  go_wp2_with fail
  refine (alive6_any _ (HG.out.below hb_w0)).mono ?_
  rintro e w1 ⟨rfl, hq⟩
  have hb_w1 := bStep hb_w0 hq
  have bx_w1 := bx_w0.belowAll hq
  clear hb_w0 bx_w0 hq
  go_wp2_with fail
  refine (great6v_any s k w1).mono ?_
  rintro e w1' ⟨⟨b, rfl⟩, hw⟩
  obtain rfl := hw.symm
  clear hw
  by_cases hbt : b = true
  · subst hbt
    go_wp2
    go_ret
    exact ⟨rfl, hb_w1⟩
  obtain rfl : b = false := by simpa using hbt
  clear hbt
  by_cases hlong : (600 : Int) < (n : Int)
  · go_wp2
    go_ret
    exact ⟨rfl, hb_w1⟩
  have HNN : Hid (NV ≤ 1000 ∧ NC ≤ 1000 ∧ n + 4 ≤ 1000) := ⟨HNM.out.1, HNM.out.2, by omega⟩
  have SP : Hid (∀ w, Es w (.slice oa n c) n f → _) := fun w h => spare_fullE n (.slice oa n c) f (by omega) w h
  go_wp2_with fail
  refine (SP.out _ (HB.out.below hb_w1)).mono ?_
  rintro e w2 ⟨g, cf, rfl, hfu, lg, hq⟩
  have HFU_w2 : Hid (FullE w2 g n cf f) := hfu
  have hb_w2 := bStep hb_w1 hq
  have bx_w2 := bx_w1.belowAll hq
  clear hb_w1 bx_w1 hq
  have hnc : (n : Int) ≤ (cf : Int) := by have := hfu.1; omega
  clear hfu lg
  go_upto_region 6 with fail
  refine wp_region_Z (fun w' => Below w2.heap.size w2 w') 99 (by kernel_rfl) ?_
  obtain ⟨wD, hD⟩ : ∃ x : World, x = w2.drew := ⟨_, rfl⟩
  rw [← hD]
  have hp0_0 : Below w2.heap.size w2 wD := by rw [hD]; exact (Below.refl _ _).drew
  have hlow0 : Below w2.heap.size w2 wD := by rw [hD]; exact (Below.refl _ _).drew
  clear hD
  refine wpZ_take (i := 0) (v := .int .i64 s) 27 rfl rfl (by kernel_rfl) (by kernel_rfl) (by kernel_rfl) (Or.inr (by decide)) (fun _ _ _ h => h) (Or.inl ⟨by rfl, fun w hSw => by go_simp⟩) hp0_0 ?_
  simp only [Act.put, List.setIfInBounds_toArray]
  dsimp only [List.set_cons_zero, List.set_cons_succ]
  refine wpZ_take (i := 1) (v := .int .i64 k) 28 rfl rfl (by kernel_rfl) (by kernel_rfl) (by kernel_rfl) (Or.inr (by decide)) (fun _ _ _ h => h) (Or.inl ⟨by rfl, fun w hSw => by go_simp⟩) hp0_0 ?_
  simp only [Act.put, List.setIfInBounds_toArray]
  dsimp only [List.set_cons_zero, List.set_cons_succ]
  refine wpZ_take (i := 2) (v := .agg #[.int .u64 ((limb 0 (x) : Nat) : Int), .int .u64 ((limb 1 (x) : Nat) : Int), .int .u64 ((limb 2 (x) : Nat) : Int), .int .u64 ((limb 3 (x) : Nat) : Int)]) 29 rfl rfl (by kernel_rfl) (by kernel_rfl) (by kernel_rfl) (Or.inr (by decide)) (fun _ _ _ h => h) (Or.inl ⟨by rfl, fun w hSw => by (have qq := (bx_w2.belowAll hSw).cell; clear hSw; go_simp)⟩) hp0_0 ?_
  simp only [Act.put, List.setIfInBounds_toArray]
  dsimp only [List.set_cons_zero, List.set_cons_succ]
  refine wpZ_take (i := 3) (v := .slice (some ⟨g, 0, none⟩) (n + 4) cf) 30 rfl rfl (by kernel_rfl) (by kernel_rfl) (by kernel_rfl) (Or.inr (by decide)) (fun _ _ _ h => h) (Or.inl ⟨by rfl, fun w hSw => by go_simp⟩) hp0_0 ?_
  simp only [Act.put, List.setIfInBounds_toArray]
  dsimp only [List.set_cons_zero, List.set_cons_succ]
  refine wpZ_take (i := 4) (v := .slice oa n c) 31 rfl rfl (by kernel_rfl) (by kernel_rfl) (by kernel_rfl) (Or.inr (by decide)) (fun _ _ _ h => h) (Or.inl ⟨by rfl, fun w hSw => by go_simp⟩) hp0_0 ?_
  simp only [Act.put, List.setIfInBounds_toArray]
  dsimp only [List.set_cons_zero, List.set_cons_succ]
  refine wpZ_one (i := 5) (by kernel_rfl) rfl (fun K hK => ?_)
  go_simp
  refine hK.out _ _ (fun _ => hp0_0) ?_
  clear hK K
  refine wpZ_take (i := 6) (v := .slice (some ⟨g, 0, none⟩) n cf) 33 rfl rfl (by kernel_rfl) (by kernel_rfl) (by kernel_rfl) (Or.inr (by decide)) (fun _ _ _ h => h) (Or.inl ⟨by rfl, fun w hSw => by go_simp⟩) hp0_0 ?_
  simp only [Act.put, List.setIfInBounds_toArray]
  dsimp only [List.set_cons_zero, List.set_cons_succ]
  refine wpZ_one (i := 7) (by kernel_rfl) rfl (fun K hK => ?_)
  go_simp
  refine (HVL.out wD (.slice (some ⟨g, 0, none⟩) n cf) (HG.out.below (bStep hb_w2 hp0_0)) (HFU_w2.out.belowAll hp0_0).part).mono ?_
  rintro e w3 ⟨⟨va, rfl, hva⟩, hq⟩
  have hq2 := bStep hp0_0 hq
  go_wp2_with fail
  refine hK.out _ _ (fun _ => hq2) ?_
  clear hK K hq
  refine wpZ_take (i := 8) (v := .tuple #[va, .int .i64 EV]) 26 rfl rfl (by kernel_rfl) (by kernel_rfl) (by kernel_rfl) (Or.inr (by decide)) (fun _ _ _ h => h) (Or.inl ⟨by rfl, fun w hSw => by go_simp⟩) hq2 ?_
  simp only [Act.put, List.setIfInBounds_toArray]
  dsimp only [List.set_cons_zero, List.set_cons_succ]
  refine wpZ_take (i := 9) (v := va) 35 rfl rfl (by kernel_rfl) (by kernel_rfl) (by kernel_rfl) (Or.inr (by decide)) (fun _ _ _ h => h) (Or.inl ⟨by rfl, fun w hSw => by go_simp⟩) hq2 ?_
  simp only [Act.put, List.setIfInBounds_toArray]
  dsimp only [List.set_cons_zero, List.set_cons_succ]
  refine wpZ_take (i := 10) (v := .int .i64 EV) 36 rfl rfl (by kernel_rfl) (by kernel_rfl) (by kernel_rfl) (Or.inr (by decide)) (fun _ _ _ h => h) (Or.inl ⟨by rfl, fun w hSw => by go_simp⟩) hq2 ?_
  simp only [Act.put, List.setIfInBounds_toArray]
  dsimp only [List.set_cons_zero, List.set_cons_succ]
  refine wpZ_take (i := 11) (v := va) 10 rfl rfl (by kernel_rfl) (by kernel_rfl) (by kernel_rfl) (Or.inr (by decide)) (fun _ _ _ h => h) (Or.inl ⟨by rfl, fun w hSw => by go_simp⟩) hq2 ?_
  simp only [Act.put, List.setIfInBounds_toArray]
  dsimp only [List.set_cons_zero, List.set_cons_succ]
  refine wpZ_take (i := 12) (v := .int .i64 EV) 11 rfl rfl (by kernel_rfl) (by kernel_rfl) (by kernel_rfl) (Or.inr (by decide)) (fun _ _ _ h => h) (Or.inl ⟨by rfl, fun w hSw => by go_simp⟩) hq2 ?_
  simp only [Act.put, List.setIfInBounds_toArray]
  dsimp only [List.set_cons_zero, List.set_cons_succ]
  refine wpZ_done (by kernel_rfl) ?_ _
  clear hp0_0 hlow0
  have Ea_w3 : Hid (Es w3 va NV FV) := hva
  have hb_w3 := bStep hb_w2 hq2
  have bx_w3 := bx_w2.belowAll hq2
  have HFU_w3 : Hid (FullE w3 g n cf f) := HFU_w2.out.belowAll hq2
  clear hb_w2 bx_w2 HFU_w2 hq2
  clear hva
  have cx := bx_w3.cell
  go_wp2_with fail
  refine (HRV.out _ (HB.out.below hb_w3)).mono ?_
  rintro e w4 ⟨⟨vb, rfl, hvb⟩, hq⟩
  have Eb_w4 : Hid (Es w4 vb NV FV) := hvb
  have hb_w4 := bStep hb_w3 hq
  have bx_w4 := bx_w3.belowAll hq
  have HFU_w4 : Hid (FullE w4 g n cf f) := HFU_w3.out.belowAll hq
  have Ea_w4 : Hid (Es w4 va NV FV) := Ea_w3.out.below hq
  clear hb_w3 bx_w3 HFU_w3 Ea_w3 hq
  clear hvb cx
  go_wp2_with fail
  refine (sameE_self _ _ NV FV HNN.out.1 HFV.out _ Ea_w4.out Eb_w4.out).mono ?_
  rintro e w5 ⟨rfl, hq⟩
  clear Ea_w4 Eb_w4
  have hb_w5 := bStep hb_w4 hq
  have bx_w5 := bx_w4.belowAll hq
  have HFU_w5 : Hid (FullE w5 g n cf f) := HFU_w4.out.belowAll hq
  clear hb_w4 bx_w4 HFU_w4 hq
  go_upto_region 10 with fail
  refine wp_region_Z (fun w' => Below w5.heap.size w5 w') 99 (by kernel_rfl) ?_
  obtain ⟨wD, hD⟩ : ∃ x : World, x = w5.drew := ⟨_, rfl⟩
  rw [← hD]
  have hp0_0 : Below w5.heap.size w5 wD := by rw [hD]; exact (Below.refl _ _).drew
  have hlow0 : Below w5.heap.size w5 wD := by rw [hD]; exact (Below.refl _ _).drew
  clear hD
  refine wpZ_take (i := 0) (v := .int .i64 s) 55 rfl rfl (by kernel_rfl) (by kernel_rfl) (by kernel_rfl) (Or.inr (by decide)) (fun _ _ _ h => h) (Or.inl ⟨by rfl, fun w hSw => by go_simp⟩) hp0_0 ?_
  simp only [Act.put, List.setIfInBounds_toArray]
  dsimp only [List.set_cons_zero, List.set_cons_succ]
  refine wpZ_take (i := 1) (v := .int .i64 k) 56 rfl rfl (by kernel_rfl) (by kernel_rfl) (by kernel_rfl) (Or.inr (by decide)) (fun _ _ _ h => h) (Or.inl ⟨by rfl, fun w hSw => by go_simp⟩) hp0_0 ?_
  simp only [Act.put, List.setIfInBounds_toArray]
  dsimp only [List.set_cons_zero, List.set_cons_succ]
  refine wpZ_take (i := 2) (v := .agg #[.int .u64 ((limb 0 (x) : Nat) : Int), .int .u64 ((limb 1 (x) : Nat) : Int), .int .u64 ((limb 2 (x) : Nat) : Int), .int .u64 ((limb 3 (x) : Nat) : Int)]) 57 rfl rfl (by kernel_rfl) (by kernel_rfl) (by kernel_rfl) (Or.inr (by decide)) (fun _ _ _ h => h) (Or.inl ⟨by rfl, fun w hSw => by (have qq := (bx_w5.belowAll hSw).cell; clear hSw; go_simp)⟩) hp0_0 ?_
  simp only [Act.put, List.setIfInBounds_toArray]
  dsimp only [List.set_cons_zero, List.set_cons_succ]
  refine wpZ_take (i := 3) (v := .slice (some ⟨g, 0, none⟩) (n + 4) cf) 58 rfl rfl (by kernel_rfl) (by kernel_rfl) (by kernel_rfl) (Or.inr (by decide)) (fun _ _ _ h => h) (Or.inl ⟨by rfl, fun w hSw => by go_simp⟩) hp0_0 ?_
  simp only [Act.put, List.setIfInBounds_toArray]
  dsimp only [List.set_cons_zero, List.set_cons_succ]
  refine wpZ_take (i := 4) (v := .slice oa n c) 59 rfl rfl (by kernel_rfl) (by kernel_rfl) (by kernel_rfl) (Or.inr (by decide)) (fun _ _ _ h => h) (Or.inl ⟨by rfl, fun w hSw => by go_simp⟩) hp0_0 ?_
  simp only [Act.put, List.setIfInBounds_toArray]
  dsimp only [List.set_cons_zero, List.set_cons_succ]
  refine wpZ_one (i := 5) (by kernel_rfl) rfl (fun K hK => ?_)
  go_simp
  refine hK.out _ _ (fun _ => hp0_0) ?_
  clear hK K
  refine wpZ_take (i := 6) (v := .slice (some ⟨g, 0, none⟩) n cf) 61 rfl rfl (by kernel_rfl) (by kernel_rfl) (by kernel_rfl) (Or.inr (by decide)) (fun _ _ _ h => h) (Or.inl ⟨by rfl, fun w hSw => by go_simp⟩) hp0_0 ?_
  simp only [Act.put, List.setIfInBounds_toArray]
  dsimp only [List.set_cons_zero, List.set_cons_succ]
  refine wpZ_one (i := 7) (by kernel_rfl) rfl (fun K hK => ?_)
  go_simp
  refine (HCO.out wD (.slice (some ⟨g, 0, none⟩) n cf) (HG.out.below (bStep hb_w5 hp0_0)) (HFU_w5.out.belowAll hp0_0).part).mono ?_
  rintro e w6 ⟨⟨vc, rfl, hvc⟩, hq⟩
  have hq2 := bStep hp0_0 hq
  go_wp2_with fail
  refine hK.out _ _ (fun _ => hq2) ?_
  clear hK K hq
  refine wpZ_take (i := 8) (v := .tuple #[vc, .int .i64 EC]) 54 rfl rfl (by kernel_rfl) (by kernel_rfl) (by kernel_rfl) (Or.inr (by decide)) (fun _ _ _ h => h) (Or.inl ⟨by rfl, fun w hSw => by go_simp⟩) hq2 ?_
  simp only [Act.put, List.setIfInBounds_toArray]
  dsimp only [List.set_cons_zero, List.set_cons_succ]
  refine wpZ_take (i := 9) (v := vc) 63 rfl rfl (by kernel_rfl) (by kernel_rfl) (by kernel_rfl) (Or.inr (by decide)) (fun _ _ _ h => h) (Or.inl ⟨by rfl, fun w hSw => by go_simp⟩) hq2 ?_
  simp only [Act.put, List.setIfInBounds_toArray]
  dsimp only [List.set_cons_zero, List.set_cons_succ]
  refine wpZ_take (i := 10) (v := .int .i64 EC) 64 rfl rfl (by kernel_rfl) (by kernel_rfl) (by kernel_rfl) (Or.inr (by decide)) (fun _ _ _ h => h) (Or.inl ⟨by rfl, fun w hSw => by go_simp⟩) hq2 ?_
  simp only [Act.put, List.setIfInBounds_toArray]
  dsimp only [List.set_cons_zero, List.set_cons_succ]
  refine wpZ_take (i := 11) (v := vc) 10 rfl rfl (by kernel_rfl) (by kernel_rfl) (by kernel_rfl) (Or.inr (by decide)) (fun _ _ _ h => h) (Or.inl ⟨by rfl, fun w hSw => by go_simp⟩) hq2 ?_
  simp only [Act.put, List.setIfInBounds_toArray]
  dsimp only [List.set_cons_zero, List.set_cons_succ]
  refine wpZ_take (i := 12) (v := .int .i64 EC) 11 rfl rfl (by kernel_rfl) (by kernel_rfl) (by kernel_rfl) (Or.inr (by decide)) (fun _ _ _ h => h) (Or.inl ⟨by rfl, fun w hSw => by go_simp⟩) hq2 ?_
  simp only [Act.put, List.setIfInBounds_toArray]
  dsimp only [List.set_cons_zero, List.set_cons_succ]
  refine wpZ_done (by kernel_rfl) ?_ _
  clear hp0_0 hlow0
  have Ec_w6 : Hid (Es w6 vc NC FC) := hvc
  have hb_w6 := bStep hb_w5 hq2
  have bx_w6 := bx_w5.belowAll hq2
  have HFU_w6 : Hid (FullE w6 g n cf f) := HFU_w5.out.belowAll hq2
  clear hb_w5 bx_w5 HFU_w5 hq2
  clear hvc
  have cx := bx_w6.cell
  go_wp2_with fail
  refine (HRC.out _ (HB.out.below hb_w6)).mono ?_
  rintro e w7 ⟨⟨vd, rfl, hvd⟩, hq⟩
  have Ed_w7 : Hid (Es w7 vd NC FC) := hvd
  have hb_w7 := bStep hb_w6 hq
  have bx_w7 := bx_w6.belowAll hq
  have HFU_w7 : Hid (FullE w7 g n cf f) := HFU_w6.out.belowAll hq
  have Ec_w7 : Hid (Es w7 vc NC FC) := Ec_w6.out.below hq
  clear hb_w6 bx_w6 HFU_w6 Ec_w6 hq
  clear hvd cx
  go_wp2_with fail
  refine (sameE_self _ _ NC FC HNN.out.2.1 HFC.out _ Ec_w7.out Ed_w7.out).mono ?_
  rintro e w8 ⟨rfl, hq⟩
  clear Ec_w7 Ed_w7
  have hb_w8 := bStep hb_w7 hq
  have bx_w8 := bx_w7.belowAll hq
  have HFU_w8 : Hid (FullE w8 g n cf f) := HFU_w7.out.belowAll hq
  clear hb_w7 bx_w7 HFU_w7 hq
  go_wp2_with fail
  refine (SP.out _ (HB.out.below hb_w8)).mono ?_
  rintro e w9 ⟨g2, c2, rfl, hfu2, lg2, hq⟩
  have hb_w9 := bStep hb_w8 hq
  have bx_w9 := bx_w8.belowAll hq
  have HFU_w9 : Hid (FullE w9 g n cf f) := HFU_w8.out.belowAll hq
  clear hb_w8 bx_w8 HFU_w8 hq
  have HF2 : Hid (FullE w9 g2 n c2 f) := hfu2
  clear hfu2 lg2
  go_wp2_with fail
  refine (sameE_self _ _ (n + 4) (spE f n) HNN.out.2.2 (spE_lt HF.out) _ HFU_w9.out.all HF2.out.all).mono ?_
  rintro e w10 ⟨rfl, hq⟩
  have hb_w10 := bStep hb_w9 hq
  have bx_w10 := bx_w9.belowAll hq
  have HFU_w10 : Hid (FullE w10 g n cf f) := HFU_w9.out.belowAll hq
  clear hb_w9 bx_w9 HFU_w9 hq
  go_wp2
  go_ret
  exact ⟨rfl, hb_w10⟩
end Go.Proofs.YtfkdfngegeeciaaDoor
