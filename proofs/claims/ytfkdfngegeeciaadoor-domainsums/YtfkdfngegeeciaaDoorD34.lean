/- DomainSums: the walk where both lists fit. -/
import Derived.Test.YtfkdfngegeeciaaDoorD33
namespace Go.Proofs.YtfkdfngegeeciaaDoor
open Go.RowKit

/-- Sums, one by one. -/
def accF (s : Nat) (g : Nat → Nat) : Nat → Nat
  | 0 => 0
  | j + 1 => addP s (accF s g j) (g j)
theorem accF_M (s : Nat) (g : Nat → Nat) : ∀ j, accF s g j < 115792089237316195423570985008687907853269984665640564039457584007913129639936
  | 0 => by show 0 < _; decide
  | j + 1 => addP_M s _ _
theorem accF_fz (s : Nat) (g : Nat → Nat) : ∀ j, fz s (accF s g j) = fs (fun i => fz s (g i)) j
  | 0 => rfl
  | j + 1 => by
    show fz s (addP s (accF s g j) (g j)) = fs (fun i => fz s (g i)) j + fz s (g j)
    rw [fz_add, accF_fz s g j]
set_option maxHeartbeats 32000000 in
set_option maxRecDepth 20000 in
theorem sums_all (a : Nat) (k : Int) (x na ca nb cb X : Nat) (oa ob : Option Addr) (fa fb : Nat → Nat) (hX : X = 1) (N m y : Nat) (SF U V W lF : Nat → Nat) (ha : a < 4) (hN : 0 < N ∧ N ≤ 512) (hm : na ≤ m ∧ nb ≤ m ∧ (m = na ∨ m = nb)) (hym : y < 115792089237316195423570985008687907853269984665640564039457584007913129639936)
    (hSF : ∀ j, SF j = sF a na nb fa fb j) (hfa : ∀ i, i < na → fa i < 115792089237316195423570985008687907853269984665640564039457584007913129639936) (hfb : ∀ i, i < nb → fb i < 115792089237316195423570985008687907853269984665640564039457584007913129639936) (hU : ∀ i, i < N → U i = addP a (V i) (W i)) (hVM : ∀ i, i < N → V i < 115792089237316195423570985008687907853269984665640564039457584007913129639936) (hWM : ∀ i, i < N → W i < 115792089237316195423570985008687907853269984665640564039457584007913129639936) (hlM : ∀ i, lF i < 115792089237316195423570985008687907853269984665640564039457584007913129639936)
    (hA1 : accF a lF N = 1) (hT1 : accF a (fun i => mulP a (lF i) (V i)) N = y)
    (VA : ∀ w v, GlobD w → Es w v na fa → Calls Tryd.prog 19 #[.int .i64 (a : Int), .int .i64 k, .agg #[.int .u64 ((limb 0 (X) : Nat) : Int), .int .u64 ((limb 1 (X) : Nat) : Int), .int .u64 ((limb 2 (X) : Nat) : Int), .int .u64 ((limb 3 (X) : Nat) : Int)], v] w fun e w' => (∃ u, e = .returned (.tuple #[u, .int .i64 0]) ∧ ∃ g, u = .slice (some ⟨g, 0, none⟩) N N ∧ BlkE w' g N V) ∧ Below w.heap.size w w')
    (VB : ∀ w v, GlobD w → Es w v nb fb → Calls Tryd.prog 19 #[.int .i64 (a : Int), .int .i64 k, .agg #[.int .u64 ((limb 0 (X) : Nat) : Int), .int .u64 ((limb 1 (X) : Nat) : Int), .int .u64 ((limb 2 (X) : Nat) : Int), .int .u64 ((limb 3 (X) : Nat) : Int)], v] w fun e w' => (∃ u, e = .returned (.tuple #[u, .int .i64 0]) ∧ ∃ g, u = .slice (some ⟨g, 0, none⟩) N N ∧ BlkE w' g N W) ∧ Below w.heap.size w w')
    (VS : ∀ w v, GlobD w → Es w v m SF → Calls Tryd.prog 19 #[.int .i64 (a : Int), .int .i64 k, .agg #[.int .u64 ((limb 0 (X) : Nat) : Int), .int .u64 ((limb 1 (X) : Nat) : Int), .int .u64 ((limb 2 (X) : Nat) : Int), .int .u64 ((limb 3 (X) : Nat) : Int)], v] w fun e w' => (∃ u, e = .returned (.tuple #[u, .int .i64 0]) ∧ ∃ g, u = .slice (some ⟨g, 0, none⟩) N N ∧ BlkE w' g N U) ∧ Below w.heap.size w w')
    (LG : ∀ i, i < N → ∀ w, GlobD w → Calls Tryd.prog 14 #[.int .i64 (a : Int), .int .i64 k, .int .i64 (i : Int), .agg #[.int .u64 ((limb 0 (x) : Nat) : Int), .int .u64 ((limb 1 (x) : Nat) : Int), .int .u64 ((limb 2 (x) : Nat) : Int), .int .u64 ((limb 3 (x) : Nat) : Int)]] w fun e w' => e = .returned (.tuple #[.agg #[.int .u64 ((limb 0 (lF i) : Nat) : Int), .int .u64 ((limb 1 (lF i) : Nat) : Int), .int .u64 ((limb 2 (lF i) : Nat) : Int), .int .u64 ((limb 3 (lF i) : Nat) : Int)], .int .i64 0]) ∧ Below w.heap.size w w')
    (EVL : ∀ w, Es w (.slice oa na ca) na fa → Calls Tryd.prog 26 #[.int .i64 (a : Int), .slice oa na ca, .agg #[.int .u64 ((limb 0 (x) : Nat) : Int), .int .u64 ((limb 1 (x) : Nat) : Int), .int .u64 ((limb 2 (x) : Nat) : Int), .int .u64 ((limb 3 (x) : Nat) : Int)]] w fun e w' => e = .returned (.agg #[.int .u64 ((limb 0 (y) : Nat) : Int), .int .u64 ((limb 1 (y) : Nat) : Int), .int .u64 ((limb 2 (y) : Nat) : Int), .int .u64 ((limb 3 (y) : Nat) : Int)]) ∧ Below w.heap.size w w')
    (w : World) (hg : GlobD w) (hA : Es w (.slice oa na ca) na fa) (hB : Es w (.slice ob nb cb) nb fb) : Calls Tryd.prog 6 #[.int .i64 (a : Int), .int .i64 k, .slice oa na ca, .slice ob nb cb, .agg #[.int .u64 ((limb 0 (x) : Nat) : Int), .int .u64 ((limb 1 (x) : Nat) : Int), .int .u64 ((limb 2 (x) : Nat) : Int), .int .u64 ((limb 3 (x) : Nat) : Int)]] w fun e w' => e = .returned (.bool true) ∧ Below w.heap.size w w' := by
  have HG : Hid (GlobD w) := hg
  have HA : Hid (Es w (.slice oa na ca) na fa) := hA
  have HB : Hid (Es w (.slice ob nb cb) nb fb) := hB
  have HVA : Hid (∀ w v, GlobD w → Es w v na fa → _) := VA
  have HVB : Hid (∀ w v, GlobD w → Es w v nb fb → _) := VB
  have HVS : Hid (∀ w v, GlobD w → Es w v m SF → _) := VS
  have HLG : Hid (∀ i, i < N → ∀ w, GlobD w → _) := LG
  have HEV : Hid (∀ w, Es w (.slice oa na ca) na fa → _) := EVL
  have HX : Hid (X = 1) := hX
  have HM : Hid (na ≤ m ∧ nb ≤ m ∧ (m = na ∨ m = nb)) := hm
  have HSF : Hid (∀ j, SF j = sF a na nb fa fb j) := hSF
  have Hfa : Hid (∀ i, i < na → fa i < 115792089237316195423570985008687907853269984665640564039457584007913129639936) := hfa
  have Hfb : Hid (∀ i, i < nb → fb i < 115792089237316195423570985008687907853269984665640564039457584007913129639936) := hfb
  have HU : Hid (∀ i, i < N → U i = addP a (V i) (W i)) := hU
  have HVM : Hid (∀ i, i < N → V i < 115792089237316195423570985008687907853269984665640564039457584007913129639936) := hVM
  have HWM : Hid (∀ i, i < N → W i < 115792089237316195423570985008687907853269984665640564039457584007913129639936) := hWM
  have HLM : Hid (∀ i, lF i < 115792089237316195423570985008687907853269984665640564039457584007913129639936) := hlM
  have HA9 : Hid (accF a lF N = X) := by rw [hA1, hX]; exact rfl
  have HT9 : Hid (accF a (fun i => mulP a (lF i) (V i)) N = y) := hT1
  have HE1 : Hid (∀ w, (binOp .eql 24 (.agg #[.int .u64 ((limb 0 (X) : Nat) : Int), .int .u64 ((limb 1 (X) : Nat) : Int), .int .u64 ((limb 2 (X) : Nat) : Int), .int .u64 ((limb 3 (X) : Nat) : Int)]) (.agg #[.int .u64 ((limb 0 (X) : Nat) : Int), .int .u64 ((limb 1 (X) : Nat) : Int), .int .u64 ((limb 2 (X) : Nat) : Int), .int .u64 ((limb 3 (X) : Nat) : Int)])).run Tryd.prog w = .ok (.bool true) w) := fun w => by rw [eqlE X X (by rw [hX]; decide) (by rw [hX]; decide) w, decide_eq_true rfl]
  have HE2 : Hid (∀ w, (binOp .eql 24 (.agg #[.int .u64 ((limb 0 (y) : Nat) : Int), .int .u64 ((limb 1 (y) : Nat) : Int), .int .u64 ((limb 2 (y) : Nat) : Int), .int .u64 ((limb 3 (y) : Nat) : Int)]) (.agg #[.int .u64 ((limb 0 (y) : Nat) : Int), .int .u64 ((limb 1 (y) : Nat) : Int), .int .u64 ((limb 2 (y) : Nat) : Int), .int .u64 ((limb 3 (y) : Nat) : Int)])).run Tryd.prog w = .ok (.bool true) w) := fun w => by rw [eqlE y y hym hym w, decide_eq_true rfl]
  have HAD : Hid (∀ p q, p < 115792089237316195423570985008687907853269984665640564039457584007913129639936 → q < 115792089237316195423570985008687907853269984665640564039457584007913129639936 → ∀ w, GlobD w → Calls Tryd.prog 24 #[.int .i64 (a : Int), .agg #[.int .u64 ((limb 0 (p) : Nat) : Int), .int .u64 ((limb 1 (p) : Nat) : Int), .int .u64 ((limb 2 (p) : Nat) : Int), .int .u64 ((limb 3 (p) : Nat) : Int)], .agg #[.int .u64 ((limb 0 (q) : Nat) : Int), .int .u64 ((limb 1 (q) : Nat) : Int), .int .u64 ((limb 2 (q) : Nat) : Int), .int .u64 ((limb 3 (q) : Nat) : Int)]] w fun e w' => e = .returned (.agg #[.int .u64 ((limb 0 (addP a p q) : Nat) : Int), .int .u64 ((limb 1 (addP a p q) : Nat) : Int), .int .u64 ((limb 2 (addP a p q) : Nat) : Int), .int .u64 ((limb 3 (addP a p q) : Nat) : Int)]) ∧ Below w.heap.size w w') := fun p q hp hq w hg => fAdd_any a p q ha hp hq w hg.1
  have HMU : Hid (∀ p q, p < 115792089237316195423570985008687907853269984665640564039457584007913129639936 → q < 115792089237316195423570985008687907853269984665640564039457584007913129639936 → ∀ w, GlobD w → Calls Tryd.prog 25 #[.int .i64 (a : Int), .agg #[.int .u64 ((limb 0 (p) : Nat) : Int), .int .u64 ((limb 1 (p) : Nat) : Int), .int .u64 ((limb 2 (p) : Nat) : Int), .int .u64 ((limb 3 (p) : Nat) : Int)], .agg #[.int .u64 ((limb 0 (q) : Nat) : Int), .int .u64 ((limb 1 (q) : Nat) : Int), .int .u64 ((limb 2 (q) : Nat) : Int), .int .u64 ((limb 3 (q) : Nat) : Int)]] w fun e w' => e = .returned (.agg #[.int .u64 ((limb 0 (mulP a p q) : Nat) : Int), .int .u64 ((limb 1 (mulP a p q) : Nat) : Int), .int .u64 ((limb 2 (mulP a p q) : Nat) : Int), .int .u64 ((limb 3 (mulP a p q) : Nat) : Int)]) ∧ Below w.heap.size w w') := fun p q hp hq w hg => fMul_any a p q ha hp hq w hg.1
  have HN : Hid (0 < N ∧ N ≤ 512) := hN
  clear hg hA hB VA VB VS LG EVL hX hm hSF hfa hfb hU hVM hWM hlM hA1 hT1 hym hN
  go_enter Tryd.func6, Tryd.ntmps6
  go_upto_region 1 with fail
  obtain ⟨w0, hw0⟩ : ∃ z : World, z = w.alloc (.cells #[.int .u64 ((limb 0 (x) : Nat) : Int), .int .u64 ((limb 1 (x) : Nat) : Int), .int .u64 ((limb 2 (x) : Nat) : Int), .int .u64 ((limb 3 (x) : Nat) : Int)] 24) := ⟨_, rfl⟩
  obtain ⟨N9, e9⟩ : ∃ z, z = w.heap.size := ⟨_, rfl⟩
  have bx_w0 : Blk w0 24 N9 (fun i => limb i x) := by rw [hw0]; exact Blk.newAt _ _ _ (fun i => limb i x) e9
  have hb_w0 : Below w.heap.size w w0 := by rw [hw0]; exact bAlloc (Below.refl _ _) _
  rw [← hw0, ← e9]
  clear hw0 e9
  go_wp2_with fail
  refine (alive6_any _ (HG.out.below hb_w0)).mono ?_
  rintro e w1 ⟨rfl, hq⟩
  have hb_w1 := bStep hb_w0 hq
  have bx_w1 := bx_w0.belowAll hq
  clear hb_w0 bx_w0 hq
  go_wp2_with fail
  refine (great6v_any (a : Int) k w1).mono ?_
  rintro e w1' ⟨⟨b, rfl⟩, hw⟩
  obtain rfl := hw.symm
  clear hw
  by_cases hbt : b = true
  · subst hbt
    go_wp2
    go_ret
    exact ⟨rfl, hb_w1⟩
  obtain rfl : b = false := by simpa using hbt
  clear hbt
  by_cases hla : (64 : Int) < (na : Int)
  · go_wp2
    go_ret
    exact ⟨rfl, hb_w1⟩
  by_cases hlb : (64 : Int) < (nb : Int)
  · go_wp2
    go_ret
    exact ⟨rfl, hb_w1⟩
  have CA : Hid (∀ w, Es w (.slice oa na ca) na fa → _) := fun w h => copyE_any na (.slice oa na ca) fa (by omega) w h
  have CB : Hid (∀ w, Es w (.slice ob nb cb) nb fb → _) := fun w h => copyE_any nb (.slice ob nb cb) fb (by omega) w h
  obtain ⟨w3, hw3⟩ : ∃ z : World, z = w1.alloc (.cells #[.int .u64 1, .int .u64 0, .int .u64 0, .int .u64 0] 24) := ⟨_, rfl⟩
  obtain ⟨N11, e11⟩ : ∃ z, z = w1.heap.size := ⟨_, rfl⟩
  have hq : Below w1.heap.size w1 w3 := by rw [hw3]; exact bAlloc (Below.refl _ _) _
  have b1_w3 : Blk w3 24 N11 (fun i => limb i X) := by
    rw [hw3, HX.out]
    refine (Blk.newAt _ _ _ (fun i => if i = 0 then 1 else 0) e11).congr (fun i hi => ?_)
    have hi4 : i = 0 ∨ i = 1 ∨ i = 2 ∨ i = 3 := by omega
    rcases hi4 with rfl | rfl | rfl | rfl
    · rw [limb_one.1]; rfl
    · rw [limb_one.2.1]; rfl
    · rw [limb_one.2.2.1]; rfl
    · rw [limb_one.2.2.2]; rfl
  go_upto_region 6 with fail
  rw [← hw3, ← e11]
  have hb_w3 := bStep hb_w1 hq
  have bx_w3 := bx_w1.belowAll hq
  clear hb_w1 bx_w1 hq
  clear hw3 e11
  refine wp_region_Z (fun w' => Below w3.heap.size w3 w') 99 (by kernel_rfl) ?_
  obtain ⟨wD, hD⟩ : ∃ x : World, x = w3.drew := ⟨_, rfl⟩
  rw [← hD]
  have hp0_0 : Below w3.heap.size w3 wD := by rw [hD]; exact (Below.refl _ _).drew
  have hlow0 : Below w3.heap.size w3 wD := by rw [hD]; exact (Below.refl _ _).drew
  clear hD
  refine wpZ_take (i := 0) (v := .int .i64 (a : Int)) 43 rfl rfl (by kernel_rfl) (by kernel_rfl) (by kernel_rfl) (Or.inr (by decide)) (fun _ _ _ h => h) (Or.inl ⟨by rfl, fun w hSw => by go_simp⟩) hp0_0 ?_
  simp only [Act.put, List.setIfInBounds_toArray]
  dsimp only [List.set_cons_zero, List.set_cons_succ]
  refine wpZ_take (i := 1) (v := .int .i64 k) 44 rfl rfl (by kernel_rfl) (by kernel_rfl) (by kernel_rfl) (Or.inr (by decide)) (fun _ _ _ h => h) (Or.inl ⟨by rfl, fun w hSw => by go_simp⟩) hp0_0 ?_
  simp only [Act.put, List.setIfInBounds_toArray]
  dsimp only [List.set_cons_zero, List.set_cons_succ]
  refine wpZ_take (i := 2) (v := .agg #[.int .u64 ((limb 0 (X) : Nat) : Int), .int .u64 ((limb 1 (X) : Nat) : Int), .int .u64 ((limb 2 (X) : Nat) : Int), .int .u64 ((limb 3 (X) : Nat) : Int)]) 45 rfl rfl (by kernel_rfl) (by kernel_rfl) (by kernel_rfl) (Or.inr (by decide)) (fun _ _ _ h => h) (Or.inl ⟨by rfl, fun w hSw => by (have qq := (b1_w3.belowAll hSw).cell; clear hSw; go_simp)⟩) hp0_0 ?_
  simp only [Act.put, List.setIfInBounds_toArray]
  dsimp only [List.set_cons_zero, List.set_cons_succ]
  refine wpZ_take (i := 3) (v := .slice oa na ca) 46 rfl rfl (by kernel_rfl) (by kernel_rfl) (by kernel_rfl) (Or.inr (by decide)) (fun _ _ _ h => h) (Or.inl ⟨by rfl, fun w hSw => by go_simp⟩) hp0_0 ?_
  simp only [Act.put, List.setIfInBounds_toArray]
  dsimp only [List.set_cons_zero, List.set_cons_succ]
  refine wpZ_one (i := 4) (by kernel_rfl) rfl (fun K hK => ?_)
  go_simp
  refine (CA.out wD (HA.out.below (bStep hb_w3 hp0_0))).mono ?_
  rintro e w4 ⟨vo, rfl, oo, hq⟩
  have hq1 := bStep hp0_0 hq
  go_wp2_with fail
  refine hK.out _ _ (fun _ => hq1) ?_
  clear hK K hq
  refine wpZ_one (i := 5) (by kernel_rfl) rfl (fun K hK => ?_)
  go_simp
  refine (HVA.out w4 vo (HG.out.below (bStep hb_w3 hq1)) (own_Es oo)).mono ?_
  rintro e w5 ⟨⟨va, rfl, hva⟩, hq⟩
  have hq2 := bStep hq1 hq
  go_wp2_with fail
  refine hK.out _ _ (fun _ => hq2) ?_
  clear hK K hq oo
  refine wpZ_take (i := 6) (v := .tuple #[va, .int .i64 0]) 42 rfl rfl (by kernel_rfl) (by kernel_rfl) (by kernel_rfl) (Or.inr (by decide)) (fun _ _ _ h => h) (Or.inl ⟨by rfl, fun w hSw => by go_simp⟩) hq2 ?_
  simp only [Act.put, List.setIfInBounds_toArray]
  dsimp only [List.set_cons_zero, List.set_cons_succ]
  refine wpZ_take (i := 7) (v := va) 49 rfl rfl (by kernel_rfl) (by kernel_rfl) (by kernel_rfl) (Or.inr (by decide)) (fun _ _ _ h => h) (Or.inl ⟨by rfl, fun w hSw => by go_simp⟩) hq2 ?_
  simp only [Act.put, List.setIfInBounds_toArray]
  dsimp only [List.set_cons_zero, List.set_cons_succ]
  refine wpZ_take (i := 8) (v := .int .i64 0) 50 rfl rfl (by kernel_rfl) (by kernel_rfl) (by kernel_rfl) (Or.inr (by decide)) (fun _ _ _ h => h) (Or.inl ⟨by rfl, fun w hSw => by go_simp⟩) hq2 ?_
  simp only [Act.put, List.setIfInBounds_toArray]
  dsimp only [List.set_cons_zero, List.set_cons_succ]
  refine wpZ_take (i := 9) (v := va) 12 rfl rfl (by kernel_rfl) (by kernel_rfl) (by kernel_rfl) (Or.inr (by decide)) (fun _ _ _ h => h) (Or.inl ⟨by rfl, fun w hSw => by go_simp⟩) hq2 ?_
  simp only [Act.put, List.setIfInBounds_toArray]
  dsimp only [List.set_cons_zero, List.set_cons_succ]
  refine wpZ_take (i := 10) (v := .int .i64 0) 13 rfl rfl (by kernel_rfl) (by kernel_rfl) (by kernel_rfl) (Or.inr (by decide)) (fun _ _ _ h => h) (Or.inl ⟨by rfl, fun w hSw => by go_simp⟩) hq2 ?_
  simp only [Act.put, List.setIfInBounds_toArray]
  dsimp only [List.set_cons_zero, List.set_cons_succ]
  refine wpZ_done (by kernel_rfl) ?_ _
  clear hp0_0 hlow0 hq1
  have hb_w5 := bStep hb_w3 hq2
  have bx_w5 := bx_w3.belowAll hq2
  have b1_w5 := b1_w3.belowAll hq2
  clear hb_w3 bx_w3 b1_w3 hq2
  go_upto_region 7 with fail
  refine wp_region_Z (fun w' => Below w5.heap.size w5 w') 99 (by kernel_rfl) ?_
  obtain ⟨wD, hD⟩ : ∃ x : World, x = w5.drew := ⟨_, rfl⟩
  rw [← hD]
  have hp0_0 : Below w5.heap.size w5 wD := by rw [hD]; exact (Below.refl _ _).drew
  have hlow0 : Below w5.heap.size w5 wD := by rw [hD]; exact (Below.refl _ _).drew
  clear hD
  refine wpZ_take (i := 0) (v := .int .i64 (a : Int)) 52 rfl rfl (by kernel_rfl) (by kernel_rfl) (by kernel_rfl) (Or.inr (by decide)) (fun _ _ _ h => h) (Or.inl ⟨by rfl, fun w hSw => by go_simp⟩) hp0_0 ?_
  simp only [Act.put, List.setIfInBounds_toArray]
  dsimp only [List.set_cons_zero, List.set_cons_succ]
  refine wpZ_take (i := 1) (v := .int .i64 k) 53 rfl rfl (by kernel_rfl) (by kernel_rfl) (by kernel_rfl) (Or.inr (by decide)) (fun _ _ _ h => h) (Or.inl ⟨by rfl, fun w hSw => by go_simp⟩) hp0_0 ?_
  simp only [Act.put, List.setIfInBounds_toArray]
  dsimp only [List.set_cons_zero, List.set_cons_succ]
  refine wpZ_take (i := 2) (v := .agg #[.int .u64 ((limb 0 (X) : Nat) : Int), .int .u64 ((limb 1 (X) : Nat) : Int), .int .u64 ((limb 2 (X) : Nat) : Int), .int .u64 ((limb 3 (X) : Nat) : Int)]) 54 rfl rfl (by kernel_rfl) (by kernel_rfl) (by kernel_rfl) (Or.inr (by decide)) (fun _ _ _ h => h) (Or.inl ⟨by rfl, fun w hSw => by (have qq := (b1_w5.belowAll hSw).cell; clear hSw; go_simp)⟩) hp0_0 ?_
  simp only [Act.put, List.setIfInBounds_toArray]
  dsimp only [List.set_cons_zero, List.set_cons_succ]
  refine wpZ_take (i := 3) (v := .slice ob nb cb) 55 rfl rfl (by kernel_rfl) (by kernel_rfl) (by kernel_rfl) (Or.inr (by decide)) (fun _ _ _ h => h) (Or.inl ⟨by rfl, fun w hSw => by go_simp⟩) hp0_0 ?_
  simp only [Act.put, List.setIfInBounds_toArray]
  dsimp only [List.set_cons_zero, List.set_cons_succ]
  refine wpZ_one (i := 4) (by kernel_rfl) rfl (fun K hK => ?_)
  go_simp
  refine (CB.out wD (HB.out.below (bStep hb_w5 hp0_0))).mono ?_
  rintro e w6 ⟨vo, rfl, oo, hq⟩
  have hq1 := bStep hp0_0 hq
  go_wp2_with fail
  refine hK.out _ _ (fun _ => hq1) ?_
  clear hK K hq
  refine wpZ_one (i := 5) (by kernel_rfl) rfl (fun K hK => ?_)
  go_simp
  refine (HVB.out w6 vo (HG.out.below (bStep hb_w5 hq1)) (own_Es oo)).mono ?_
  rintro e w7 ⟨⟨vb, rfl, hvb⟩, hq⟩
  have hq2 := bStep hq1 hq
  go_wp2_with fail
  refine hK.out _ _ (fun _ => hq2) ?_
  clear hK K hq oo
  refine wpZ_take (i := 6) (v := .tuple #[vb, .int .i64 0]) 51 rfl rfl (by kernel_rfl) (by kernel_rfl) (by kernel_rfl) (Or.inr (by decide)) (fun _ _ _ h => h) (Or.inl ⟨by rfl, fun w hSw => by go_simp⟩) hq2 ?_
  simp only [Act.put, List.setIfInBounds_toArray]
  dsimp only [List.set_cons_zero, List.set_cons_succ]
  refine wpZ_take (i := 7) (v := vb) 58 rfl rfl (by kernel_rfl) (by kernel_rfl) (by kernel_rfl) (Or.inr (by decide)) (fun _ _ _ h => h) (Or.inl ⟨by rfl, fun w hSw => by go_simp⟩) hq2 ?_
  simp only [Act.put, List.setIfInBounds_toArray]
  dsimp only [List.set_cons_zero, List.set_cons_succ]
  refine wpZ_take (i := 8) (v := .int .i64 0) 59 rfl rfl (by kernel_rfl) (by kernel_rfl) (by kernel_rfl) (Or.inr (by decide)) (fun _ _ _ h => h) (Or.inl ⟨by rfl, fun w hSw => by go_simp⟩) hq2 ?_
  simp only [Act.put, List.setIfInBounds_toArray]
  dsimp only [List.set_cons_zero, List.set_cons_succ]
  refine wpZ_take (i := 9) (v := vb) 14 rfl rfl (by kernel_rfl) (by kernel_rfl) (by kernel_rfl) (Or.inr (by decide)) (fun _ _ _ h => h) (Or.inl ⟨by rfl, fun w hSw => by go_simp⟩) hq2 ?_
  simp only [Act.put, List.setIfInBounds_toArray]
  dsimp only [List.set_cons_zero, List.set_cons_succ]
  refine wpZ_take (i := 10) (v := .int .i64 0) 15 rfl rfl (by kernel_rfl) (by kernel_rfl) (by kernel_rfl) (Or.inr (by decide)) (fun _ _ _ h => h) (Or.inl ⟨by rfl, fun w hSw => by go_simp⟩) hq2 ?_
  simp only [Act.put, List.setIfInBounds_toArray]
  dsimp only [List.set_cons_zero, List.set_cons_succ]
  refine wpZ_done (by kernel_rfl) ?_ _
  clear hp0_0 hlow0 hq1
  have hbV7 := hq2
  have hb_w7 := bStep hb_w5 hq2
  have bx_w7 := bx_w5.belowAll hq2
  have b1_w7 := b1_w5.belowAll hq2
  clear hb_w5 bx_w5 b1_w5 hq2
  clear CA CB
  obtain ⟨gv, rfl, Bgv7⟩ := hva
  obtain ⟨gw, rfl, Bgw7⟩ := hvb
  have HBV : Hid (BlkE w5 gv N V) := Bgv7
  have HBW : Hid (BlkE w7 gw N W) := Bgw7
  have HBV7 : Hid (BlkE w7 gv N V) := HBV.out.belowAll hbV7
  clear Bgv7 Bgw7
  have h64 : m ≤ 64 := by have := HM.out; omega
  obtain ⟨w8, hw8⟩ : ∃ z : World, z = w7.alloc (.cells #[] 24) := ⟨_, rfl⟩
  have hbw8 : Below w7.heap.size w7 w8 := by rw [hw8]; exact bAlloc (Below.refl _ _) _
  have own8 : w8.ownsRow w7.heap.size 24 4 (.slice (some ⟨w7.heap.size, 0, none⟩) 0 0) 0 (els SF 0) := by rw [hw8]; exact own_newE w7
  go_upto_region 11 with fail
  rw [← hw8]
  clear hw8
  go_wp2
  go_loopw [16, 17] (fun out iv wr => ∃ j : Nat, iv = .int .i64 (j : Int) ∧ j ≤ m ∧ Below w7.heap.size w7 wr ∧ wr.ownsRow w7.heap.size 24 4 out j (els SF j)) (fun _ iv _ => m - (intOf iv).toNat)
  case atStart => exact ⟨0, rfl, Nat.zero_le _, hbw8, own8⟩
  case round =>
    obtain ⟨j, rfl, hj, hbr, hown⟩ := hrel
    clear hbw8 own8
    by_cases hlt : j < m
    · obtain ⟨w9, hw9⟩ : ∃ z : World, z = wr.alloc (.cells #[.int .u64 0, .int .u64 0, .int .u64 0, .int .u64 0] 24) := ⟨_, rfl⟩
      obtain ⟨N18, e18⟩ : ∃ z, z = wr.heap.size := ⟨_, rfl⟩
      obtain ⟨z0, ez0⟩ : ∃ z : Nat, z = 0 := ⟨_, rfl⟩
      have HZ0 : Hid (z0 = 0) := ez0
      have b18 : Blk w9 24 N18 (fun i => limb i z0) := by rw [hw9, ez0]; exact (Blk.newAt _ _ _ (fun _ => 0) e18).congr (fun i _ => limb_zero i)
      have hq : Below wr.heap.size wr w9 := by rw [hw9]; exact bAlloc (Below.refl _ _) _
      have own9 := own_keepE (w' := w9) hown (fun b hb => hq.block b (own_ltE hown b hb).2)
      have hbw9 : Below w7.heap.size w7 w9 := bStep hbr hq
      have l18 : w7.heap.size ≤ N18 := by rw [e18]; exact hbr.size
      have HO18 : Hid (u16.ownBlock ≠ some N18) := fun h => by have := (own_ltE hown N18 h).2; omega
      have hj0 : (0 : Int) ≤ (j : Int) := by omega
      have GO : True := trivial
      by_cases hA : j < na
      · have hAi : (j : Int) < (na : Int) := by omega
        go_upto_region 15 with fail
        rw [← hw9, ← e18]
        clear hw9 e18 ez0 hq hbr hown
        by_cases hB : j < nb
        · have hBi : (j : Int) < (nb : Int) := by omega
          rcases HA.out with ⟨_, h0⟩ | ⟨ab, ao, c0, hv0, _, _, lab, hcell⟩
          · omega
          cases hv0
          obtain ⟨pa, epa⟩ : ∃ z, z = fa j := ⟨_, rfl⟩
          have hmpa : pa < 115792089237316195423570985008687907853269984665640564039457584007913129639936 := by rw [epa]; exact Hfa.out j (by omega)
          have HCA : Hid (∀ w', Below w7.heap.size w7 w' → w'.cell? ⟨ab, (ao + j * 4), none⟩ = some (.int .u64 ((limb 0 pa : Nat) : Int)) ∧ w'.cell? ⟨ab, (ao + j * 4) + 1, none⟩ = some (.int .u64 ((limb 1 pa : Nat) : Int)) ∧ w'.cell? ⟨ab, (ao + j * 4) + 2, none⟩ = some (.int .u64 ((limb 2 pa : Nat) : Int)) ∧ w'.cell? ⟨ab, (ao + j * 4) + 3, none⟩ = some (.int .u64 ((limb 3 pa : Nat) : Int))) := fun w' hb => by
            have hbb : Below w.heap.size w w' := bStep hb_w7 hb
            have c0 := hcell j (by omega) 0 (by decide); have c1 := hcell j (by omega) 1 (by decide); have c2 := hcell j (by omega) 2 (by decide); have c3 := hcell j (by omega) 3 (by decide)
            rw [← epa] at c0 c1 c2 c3
            exact ⟨(hbb.cell (p := ⟨ab, ao + j * 4 + 0, none⟩) lab).trans c0, (hbb.cell (p := ⟨ab, ao + j * 4 + 1, none⟩) lab).trans c1, (hbb.cell (p := ⟨ab, ao + j * 4 + 2, none⟩) lab).trans c2, (hbb.cell (p := ⟨ab, ao + j * 4 + 3, none⟩) lab).trans c3⟩
          clear hcell
          obtain ⟨t1, et1⟩ : ∃ z, z = addP a z0 pa := ⟨_, rfl⟩
          have AD1 := HAD.out z0 pa (by rw [HZ0.out]; decide) hmpa
          rw [← et1] at AD1
          have HA1 : Hid (∀ w, GlobD w → _) := AD1
          have hmt1 : t1 < 115792089237316195423570985008687907853269984665640564039457584007913129639936 := by rw [et1]; exact addP_M a _ _
          have HT1 : Hid (t1 = addP a 0 (fa j)) := by rw [et1, epa, HZ0.out]; exact rfl
          clear AD1 et1 epa
          go_upto_region 16 with fail
          refine wp_region_Z (fun w' => Below w7.heap.size w7 w' ∧ Blk w' 24 N18 (fun i => limb i z0)) 7 (by kernel_rfl) ?_
          obtain ⟨wD, hD⟩ : ∃ x : World, x = w9.drew := ⟨_, rfl⟩
          rw [← hD]
          have hp0_0 : Below w7.heap.size w7 wD := by rw [hD]; exact hbw9.drew
          have hp1_0 : Blk wD 24 N18 (fun i => limb i z0) := by rw [hD]; exact b18.drew
          have hlow0 : Below w9.heap.size w9 wD := by rw [hD]; exact (Below.refl _ _).drew
          clear hD
          refine wpZ_take (i := 0) (v := .int .i64 (a : Int)) 84 rfl rfl (by kernel_rfl) (by kernel_rfl) (by kernel_rfl) (Or.inl (by kernel_rfl)) (fun _ _ _ h => h) (Or.inl ⟨by rfl, fun w hSw => by go_simp⟩) ⟨hp0_0, hp1_0⟩ ?_
          simp only [Act.put, List.setIfInBounds_toArray]
          dsimp only [List.set_cons_zero, List.set_cons_succ]
          refine wpZ_take (i := 1) (v := .agg #[.int .u64 ((limb 0 (z0) : Nat) : Int), .int .u64 ((limb 1 (z0) : Nat) : Int), .int .u64 ((limb 2 (z0) : Nat) : Int), .int .u64 ((limb 3 (z0) : Nat) : Int)]) 85 rfl rfl (by kernel_rfl) (by kernel_rfl) (by kernel_rfl) (Or.inl (by kernel_rfl)) (fun _ _ _ h => h) (Or.inl ⟨by rfl, fun w hSw => by (have qq := (hSw.2).cell; clear hSw; go_simp)⟩) ⟨hp0_0, hp1_0⟩ ?_
          simp only [Act.put, List.setIfInBounds_toArray]
          dsimp only [List.set_cons_zero, List.set_cons_succ]
          refine wpZ_take (i := 2) (v := .slice (some ⟨ab, ao, none⟩) na ca) 86 rfl rfl (by kernel_rfl) (by kernel_rfl) (by kernel_rfl) (Or.inl (by kernel_rfl)) (fun _ _ _ h => h) (Or.inl ⟨by rfl, fun w hSw => by go_simp⟩) ⟨hp0_0, hp1_0⟩ ?_
          simp only [Act.put, List.setIfInBounds_toArray]
          dsimp only [List.set_cons_zero, List.set_cons_succ]
          refine wpZ_take (i := 3) (v := .int .i64 (j : Int)) 87 rfl rfl (by kernel_rfl) (by kernel_rfl) (by kernel_rfl) (Or.inl (by kernel_rfl)) (fun _ _ _ h => h) (Or.inl ⟨by rfl, fun w hSw => by go_simp⟩) ⟨hp0_0, hp1_0⟩ ?_
          simp only [Act.put, List.setIfInBounds_toArray]
          dsimp only [List.set_cons_zero, List.set_cons_succ]
          refine wpZ_take (i := 4) (v := .pointer (some ⟨ab, (ao + j * 4), none⟩)) 88 rfl rfl (by kernel_rfl) (by kernel_rfl) (by kernel_rfl) (Or.inl (by kernel_rfl)) (fun _ _ _ h => h) (Or.inl ⟨by rfl, fun w hSw => by go_simp⟩) ⟨hp0_0, hp1_0⟩ ?_
          simp only [Act.put, List.setIfInBounds_toArray]
          dsimp only [List.set_cons_zero, List.set_cons_succ]
          refine wpZ_take (i := 5) (v := .agg #[.int .u64 ((limb 0 (pa) : Nat) : Int), .int .u64 ((limb 1 (pa) : Nat) : Int), .int .u64 ((limb 2 (pa) : Nat) : Int), .int .u64 ((limb 3 (pa) : Nat) : Int)]) 89 rfl rfl (by kernel_rfl) (by kernel_rfl) (by kernel_rfl) (Or.inl (by kernel_rfl)) (fun _ _ _ h => h) (Or.inl ⟨by rfl, fun w hSw => by (obtain ⟨q0, q1, q2, q3⟩ := HCA.out w hSw.1; clear hSw; go_simp)⟩) ⟨hp0_0, hp1_0⟩ ?_
          simp only [Act.put, List.setIfInBounds_toArray]
          dsimp only [List.set_cons_zero, List.set_cons_succ]
          refine wpZ_one (i := 6) (by kernel_rfl) rfl (fun K hK => ?_)
          go_simp
          refine (HA1.out wD (HG.out.below (bStep hb_w7 hp0_0))).mono ?_
          rintro e wPc ⟨rfl, hbPc⟩
          have hlowPc := bStep hlow0 hbPc
          have hp0Pc := bStep hp0_0 hbPc
          have hp1Pc := (hp1_0).belowAll hbPc
          go_wp2_with fail
          refine hK.out _ _ (fun _ => ⟨hp0Pc, hp1Pc⟩) ?_
          clear hK K hbPc
          refine wpZ_one (i := 7) (by kernel_rfl) rfl (fun K hK => ?_)
          have bS := hp1Pc
          have cS := bS.cell; have fS := bS.frozen
          obtain ⟨wP, hwS, boP, hkP⟩ := bS.put4 t1
          go_simp
          refine hK.out _ _ (fun h => absurd rfl h) ?_
          clear hK K cS fS hwS bS
          refine wpZ_done (by kernel_rfl) ?_ _
          have hbwP := bKept hp0Pc l18 hkP
          have ownP := own_keepE (w' := wP) own9 (fun b hb => (hkP.block b (Nat.lt_of_lt_of_le (own_ltE own9 b hb).2 (hlowPc).size) (fun h => HO18.out (by rw [← h]; exact hb))).trans ((hlowPc).block b (own_ltE own9 b hb).2))
          clear hkP hp0_0 hp1_0 hp0Pc hp1Pc hlow0 hlowPc hbw9 b18 own9
          rcases HB.out with ⟨_, h0⟩ | ⟨bb, bo, c0, hv0, _, _, lbb, hcell⟩
          · omega
          cases hv0
          obtain ⟨pb, epb⟩ : ∃ z, z = fb j := ⟨_, rfl⟩
          have hmpb : pb < 115792089237316195423570985008687907853269984665640564039457584007913129639936 := by rw [epb]; exact Hfb.out j (by omega)
          have HCB : Hid (∀ w', Below w7.heap.size w7 w' → w'.cell? ⟨bb, (bo + j * 4), none⟩ = some (.int .u64 ((limb 0 pb : Nat) : Int)) ∧ w'.cell? ⟨bb, (bo + j * 4) + 1, none⟩ = some (.int .u64 ((limb 1 pb : Nat) : Int)) ∧ w'.cell? ⟨bb, (bo + j * 4) + 2, none⟩ = some (.int .u64 ((limb 2 pb : Nat) : Int)) ∧ w'.cell? ⟨bb, (bo + j * 4) + 3, none⟩ = some (.int .u64 ((limb 3 pb : Nat) : Int))) := fun w' hb => by
            have hbb : Below w.heap.size w w' := bStep hb_w7 hb
            have c0 := hcell j (by omega) 0 (by decide); have c1 := hcell j (by omega) 1 (by decide); have c2 := hcell j (by omega) 2 (by decide); have c3 := hcell j (by omega) 3 (by decide)
            rw [← epb] at c0 c1 c2 c3
            exact ⟨(hbb.cell (p := ⟨bb, bo + j * 4 + 0, none⟩) lbb).trans c0, (hbb.cell (p := ⟨bb, bo + j * 4 + 1, none⟩) lbb).trans c1, (hbb.cell (p := ⟨bb, bo + j * 4 + 2, none⟩) lbb).trans c2, (hbb.cell (p := ⟨bb, bo + j * 4 + 3, none⟩) lbb).trans c3⟩
          clear hcell
          obtain ⟨t2, et2⟩ : ∃ z, z = addP a t1 pb := ⟨_, rfl⟩
          have AD2 := HAD.out t1 pb hmt1 hmpb
          rw [← et2] at AD2
          have HA2 : Hid (∀ w, GlobD w → _) := AD2
          have HT2 : Hid (t2 = addP a t1 (fb j)) := by rw [et2, epb]; exact rfl
          clear AD2 et2 epb
          go_upto_region 18 with fail
          refine wp_region_Z (fun w' => Below w7.heap.size w7 w' ∧ Blk w' 24 N18 (fun i => limb i t1)) 7 (by kernel_rfl) ?_
          obtain ⟨wD, hD⟩ : ∃ x : World, x = wP.drew := ⟨_, rfl⟩
          rw [← hD]
          have hp0_0 : Below w7.heap.size w7 wD := by rw [hD]; exact hbwP.drew
          have hp1_0 : Blk wD 24 N18 (fun i => limb i t1) := by rw [hD]; exact boP.drew
          have hlow0 : Below wP.heap.size wP wD := by rw [hD]; exact (Below.refl _ _).drew
          clear hD
          refine wpZ_take (i := 0) (v := .int .i64 (a : Int)) 95 rfl rfl (by kernel_rfl) (by kernel_rfl) (by kernel_rfl) (Or.inl (by kernel_rfl)) (fun _ _ _ h => h) (Or.inl ⟨by rfl, fun w hSw => by go_simp⟩) ⟨hp0_0, hp1_0⟩ ?_
          simp only [Act.put, List.setIfInBounds_toArray]
          dsimp only [List.set_cons_zero, List.set_cons_succ]
          refine wpZ_take (i := 1) (v := .agg #[.int .u64 ((limb 0 (t1) : Nat) : Int), .int .u64 ((limb 1 (t1) : Nat) : Int), .int .u64 ((limb 2 (t1) : Nat) : Int), .int .u64 ((limb 3 (t1) : Nat) : Int)]) 96 rfl rfl (by kernel_rfl) (by kernel_rfl) (by kernel_rfl) (Or.inl (by kernel_rfl)) (fun _ _ _ h => h) (Or.inl ⟨by rfl, fun w hSw => by (have qq := (hSw.2).cell; clear hSw; go_simp)⟩) ⟨hp0_0, hp1_0⟩ ?_
          simp only [Act.put, List.setIfInBounds_toArray]
          dsimp only [List.set_cons_zero, List.set_cons_succ]
          refine wpZ_take (i := 2) (v := .slice (some ⟨bb, bo, none⟩) nb cb) 97 rfl rfl (by kernel_rfl) (by kernel_rfl) (by kernel_rfl) (Or.inl (by kernel_rfl)) (fun _ _ _ h => h) (Or.inl ⟨by rfl, fun w hSw => by go_simp⟩) ⟨hp0_0, hp1_0⟩ ?_
          simp only [Act.put, List.setIfInBounds_toArray]
          dsimp only [List.set_cons_zero, List.set_cons_succ]
          refine wpZ_take (i := 3) (v := .int .i64 (j : Int)) 98 rfl rfl (by kernel_rfl) (by kernel_rfl) (by kernel_rfl) (Or.inl (by kernel_rfl)) (fun _ _ _ h => h) (Or.inl ⟨by rfl, fun w hSw => by go_simp⟩) ⟨hp0_0, hp1_0⟩ ?_
          simp only [Act.put, List.setIfInBounds_toArray]
          dsimp only [List.set_cons_zero, List.set_cons_succ]
          refine wpZ_take (i := 4) (v := .pointer (some ⟨bb, (bo + j * 4), none⟩)) 99 rfl rfl (by kernel_rfl) (by kernel_rfl) (by kernel_rfl) (Or.inl (by kernel_rfl)) (fun _ _ _ h => h) (Or.inl ⟨by rfl, fun w hSw => by go_simp⟩) ⟨hp0_0, hp1_0⟩ ?_
          simp only [Act.put, List.setIfInBounds_toArray]
          dsimp only [List.set_cons_zero, List.set_cons_succ]
          refine wpZ_take (i := 5) (v := .agg #[.int .u64 ((limb 0 (pb) : Nat) : Int), .int .u64 ((limb 1 (pb) : Nat) : Int), .int .u64 ((limb 2 (pb) : Nat) : Int), .int .u64 ((limb 3 (pb) : Nat) : Int)]) 100 rfl rfl (by kernel_rfl) (by kernel_rfl) (by kernel_rfl) (Or.inl (by kernel_rfl)) (fun _ _ _ h => h) (Or.inl ⟨by rfl, fun w hSw => by (obtain ⟨q0, q1, q2, q3⟩ := HCB.out w hSw.1; clear hSw; go_simp)⟩) ⟨hp0_0, hp1_0⟩ ?_
          simp only [Act.put, List.setIfInBounds_toArray]
          dsimp only [List.set_cons_zero, List.set_cons_succ]
          refine wpZ_one (i := 6) (by kernel_rfl) rfl (fun K hK => ?_)
          go_simp
          refine (HA2.out wD (HG.out.below (bStep hb_w7 hp0_0))).mono ?_
          rintro e wQc ⟨rfl, hbQc⟩
          have hlowQc := bStep hlow0 hbQc
          have hp0Qc := bStep hp0_0 hbQc
          have hp1Qc := (hp1_0).belowAll hbQc
          go_wp2_with fail
          refine hK.out _ _ (fun _ => ⟨hp0Qc, hp1Qc⟩) ?_
          clear hK K hbQc
          refine wpZ_one (i := 7) (by kernel_rfl) rfl (fun K hK => ?_)
          have bS := hp1Qc
          have cS := bS.cell; have fS := bS.frozen
          obtain ⟨wQ, hwS, boQ, hkQ⟩ := bS.put4 t2
          go_simp
          refine hK.out _ _ (fun h => absurd rfl h) ?_
          clear hK K cS fS hwS bS
          refine wpZ_done (by kernel_rfl) ?_ _
          have hbwQ := bKept hp0Qc l18 hkQ
          have ownQ := own_keepE (w' := wQ) ownP (fun b hb => (hkQ.block b (Nat.lt_of_lt_of_le (own_ltE ownP b hb).2 (hlowQc).size) (fun h => HO18.out (by rw [← h]; exact hb))).trans ((hlowQc).block b (own_ltE ownP b hb).2))
          clear hkQ hp0_0 hp1_0 hp0Qc hp1Qc hlow0 hlowQc hbwP boP ownP
          have HSE : Hid (SF j = t2) := by
            rw [HSF.out j]
            unfold sF
            rw [if_pos hB, if_pos hA]
            exact (HT2.out.trans (by rw [HT1.out])).symm
          have c18 := boQ.cell
          have hbA : Below wQ.heap.size wQ (wQ.alloc (.cells #[.int .u64 ((limb 0 (t2) : Nat) : Int), .int .u64 ((limb 1 (t2) : Nat) : Int), .int .u64 ((limb 2 (t2) : Nat) : Int), .int .u64 ((limb 3 (t2) : Nat) : Int)] 24)) := bAlloc (Below.refl _ _) _
          have hownA : Hid ((wQ.alloc (.cells #[.int .u64 ((limb 0 (t2) : Nat) : Int), .int .u64 ((limb 1 (t2) : Nat) : Int), .int .u64 ((limb 2 (t2) : Nat) : Int), .int .u64 ((limb 3 (t2) : Nat) : Int)] 24)).ownsRow w7.heap.size 24 4 u16 j (els SF j)) := own_keepE ownQ (fun b hb => hbA.block b (own_ltE ownQ b hb).2)
          have BNA : Hid (Blk (wQ.alloc (.cells #[.int .u64 ((limb 0 (t2) : Nat) : Int), .int .u64 ((limb 1 (t2) : Nat) : Int), .int .u64 ((limb 2 (t2) : Nat) : Int), .int .u64 ((limb 3 (t2) : Nat) : Int)] 24)) 24 wQ.heap.size (fun i => limb i t2)) := Blk.newAt _ _ _ (fun i => limb i t2) rfl
          have hszA : Hid (w7.heap.size ≤ (wQ.alloc (.cells #[.int .u64 ((limb 0 (t2) : Nat) : Int), .int .u64 ((limb 1 (t2) : Nat) : Int), .int .u64 ((limb 2 (t2) : Nat) : Int), .int .u64 ((limb 3 (t2) : Nat) : Int)] 24)).heap.size) := Nat.le_trans hbwQ.size hbA.size
          go_wp2_with (first
            | (at_builtin; refine wpList_appE1 _ rfl _ _ rfl w7.heap.size j wQ.heap.size t2 _ SF rfl hownA.out rfl BNA.out (by omega) hszA.out ?_)
            | go_in)
          intro v2 w2 hown2 hg2 hs2
          have hbw2 : Below w7.heap.size w7 w2 := (bStep hbwQ hbA).grown hg2 hszA.out (fun b hb => (own_ltE ownQ b hb).1)
          have hown3 : w2.ownsRow w7.heap.size 24 4 v2 (j + 1) (els SF (j + 1)) := by
            rw [els_congr (g := put1 SF j t2) (fun i hi => by unfold put1; by_cases h : i < j; rw [if_pos h]; rw [if_neg h, show i = j by omega]; exact HSE.out)]
            exact hown2
          clear hg2 hs2 hown2 hbA hownA BNA hszA ownQ boQ hbwQ c18
          go_wp2
          go_roundw
          case measure => simp [intOf]; omega
          case rel => exact ⟨j + 1, by go_num, by omega, hbw2, hown3⟩
        · have hBi : ¬ (j : Int) < (nb : Int) := by omega
          rcases HA.out with ⟨_, h0⟩ | ⟨ab, ao, c0, hv0, _, _, lab, hcell⟩
          · omega
          cases hv0
          obtain ⟨pa, epa⟩ : ∃ z, z = fa j := ⟨_, rfl⟩
          have hmpa : pa < 115792089237316195423570985008687907853269984665640564039457584007913129639936 := by rw [epa]; exact Hfa.out j (by omega)
          have HCA : Hid (∀ w', Below w7.heap.size w7 w' → w'.cell? ⟨ab, (ao + j * 4), none⟩ = some (.int .u64 ((limb 0 pa : Nat) : Int)) ∧ w'.cell? ⟨ab, (ao + j * 4) + 1, none⟩ = some (.int .u64 ((limb 1 pa : Nat) : Int)) ∧ w'.cell? ⟨ab, (ao + j * 4) + 2, none⟩ = some (.int .u64 ((limb 2 pa : Nat) : Int)) ∧ w'.cell? ⟨ab, (ao + j * 4) + 3, none⟩ = some (.int .u64 ((limb 3 pa : Nat) : Int))) := fun w' hb => by
            have hbb : Below w.heap.size w w' := bStep hb_w7 hb
            have c0 := hcell j (by omega) 0 (by decide); have c1 := hcell j (by omega) 1 (by decide); have c2 := hcell j (by omega) 2 (by decide); have c3 := hcell j (by omega) 3 (by decide)
            rw [← epa] at c0 c1 c2 c3
            exact ⟨(hbb.cell (p := ⟨ab, ao + j * 4 + 0, none⟩) lab).trans c0, (hbb.cell (p := ⟨ab, ao + j * 4 + 1, none⟩) lab).trans c1, (hbb.cell (p := ⟨ab, ao + j * 4 + 2, none⟩) lab).trans c2, (hbb.cell (p := ⟨ab, ao + j * 4 + 3, none⟩) lab).trans c3⟩
          clear hcell
          obtain ⟨t1, et1⟩ : ∃ z, z = addP a z0 pa := ⟨_, rfl⟩
          have AD1 := HAD.out z0 pa (by rw [HZ0.out]; decide) hmpa
          rw [← et1] at AD1
          have HA1 : Hid (∀ w, GlobD w → _) := AD1
          have hmt1 : t1 < 115792089237316195423570985008687907853269984665640564039457584007913129639936 := by rw [et1]; exact addP_M a _ _
          have HT1 : Hid (t1 = addP a 0 (fa j)) := by rw [et1, epa, HZ0.out]; exact rfl
          clear AD1 et1 epa
          go_upto_region 16 with fail
          refine wp_region_Z (fun w' => Below w7.heap.size w7 w' ∧ Blk w' 24 N18 (fun i => limb i z0)) 7 (by kernel_rfl) ?_
          obtain ⟨wD, hD⟩ : ∃ x : World, x = w9.drew := ⟨_, rfl⟩
          rw [← hD]
          have hp0_0 : Below w7.heap.size w7 wD := by rw [hD]; exact hbw9.drew
          have hp1_0 : Blk wD 24 N18 (fun i => limb i z0) := by rw [hD]; exact b18.drew
          have hlow0 : Below w9.heap.size w9 wD := by rw [hD]; exact (Below.refl _ _).drew
          clear hD
          refine wpZ_take (i := 0) (v := .int .i64 (a : Int)) 84 rfl rfl (by kernel_rfl) (by kernel_rfl) (by kernel_rfl) (Or.inl (by kernel_rfl)) (fun _ _ _ h => h) (Or.inl ⟨by rfl, fun w hSw => by go_simp⟩) ⟨hp0_0, hp1_0⟩ ?_
          simp only [Act.put, List.setIfInBounds_toArray]
          dsimp only [List.set_cons_zero, List.set_cons_succ]
          refine wpZ_take (i := 1) (v := .agg #[.int .u64 ((limb 0 (z0) : Nat) : Int), .int .u64 ((limb 1 (z0) : Nat) : Int), .int .u64 ((limb 2 (z0) : Nat) : Int), .int .u64 ((limb 3 (z0) : Nat) : Int)]) 85 rfl rfl (by kernel_rfl) (by kernel_rfl) (by kernel_rfl) (Or.inl (by kernel_rfl)) (fun _ _ _ h => h) (Or.inl ⟨by rfl, fun w hSw => by (have qq := (hSw.2).cell; clear hSw; go_simp)⟩) ⟨hp0_0, hp1_0⟩ ?_
          simp only [Act.put, List.setIfInBounds_toArray]
          dsimp only [List.set_cons_zero, List.set_cons_succ]
          refine wpZ_take (i := 2) (v := .slice (some ⟨ab, ao, none⟩) na ca) 86 rfl rfl (by kernel_rfl) (by kernel_rfl) (by kernel_rfl) (Or.inl (by kernel_rfl)) (fun _ _ _ h => h) (Or.inl ⟨by rfl, fun w hSw => by go_simp⟩) ⟨hp0_0, hp1_0⟩ ?_
          simp only [Act.put, List.setIfInBounds_toArray]
          dsimp only [List.set_cons_zero, List.set_cons_succ]
          refine wpZ_take (i := 3) (v := .int .i64 (j : Int)) 87 rfl rfl (by kernel_rfl) (by kernel_rfl) (by kernel_rfl) (Or.inl (by kernel_rfl)) (fun _ _ _ h => h) (Or.inl ⟨by rfl, fun w hSw => by go_simp⟩) ⟨hp0_0, hp1_0⟩ ?_
          simp only [Act.put, List.setIfInBounds_toArray]
          dsimp only [List.set_cons_zero, List.set_cons_succ]
          refine wpZ_take (i := 4) (v := .pointer (some ⟨ab, (ao + j * 4), none⟩)) 88 rfl rfl (by kernel_rfl) (by kernel_rfl) (by kernel_rfl) (Or.inl (by kernel_rfl)) (fun _ _ _ h => h) (Or.inl ⟨by rfl, fun w hSw => by go_simp⟩) ⟨hp0_0, hp1_0⟩ ?_
          simp only [Act.put, List.setIfInBounds_toArray]
          dsimp only [List.set_cons_zero, List.set_cons_succ]
          refine wpZ_take (i := 5) (v := .agg #[.int .u64 ((limb 0 (pa) : Nat) : Int), .int .u64 ((limb 1 (pa) : Nat) : Int), .int .u64 ((limb 2 (pa) : Nat) : Int), .int .u64 ((limb 3 (pa) : Nat) : Int)]) 89 rfl rfl (by kernel_rfl) (by kernel_rfl) (by kernel_rfl) (Or.inl (by kernel_rfl)) (fun _ _ _ h => h) (Or.inl ⟨by rfl, fun w hSw => by (obtain ⟨q0, q1, q2, q3⟩ := HCA.out w hSw.1; clear hSw; go_simp)⟩) ⟨hp0_0, hp1_0⟩ ?_
          simp only [Act.put, List.setIfInBounds_toArray]
          dsimp only [List.set_cons_zero, List.set_cons_succ]
          refine wpZ_one (i := 6) (by kernel_rfl) rfl (fun K hK => ?_)
          go_simp
          refine (HA1.out wD (HG.out.below (bStep hb_w7 hp0_0))).mono ?_
          rintro e wPc ⟨rfl, hbPc⟩
          have hlowPc := bStep hlow0 hbPc
          have hp0Pc := bStep hp0_0 hbPc
          have hp1Pc := (hp1_0).belowAll hbPc
          go_wp2_with fail
          refine hK.out _ _ (fun _ => ⟨hp0Pc, hp1Pc⟩) ?_
          clear hK K hbPc
          refine wpZ_one (i := 7) (by kernel_rfl) rfl (fun K hK => ?_)
          have bS := hp1Pc
          have cS := bS.cell; have fS := bS.frozen
          obtain ⟨wP, hwS, boP, hkP⟩ := bS.put4 t1
          go_simp
          refine hK.out _ _ (fun h => absurd rfl h) ?_
          clear hK K cS fS hwS bS
          refine wpZ_done (by kernel_rfl) ?_ _
          have hbwP := bKept hp0Pc l18 hkP
          have ownP := own_keepE (w' := wP) own9 (fun b hb => (hkP.block b (Nat.lt_of_lt_of_le (own_ltE own9 b hb).2 (hlowPc).size) (fun h => HO18.out (by rw [← h]; exact hb))).trans ((hlowPc).block b (own_ltE own9 b hb).2))
          clear hkP hp0_0 hp1_0 hp0Pc hp1Pc hlow0 hlowPc hbw9 b18 own9
          have HSE : Hid (SF j = t1) := by
            rw [HSF.out j]
            unfold sF
            rw [if_neg hB, if_pos hA]
            exact (HT1.out).symm
          have c18 := boP.cell
          have hbA : Below wP.heap.size wP (wP.alloc (.cells #[.int .u64 ((limb 0 (t1) : Nat) : Int), .int .u64 ((limb 1 (t1) : Nat) : Int), .int .u64 ((limb 2 (t1) : Nat) : Int), .int .u64 ((limb 3 (t1) : Nat) : Int)] 24)) := bAlloc (Below.refl _ _) _
          have hownA : Hid ((wP.alloc (.cells #[.int .u64 ((limb 0 (t1) : Nat) : Int), .int .u64 ((limb 1 (t1) : Nat) : Int), .int .u64 ((limb 2 (t1) : Nat) : Int), .int .u64 ((limb 3 (t1) : Nat) : Int)] 24)).ownsRow w7.heap.size 24 4 u16 j (els SF j)) := own_keepE ownP (fun b hb => hbA.block b (own_ltE ownP b hb).2)
          have BNA : Hid (Blk (wP.alloc (.cells #[.int .u64 ((limb 0 (t1) : Nat) : Int), .int .u64 ((limb 1 (t1) : Nat) : Int), .int .u64 ((limb 2 (t1) : Nat) : Int), .int .u64 ((limb 3 (t1) : Nat) : Int)] 24)) 24 wP.heap.size (fun i => limb i t1)) := Blk.newAt _ _ _ (fun i => limb i t1) rfl
          have hszA : Hid (w7.heap.size ≤ (wP.alloc (.cells #[.int .u64 ((limb 0 (t1) : Nat) : Int), .int .u64 ((limb 1 (t1) : Nat) : Int), .int .u64 ((limb 2 (t1) : Nat) : Int), .int .u64 ((limb 3 (t1) : Nat) : Int)] 24)).heap.size) := Nat.le_trans hbwP.size hbA.size
          go_wp2_with (first
            | (at_builtin; refine wpList_appE1 _ rfl _ _ rfl w7.heap.size j wP.heap.size t1 _ SF rfl hownA.out rfl BNA.out (by omega) hszA.out ?_)
            | go_in)
          intro v2 w2 hown2 hg2 hs2
          have hbw2 : Below w7.heap.size w7 w2 := (bStep hbwP hbA).grown hg2 hszA.out (fun b hb => (own_ltE ownP b hb).1)
          have hown3 : w2.ownsRow w7.heap.size 24 4 v2 (j + 1) (els SF (j + 1)) := by
            rw [els_congr (g := put1 SF j t1) (fun i hi => by unfold put1; by_cases h : i < j; rw [if_pos h]; rw [if_neg h, show i = j by omega]; exact HSE.out)]
            exact hown2
          clear hg2 hs2 hown2 hbA hownA BNA hszA ownP boP hbwP c18
          go_wp2
          go_roundw
          case measure => simp [intOf]; omega
          case rel => exact ⟨j + 1, by go_num, by omega, hbw2, hown3⟩
      · have hAi : ¬ (j : Int) < (na : Int) := by omega
        have hB : j < nb := by have := HM.out; omega
        have hBi : (j : Int) < (nb : Int) := by omega
        go_upto_region 15 with fail
        rw [← hw9, ← e18]
        clear hw9 e18 ez0 hq hbr hown
        rcases HB.out with ⟨_, h0⟩ | ⟨bb, bo, c0, hv0, _, _, lbb, hcell⟩
        · omega
        cases hv0
        obtain ⟨pb, epb⟩ : ∃ z, z = fb j := ⟨_, rfl⟩
        have hmpb : pb < 115792089237316195423570985008687907853269984665640564039457584007913129639936 := by rw [epb]; exact Hfb.out j (by omega)
        have HCB : Hid (∀ w', Below w7.heap.size w7 w' → w'.cell? ⟨bb, (bo + j * 4), none⟩ = some (.int .u64 ((limb 0 pb : Nat) : Int)) ∧ w'.cell? ⟨bb, (bo + j * 4) + 1, none⟩ = some (.int .u64 ((limb 1 pb : Nat) : Int)) ∧ w'.cell? ⟨bb, (bo + j * 4) + 2, none⟩ = some (.int .u64 ((limb 2 pb : Nat) : Int)) ∧ w'.cell? ⟨bb, (bo + j * 4) + 3, none⟩ = some (.int .u64 ((limb 3 pb : Nat) : Int))) := fun w' hb => by
          have hbb : Below w.heap.size w w' := bStep hb_w7 hb
          have c0 := hcell j (by omega) 0 (by decide); have c1 := hcell j (by omega) 1 (by decide); have c2 := hcell j (by omega) 2 (by decide); have c3 := hcell j (by omega) 3 (by decide)
          rw [← epb] at c0 c1 c2 c3
          exact ⟨(hbb.cell (p := ⟨bb, bo + j * 4 + 0, none⟩) lbb).trans c0, (hbb.cell (p := ⟨bb, bo + j * 4 + 1, none⟩) lbb).trans c1, (hbb.cell (p := ⟨bb, bo + j * 4 + 2, none⟩) lbb).trans c2, (hbb.cell (p := ⟨bb, bo + j * 4 + 3, none⟩) lbb).trans c3⟩
        clear hcell
        obtain ⟨t2, et2⟩ : ∃ z, z = addP a z0 pb := ⟨_, rfl⟩
        have AD2 := HAD.out z0 pb (by rw [HZ0.out]; decide) hmpb
        rw [← et2] at AD2
        have HA2 : Hid (∀ w, GlobD w → _) := AD2
        have HT2 : Hid (t2 = addP a z0 (fb j)) := by rw [et2, epb]; exact rfl
        clear AD2 et2 epb
        go_upto_region 18 with fail
        refine wp_region_Z (fun w' => Below w7.heap.size w7 w' ∧ Blk w' 24 N18 (fun i => limb i z0)) 7 (by kernel_rfl) ?_
        obtain ⟨wD, hD⟩ : ∃ x : World, x = w9.drew := ⟨_, rfl⟩
        rw [← hD]
        have hp0_0 : Below w7.heap.size w7 wD := by rw [hD]; exact hbw9.drew
        have hp1_0 : Blk wD 24 N18 (fun i => limb i z0) := by rw [hD]; exact b18.drew
        have hlow0 : Below w9.heap.size w9 wD := by rw [hD]; exact (Below.refl _ _).drew
        clear hD
        refine wpZ_take (i := 0) (v := .int .i64 (a : Int)) 95 rfl rfl (by kernel_rfl) (by kernel_rfl) (by kernel_rfl) (Or.inl (by kernel_rfl)) (fun _ _ _ h => h) (Or.inl ⟨by rfl, fun w hSw => by go_simp⟩) ⟨hp0_0, hp1_0⟩ ?_
        simp only [Act.put, List.setIfInBounds_toArray]
        dsimp only [List.set_cons_zero, List.set_cons_succ]
        refine wpZ_take (i := 1) (v := .agg #[.int .u64 ((limb 0 (z0) : Nat) : Int), .int .u64 ((limb 1 (z0) : Nat) : Int), .int .u64 ((limb 2 (z0) : Nat) : Int), .int .u64 ((limb 3 (z0) : Nat) : Int)]) 96 rfl rfl (by kernel_rfl) (by kernel_rfl) (by kernel_rfl) (Or.inl (by kernel_rfl)) (fun _ _ _ h => h) (Or.inl ⟨by rfl, fun w hSw => by (have qq := (hSw.2).cell; clear hSw; go_simp)⟩) ⟨hp0_0, hp1_0⟩ ?_
        simp only [Act.put, List.setIfInBounds_toArray]
        dsimp only [List.set_cons_zero, List.set_cons_succ]
        refine wpZ_take (i := 2) (v := .slice (some ⟨bb, bo, none⟩) nb cb) 97 rfl rfl (by kernel_rfl) (by kernel_rfl) (by kernel_rfl) (Or.inl (by kernel_rfl)) (fun _ _ _ h => h) (Or.inl ⟨by rfl, fun w hSw => by go_simp⟩) ⟨hp0_0, hp1_0⟩ ?_
        simp only [Act.put, List.setIfInBounds_toArray]
        dsimp only [List.set_cons_zero, List.set_cons_succ]
        refine wpZ_take (i := 3) (v := .int .i64 (j : Int)) 98 rfl rfl (by kernel_rfl) (by kernel_rfl) (by kernel_rfl) (Or.inl (by kernel_rfl)) (fun _ _ _ h => h) (Or.inl ⟨by rfl, fun w hSw => by go_simp⟩) ⟨hp0_0, hp1_0⟩ ?_
        simp only [Act.put, List.setIfInBounds_toArray]
        dsimp only [List.set_cons_zero, List.set_cons_succ]
        refine wpZ_take (i := 4) (v := .pointer (some ⟨bb, (bo + j * 4), none⟩)) 99 rfl rfl (by kernel_rfl) (by kernel_rfl) (by kernel_rfl) (Or.inl (by kernel_rfl)) (fun _ _ _ h => h) (Or.inl ⟨by rfl, fun w hSw => by go_simp⟩) ⟨hp0_0, hp1_0⟩ ?_
        simp only [Act.put, List.setIfInBounds_toArray]
        dsimp only [List.set_cons_zero, List.set_cons_succ]
        refine wpZ_take (i := 5) (v := .agg #[.int .u64 ((limb 0 (pb) : Nat) : Int), .int .u64 ((limb 1 (pb) : Nat) : Int), .int .u64 ((limb 2 (pb) : Nat) : Int), .int .u64 ((limb 3 (pb) : Nat) : Int)]) 100 rfl rfl (by kernel_rfl) (by kernel_rfl) (by kernel_rfl) (Or.inl (by kernel_rfl)) (fun _ _ _ h => h) (Or.inl ⟨by rfl, fun w hSw => by (obtain ⟨q0, q1, q2, q3⟩ := HCB.out w hSw.1; clear hSw; go_simp)⟩) ⟨hp0_0, hp1_0⟩ ?_
        simp only [Act.put, List.setIfInBounds_toArray]
        dsimp only [List.set_cons_zero, List.set_cons_succ]
        refine wpZ_one (i := 6) (by kernel_rfl) rfl (fun K hK => ?_)
        go_simp
        refine (HA2.out wD (HG.out.below (bStep hb_w7 hp0_0))).mono ?_
        rintro e wQc ⟨rfl, hbQc⟩
        have hlowQc := bStep hlow0 hbQc
        have hp0Qc := bStep hp0_0 hbQc
        have hp1Qc := (hp1_0).belowAll hbQc
        go_wp2_with fail
        refine hK.out _ _ (fun _ => ⟨hp0Qc, hp1Qc⟩) ?_
        clear hK K hbQc
        refine wpZ_one (i := 7) (by kernel_rfl) rfl (fun K hK => ?_)
        have bS := hp1Qc
        have cS := bS.cell; have fS := bS.frozen
        obtain ⟨wQ, hwS, boQ, hkQ⟩ := bS.put4 t2
        go_simp
        refine hK.out _ _ (fun h => absurd rfl h) ?_
        clear hK K cS fS hwS bS
        refine wpZ_done (by kernel_rfl) ?_ _
        have hbwQ := bKept hp0Qc l18 hkQ
        have ownQ := own_keepE (w' := wQ) own9 (fun b hb => (hkQ.block b (Nat.lt_of_lt_of_le (own_ltE own9 b hb).2 (hlowQc).size) (fun h => HO18.out (by rw [← h]; exact hb))).trans ((hlowQc).block b (own_ltE own9 b hb).2))
        clear hkQ hp0_0 hp1_0 hp0Qc hp1Qc hlow0 hlowQc hbw9 b18 own9
        have HSE : Hid (SF j = t2) := by
          rw [HSF.out j]
          unfold sF
          rw [if_pos hB, if_neg hA]
          exact (HT2.out.trans (by rw [HZ0.out])).symm
        have c18 := boQ.cell
        have hbA : Below wQ.heap.size wQ (wQ.alloc (.cells #[.int .u64 ((limb 0 (t2) : Nat) : Int), .int .u64 ((limb 1 (t2) : Nat) : Int), .int .u64 ((limb 2 (t2) : Nat) : Int), .int .u64 ((limb 3 (t2) : Nat) : Int)] 24)) := bAlloc (Below.refl _ _) _
        have hownA : Hid ((wQ.alloc (.cells #[.int .u64 ((limb 0 (t2) : Nat) : Int), .int .u64 ((limb 1 (t2) : Nat) : Int), .int .u64 ((limb 2 (t2) : Nat) : Int), .int .u64 ((limb 3 (t2) : Nat) : Int)] 24)).ownsRow w7.heap.size 24 4 u16 j (els SF j)) := own_keepE ownQ (fun b hb => hbA.block b (own_ltE ownQ b hb).2)
        have BNA : Hid (Blk (wQ.alloc (.cells #[.int .u64 ((limb 0 (t2) : Nat) : Int), .int .u64 ((limb 1 (t2) : Nat) : Int), .int .u64 ((limb 2 (t2) : Nat) : Int), .int .u64 ((limb 3 (t2) : Nat) : Int)] 24)) 24 wQ.heap.size (fun i => limb i t2)) := Blk.newAt _ _ _ (fun i => limb i t2) rfl
        have hszA : Hid (w7.heap.size ≤ (wQ.alloc (.cells #[.int .u64 ((limb 0 (t2) : Nat) : Int), .int .u64 ((limb 1 (t2) : Nat) : Int), .int .u64 ((limb 2 (t2) : Nat) : Int), .int .u64 ((limb 3 (t2) : Nat) : Int)] 24)).heap.size) := Nat.le_trans hbwQ.size hbA.size
        go_wp2_with (first
          | (at_builtin; refine wpList_appE1 _ rfl _ _ rfl w7.heap.size j wQ.heap.size t2 _ SF rfl hownA.out rfl BNA.out (by omega) hszA.out ?_)
          | go_in)
        intro v2 w2 hown2 hg2 hs2
        have hbw2 : Below w7.heap.size w7 w2 := (bStep hbwQ hbA).grown hg2 hszA.out (fun b hb => (own_ltE ownQ b hb).1)
        have hown3 : w2.ownsRow w7.heap.size 24 4 v2 (j + 1) (els SF (j + 1)) := by
          rw [els_congr (g := put1 SF j t2) (fun i hi => by unfold put1; by_cases h : i < j; rw [if_pos h]; rw [if_neg h, show i = j by omega]; exact HSE.out)]
          exact hown2
        clear hg2 hs2 hown2 hbA hownA BNA hszA ownQ boQ hbwQ c18
        go_wp2
        go_roundw
        case measure => simp [intOf]; omega
        case rel => exact ⟨j + 1, by go_num, by omega, hbw2, hown3⟩
    · have ej : j = m := by omega
      have hAi : ¬ (j : Int) < (na : Int) := by have := HM.out; omega
      have hBi : ¬ (j : Int) < (nb : Int) := by have := HM.out; omega
      subst ej
      have b1r := b1_w7.belowAll hbr; have bxr := bx_w7.belowAll hbr
      have hbwr := bStep hb_w7 hbr
      have HBVr : Hid (BlkE w7 gv N V) := HBV7.out
      have c11 := b1r.cell
      go_wp2_with fail
      refine (HVS.out _ u16 (HG.out.below hbwr) (own_Es hown)).mono ?_
      rintro e w10 ⟨⟨vu, rfl, gu, rfl, Bgu0⟩, hq⟩
      have hb_w10 := bStep hbwr hq
      have b1_w10 := b1r.belowAll hq; have bx_w10 := bxr.belowAll hq
      have Bgv := (HBVr.out.belowAll hbr).belowAll hq
      have Bgw := (HBW.out.belowAll hbr).belowAll hq
      have HGU : Hid (BlkE w10 gu N U) := Bgu0
      have HGV : Hid (BlkE w10 gv N V) := Bgv
      have HGW : Hid (BlkE w10 gw N W) := Bgw
      clear hbwr b1r bxr hq hown c11 Bgu0 Bgv Bgw hbr HBVr HBV HBV7 HBW hb_w7 b1_w7 bx_w7
      obtain ⟨w11, hw11⟩ : ∃ z : World, z = (w10.alloc (.cells #[.int .u64 0, .int .u64 0, .int .u64 0, .int .u64 0] 24)).alloc (.cells #[.int .u64 0, .int .u64 0, .int .u64 0, .int .u64 0] 24) := ⟨_, rfl⟩
      obtain ⟨N21, e21⟩ : ∃ z, z = w10.heap.size := ⟨_, rfl⟩
      obtain ⟨N22, e22⟩ : ∃ z, z = N21 + 1 := ⟨_, rfl⟩
      have bA11 : Blk w11 24 N21 (fun i => limb i (accF a lF 0)) := by rw [hw11]; exact ((Blk.newAt _ _ _ (fun _ => 0) e21).congr (fun i _ => limb_zero i)).alloc _
      have bT11 : Blk w11 24 N22 (fun i => limb i (accF a (fun i => mulP a (lF i) (V i)) 0)) := by rw [hw11]; exact (Blk.newAt _ _ _ (fun _ => 0) (by rw [e22, e21]; simp)).congr (fun i _ => limb_zero i)
      have hb11 : Below w10.heap.size w10 w11 := by rw [hw11]; exact bAlloc (bAlloc (Below.refl _ _) _) _
      have l21 : w10.heap.size ≤ N21 := by omega
      have l22 : w10.heap.size ≤ N22 := by omega
      have n2122 : N21 ≠ N22 := by omega
      have n2221 : N22 ≠ N21 := by omega
      go_upto_region 25 with fail
      rw [← hw11, ← e21, ← e22]
      clear hw11 e21 e22
      go_wp2
      go_loopw [23] (fun iv wr => ∃ j : Nat, iv = .int .i64 (j : Int) ∧ j ≤ N ∧ Below w10.heap.size w10 wr ∧ Blk wr 24 N21 (fun i => limb i (accF a lF j)) ∧ Blk wr 24 N22 (fun i => limb i (accF a (fun i => mulP a (lF i) (V i)) j))) (fun iv _ => N - (intOf iv).toNat)
      case atStart => exact ⟨0, rfl, Nat.zero_le _, hb11, bA11, bT11⟩
      case round =>
        obtain ⟨j, rfl, hj, hbr, bA, bT⟩ := hrel
        clear hb11 bA11 bT11
        by_cases hlt : j < N
        · have hN5 : N ≤ 512 := HN.out.2
          have hj0 : (0 : Int) ≤ (j : Int) := by omega
          have hji : (j : Int) < (N : Int) := by omega
          have hVj := HVM.out j hlt; have hWj := HWM.out j hlt; have hLj := HLM.out j
          have hUj := HU.out j hlt
          have hAj : accF a lF (j + 1) = addP a (accF a lF j) (lF j) := rfl
          have hTj : accF a (fun i => mulP a (lF i) (V i)) (j + 1) = addP a (accF a (fun i => mulP a (lF i) (V i)) j) (mulP a (lF j) (V j)) := rfl
          have hAm := accF_M a lF j; have hTm := accF_M a (fun i => mulP a (lF i) (V i)) j
          have LGj := HLG.out j hlt
          obtain ⟨pu, epu⟩ : ∃ z, z = U j := ⟨_, rfl⟩
          obtain ⟨pv, epv⟩ : ∃ z, z = V j := ⟨_, rfl⟩
          obtain ⟨pw, epw⟩ : ∃ z, z = W j := ⟨_, rfl⟩
          obtain ⟨lj, elj⟩ : ∃ z, z = lF j := ⟨_, rfl⟩
          obtain ⟨A, eA⟩ : ∃ z, z = accF a lF j := ⟨_, rfl⟩
          obtain ⟨T, eT⟩ : ∃ z, z = accF a (fun i => mulP a (lF i) (V i)) j := ⟨_, rfl⟩
          have HCU : Hid (∀ w', Below w10.heap.size w10 w' → w'.cell? ⟨gu, (j * 4), none⟩ = some (.int .u64 ((limb 0 pu : Nat) : Int)) ∧ w'.cell? ⟨gu, (j * 4) + 1, none⟩ = some (.int .u64 ((limb 1 pu : Nat) : Int)) ∧ w'.cell? ⟨gu, (j * 4) + 2, none⟩ = some (.int .u64 ((limb 2 pu : Nat) : Int)) ∧ w'.cell? ⟨gu, (j * 4) + 3, none⟩ = some (.int .u64 ((limb 3 pu : Nat) : Int))) := fun w' hb => by rw [epu]; exact (HGU.out.belowAll hb).at4 hlt rfl
          have HCV : Hid (∀ w', Below w10.heap.size w10 w' → w'.cell? ⟨gv, (j * 4), none⟩ = some (.int .u64 ((limb 0 pv : Nat) : Int)) ∧ w'.cell? ⟨gv, (j * 4) + 1, none⟩ = some (.int .u64 ((limb 1 pv : Nat) : Int)) ∧ w'.cell? ⟨gv, (j * 4) + 2, none⟩ = some (.int .u64 ((limb 2 pv : Nat) : Int)) ∧ w'.cell? ⟨gv, (j * 4) + 3, none⟩ = some (.int .u64 ((limb 3 pv : Nat) : Int))) := fun w' hb => by rw [epv]; exact (HGV.out.belowAll hb).at4 hlt rfl
          have HCW : Hid (∀ w', Below w10.heap.size w10 w' → w'.cell? ⟨gw, (j * 4), none⟩ = some (.int .u64 ((limb 0 pw : Nat) : Int)) ∧ w'.cell? ⟨gw, (j * 4) + 1, none⟩ = some (.int .u64 ((limb 1 pw : Nat) : Int)) ∧ w'.cell? ⟨gw, (j * 4) + 2, none⟩ = some (.int .u64 ((limb 2 pw : Nat) : Int)) ∧ w'.cell? ⟨gw, (j * 4) + 3, none⟩ = some (.int .u64 ((limb 3 pw : Nat) : Int))) := fun w' hb => by rw [epw]; exact (HGW.out.belowAll hb).at4 hlt rfl
          rw [← epv] at hVj hTj hUj
          rw [← epw] at hWj hUj
          rw [← epu] at hUj
          rw [← elj] at hLj hAj hTj LGj
          rw [← eA] at hAm hAj bA
          rw [← eT] at hTm hTj bT
          have AD1 := HAD.out pv pw hVj hWj
          rw [← hUj] at AD1
          have hum : pu < 115792089237316195423570985008687907853269984665640564039457584007913129639936 := by rw [hUj]; exact addP_M a _ _
          have HNQ : Hid (∀ w, (binOp .neq 24 (.agg #[.int .u64 ((limb 0 (pu) : Nat) : Int), .int .u64 ((limb 1 (pu) : Nat) : Int), .int .u64 ((limb 2 (pu) : Nat) : Int), .int .u64 ((limb 3 (pu) : Nat) : Int)]) (.agg #[.int .u64 ((limb 0 (pu) : Nat) : Int), .int .u64 ((limb 1 (pu) : Nat) : Int), .int .u64 ((limb 2 (pu) : Nat) : Int), .int .u64 ((limb 3 (pu) : Nat) : Int)])).run Tryd.prog w = .ok (.bool false) w) := fun w => by rw [neqE pu pu hum hum w, decide_eq_true rfl]; rfl
          have HA1 : Hid (∀ w, GlobD w → _) := AD1
          have AD2 := HAD.out A lj hAm hLj
          obtain ⟨A1, eA1⟩ : ∃ z, z = addP a A lj := ⟨_, rfl⟩
          have MU1 := HMU.out lj pv hLj hVj
          obtain ⟨mj, emj⟩ : ∃ z, z = mulP a lj pv := ⟨_, rfl⟩
          have hmj : mj < 115792089237316195423570985008687907853269984665640564039457584007913129639936 := by rw [emj]; exact mulP_M a _ _
          have AD3 := HAD.out T mj hTm hmj
          obtain ⟨T1, eT1⟩ : ∃ z, z = addP a T mj := ⟨_, rfl⟩
          rw [← eA1] at AD2 hAj
          rw [← emj] at MU1 hTj
          rw [← eT1] at AD3 hTj
          have HA2 : Hid (∀ w, GlobD w → _) := AD2
          have HM1 : Hid (∀ w, GlobD w → _) := MU1
          have HA3 : Hid (∀ w, GlobD w → _) := AD3
          have HLJ : Hid (∀ w, GlobD w → _) := LGj
          have HAJ : Hid (A1 = accF a lF (j + 1)) := hAj.symm
          have HTJ : Hid (T1 = accF a (fun i => mulP a (lF i) (V i)) (j + 1)) := hTj.symm
          clear AD1 AD2 AD3 MU1 LGj hAj hTj eA1 eT1 emj eA eT elj epu epv epw hUj hVj hWj hLj hAm hTm hum hmj
          go_upto_region 28 with fail
          refine wp_region_Z (fun w' => Below w10.heap.size w10 w') 99 (by kernel_rfl) ?_
          obtain ⟨wD, hD⟩ : ∃ x : World, x = wr.drew := ⟨_, rfl⟩
          rw [← hD]
          have hp0_0 : Below w10.heap.size w10 wD := by rw [hD]; exact hbr.drew
          have hlow0 : Below wr.heap.size wr wD := by rw [hD]; exact (Below.refl _ _).drew
          clear hD
          refine wpZ_take (i := 0) (v := .slice (some ⟨gu, 0, none⟩) N N) 134 rfl rfl (by kernel_rfl) (by kernel_rfl) (by kernel_rfl) (Or.inr (by decide)) (fun _ _ _ h => h) (Or.inl ⟨by rfl, fun w hSw => by go_simp⟩) hp0_0 ?_
          simp only [Act.put, List.setIfInBounds_toArray]
          dsimp only [List.set_cons_zero, List.set_cons_succ]
          refine wpZ_take (i := 1) (v := .int .i64 (j : Int)) 135 rfl rfl (by kernel_rfl) (by kernel_rfl) (by kernel_rfl) (Or.inr (by decide)) (fun _ _ _ h => h) (Or.inl ⟨by rfl, fun w hSw => by go_simp⟩) hp0_0 ?_
          simp only [Act.put, List.setIfInBounds_toArray]
          dsimp only [List.set_cons_zero, List.set_cons_succ]
          refine wpZ_take (i := 2) (v := .pointer (some ⟨gu, (j * 4), none⟩)) 136 rfl rfl (by kernel_rfl) (by kernel_rfl) (by kernel_rfl) (Or.inr (by decide)) (fun _ _ _ h => h) (Or.inl ⟨by rfl, fun w hSw => by go_simp⟩) hp0_0 ?_
          simp only [Act.put, List.setIfInBounds_toArray]
          dsimp only [List.set_cons_zero, List.set_cons_succ]
          refine wpZ_take (i := 3) (v := .agg #[.int .u64 ((limb 0 (pu) : Nat) : Int), .int .u64 ((limb 1 (pu) : Nat) : Int), .int .u64 ((limb 2 (pu) : Nat) : Int), .int .u64 ((limb 3 (pu) : Nat) : Int)]) 137 rfl rfl (by kernel_rfl) (by kernel_rfl) (by kernel_rfl) (Or.inr (by decide)) (fun _ _ _ h => h) (Or.inl ⟨by rfl, fun w hSw => by (obtain ⟨q0, q1, q2, q3⟩ := HCU.out w hSw; clear hSw; go_simp)⟩) hp0_0 ?_
          simp only [Act.put, List.setIfInBounds_toArray]
          dsimp only [List.set_cons_zero, List.set_cons_succ]
          refine wpZ_take (i := 4) (v := .int .i64 (a : Int)) 138 rfl rfl (by kernel_rfl) (by kernel_rfl) (by kernel_rfl) (Or.inr (by decide)) (fun _ _ _ h => h) (Or.inl ⟨by rfl, fun w hSw => by go_simp⟩) hp0_0 ?_
          simp only [Act.put, List.setIfInBounds_toArray]
          dsimp only [List.set_cons_zero, List.set_cons_succ]
          refine wpZ_take (i := 5) (v := .slice (some ⟨gv, 0, none⟩) N N) 139 rfl rfl (by kernel_rfl) (by kernel_rfl) (by kernel_rfl) (Or.inr (by decide)) (fun _ _ _ h => h) (Or.inl ⟨by rfl, fun w hSw => by go_simp⟩) hp0_0 ?_
          simp only [Act.put, List.setIfInBounds_toArray]
          dsimp only [List.set_cons_zero, List.set_cons_succ]
          refine wpZ_take (i := 6) (v := .int .i64 (j : Int)) 140 rfl rfl (by kernel_rfl) (by kernel_rfl) (by kernel_rfl) (Or.inr (by decide)) (fun _ _ _ h => h) (Or.inl ⟨by rfl, fun w hSw => by go_simp⟩) hp0_0 ?_
          simp only [Act.put, List.setIfInBounds_toArray]
          dsimp only [List.set_cons_zero, List.set_cons_succ]
          refine wpZ_take (i := 7) (v := .pointer (some ⟨gv, (j * 4), none⟩)) 141 rfl rfl (by kernel_rfl) (by kernel_rfl) (by kernel_rfl) (Or.inr (by decide)) (fun _ _ _ h => h) (Or.inl ⟨by rfl, fun w hSw => by go_simp⟩) hp0_0 ?_
          simp only [Act.put, List.setIfInBounds_toArray]
          dsimp only [List.set_cons_zero, List.set_cons_succ]
          refine wpZ_take (i := 8) (v := .agg #[.int .u64 ((limb 0 (pv) : Nat) : Int), .int .u64 ((limb 1 (pv) : Nat) : Int), .int .u64 ((limb 2 (pv) : Nat) : Int), .int .u64 ((limb 3 (pv) : Nat) : Int)]) 142 rfl rfl (by kernel_rfl) (by kernel_rfl) (by kernel_rfl) (Or.inr (by decide)) (fun _ _ _ h => h) (Or.inl ⟨by rfl, fun w hSw => by (obtain ⟨q0, q1, q2, q3⟩ := HCV.out w hSw; clear hSw; go_simp)⟩) hp0_0 ?_
          simp only [Act.put, List.setIfInBounds_toArray]
          dsimp only [List.set_cons_zero, List.set_cons_succ]
          refine wpZ_take (i := 9) (v := .slice (some ⟨gw, 0, none⟩) N N) 143 rfl rfl (by kernel_rfl) (by kernel_rfl) (by kernel_rfl) (Or.inr (by decide)) (fun _ _ _ h => h) (Or.inl ⟨by rfl, fun w hSw => by go_simp⟩) hp0_0 ?_
          simp only [Act.put, List.setIfInBounds_toArray]
          dsimp only [List.set_cons_zero, List.set_cons_succ]
          refine wpZ_take (i := 10) (v := .int .i64 (j : Int)) 144 rfl rfl (by kernel_rfl) (by kernel_rfl) (by kernel_rfl) (Or.inr (by decide)) (fun _ _ _ h => h) (Or.inl ⟨by rfl, fun w hSw => by go_simp⟩) hp0_0 ?_
          simp only [Act.put, List.setIfInBounds_toArray]
          dsimp only [List.set_cons_zero, List.set_cons_succ]
          refine wpZ_take (i := 11) (v := .pointer (some ⟨gw, (j * 4), none⟩)) 145 rfl rfl (by kernel_rfl) (by kernel_rfl) (by kernel_rfl) (Or.inr (by decide)) (fun _ _ _ h => h) (Or.inl ⟨by rfl, fun w hSw => by go_simp⟩) hp0_0 ?_
          simp only [Act.put, List.setIfInBounds_toArray]
          dsimp only [List.set_cons_zero, List.set_cons_succ]
          refine wpZ_take (i := 12) (v := .agg #[.int .u64 ((limb 0 (pw) : Nat) : Int), .int .u64 ((limb 1 (pw) : Nat) : Int), .int .u64 ((limb 2 (pw) : Nat) : Int), .int .u64 ((limb 3 (pw) : Nat) : Int)]) 146 rfl rfl (by kernel_rfl) (by kernel_rfl) (by kernel_rfl) (Or.inr (by decide)) (fun _ _ _ h => h) (Or.inl ⟨by rfl, fun w hSw => by (obtain ⟨q0, q1, q2, q3⟩ := HCW.out w hSw; clear hSw; go_simp)⟩) hp0_0 ?_
          simp only [Act.put, List.setIfInBounds_toArray]
          dsimp only [List.set_cons_zero, List.set_cons_succ]
          refine wpZ_one (i := 13) (by kernel_rfl) rfl (fun K hK => ?_)
          go_simp
          refine (HA1.out wD (HG.out.below (bStep hb_w10 hp0_0))).mono ?_
          rintro e wZ ⟨rfl, hbZ⟩
          have hlowZ := bStep hlow0 hbZ
          have hp0Z := bStep hp0_0 hbZ
          go_wp2_with fail
          refine hK.out _ _ (fun _ => hp0Z) ?_
          clear hK K hbZ
          refine wpZ_take (i := 14) (v := .bool false) 148 rfl rfl (by kernel_rfl) (by kernel_rfl) (by kernel_rfl) (Or.inr (by decide)) (fun _ _ _ h => h) (Or.inl ⟨by rfl, fun w hSw => by (have qq := HNQ.out; clear hSw; go_simp)⟩) hp0Z ?_
          simp only [Act.put, List.setIfInBounds_toArray]
          dsimp only [List.set_cons_zero, List.set_cons_succ]
          refine wpZ_done (by kernel_rfl) ?_ _
          have bA2 := bA.belowAll hlowZ; have bT2 := bT.belowAll hlowZ
          have hbr2 := hp0Z
          clear hp0_0 hlow0 hlowZ hbr bA bT
          obtain ⟨wz, ewz⟩ : ∃ z, z = wZ := ⟨_, rfl⟩
          have bxz := bx_w10.belowAll hbr2
          have cxz := bxz.cell
          clear ewz
          go_wp2_with fail
          refine (HLJ.out _ (HG.out.below (bStep hb_w10 hbr2))).mono ?_
          rintro e w12 ⟨rfl, hq⟩
          have hb12 := bStep hbr2 hq
          have bA12 := bA2.belowAll hq; have bT12 := bT2.belowAll hq
          clear hbr2 bA2 bT2 hq bxz cxz
          obtain ⟨w13, hw13⟩ : ∃ z : World, z = w12.alloc (.cells #[.int .u64 ((limb 0 (lj) : Nat) : Int), .int .u64 ((limb 1 (lj) : Nat) : Int), .int .u64 ((limb 2 (lj) : Nat) : Int), .int .u64 ((limb 3 (lj) : Nat) : Int)] 24) := ⟨_, rfl⟩
          obtain ⟨N24, e24⟩ : ∃ z, z = w12.heap.size := ⟨_, rfl⟩
          have bL13 : Blk w13 24 N24 (fun i => limb i lj) := by rw [hw13]; exact Blk.newAt _ _ _ (fun i => limb i lj) e24
          have hq : Below w12.heap.size w12 w13 := by rw [hw13]; exact bAlloc (Below.refl _ _) _
          have hb13 := bStep hb12 hq
          have n2421 : N24 ≠ N21 := by have := bA12.lt; omega
          have n2422 : N24 ≠ N22 := by have := bT12.lt; omega
          have bA13 := bA12.belowAll hq; have bT13 := bT12.belowAll hq
          go_upto_region 31 with fail
          rw [← hw13, ← e24]
          clear hw13 e24 hb12 bA12 bT12 hq
          have cA := bA13.cell; have cL := bL13.cell
          go_wp2_with fail
          refine (HA2.out _ (HG.out.below (bStep hb_w10 hb13))).mono ?_
          rintro e w14 ⟨rfl, hq⟩
          have hb14 := bStep hb13 hq
          have bA14 := bA13.belowAll hq; have bT14 := bT13.belowAll hq; have bL14 := bL13.belowAll hq
          clear cA cL hb13 bA13 bT13 bL13 hq
          have cA := bA14.cell; have fA := bA14.frozen
          obtain ⟨w15, hw15, bA15, hk15⟩ := bA14.put4 A1
          have bT15 := bT14.kept n2221 hk15; have bL15 := bL14.kept n2421 hk15
          have hb15 := bKept hb14 l21 hk15
          clear hk15 hb14 bT14 bL14
          go_upto_region 34 with fail
          clear cA fA hw15 bA14
          refine wp_region_Z (fun w' => Below w10.heap.size w10 w' ∧ Blk w' 24 N22 (fun i => limb i T) ∧ Blk w' 24 N24 (fun i => limb i lj)) 10 (by kernel_rfl) ?_
          obtain ⟨wD, hD⟩ : ∃ x : World, x = w15.drew := ⟨_, rfl⟩
          rw [← hD]
          have hp0_0 : Below w10.heap.size w10 wD := by rw [hD]; exact hb15.drew
          have hp1_0 : Blk wD 24 N22 (fun i => limb i T) := by rw [hD]; exact bT15.drew
          have hp2_0 : Blk wD 24 N24 (fun i => limb i lj) := by rw [hD]; exact bL15.drew
          have hlow0 : Below w15.heap.size w15 wD := by rw [hD]; exact (Below.refl _ _).drew
          clear hD
          refine wpZ_take (i := 0) (v := .int .i64 (a : Int)) 163 rfl rfl (by kernel_rfl) (by kernel_rfl) (by kernel_rfl) (Or.inl (by kernel_rfl)) (fun _ _ _ h => h) (Or.inl ⟨by rfl, fun w hSw => by go_simp⟩) ⟨hp0_0, hp1_0, hp2_0⟩ ?_
          simp only [Act.put, List.setIfInBounds_toArray]
          dsimp only [List.set_cons_zero, List.set_cons_succ]
          refine wpZ_take (i := 1) (v := .agg #[.int .u64 ((limb 0 (T) : Nat) : Int), .int .u64 ((limb 1 (T) : Nat) : Int), .int .u64 ((limb 2 (T) : Nat) : Int), .int .u64 ((limb 3 (T) : Nat) : Int)]) 164 rfl rfl (by kernel_rfl) (by kernel_rfl) (by kernel_rfl) (Or.inl (by kernel_rfl)) (fun _ _ _ h => h) (Or.inl ⟨by rfl, fun w hSw => by (have qq := (hSw.2.1).cell; clear hSw; go_simp)⟩) ⟨hp0_0, hp1_0, hp2_0⟩ ?_
          simp only [Act.put, List.setIfInBounds_toArray]
          dsimp only [List.set_cons_zero, List.set_cons_succ]
          refine wpZ_take (i := 2) (v := .int .i64 (a : Int)) 165 rfl rfl (by kernel_rfl) (by kernel_rfl) (by kernel_rfl) (Or.inl (by kernel_rfl)) (fun _ _ _ h => h) (Or.inl ⟨by rfl, fun w hSw => by go_simp⟩) ⟨hp0_0, hp1_0, hp2_0⟩ ?_
          simp only [Act.put, List.setIfInBounds_toArray]
          dsimp only [List.set_cons_zero, List.set_cons_succ]
          refine wpZ_take (i := 3) (v := .agg #[.int .u64 ((limb 0 (lj) : Nat) : Int), .int .u64 ((limb 1 (lj) : Nat) : Int), .int .u64 ((limb 2 (lj) : Nat) : Int), .int .u64 ((limb 3 (lj) : Nat) : Int)]) 166 rfl rfl (by kernel_rfl) (by kernel_rfl) (by kernel_rfl) (Or.inl (by kernel_rfl)) (fun _ _ _ h => h) (Or.inl ⟨by rfl, fun w hSw => by (have qq := (hSw.2.2).cell; clear hSw; go_simp)⟩) ⟨hp0_0, hp1_0, hp2_0⟩ ?_
          simp only [Act.put, List.setIfInBounds_toArray]
          dsimp only [List.set_cons_zero, List.set_cons_succ]
          refine wpZ_take (i := 4) (v := .slice (some ⟨gv, 0, none⟩) N N) 167 rfl rfl (by kernel_rfl) (by kernel_rfl) (by kernel_rfl) (Or.inl (by kernel_rfl)) (fun _ _ _ h => h) (Or.inl ⟨by rfl, fun w hSw => by go_simp⟩) ⟨hp0_0, hp1_0, hp2_0⟩ ?_
          simp only [Act.put, List.setIfInBounds_toArray]
          dsimp only [List.set_cons_zero, List.set_cons_succ]
          refine wpZ_take (i := 5) (v := .int .i64 (j : Int)) 168 rfl rfl (by kernel_rfl) (by kernel_rfl) (by kernel_rfl) (Or.inl (by kernel_rfl)) (fun _ _ _ h => h) (Or.inl ⟨by rfl, fun w hSw => by go_simp⟩) ⟨hp0_0, hp1_0, hp2_0⟩ ?_
          simp only [Act.put, List.setIfInBounds_toArray]
          dsimp only [List.set_cons_zero, List.set_cons_succ]
          refine wpZ_take (i := 6) (v := .pointer (some ⟨gv, (j * 4), none⟩)) 169 rfl rfl (by kernel_rfl) (by kernel_rfl) (by kernel_rfl) (Or.inl (by kernel_rfl)) (fun _ _ _ h => h) (Or.inl ⟨by rfl, fun w hSw => by go_simp⟩) ⟨hp0_0, hp1_0, hp2_0⟩ ?_
          simp only [Act.put, List.setIfInBounds_toArray]
          dsimp only [List.set_cons_zero, List.set_cons_succ]
          refine wpZ_take (i := 7) (v := .agg #[.int .u64 ((limb 0 (pv) : Nat) : Int), .int .u64 ((limb 1 (pv) : Nat) : Int), .int .u64 ((limb 2 (pv) : Nat) : Int), .int .u64 ((limb 3 (pv) : Nat) : Int)]) 170 rfl rfl (by kernel_rfl) (by kernel_rfl) (by kernel_rfl) (Or.inl (by kernel_rfl)) (fun _ _ _ h => h) (Or.inl ⟨by rfl, fun w hSw => by (obtain ⟨q0, q1, q2, q3⟩ := HCV.out w hSw.1; clear hSw; go_simp)⟩) ⟨hp0_0, hp1_0, hp2_0⟩ ?_
          simp only [Act.put, List.setIfInBounds_toArray]
          dsimp only [List.set_cons_zero, List.set_cons_succ]
          refine wpZ_one (i := 8) (by kernel_rfl) rfl (fun K hK => ?_)
          go_simp
          refine (HM1.out wD (HG.out.below (bStep hb_w10 hp0_0))).mono ?_
          rintro e wX ⟨rfl, hbX⟩
          have hlowX := bStep hlow0 hbX
          have hp0X := bStep hp0_0 hbX
          have hp1X := (hp1_0).belowAll hbX
          have hp2X := (hp2_0).belowAll hbX
          go_wp2_with fail
          refine hK.out _ _ (fun _ => ⟨hp0X, hp1X, hp2X⟩) ?_
          clear hK K hbX
          refine wpZ_one (i := 9) (by kernel_rfl) rfl (fun K hK => ?_)
          go_simp
          refine (HA3.out wX (HG.out.below (bStep hb_w10 hp0X))).mono ?_
          rintro e wY ⟨rfl, hbY⟩
          have hlowY := bStep hlowX hbY
          have hp0Y := bStep hp0X hbY
          have hp1Y := (hp1X).belowAll hbY
          have hp2Y := (hp2X).belowAll hbY
          go_wp2_with fail
          refine hK.out _ _ (fun _ => ⟨hp0Y, hp1Y, hp2Y⟩) ?_
          clear hK K hbY
          refine wpZ_one (i := 10) (by kernel_rfl) rfl (fun K hK => ?_)
          have bS := hp1Y
          have cS := bS.cell; have fS := bS.frozen
          obtain ⟨wS, hwS, boS, hkS⟩ := bS.put4 T1
          go_simp
          refine hK.out _ _ (fun h => absurd rfl h) ?_
          clear hK K cS fS hwS bS
          refine wpZ_done (by kernel_rfl) ?_ _
          have hbwS := bKept hp0Y l22 hkS
          have bAS := (bA15.belowAll hlowY).kept n2122 hkS
          rw [HTJ.out] at boS
          rw [HAJ.out] at bAS
          clear hkS hp0_0 hp1_0 hp2_0 hp0X hp1X hp2X hp0Y hp1Y hp2Y hlow0 hlowX hlowY hb15 bA15 bT15 bL15
          go_wp2
          go_roundw
          case measure => simp [intOf]; omega
          case rel => exact ⟨j + 1, by go_num, by omega, hbwS, bAS, boS⟩
        · have hji : ¬ (j : Int) < (N : Int) := by omega
          have ej : j = N := by omega
          subst ej
          rw [HA9.out] at bA
          rw [HT9.out] at bT
          go_upto_region 35 with fail
          refine wp_region_Z (fun w' => Below w10.heap.size w10 w' ∧ Blk w' 24 N21 (fun i => limb i X) ∧ Blk w' 24 N22 (fun i => limb i y)) 99 (by kernel_rfl) ?_
          obtain ⟨wD, hD⟩ : ∃ x : World, x = wr.drew := ⟨_, rfl⟩
          rw [← hD]
          have hp0_0 : Below w10.heap.size w10 wD := by rw [hD]; exact hbr.drew
          have hp1_0 : Blk wD 24 N21 (fun i => limb i X) := by rw [hD]; exact bA.drew
          have hp2_0 : Blk wD 24 N22 (fun i => limb i y) := by rw [hD]; exact bT.drew
          have hlow0 : Below wr.heap.size wr wD := by rw [hD]; exact (Below.refl _ _).drew
          clear hD
          refine wpZ_take (i := 0) (v := .agg #[.int .u64 ((limb 0 (X) : Nat) : Int), .int .u64 ((limb 1 (X) : Nat) : Int), .int .u64 ((limb 2 (X) : Nat) : Int), .int .u64 ((limb 3 (X) : Nat) : Int)]) 173 rfl rfl (by kernel_rfl) (by kernel_rfl) (by kernel_rfl) (Or.inr (by decide)) (fun _ _ _ h => h) (Or.inl ⟨by rfl, fun w hSw => by (have qq := (hSw.2.1).cell; clear hSw; go_simp)⟩) ⟨hp0_0, hp1_0, hp2_0⟩ ?_
          simp only [Act.put, List.setIfInBounds_toArray]
          dsimp only [List.set_cons_zero, List.set_cons_succ]
          refine wpZ_take (i := 1) (v := .agg #[.int .u64 ((limb 0 (X) : Nat) : Int), .int .u64 ((limb 1 (X) : Nat) : Int), .int .u64 ((limb 2 (X) : Nat) : Int), .int .u64 ((limb 3 (X) : Nat) : Int)]) 174 rfl rfl (by kernel_rfl) (by kernel_rfl) (by kernel_rfl) (Or.inr (by decide)) (fun _ _ _ h => h) (Or.inl ⟨by rfl, fun w hSw => by (have qq := (b1_w10.belowAll hSw.1).cell; clear hSw; go_simp)⟩) ⟨hp0_0, hp1_0, hp2_0⟩ ?_
          simp only [Act.put, List.setIfInBounds_toArray]
          dsimp only [List.set_cons_zero, List.set_cons_succ]
          refine wpZ_take (i := 2) (v := .bool true) 175 rfl rfl (by kernel_rfl) (by kernel_rfl) (by kernel_rfl) (Or.inr (by decide)) (fun _ _ _ h => h) (Or.inl ⟨by rfl, fun w hSw => by (have qq := HE1.out; clear hSw; go_simp)⟩) ⟨hp0_0, hp1_0, hp2_0⟩ ?_
          simp only [Act.put, List.setIfInBounds_toArray]
          dsimp only [List.set_cons_zero, List.set_cons_succ]
          refine wpZ_take (i := 3) (v := .bool true) 176 rfl rfl (by kernel_rfl) (by kernel_rfl) (by kernel_rfl) (Or.inr (by decide)) (fun _ _ _ h => h) (Or.inl ⟨by rfl, fun w hSw => by go_simp⟩) ⟨hp0_0, hp1_0, hp2_0⟩ ?_
          simp only [Act.put, List.setIfInBounds_toArray]
          dsimp only [List.set_cons_zero, List.set_cons_succ]
          refine wpZ_take (i := 4) (v := .agg #[.int .u64 ((limb 0 (y) : Nat) : Int), .int .u64 ((limb 1 (y) : Nat) : Int), .int .u64 ((limb 2 (y) : Nat) : Int), .int .u64 ((limb 3 (y) : Nat) : Int)]) 177 rfl rfl (by kernel_rfl) (by kernel_rfl) (by kernel_rfl) (Or.inr (by decide)) (fun _ _ _ h => h) (Or.inl ⟨by rfl, fun w hSw => by (have qq := (hSw.2.2).cell; clear hSw; go_simp)⟩) ⟨hp0_0, hp1_0, hp2_0⟩ ?_
          simp only [Act.put, List.setIfInBounds_toArray]
          dsimp only [List.set_cons_zero, List.set_cons_succ]
          refine wpZ_take (i := 5) (v := .int .i64 (a : Int)) 178 rfl rfl (by kernel_rfl) (by kernel_rfl) (by kernel_rfl) (Or.inr (by decide)) (fun _ _ _ h => h) (Or.inl ⟨by rfl, fun w hSw => by go_simp⟩) ⟨hp0_0, hp1_0, hp2_0⟩ ?_
          simp only [Act.put, List.setIfInBounds_toArray]
          dsimp only [List.set_cons_zero, List.set_cons_succ]
          refine wpZ_take (i := 6) (v := .slice oa na ca) 179 rfl rfl (by kernel_rfl) (by kernel_rfl) (by kernel_rfl) (Or.inr (by decide)) (fun _ _ _ h => h) (Or.inl ⟨by rfl, fun w hSw => by go_simp⟩) ⟨hp0_0, hp1_0, hp2_0⟩ ?_
          simp only [Act.put, List.setIfInBounds_toArray]
          dsimp only [List.set_cons_zero, List.set_cons_succ]
          refine wpZ_take (i := 7) (v := .agg #[.int .u64 ((limb 0 (x) : Nat) : Int), .int .u64 ((limb 1 (x) : Nat) : Int), .int .u64 ((limb 2 (x) : Nat) : Int), .int .u64 ((limb 3 (x) : Nat) : Int)]) 180 rfl rfl (by kernel_rfl) (by kernel_rfl) (by kernel_rfl) (Or.inr (by decide)) (fun _ _ _ h => h) (Or.inl ⟨by rfl, fun w hSw => by (have qq := (bx_w10.belowAll hSw.1).cell; clear hSw; go_simp)⟩) ⟨hp0_0, hp1_0, hp2_0⟩ ?_
          simp only [Act.put, List.setIfInBounds_toArray]
          dsimp only [List.set_cons_zero, List.set_cons_succ]
          refine wpZ_one (i := 8) (by kernel_rfl) rfl (fun K hK => ?_)
          go_simp
          refine (HEV.out wD (HA.out.below (bStep hb_w10 hp0_0))).mono ?_
          rintro e wE ⟨rfl, hbE⟩
          have hp0E := bStep hp0_0 hbE
          have hp1E := (hp1_0).belowAll hbE; have hp2E := (hp2_0).belowAll hbE
          go_wp2_with fail
          refine hK.out _ _ (fun _ => ⟨hp0E, hp1E, hp2E⟩) ?_
          clear hK K hbE
          refine wpZ_take (i := 9) (v := .bool true) 182 rfl rfl (by kernel_rfl) (by kernel_rfl) (by kernel_rfl) (Or.inr (by decide)) (fun _ _ _ h => h) (Or.inl ⟨by rfl, fun w hSw => by (have qq := HE2.out; clear hSw; go_simp)⟩) ⟨hp0E, hp1E, hp2E⟩ ?_
          simp only [Act.put, List.setIfInBounds_toArray]
          dsimp only [List.set_cons_zero, List.set_cons_succ]
          refine wpZ_take (i := 10) (v := .bool true) 183 rfl rfl (by kernel_rfl) (by kernel_rfl) (by kernel_rfl) (Or.inr (by decide)) (fun _ _ _ h => h) (Or.inl ⟨by rfl, fun w hSw => by go_simp⟩) ⟨hp0E, hp1E, hp2E⟩ ?_
          simp only [Act.put, List.setIfInBounds_toArray]
          dsimp only [List.set_cons_zero, List.set_cons_succ]
          refine wpZ_take (i := 11) (v := .bool true) 10 rfl rfl (by kernel_rfl) (by kernel_rfl) (by kernel_rfl) (Or.inr (by decide)) (fun _ _ _ h => h) (Or.inl ⟨by rfl, fun w hSw => by go_simp⟩) ⟨hp0E, hp1E, hp2E⟩ ?_
          simp only [Act.put, List.setIfInBounds_toArray]
          dsimp only [List.set_cons_zero, List.set_cons_succ]
          refine wpZ_done (by kernel_rfl) ?_ _
          have hend := bStep hb_w10 hp0E
          clear hp0_0 hp1_0 hp2_0 hp0E hp1E hp2E hlow0 hbr bA bT
          go_wp2
          go_ret
          exact ⟨rfl, hend⟩
end Go.Proofs.YtfkdfngegeeciaaDoor
