/- DomainSums: sums of values; where it ends early. -/
import Derived.Test.YtfkdfngegeeciaaDoorD32
import Derived.Test.YtfkdfngegeeciaaDoorDGr
namespace Go.Proofs.YtfkdfngegeeciaaDoor
open Go.RowKit

theorem pf_plus {n : Nat} [NeZero n] (z : Fin n) (m : Nat) (f g : Nat → Fin n) : pf z m (fun j => f j + g j) = pf z m f + pf z m g := by
  rw [pf_sum, pf_sum, pf_sum, ← fs_add]
  exact fs_congr _ (fun i _ => by grind)
/-- The sum list's element. -/
def sF (s na nb : Nat) (fa fb : Nat → Nat) (i : Nat) : Nat := if i < nb then addP s (if i < na then addP s 0 (fa i) else 0) (fb i) else if i < na then addP s 0 (fa i) else 0
theorem sF_fz (s na nb : Nat) (fa fb : Nat → Nat) (i : Nat) : fz s (sF s na nb fa fb i) = (if i < na then fz s (fa i) else 0) + (if i < nb then fz s (fb i) else 0) := by
  unfold sF
  by_cases h1 : i < nb <;> by_cases h2 : i < na
  · rw [if_pos h1, if_pos h2, if_pos h2, if_pos h1, fz_add, fz_add, fz_zero]; grind
  · rw [if_pos h1, if_neg h2, if_neg h2, if_pos h1, fz_add, fz_zero]
  · rw [if_neg h1, if_pos h2, if_pos h2, if_neg h1, fz_add, fz_zero]; grind
  · rw [if_neg h1, if_neg h2, if_neg h2, if_neg h1, fz_zero]; grind
theorem sF_M (s na nb : Nat) (fa fb : Nat → Nat) (i : Nat) : sF s na nb fa fb i < 115792089237316195423570985008687907853269984665640564039457584007913129639936 := by
  unfold sF
  split
  · exact addP_M s _ _
  · split
    · exact addP_M s _ _
    · decide
theorem pf_padF {s n : Nat} (z : Fq s) (f : Nat → Nat) {m : Nat} (h : n ≤ m) : pf z m (fun j => if j < n then fz s (f j) else 0) = pf z n (fun j => fz s (f j)) := by
  obtain ⟨d, rfl⟩ : ∃ d, m = n + d := ⟨m - n, by omega⟩
  rw [pf_pad _ _ _ _ (fun j hj => by rw [if_neg (by omega)]), pf_congr _ n (f := fun j => if j < n then fz s (f j) else 0) (g := fun j => fz s (f j)) (fun j hj => by rw [if_pos hj])]
theorem sums_ok {s k x na nb m : Nat} {fa fb U V W : Nat → Nat} (hna : na ≤ m) (hnb : nb ≤ m) (hU : ValP s k x m (sF s na nb fa fb) U) (hV : ValP s k x na fa V) (hW : ValP s k x nb fb W) : ∀ i, i < 2 ^ k → U i = addP s (V i) (W i) := fun i hi => by
  refine fz_inj (hU i hi).1 (addP_lt s _ _) ?_
  rw [(hU i hi).2, fz_add, (hV i hi).2, (hW i hi).2, pf_congr _ m (fun j _ => sF_fz s na nb fa fb j), pf_plus, pf_padF _ fa hna, pf_padF _ fb hnb]
set_option maxHeartbeats 16000000 in
set_option maxRecDepth 20000 in
theorem sums_err (s k EA EB : Int) (x na ca nb cb X : Nat) (oa ob : Option Addr) (fa fb : Nat → Nat) (hX : X = 1) (hE : EA ≠ 0 ∨ EB ≠ 0)
    (VA : ∀ w v, GlobD w → Es w v na fa → Calls Tryd.prog 19 #[.int .i64 s, .int .i64 k, .agg #[.int .u64 ((limb 0 (X) : Nat) : Int), .int .u64 ((limb 1 (X) : Nat) : Int), .int .u64 ((limb 2 (X) : Nat) : Int), .int .u64 ((limb 3 (X) : Nat) : Int)], v] w fun e w' => (∃ u, e = .returned (.tuple #[u, .int .i64 EA]) ∧ True) ∧ Below w.heap.size w w')
    (VB : ∀ w v, GlobD w → Es w v nb fb → Calls Tryd.prog 19 #[.int .i64 s, .int .i64 k, .agg #[.int .u64 ((limb 0 (X) : Nat) : Int), .int .u64 ((limb 1 (X) : Nat) : Int), .int .u64 ((limb 2 (X) : Nat) : Int), .int .u64 ((limb 3 (X) : Nat) : Int)], v] w fun e w' => (∃ u, e = .returned (.tuple #[u, .int .i64 EB]) ∧ True) ∧ Below w.heap.size w w')
    (w : World) (hg : GlobD w) (hA : Es w (.slice oa na ca) na fa) (hB : Es w (.slice ob nb cb) nb fb) : Calls Tryd.prog 6 #[.int .i64 s, .int .i64 k, .slice oa na ca, .slice ob nb cb, .agg #[.int .u64 ((limb 0 (x) : Nat) : Int), .int .u64 ((limb 1 (x) : Nat) : Int), .int .u64 ((limb 2 (x) : Nat) : Int), .int .u64 ((limb 3 (x) : Nat) : Int)]] w fun e w' => e = .returned (.bool true) ∧ Below w.heap.size w w' := by
  have HG : Hid (GlobD w) := hg
  have HA : Hid (Es w (.slice oa na ca) na fa) := hA
  have HB : Hid (Es w (.slice ob nb cb) nb fb) := hB
  have HVA : Hid (∀ w v, GlobD w → Es w v na fa → _) := VA
  have HVB : Hid (∀ w v, GlobD w → Es w v nb fb → _) := VB
  have HX : Hid (X = 1) := hX
  have HE : Hid (EA ≠ 0 ∨ EB ≠ 0) := hE
  clear hg hA hB VA VB hX hE
  go_enter Tryd.func6, Tryd.ntmps6
  go_upto_region 1 with fail
  obtain ⟨w0, hw0⟩ : ∃ z : World, z = w.alloc (.cells #[.int .u64 ((limb 0 (x) : Nat) : Int), .int .u64 ((limb 1 (x) : Nat) : Int), .int .u64 ((limb 2 (x) : Nat) : Int), .int .u64 ((limb 3 (x) : Nat) : Int)] 24) := ⟨_, rfl⟩
  obtain ⟨N9, e9⟩ : ∃ z, z = w.heap.size := ⟨_, rfl⟩
  have bx_w0 : Blk w0 24 N9 (fun i => limb i x) := by rw [hw0]; exact Blk.newAt _ _ _ (fun i => limb i x) e9
  have hb_w0 : Below w.heap.size w w0 := by rw [hw0]; exact bAlloc (Below.refl _ _) _
  rw [← hw0, ← e9]
  clear hw0 e9
  go_wp2_with fail
  refine (alive6_any _ (HG.out.below hb_w0)).mono ?_
  rintro e w1 ⟨rfl, hq⟩
  have hb_w1 := bStep hb_w0 hq
  have bx_w1 := bx_w0.belowAll hq
  clear hb_w0 bx_w0 hq
  go_wp2_with fail
  refine (great6v_any s k w1).mono ?_
  rintro e w1' ⟨⟨b, rfl⟩, hw⟩
  obtain rfl := hw.symm
  clear hw
  by_cases hbt : b = true
  · subst hbt
    go_wp2
    go_ret
    exact ⟨rfl, hb_w1⟩
  obtain rfl : b = false := by simpa using hbt
  clear hbt
  by_cases hla : (64 : Int) < (na : Int)
  · go_wp2
    go_ret
    exact ⟨rfl, hb_w1⟩
  by_cases hlb : (64 : Int) < (nb : Int)
  · go_wp2
    go_ret
    exact ⟨rfl, hb_w1⟩
  have CA : Hid (∀ w, Es w (.slice oa na ca) na fa → _) := fun w h => copyE_any na (.slice oa na ca) fa (by omega) w h
  have CB : Hid (∀ w, Es w (.slice ob nb cb) nb fb → _) := fun w h => copyE_any nb (.slice ob nb cb) fb (by omega) w h
  obtain ⟨w3, hw3⟩ : ∃ z : World, z = w1.alloc (.cells #[.int .u64 1, .int .u64 0, .int .u64 0, .int .u64 0] 24) := ⟨_, rfl⟩
  obtain ⟨N11, e11⟩ : ∃ z, z = w1.heap.size := ⟨_, rfl⟩
  have hq : Below w1.heap.size w1 w3 := by rw [hw3]; exact bAlloc (Below.refl _ _) _
  have b1_w3 : Blk w3 24 N11 (fun i => limb i X) := by
    rw [hw3, HX.out]
    refine (Blk.newAt _ _ _ (fun i => if i = 0 then 1 else 0) e11).congr (fun i hi => ?_)
    have hi4 : i = 0 ∨ i = 1 ∨ i = 2 ∨ i = 3 := by omega
    rcases hi4 with rfl | rfl | rfl | rfl
    · rw [limb_one.1]; rfl
    · rw [limb_one.2.1]; rfl
    · rw [limb_one.2.2.1]; rfl
    · rw [limb_one.2.2.2]; rfl
  go_upto_region 6 with fail
  rw [← hw3, ← e11]
  have hb_w3 := bStep hb_w1 hq
  have bx_w3 := bx_w1.belowAll hq
  clear hb_w1 bx_w1 hq
  clear hw3 e11
  refine wp_region_Z (fun w' => Below w3.heap.size w3 w') 99 (by kernel_rfl) ?_
  obtain ⟨wD, hD⟩ : ∃ x : World, x = w3.drew := ⟨_, rfl⟩
  rw [← hD]
  have hp0_0 : Below w3.heap.size w3 wD := by rw [hD]; exact (Below.refl _ _).drew
  have hlow0 : Below w3.heap.size w3 wD := by rw [hD]; exact (Below.refl _ _).drew
  clear hD
  refine wpZ_take (i := 0) (v := .int .i64 s) 43 rfl rfl (by kernel_rfl) (by kernel_rfl) (by kernel_rfl) (Or.inr (by decide)) (fun _ _ _ h => h) (Or.inl ⟨by rfl, fun w hSw => by go_simp⟩) hp0_0 ?_
  simp only [Act.put, List.setIfInBounds_toArray]
  dsimp only [List.set_cons_zero, List.set_cons_succ]
  refine wpZ_take (i := 1) (v := .int .i64 k) 44 rfl rfl (by kernel_rfl) (by kernel_rfl) (by kernel_rfl) (Or.inr (by decide)) (fun _ _ _ h => h) (Or.inl ⟨by rfl, fun w hSw => by go_simp⟩) hp0_0 ?_
  simp only [Act.put, List.setIfInBounds_toArray]
  dsimp only [List.set_cons_zero, List.set_cons_succ]
  refine wpZ_take (i := 2) (v := .agg #[.int .u64 ((limb 0 (X) : Nat) : Int), .int .u64 ((limb 1 (X) : Nat) : Int), .int .u64 ((limb 2 (X) : Nat) : Int), .int .u64 ((limb 3 (X) : Nat) : Int)]) 45 rfl rfl (by kernel_rfl) (by kernel_rfl) (by kernel_rfl) (Or.inr (by decide)) (fun _ _ _ h => h) (Or.inl ⟨by rfl, fun w hSw => by (have qq := (b1_w3.belowAll hSw).cell; clear hSw; go_simp)⟩) hp0_0 ?_
  simp only [Act.put, List.setIfInBounds_toArray]
  dsimp only [List.set_cons_zero, List.set_cons_succ]
  refine wpZ_take (i := 3) (v := .slice oa na ca) 46 rfl rfl (by kernel_rfl) (by kernel_rfl) (by kernel_rfl) (Or.inr (by decide)) (fun _ _ _ h => h) (Or.inl ⟨by rfl, fun w hSw => by go_simp⟩) hp0_0 ?_
  simp only [Act.put, List.setIfInBounds_toArray]
  dsimp only [List.set_cons_zero, List.set_cons_succ]
  refine wpZ_one (i := 4) (by kernel_rfl) rfl (fun K hK => ?_)
  go_simp
  refine (CA.out wD (HA.out.below (bStep hb_w3 hp0_0))).mono ?_
  rintro e w4 ⟨vo, rfl, oo, hq⟩
  have hq1 := bStep hp0_0 hq
  go_wp2_with fail
  refine hK.out _ _ (fun _ => hq1) ?_
  clear hK K hq
  refine wpZ_one (i := 5) (by kernel_rfl) rfl (fun K hK => ?_)
  go_simp
  refine (HVA.out w4 vo (HG.out.below (bStep hb_w3 hq1)) (own_Es oo)).mono ?_
  rintro e w5 ⟨⟨va, rfl, hva⟩, hq⟩
  have hq2 := bStep hq1 hq
  go_wp2_with fail
  refine hK.out _ _ (fun _ => hq2) ?_
  clear hK K hq oo
  refine wpZ_take (i := 6) (v := .tuple #[va, .int .i64 EA]) 42 rfl rfl (by kernel_rfl) (by kernel_rfl) (by kernel_rfl) (Or.inr (by decide)) (fun _ _ _ h => h) (Or.inl ⟨by rfl, fun w hSw => by go_simp⟩) hq2 ?_
  simp only [Act.put, List.setIfInBounds_toArray]
  dsimp only [List.set_cons_zero, List.set_cons_succ]
  refine wpZ_take (i := 7) (v := va) 49 rfl rfl (by kernel_rfl) (by kernel_rfl) (by kernel_rfl) (Or.inr (by decide)) (fun _ _ _ h => h) (Or.inl ⟨by rfl, fun w hSw => by go_simp⟩) hq2 ?_
  simp only [Act.put, List.setIfInBounds_toArray]
  dsimp only [List.set_cons_zero, List.set_cons_succ]
  refine wpZ_take (i := 8) (v := .int .i64 EA) 50 rfl rfl (by kernel_rfl) (by kernel_rfl) (by kernel_rfl) (Or.inr (by decide)) (fun _ _ _ h => h) (Or.inl ⟨by rfl, fun w hSw => by go_simp⟩) hq2 ?_
  simp only [Act.put, List.setIfInBounds_toArray]
  dsimp only [List.set_cons_zero, List.set_cons_succ]
  refine wpZ_take (i := 9) (v := va) 12 rfl rfl (by kernel_rfl) (by kernel_rfl) (by kernel_rfl) (Or.inr (by decide)) (fun _ _ _ h => h) (Or.inl ⟨by rfl, fun w hSw => by go_simp⟩) hq2 ?_
  simp only [Act.put, List.setIfInBounds_toArray]
  dsimp only [List.set_cons_zero, List.set_cons_succ]
  refine wpZ_take (i := 10) (v := .int .i64 EA) 13 rfl rfl (by kernel_rfl) (by kernel_rfl) (by kernel_rfl) (Or.inr (by decide)) (fun _ _ _ h => h) (Or.inl ⟨by rfl, fun w hSw => by go_simp⟩) hq2 ?_
  simp only [Act.put, List.setIfInBounds_toArray]
  dsimp only [List.set_cons_zero, List.set_cons_succ]
  refine wpZ_done (by kernel_rfl) ?_ _
  clear hp0_0 hlow0 hq1
  have hb_w5 := bStep hb_w3 hq2
  have bx_w5 := bx_w3.belowAll hq2
  have b1_w5 := b1_w3.belowAll hq2
  clear hb_w3 bx_w3 b1_w3 hq2
  go_upto_region 7 with fail
  refine wp_region_Z (fun w' => Below w5.heap.size w5 w') 99 (by kernel_rfl) ?_
  obtain ⟨wD, hD⟩ : ∃ x : World, x = w5.drew := ⟨_, rfl⟩
  rw [← hD]
  have hp0_0 : Below w5.heap.size w5 wD := by rw [hD]; exact (Below.refl _ _).drew
  have hlow0 : Below w5.heap.size w5 wD := by rw [hD]; exact (Below.refl _ _).drew
  clear hD
  refine wpZ_take (i := 0) (v := .int .i64 s) 52 rfl rfl (by kernel_rfl) (by kernel_rfl) (by kernel_rfl) (Or.inr (by decide)) (fun _ _ _ h => h) (Or.inl ⟨by rfl, fun w hSw => by go_simp⟩) hp0_0 ?_
  simp only [Act.put, List.setIfInBounds_toArray]
  dsimp only [List.set_cons_zero, List.set_cons_succ]
  refine wpZ_take (i := 1) (v := .int .i64 k) 53 rfl rfl (by kernel_rfl) (by kernel_rfl) (by kernel_rfl) (Or.inr (by decide)) (fun _ _ _ h => h) (Or.inl ⟨by rfl, fun w hSw => by go_simp⟩) hp0_0 ?_
  simp only [Act.put, List.setIfInBounds_toArray]
  dsimp only [List.set_cons_zero, List.set_cons_succ]
  refine wpZ_take (i := 2) (v := .agg #[.int .u64 ((limb 0 (X) : Nat) : Int), .int .u64 ((limb 1 (X) : Nat) : Int), .int .u64 ((limb 2 (X) : Nat) : Int), .int .u64 ((limb 3 (X) : Nat) : Int)]) 54 rfl rfl (by kernel_rfl) (by kernel_rfl) (by kernel_rfl) (Or.inr (by decide)) (fun _ _ _ h => h) (Or.inl ⟨by rfl, fun w hSw => by (have qq := (b1_w5.belowAll hSw).cell; clear hSw; go_simp)⟩) hp0_0 ?_
  simp only [Act.put, List.setIfInBounds_toArray]
  dsimp only [List.set_cons_zero, List.set_cons_succ]
  refine wpZ_take (i := 3) (v := .slice ob nb cb) 55 rfl rfl (by kernel_rfl) (by kernel_rfl) (by kernel_rfl) (Or.inr (by decide)) (fun _ _ _ h => h) (Or.inl ⟨by rfl, fun w hSw => by go_simp⟩) hp0_0 ?_
  simp only [Act.put, List.setIfInBounds_toArray]
  dsimp only [List.set_cons_zero, List.set_cons_succ]
  refine wpZ_one (i := 4) (by kernel_rfl) rfl (fun K hK => ?_)
  go_simp
  refine (CB.out wD (HB.out.below (bStep hb_w5 hp0_0))).mono ?_
  rintro e w6 ⟨vo, rfl, oo, hq⟩
  have hq1 := bStep hp0_0 hq
  go_wp2_with fail
  refine hK.out _ _ (fun _ => hq1) ?_
  clear hK K hq
  refine wpZ_one (i := 5) (by kernel_rfl) rfl (fun K hK => ?_)
  go_simp
  refine (HVB.out w6 vo (HG.out.below (bStep hb_w5 hq1)) (own_Es oo)).mono ?_
  rintro e w7 ⟨⟨vb, rfl, hvb⟩, hq⟩
  have hq2 := bStep hq1 hq
  go_wp2_with fail
  refine hK.out _ _ (fun _ => hq2) ?_
  clear hK K hq oo
  refine wpZ_take (i := 6) (v := .tuple #[vb, .int .i64 EB]) 51 rfl rfl (by kernel_rfl) (by kernel_rfl) (by kernel_rfl) (Or.inr (by decide)) (fun _ _ _ h => h) (Or.inl ⟨by rfl, fun w hSw => by go_simp⟩) hq2 ?_
  simp only [Act.put, List.setIfInBounds_toArray]
  dsimp only [List.set_cons_zero, List.set_cons_succ]
  refine wpZ_take (i := 7) (v := vb) 58 rfl rfl (by kernel_rfl) (by kernel_rfl) (by kernel_rfl) (Or.inr (by decide)) (fun _ _ _ h => h) (Or.inl ⟨by rfl, fun w hSw => by go_simp⟩) hq2 ?_
  simp only [Act.put, List.setIfInBounds_toArray]
  dsimp only [List.set_cons_zero, List.set_cons_succ]
  refine wpZ_take (i := 8) (v := .int .i64 EB) 59 rfl rfl (by kernel_rfl) (by kernel_rfl) (by kernel_rfl) (Or.inr (by decide)) (fun _ _ _ h => h) (Or.inl ⟨by rfl, fun w hSw => by go_simp⟩) hq2 ?_
  simp only [Act.put, List.setIfInBounds_toArray]
  dsimp only [List.set_cons_zero, List.set_cons_succ]
  refine wpZ_take (i := 9) (v := vb) 14 rfl rfl (by kernel_rfl) (by kernel_rfl) (by kernel_rfl) (Or.inr (by decide)) (fun _ _ _ h => h) (Or.inl ⟨by rfl, fun w hSw => by go_simp⟩) hq2 ?_
  simp only [Act.put, List.setIfInBounds_toArray]
  dsimp only [List.set_cons_zero, List.set_cons_succ]
  refine wpZ_take (i := 10) (v := .int .i64 EB) 15 rfl rfl (by kernel_rfl) (by kernel_rfl) (by kernel_rfl) (Or.inr (by decide)) (fun _ _ _ h => h) (Or.inl ⟨by rfl, fun w hSw => by go_simp⟩) hq2 ?_
  simp only [Act.put, List.setIfInBounds_toArray]
  dsimp only [List.set_cons_zero, List.set_cons_succ]
  refine wpZ_done (by kernel_rfl) ?_ _
  clear hp0_0 hlow0 hq1
  have hb_w7 := bStep hb_w5 hq2
  have bx_w7 := bx_w5.belowAll hq2
  have b1_w7 := b1_w5.belowAll hq2
  clear hb_w5 bx_w5 b1_w5 hq2
  clear CA CB
  clear bx_w7 b1_w7 hva hvb
  by_cases h0 : EA = 0
  · have h1 : EB ≠ 0 := by rcases HE.out with h | h; exact absurd h0 h; exact h
    subst h0
    go_wp2
    go_ret
    exact ⟨rfl, hb_w7⟩
  · go_wp2
    go_ret
    exact ⟨rfl, hb_w7⟩
end Go.Proofs.YtfkdfngegeeciaaDoor
