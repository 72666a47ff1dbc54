/- sigillaw17.alive. -/
import Derived.Test.YtobeeoelfmfpdaaDoorXLUA
namespace Go.Proofs.YtobeeoelfmfpdaaDoor
open Go.RowKit
theorem limb_few (a : Nat) (ha : a < 18446744073709551616) : limb 0 a = a ∧ limb 1 a = 0 ∧ limb 2 a = 0 ∧ limb 3 a = 0 := by
  unfold limb
  refine ⟨?_, ?_, ?_, ?_⟩ <;> omega
theorem three_Es (w : World) (a b c : Nat) (ha : a < 18446744073709551616) (hb : b < 18446744073709551616) (hc : c < 18446744073709551616) : Es (w.alloc (.cells #[.int .u64 (a : Int), .int .u64 0, .int .u64 0, .int .u64 0, .int .u64 (b : Int), .int .u64 0, .int .u64 0, .int .u64 0, .int .u64 (c : Int), .int .u64 0, .int .u64 0, .int .u64 0] 24)) (.slice (some ⟨w.heap.size, 0, none⟩) 3 3) 3 (fun i => if i = 0 then a else if i = 1 then b else c) := by
  obtain ⟨a0, a1, a2, a3⟩ := limb_few a ha
  obtain ⟨b0, b1, b2, b3⟩ := limb_few b hb
  obtain ⟨c0, c1, c2, c3⟩ := limb_few c hc
  refine Or.inr ⟨w.heap.size, 0, 3, rfl, Nat.le_refl _, by unfold maxLen; decide, by rw [show (w.alloc _).heap.size = w.heap.size + 1 from Array.size_push ..]; omega, fun i hi j hj => ?_⟩
  have h := new_blockE w (.cells #[.int .u64 (a : Int), .int .u64 0, .int .u64 0, .int .u64 0, .int .u64 (b : Int), .int .u64 0, .int .u64 0, .int .u64 0, .int .u64 (c : Int), .int .u64 0, .int .u64 0, .int .u64 0] 24)
  have hi2 : i = 0 ∨ i = 1 ∨ i = 2 := by omega
  have hj4 : j = 0 ∨ j = 1 ∨ j = 2 ∨ j = 3 := by omega
  rcases hi2 with rfl | rfl | rfl <;> rcases hj4 with rfl | rfl | rfl | rfl
  · show _ = some (Value.int .u64 ((limb 0 a : Nat) : Int)); rw [a0]; simp only [World.cell?, h]; rfl
  · show _ = some (Value.int .u64 ((limb 1 a : Nat) : Int)); rw [a1]; simp only [World.cell?, h]; rfl
  · show _ = some (Value.int .u64 ((limb 2 a : Nat) : Int)); rw [a2]; simp only [World.cell?, h]; rfl
  · show _ = some (Value.int .u64 ((limb 3 a : Nat) : Int)); rw [a3]; simp only [World.cell?, h]; rfl
  · show _ = some (Value.int .u64 ((limb 0 b : Nat) : Int)); rw [b0]; simp only [World.cell?, h]; rfl
  · show _ = some (Value.int .u64 ((limb 1 b : Nat) : Int)); rw [b1]; simp only [World.cell?, h]; rfl
  · show _ = some (Value.int .u64 ((limb 2 b : Nat) : Int)); rw [b2]; simp only [World.cell?, h]; rfl
  · show _ = some (Value.int .u64 ((limb 3 b : Nat) : Int)); rw [b3]; simp only [World.cell?, h]; rfl
  · show _ = some (Value.int .u64 ((limb 0 c : Nat) : Int)); rw [c0]; simp only [World.cell?, h]; rfl
  · show _ = some (Value.int .u64 ((limb 1 c : Nat) : Int)); rw [c1]; simp only [World.cell?, h]; rfl
  · show _ = some (Value.int .u64 ((limb 2 c : Nat) : Int)); rw [c2]; simp only [World.cell?, h]; rfl
  · show _ = some (Value.int .u64 ((limb 3 c : Nat) : Int)); rw [c3]; simp only [World.cell?, h]; rfl
theorem l3 (a b c : Nat) : ∀ i, i < 3 → [a, b, c].getD i 0 = (if i = 0 then a else if i = 1 then b else c) := by
  intro i hi
  have h : i = 0 ∨ i = 1 ∨ i = 2 := by omega
  rcases h with rfl | rfl | rfl <;> rfl
theorem lu_a : rsg (fl 3 fun i => addP 0 ((fun i => if i = 0 then 3 else if i = 1 then 1 else 3) i) 0) = [1, 3, 3] := by decide
theorem lu_b : rsg (fl 3 fun i => addP 0 ((fun i => if i = 0 then 1 else if i = 1 then 2 else 3) i) 0) = [1, 2, 3] := by decide
theorem lu_w : wo [1, 3, 3] [1, 2, 3] 3 = some [2] := by decide
theorem lu_m : ∀ i, i < 3 → mtF [1, 3, 3] [2] i = (if i = 0 then 1 else if i = 1 then 3 else 2) := by decide
theorem lu_c : cps (addP 0) (mulP 0) 10 (fun i => if i = 0 then 1 else if i = 1 then 2 else 3) 3 = 123 := by decide
theorem E10 : (.agg #[.int .u64 ((limb 0 (10) : Nat) : Int), .int .u64 ((limb 1 (10) : Nat) : Int), .int .u64 ((limb 2 (10) : Nat) : Int), .int .u64 ((limb 3 (10) : Nat) : Int)] : Value) = .agg #[.int .u64 10, .int .u64 0, .int .u64 0, .int .u64 0] := by
  obtain ⟨a0, a1, a2, a3⟩ := limb_few 10 (by decide)
  rw [a0, a1, a2, a3]; rfl
theorem E123 : (.agg #[.int .u64 ((limb 0 (123) : Nat) : Int), .int .u64 ((limb 1 (123) : Nat) : Int), .int .u64 ((limb 2 (123) : Nat) : Int), .int .u64 ((limb 3 (123) : Nat) : Int)] : Value) = .agg #[.int .u64 123, .int .u64 0, .int .u64 0, .int .u64 0] := by
  obtain ⟨a0, a1, a2, a3⟩ := limb_few 123 (by decide)
  rw [a0, a1, a2, a3]; rfl
theorem live_p (w : World) (hg : Glob w) (oa ob : Option Addr) (hv : Es w (.slice oa 3 3) 3 (fun i => if i = 0 then 3 else if i = 1 then 1 else 3)) (hu : Es w (.slice ob 3 3) 3 (fun i => if i = 0 then 1 else if i = 1 then 2 else 3)) :
    Calls Tryd.prog 11 #[.int .i64 0, .slice oa 3 3, .slice ob 3 3] w fun e w' => (∃ A H, e = .returned (.tuple #[.slice (some ⟨A, 0, none⟩) 3 3, .slice (some ⟨H, 0, none⟩) 3 3, .int .i64 0]) ∧ BlkE w' A 3 (fun i => if i = 0 then 1 else if i = 1 then 3 else 3) ∧ BlkE w' H 3 (fun i => if i = 0 then 1 else if i = 1 then 3 else 2)) ∧ Below w.heap.size w w' := by
  have h := prm_in 0 3 3 3 oa ob (fun i => if i = 0 then 3 else if i = 1 then 1 else 3) (fun i => if i = 0 then 1 else if i = 1 then 2 else 3) (by decide) (by decide) (fun i _ => by split; decide; split <;> decide) (fun i _ => by split; decide; split <;> decide) w hg hv hu
  rw [lu_a, lu_b, lu_w] at h
  refine h.mono ?_
  rintro e w' ⟨hp, hb⟩
  refine ⟨?_, hb⟩
  rcases hp with ⟨h0, _⟩ | ⟨t, A, H, ht, rfl, _, _, _, bA, bH⟩
  · cases h0
  · cases ht
    exact ⟨A, H, rfl, bA.congr (fun i hi => (l3 1 3 3 i hi).symm), bH.congr (fun i hi => (lu_m i hi).symm)⟩
set_option maxHeartbeats 4000000 in
set_option maxRecDepth 20000 in
theorem alive17_any (w : World) (hg : Glob w) : Calls Tryd.prog 8 #[] w fun e w' => e = .returned (.bool true) ∧ Below w.heap.size w w' := by
  have HG : Hid (Glob w) := hg
  have HP : Hid (∀ w, Glob w → ∀ oa ob, Es w (.slice oa 3 3) 3 (fun i => if i = 0 then 3 else if i = 1 then 1 else 3) → Es w (.slice ob 3 3) 3 (fun i => if i = 0 then 1 else if i = 1 then 2 else 3) → _) := fun w hg oa ob hv hu => live_p w hg oa ob hv hu
  have HC : Hid (∀ w, Glob w → ∀ oa, Es w (.slice oa 3 3) 3 (fun i => if i = 0 then 1 else if i = 1 then 2 else 3) → Calls Tryd.prog 14 #[.int .i64 0, .agg #[.int .u64 10, .int .u64 0, .int .u64 0, .int .u64 0], .slice oa 3 3] w fun e w' => e = .returned (.agg #[.int .u64 123, .int .u64 0, .int .u64 0, .int .u64 0]) ∧ Below w.heap.size w w') := fun w hg oa hv => by
    have h := cps_any (fld_in 0 (by decide)) 3 3 10 oa (fun i => if i = 0 then 1 else if i = 1 then 2 else 3) (by decide) (by decide) (fun i _ => by split; decide; split <;> decide) w hg hv
    rw [lu_c, E10, E123] at h
    exact h
  have HQ : Hid (∀ w : World, (binOp .eql 24 (.agg #[.int .u64 123, .int .u64 0, .int .u64 0, .int .u64 0]) (.agg #[.int .u64 123, .int .u64 0, .int .u64 0, .int .u64 0])).run Tryd.prog w = .ok (.bool true) w) := fun w => by
    have h := eqlE 123 123 (by decide) (by decide) w
    rw [E123] at h
    exact h
  have H1 : Hid (∀ w : World, _) := fun w => three_Es w 3 1 3 (by decide) (by decide) (by decide)
  have H2 : Hid (∀ w : World, _) := fun w => three_Es w 1 2 3 (by decide) (by decide) (by decide)
  have H3 : Hid (∀ w : World, _) := fun w => three_Es w 1 3 3 (by decide) (by decide) (by decide)
  have H4 : Hid (∀ w : World, _) := fun w => three_Es w 1 3 2 (by decide) (by decide) (by decide)
  have HS3 : Hid (∀ A w, BlkE w A 3 (fun i => if i = 0 then 1 else if i = 1 then 3 else 3) → Es w _ 3 (fun i => if i = 0 then 1 else if i = 1 then 3 else 3)) := fun A w h => h.es (by decide)
  have HS4 : Hid (∀ A w, BlkE w A 3 (fun i => if i = 0 then 1 else if i = 1 then 3 else 2) → Es w _ 3 (fun i => if i = 0 then 1 else if i = 1 then 3 else 2)) := fun A w h => h.es (by decide)
  have hs1 : (w.alloc (.cells #[.int .u64 3, .int .u64 0, .int .u64 0, .int .u64 0, .int .u64 1, .int .u64 0, .int .u64 0, .int .u64 0, .int .u64 3, .int .u64 0, .int .u64 0, .int .u64 0] 24)).heap.size = w.heap.size + 1 := Array.size_push ..
  obtain ⟨w0, hw0⟩ : ∃ z : World, z = (w.alloc (.cells #[.int .u64 3, .int .u64 0, .int .u64 0, .int .u64 0, .int .u64 1, .int .u64 0, .int .u64 0, .int .u64 0, .int .u64 3, .int .u64 0, .int .u64 0, .int .u64 0] 24)).alloc (.cells #[.int .u64 1, .int .u64 0, .int .u64 0, .int .u64 0, .int .u64 2, .int .u64 0, .int .u64 0, .int .u64 0, .int .u64 3, .int .u64 0, .int .u64 0, .int .u64 0] 24) := ⟨_, rfl⟩
  have hb0 : Below w.heap.size w w0 := by rw [hw0]; exact bAlloc (bAlloc (Below.refl _ _) _) _
  have e1 : Es w0 (.slice (some ⟨w.heap.size, 0, none⟩) 3 3) 3 (fun i => if i = 0 then 3 else if i = 1 then 1 else 3) := by rw [hw0]; exact (H1.out w).below (bAlloc (Below.refl _ _) _)
  have e2 : Es w0 (.slice (some ⟨w.heap.size + 1, 0, none⟩) 3 3) 3 (fun i => if i = 0 then 1 else if i = 1 then 2 else 3) := by rw [hw0, ← hs1]; exact H2.out _
  have HPC := HP.out w0 (HG.out.below hb0) _ _ e1 e2
  clear hg hs1 e1 e2 HP H1
  go_enter Tryd.func8, Tryd.ntmps8
  go_wp2_with (rw [← hw0]; fail)
  try rw [← hw0]
  clear hw0
  refine HPC.mono ?_
  rintro e w1 ⟨⟨A, H, rfl, bA, bH⟩, hb1⟩
  have hbw1 := bStep hb0 hb1
  clear HPC hb0 hb1
  obtain ⟨w2, hw2⟩ : ∃ z : World, z = w1.alloc (.cells #[.int .u64 1, .int .u64 0, .int .u64 0, .int .u64 0, .int .u64 3, .int .u64 0, .int .u64 0, .int .u64 0, .int .u64 3, .int .u64 0, .int .u64 0, .int .u64 0] 24) := ⟨_, rfl⟩
  have e3 : Es w2 (.slice (some ⟨w1.heap.size, 0, none⟩) 3 3) 3 (fun i => if i = 0 then 1 else if i = 1 then 3 else 3) := by rw [hw2]; exact H3.out w1
  have hbx2 : Below w1.heap.size w1 w2 := by rw [hw2]; exact bAlloc (Below.refl _ _) _
  have bA2 := bA.belowAll hbx2
  have bH2 := bH.belowAll hbx2
  have hbw2 := bStep hbw1 hbx2
  clear bA bH hbw1 hbx2 H3
  have HSC := sameE_self _ _ 3 (fun i => if i = 0 then 1 else if i = 1 then 3 else 3) (by decide) (fun i _ => by split; decide; split <;> decide) w2 (HS3.out A w2 bA2) e3
  clear e3 bA2
  go_wp2_with (rw [← hw2]; fail)
  try rw [← hw2]
  clear hw2
  refine HSC.mono ?_
  rintro e w3 ⟨rfl, hb3⟩
  have hbw3 := bStep hbw2 hb3
  have bH3 := bH2.belowAll hb3
  clear hbw2 hb3 bH2 HSC
  obtain ⟨w4, hw4⟩ : ∃ z : World, z = w3.alloc (.cells #[.int .u64 1, .int .u64 0, .int .u64 0, .int .u64 0, .int .u64 3, .int .u64 0, .int .u64 0, .int .u64 0, .int .u64 2, .int .u64 0, .int .u64 0, .int .u64 0] 24) := ⟨_, rfl⟩
  have e4 : Es w4 (.slice (some ⟨w3.heap.size, 0, none⟩) 3 3) 3 (fun i => if i = 0 then 1 else if i = 1 then 3 else 2) := by rw [hw4]; exact H4.out w3
  have hbx4 : Below w3.heap.size w3 w4 := by rw [hw4]; exact bAlloc (Below.refl _ _) _
  have hbw4 := bStep hbw3 hbx4
  have HSD := sameE_self _ _ 3 (fun i => if i = 0 then 1 else if i = 1 then 3 else 2) (by decide) (fun i _ => by split; decide; split <;> decide) w4 (HS4.out H w4 (bH3.belowAll hbx4)) e4
  clear e4 bH3 hbw3 hbx4 H4
  go_wp2_with (rw [← hw4]; fail)
  try rw [← hw4]
  clear hw4
  refine HSD.mono ?_
  rintro e w5 ⟨rfl, hb5⟩
  have hbw5 := bStep hbw4 hb5
  clear hbw4 hb5 HSD
  obtain ⟨w6, hw6⟩ : ∃ z : World, z = w5.alloc (.cells #[.int .u64 1, .int .u64 0, .int .u64 0, .int .u64 0, .int .u64 2, .int .u64 0, .int .u64 0, .int .u64 0, .int .u64 3, .int .u64 0, .int .u64 0, .int .u64 0] 24) := ⟨_, rfl⟩
  have e6 : Es w6 (.slice (some ⟨w5.heap.size, 0, none⟩) 3 3) 3 (fun i => if i = 0 then 1 else if i = 1 then 2 else 3) := by rw [hw6]; exact H2.out w5
  have hbw6 : Below w.heap.size w w6 := by rw [hw6]; exact bAlloc hbw5 _
  have HCC := HC.out w6 (HG.out.below hbw6) _ e6
  clear e6 hbw5 H2 HC
  go_wp2_with (rw [← hw6]; fail)
  try rw [← hw6]
  clear hw6
  refine HCC.mono ?_
  rintro e w7 ⟨rfl, hb7⟩
  have hbw7 := bStep hbw6 hb7
  have hq := HQ.out
  clear hbw6 hb7 HCC
  go_wp2
  go_ret
  exact ⟨rfl, hbw7⟩
end Go.Proofs.YtobeeoelfmfpdaaDoor
