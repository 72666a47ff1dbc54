/- sigillaw07: alive, great. -/
import Derived.Test.YtfahhohhpjlhnaaDoorPB7
namespace Go.Proofs.YtfahhohhpjlhnaaDoor
open Go.RowKit

theorem limb_few (a : Nat) (ha : a < 18446744073709551616) : limb 0 a = a ∧ limb 1 a = 0 ∧ limb 2 a = 0 ∧ limb 3 a = 0 := by
  unfold limb
  refine ⟨?_, ?_, ?_, ?_⟩ <;> omega
theorem two_Es (w : World) (a b : Nat) (ha : a < 18446744073709551616) (hb : b < 18446744073709551616) : Es (w.alloc (.cells #[.int .u64 (a : Int), .int .u64 0, .int .u64 0, .int .u64 0, .int .u64 (b : Int), .int .u64 0, .int .u64 0, .int .u64 0] 33)) (.slice (some ⟨w.heap.size, 0, none⟩) 2 2) 2 (fun i => if i = 0 then a else b) := by
  obtain ⟨a0, a1, a2, a3⟩ := limb_few a ha
  obtain ⟨b0, b1, b2, b3⟩ := limb_few b hb
  refine Or.inr ⟨w.heap.size, 0, 2, rfl, Nat.le_refl _, by unfold maxLen; decide, by rw [show (w.alloc _).heap.size = w.heap.size + 1 from Array.size_push ..]; omega, fun i hi j hj => ?_⟩
  have h := new_blockE w (.cells #[.int .u64 (a : Int), .int .u64 0, .int .u64 0, .int .u64 0, .int .u64 (b : Int), .int .u64 0, .int .u64 0, .int .u64 0] 33)
  have hi2 : i = 0 ∨ i = 1 := by omega
  have hj4 : j = 0 ∨ j = 1 ∨ j = 2 ∨ j = 3 := by omega
  rcases hi2 with rfl | rfl <;> rcases hj4 with rfl | rfl | rfl | rfl
  · show _ = some (Value.int .u64 ((limb 0 a : Nat) : Int)); rw [a0]; simp only [World.cell?, h]; rfl
  · show _ = some (Value.int .u64 ((limb 1 a : Nat) : Int)); rw [a1]; simp only [World.cell?, h]; rfl
  · show _ = some (Value.int .u64 ((limb 2 a : Nat) : Int)); rw [a2]; simp only [World.cell?, h]; rfl
  · show _ = some (Value.int .u64 ((limb 3 a : Nat) : Int)); rw [a3]; simp only [World.cell?, h]; rfl
  · show _ = some (Value.int .u64 ((limb 0 b : Nat) : Int)); rw [b0]; simp only [World.cell?, h]; rfl
  · show _ = some (Value.int .u64 ((limb 1 b : Nat) : Int)); rw [b1]; simp only [World.cell?, h]; rfl
  · show _ = some (Value.int .u64 ((limb 2 b : Nat) : Int)); rw [b2]; simp only [World.cell?, h]; rfl
  · show _ = some (Value.int .u64 ((limb 3 b : Nat) : Int)); rw [b3]; simp only [World.cell?, h]; rfl
theorem three_Es (w : World) (a b c : Nat) (ha : a < 18446744073709551616) (hb : b < 18446744073709551616) (hc : c < 18446744073709551616) : Es (w.alloc (.cells #[.int .u64 (a : Int), .int .u64 0, .int .u64 0, .int .u64 0, .int .u64 (b : Int), .int .u64 0, .int .u64 0, .int .u64 0, .int .u64 (c : Int), .int .u64 0, .int .u64 0, .int .u64 0] 33)) (.slice (some ⟨w.heap.size, 0, none⟩) 3 3) 3 (fun i => if i = 0 then a else if i = 1 then b else c) := by
  obtain ⟨a0, a1, a2, a3⟩ := limb_few a ha
  obtain ⟨b0, b1, b2, b3⟩ := limb_few b hb
  obtain ⟨c0, c1, c2, c3⟩ := limb_few c hc
  refine Or.inr ⟨w.heap.size, 0, 3, rfl, Nat.le_refl _, by unfold maxLen; decide, by rw [show (w.alloc _).heap.size = w.heap.size + 1 from Array.size_push ..]; omega, fun i hi j hj => ?_⟩
  have h := new_blockE w (.cells #[.int .u64 (a : Int), .int .u64 0, .int .u64 0, .int .u64 0, .int .u64 (b : Int), .int .u64 0, .int .u64 0, .int .u64 0, .int .u64 (c : Int), .int .u64 0, .int .u64 0, .int .u64 0] 33)
  have hi2 : i = 0 ∨ i = 1 ∨ i = 2 := by omega
  have hj4 : j = 0 ∨ j = 1 ∨ j = 2 ∨ j = 3 := by omega
  rcases hi2 with rfl | rfl | rfl <;> rcases hj4 with rfl | rfl | rfl | rfl
  · show _ = some (Value.int .u64 ((limb 0 a : Nat) : Int)); rw [a0]; simp only [World.cell?, h]; rfl
  · show _ = some (Value.int .u64 ((limb 1 a : Nat) : Int)); rw [a1]; simp only [World.cell?, h]; rfl
  · show _ = some (Value.int .u64 ((limb 2 a : Nat) : Int)); rw [a2]; simp only [World.cell?, h]; rfl
  · show _ = some (Value.int .u64 ((limb 3 a : Nat) : Int)); rw [a3]; simp only [World.cell?, h]; rfl
  · show _ = some (Value.int .u64 ((limb 0 b : Nat) : Int)); rw [b0]; simp only [World.cell?, h]; rfl
  · show _ = some (Value.int .u64 ((limb 1 b : Nat) : Int)); rw [b1]; simp only [World.cell?, h]; rfl
  · show _ = some (Value.int .u64 ((limb 2 b : Nat) : Int)); rw [b2]; simp only [World.cell?, h]; rfl
  · show _ = some (Value.int .u64 ((limb 3 b : Nat) : Int)); rw [b3]; simp only [World.cell?, h]; rfl
  · show _ = some (Value.int .u64 ((limb 0 c : Nat) : Int)); rw [c0]; simp only [World.cell?, h]; rfl
  · show _ = some (Value.int .u64 ((limb 1 c : Nat) : Int)); rw [c1]; simp only [World.cell?, h]; rfl
  · show _ = some (Value.int .u64 ((limb 2 c : Nat) : Int)); rw [c2]; simp only [World.cell?, h]; rfl
  · show _ = some (Value.int .u64 ((limb 3 c : Nat) : Int)); rw [c3]; simp only [World.cell?, h]; rfl
def aF : Nat → Nat := fun i => if i = 0 then 1 else 1
def aP : Nat → Nat := prd (addP 0) (mulP 0) (fun i => addP 0 (aF i) 0) (fun i => addP 0 (aF i) 0) 2 2
theorem aF_sz : szE (fun a => addP 0 a 0) aF 2 = 2 := by decide
theorem aP_is : ∀ i, i < 3 → aP i = if i = 0 then 1 else if i = 1 then 2 else 1 := by decide
theorem aF_Es (w : World) : Es (w.alloc (.cells #[.int .u64 1, .int .u64 0, .int .u64 0, .int .u64 0, .int .u64 1, .int .u64 0, .int .u64 0, .int .u64 0] 33)) (.slice (some ⟨w.heap.size, 0, none⟩) 2 2) 2 aF := two_Es w 1 1 (by decide) (by decide)
theorem aT_Es (w : World) : Es (w.alloc (.cells #[.int .u64 1, .int .u64 0, .int .u64 0, .int .u64 0, .int .u64 2, .int .u64 0, .int .u64 0, .int .u64 0, .int .u64 1, .int .u64 0, .int .u64 0, .int .u64 0] 33)) (.slice (some ⟨w.heap.size, 0, none⟩) 3 3) 3 (fun i => if i = 0 then 1 else if i = 1 then 2 else 1) := three_Es w 1 2 1 (by decide) (by decide) (by decide)
theorem alive_mul (w : World) (hg : Glob w) (oa ob : Option Addr) (hv : Es w (.slice oa 2 2) 2 aF) (hu : Es w (.slice ob 2 2) 2 aF) :
    Calls Tryd.prog 14 #[.int .i64 0, .slice oa 2 2, .slice ob 2 2] w fun e w' => (∃ G, e = .returned (.tuple #[.slice (some ⟨G, 0, none⟩) 3 3, .int .i64 0]) ∧ w.heap.size ≤ G ∧ BlkE w' G 3 aP) ∧ Below w.heap.size w w' := by
  have h := pMul_in 0 2 2 2 2 oa ob aF aF (by decide) (by decide) (by decide) (fun i _ => by unfold aF; split <;> decide) (fun i _ => by unfold aF; split <;> decide) w hg hv hu
  rw [aF_sz] at h
  exact h (by decide) (by decide) (by decide)
set_option maxHeartbeats 4000000 in
set_option maxRecDepth 20000 in
theorem alive7_any (w : World) (hg : Glob w) : Calls Tryd.prog 5 #[] w fun e w' => e = .returned (.bool true) ∧ Below w.heap.size w w' := by
  have HG : Hid (Glob w) := hg
  have HM : Hid (∀ w, Glob w → ∀ oa ob, Es w (.slice oa 2 2) 2 aF → Es w (.slice ob 2 2) 2 aF → _) := fun w hg oa ob hv hu => alive_mul w hg oa ob hv hu
  have HA : Hid (∀ w : World, _) := aF_Es
  have HT : Hid (∀ w : World, _) := aT_Es
  clear hg
  go_enter Tryd.func5, Tryd.ntmps5
  go_wp2_with fail
  have h1 := HA.out w
  have h2 := HA.out (w.alloc (.cells #[.int .u64 1, .int .u64 0, .int .u64 0, .int .u64 0, .int .u64 1, .int .u64 0, .int .u64 0, .int .u64 0] 33))
  have hb0 : Below w.heap.size w ((w.alloc (.cells #[.int .u64 1, .int .u64 0, .int .u64 0, .int .u64 0, .int .u64 1, .int .u64 0, .int .u64 0, .int .u64 0] 33)).alloc (.cells #[.int .u64 1, .int .u64 0, .int .u64 0, .int .u64 0, .int .u64 1, .int .u64 0, .int .u64 0, .int .u64 0] 33)) := bAlloc (bAlloc (Below.refl _ _) _) _
  rw [show (w.alloc (.cells #[.int .u64 1, .int .u64 0, .int .u64 0, .int .u64 0, .int .u64 1, .int .u64 0, .int .u64 0, .int .u64 0] 33)).heap.size = w.heap.size + 1 from Array.size_push ..] at h2
  refine (HM.out _ (HG.out.below hb0) _ _ (h1.below (bAlloc (Below.refl _ _) _)) h2).mono ?_
  rintro e w1 ⟨⟨G, rfl, lG, bG⟩, hb1⟩
  have hbw1 : Below w.heap.size w w1 := bStep hb0 hb1
  have bG2 := bG.congr (g := (fun i => if i = 0 then 1 else if i = 1 then 2 else 1)) (fun i hi => (aP_is i hi).symm)
  have HE1 : Hid (Es w1 (.slice (some ⟨G, 0, none⟩) 3 3) 3 (fun i => if i = 0 then 1 else if i = 1 then 2 else 1)) := bG2.Es (by unfold maxLen; decide)
  have HTT : Hid (Es _ _ _ _) := HT.out w1
  clear bG bG2 hb1 hb0 h1 h2 HM HA HT
  go_wp2_with fail
  refine (sameE_self _ _ 3 (fun i => if i = 0 then 1 else if i = 1 then 2 else 1) (by decide) (fun i _ => by split; decide; split <;> decide) _ (HE1.out.below (bAlloc (Below.refl _ _) _)) HTT.out).mono ?_
  rintro e w2 ⟨rfl, hb2⟩
  have hbw2 : Below w.heap.size w w2 := bStep (bAlloc hbw1 _) hb2
  clear hb2 hbw1
  go_wp2
  go_ret
  exact ⟨rfl, hbw2⟩
end Go.Proofs.YtfahhohhpjlhnaaDoor
