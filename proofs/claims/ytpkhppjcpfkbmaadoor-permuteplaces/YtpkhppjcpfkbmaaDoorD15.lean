/- alive of layer 6. -/
import Derived.Test.YtpkhppjcpfkbmaaDoorD14
namespace Go.Proofs.YtpkhppjcpfkbmaaDoor
open Go.RowKit

theorem limb_few (a : Nat) (ha : a < 18446744073709551616) : limb 0 a = a ∧ limb 1 a = 0 ∧ limb 2 a = 0 ∧ limb 3 a = 0 := by
  unfold limb
  refine ⟨?_, ?_, ?_, ?_⟩ <;> omega
theorem Blk.put4 {w : World} {b : Nat} {f : Nat → Nat} (h : Blk w 24 b f) (y : Nat) : ∃ w', (((w.setCell ⟨b, 0, none⟩ (.int .u64 ((limb 0 y : Nat) : Int))).setCell ⟨b, 1, none⟩ (.int .u64 ((limb 1 y : Nat) : Int))).setCell ⟨b, 2, none⟩ (.int .u64 ((limb 2 y : Nat) : Int))).setCell ⟨b, 3, none⟩ (.int .u64 ((limb 3 y : Nat) : Int)) = w' ∧ Blk w' 24 b (fun i => limb i y) ∧ Kept b w w' :=
  ⟨_, rfl, h.set4 (fun i => limb i y), ((((Kept.refl b w).setCell _ _).setCell _ _).setCell _ _).setCell _ _⟩
theorem two_Es (w : World) (a b : Nat) (ha : a < 18446744073709551616) (hb : b < 18446744073709551616) : Es (w.alloc (.cells #[.int .u64 (a : Int), .int .u64 0, .int .u64 0, .int .u64 0, .int .u64 (b : Int), .int .u64 0, .int .u64 0, .int .u64 0] 24)) (.slice (some ⟨w.heap.size, 0, none⟩) 2 2) 2 (fun i => if i = 0 then a else b) := by
  obtain ⟨a0, a1, a2, a3⟩ := limb_few a ha
  obtain ⟨b0, b1, b2, b3⟩ := limb_few b hb
  refine Or.inr ⟨w.heap.size, 0, 2, rfl, Nat.le_refl _, by unfold maxLen; decide, by rw [show (w.alloc _).heap.size = w.heap.size + 1 from Array.size_push ..]; omega, fun i hi j hj => ?_⟩
  have h := new_blockE w (.cells #[.int .u64 (a : Int), .int .u64 0, .int .u64 0, .int .u64 0, .int .u64 (b : Int), .int .u64 0, .int .u64 0, .int .u64 0] 24)
  have hi2 : i = 0 ∨ i = 1 := by omega
  have hj4 : j = 0 ∨ j = 1 ∨ j = 2 ∨ j = 3 := by omega
  rcases hi2 with rfl | rfl <;> rcases hj4 with rfl | rfl | rfl | rfl
  · show _ = some (Value.int .u64 ((limb 0 a : Nat) : Int)); rw [a0]; simp only [World.cell?, h]; rfl
  · show _ = some (Value.int .u64 ((limb 1 a : Nat) : Int)); rw [a1]; simp only [World.cell?, h]; rfl
  · show _ = some (Value.int .u64 ((limb 2 a : Nat) : Int)); rw [a2]; simp only [World.cell?, h]; rfl
  · show _ = some (Value.int .u64 ((limb 3 a : Nat) : Int)); rw [a3]; simp only [World.cell?, h]; rfl
  · show _ = some (Value.int .u64 ((limb 0 b : Nat) : Int)); rw [b0]; simp only [World.cell?, h]; rfl
  · show _ = some (Value.int .u64 ((limb 1 b : Nat) : Int)); rw [b1]; simp only [World.cell?, h]; rfl
  · show _ = some (Value.int .u64 ((limb 2 b : Nat) : Int)); rw [b2]; simp only [World.cell?, h]; rfl
  · show _ = some (Value.int .u64 ((limb 3 b : Nat) : Int)); rw [b3]; simp only [World.cell?, h]; rfl
theorem root1 : fz 0 (rootP 0 1) = 0 - 1 := by
  have h := root_half 0 1 (by decide) (by decide)
  have e := fz_exp 0 (rootP 0 1) (2 ^ (1 - 1))
  rw [h, fz_neg1] at e
  have e2 : fp (fz 0 (rootP 0 1)) (2 ^ (1 - 1)) = 1 * fz 0 (rootP 0 1) := rfl
  rw [e2] at e
  grind
theorem alive_vals {F : Nat → Nat} (h : ValP 0 1 1 2 (fun i => if i = 0 then 3 else 4) F) : ∀ i, i < 2 → F i = if i = 0 then 7 else 16513536 := fun i hi => by
  obtain ⟨h1, h2⟩ := h i hi
  have e : pf (fz 0 1 * fp (fz 0 (rootP 0 1)) i) 2 (fun j => fz 0 (if j = 0 then 3 else 4)) = (0 * (fz 0 1 * fp (fz 0 (rootP 0 1)) i) + fz 0 4) * (fz 0 1 * fp (fz 0 (rootP 0 1)) i) + fz 0 3 := rfl
  rw [e] at h2
  have hi2 : i = 0 ∨ i = 1 := by omega
  rcases hi2 with rfl | rfl
  · rw [if_pos rfl]
    refine fz_inj h1 (by decide) ?_
    rw [h2]
    show (0 * (fz 0 1 * 1) + fz 0 4) * (fz 0 1 * 1) + fz 0 3 = fz 0 7
    decide
  · rw [if_neg (by decide)]
    refine fz_inj h1 (by decide) ?_
    rw [h2]
    show (0 * (fz 0 1 * (1 * fz 0 (rootP 0 1))) + fz 0 4) * (fz 0 1 * (1 * fz 0 (rootP 0 1))) + fz 0 3 = fz 0 16513536
    rw [root1]
    decide
end Go.Proofs.YtpkhppjcpfkbmaaDoor
