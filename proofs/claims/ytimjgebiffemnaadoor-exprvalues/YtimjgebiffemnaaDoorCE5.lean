/- The degrees of sums and products. -/
import Derived.Test.YtimjgebiffemnaaDoorCE4
namespace Go.Proofs.YtimjgebiffemnaaDoor
open Go.RowKit

theorem bDrewN {m : Nat} {a w : World} (h : Below m a w) (k : Nat) : Below m a (w.drewN k) := by
  induction k with
  | zero => exact h
  | succ k ih => exact ih.drew
set_option maxHeartbeats 8000000 in
set_option maxRecDepth 20000 in
theorem deg_sum (a b n : Nat) (v : Value) (f : Nat → Int) (ha : a < n) (hb : b < n) (h0 : ∀ i, i < n → 0 ≤ f i ∧ f i ≤ 1000) (w : World) (hv : Zs w v n f) : Calls Tryd.prog 102 #[.agg #[.int .i64 (a : Int), .int .i64 (b : Int)], v] w fun e w' => e = .returned (.int .i64 (max (f a) (f b))) ∧ Below w.heap.size w w' := by
  rcases hv with ⟨_, hz⟩ | ⟨ab, ao, c, rfl, _, _, lab, hcell⟩
  · omega
  have hai : (a : Int) < (n : Int) := by omega
  have ha0 : (0 : Int) ≤ (a : Int) := by omega
  have hbi : (b : Int) < (n : Int) := by omega
  have hb0 : (0 : Int) ≤ (b : Int) := by omega
  obtain ⟨y, ey⟩ : ∃ y, y = f a := ⟨_, rfl⟩
  obtain ⟨z, ez⟩ : ∃ z, z = f b := ⟨_, rfl⟩
  have hy := h0 a ha; have hzz := h0 b hb
  rw [← ey] at hy
  rw [← ez] at hzz
  have HB : Hid (∀ o, Below w.heap.size w (w.alloc o)) := fun o => bAlloc (Below.refl _ _) o
  have a0 := (HB.out (.cells #[.int .i64 (a : Int), .int .i64 (b : Int)] 103)).cell (p := ⟨ab, ao + a * 1 + 0, none⟩) lab
  have b0 := (HB.out (.cells #[.int .i64 (a : Int), .int .i64 (b : Int)] 103)).cell (p := ⟨ab, ao + b * 1 + 0, none⟩) lab
  rw [hcell a ha 0 (by decide)] at a0
  rw [hcell b hb 0 (by decide)] at b0
  dsimp only at a0 b0
  rw [Nat.add_zero, Nat.mul_one, ← ey] at a0
  rw [Nat.add_zero, Nat.mul_one, ← ez] at b0
  rw [← ey, ← ez]
  have HR : Hid (0 ≤ y ∧ y ≤ 1000 ∧ 0 ≤ z ∧ z ≤ 1000) := ⟨hy.1, hy.2, hzz.1, hzz.2⟩
  clear hcell ey ez hy hzz h0
  obtain ⟨w0, hw0⟩ : ∃ x : World, x = w.alloc (.cells #[.int .i64 (a : Int), .int .i64 (b : Int)] 103) := ⟨_, rfl⟩
  obtain ⟨N2, e2⟩ : ∃ N, N = w.heap.size := ⟨_, rfl⟩
  have hq : w0.heap[N2]? = some (.cells #[.int .i64 (a : Int), .int .i64 (b : Int)] 103) := by rw [hw0, e2]; show (w.heap.push _)[w.heap.size]? = _; simp
  have q0 : w0.cell? ⟨N2, 0, none⟩ = some (.int .i64 (a : Int)) := by simp [World.cell?, hq]
  have q1 : w0.cell? ⟨N2, 1, none⟩ = some (.int .i64 (b : Int)) := by simp [World.cell?, hq]
  clear hq
  rw [← hw0] at a0 b0
  have hbw : Below w.heap.size w w0 := by rw [hw0]; exact HB.out _
  go_enter Tryd.func102, Tryd.ntmps102
  go_upto_region 1 with fail
  rw [← hw0, ← e2]
  clear hw0 e2 HB
  skip
  go_quiet (fail)
  all_goals go_wp2
  all_goals go_ret
  all_goals refine ⟨?_, bDrewN hbw _⟩
  all_goals (show Ending.returned (Value.int .i64 _) = _; congr 2; have := HR.out; omega)
set_option maxHeartbeats 8000000 in
set_option maxRecDepth 20000 in
theorem deg_prod (a b n : Nat) (v : Value) (f : Nat → Int) (ha : a < n) (hb : b < n) (h0 : ∀ i, i < n → 0 ≤ f i ∧ f i ≤ 1000) (w : World) (hv : Zs w v n f) : Calls Tryd.prog 104 #[.agg #[.int .i64 (a : Int), .int .i64 (b : Int)], v] w fun e w' => e = .returned (.int .i64 (min (f a + f b) 1000)) ∧ Below w.heap.size w w' := by
  rcases hv with ⟨_, hz⟩ | ⟨ab, ao, c, rfl, _, _, lab, hcell⟩
  · omega
  have hai : (a : Int) < (n : Int) := by omega
  have ha0 : (0 : Int) ≤ (a : Int) := by omega
  have hbi : (b : Int) < (n : Int) := by omega
  have hb0 : (0 : Int) ≤ (b : Int) := by omega
  obtain ⟨y, ey⟩ : ∃ y, y = f a := ⟨_, rfl⟩
  obtain ⟨z, ez⟩ : ∃ z, z = f b := ⟨_, rfl⟩
  have hy := h0 a ha; have hzz := h0 b hb
  rw [← ey] at hy
  rw [← ez] at hzz
  have HB : Hid (∀ o, Below w.heap.size w (w.alloc o)) := fun o => bAlloc (Below.refl _ _) o
  have a0 := (HB.out (.cells #[.int .i64 (a : Int), .int .i64 (b : Int)] 104)).cell (p := ⟨ab, ao + a * 1 + 0, none⟩) lab
  have b0 := (HB.out (.cells #[.int .i64 (a : Int), .int .i64 (b : Int)] 104)).cell (p := ⟨ab, ao + b * 1 + 0, none⟩) lab
  rw [hcell a ha 0 (by decide)] at a0
  rw [hcell b hb 0 (by decide)] at b0
  dsimp only at a0 b0
  rw [Nat.add_zero, Nat.mul_one, ← ey] at a0
  rw [Nat.add_zero, Nat.mul_one, ← ez] at b0
  rw [← ey, ← ez]
  have HR : Hid (0 ≤ y ∧ y ≤ 1000 ∧ 0 ≤ z ∧ z ≤ 1000) := ⟨hy.1, hy.2, hzz.1, hzz.2⟩
  clear hcell ey ez hy hzz h0
  obtain ⟨w0, hw0⟩ : ∃ x : World, x = w.alloc (.cells #[.int .i64 (a : Int), .int .i64 (b : Int)] 104) := ⟨_, rfl⟩
  obtain ⟨N2, e2⟩ : ∃ N, N = w.heap.size := ⟨_, rfl⟩
  have hq : w0.heap[N2]? = some (.cells #[.int .i64 (a : Int), .int .i64 (b : Int)] 104) := by rw [hw0, e2]; show (w.heap.push _)[w.heap.size]? = _; simp
  have q0 : w0.cell? ⟨N2, 0, none⟩ = some (.int .i64 (a : Int)) := by simp [World.cell?, hq]
  have q1 : w0.cell? ⟨N2, 1, none⟩ = some (.int .i64 (b : Int)) := by simp [World.cell?, hq]
  clear hq
  rw [← hw0] at a0 b0
  have hbw : Below w.heap.size w w0 := by rw [hw0]; exact HB.out _
  go_enter Tryd.func104, Tryd.ntmps104
  go_upto_region 1 with fail
  rw [← hw0, ← e2]
  clear hw0 e2 HB
  have hs : wrap64 (y + z) = y + z := by have := HR.out; simp [wrap64]; omega
  go_quiet (fail)
  all_goals go_wp2
  all_goals go_ret
  all_goals refine ⟨?_, bDrewN hbw _⟩
  all_goals (show Ending.returned (Value.int .i64 _) = _; congr 2; have := HR.out; omega)

end Go.Proofs.YtimjgebiffemnaaDoor
