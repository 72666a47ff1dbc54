/- (query).fits, the operations' degrees. -/
import Derived.Test.YtimjgebiffemnaaDoorCE3
import Derived.Deep.QuietTactic
import Derived.BigQuiet
import Derived.Deep.Draws
namespace Go.Proofs.YtimjgebiffemnaaDoor
open Go.RowKit

def fitB (Col Rot n : Int) : Bool := decide (0 ≤ Col ∧ Col < n ∧ -3 ≤ Rot ∧ Rot ≤ 3)
set_option maxHeartbeats 8000000 in
set_option maxRecDepth 20000 in
theorem fits_any (Kd Col Rot n : Int) (w : World) : Calls Tryd.prog 28 #[.agg #[.int .i64 Kd, .int .i64 Col, .int .i64 Rot], .int .i64 n] w fun e w' => e = .returned (.bool (fitB Col Rot n)) ∧ Below w.heap.size w w' := by
  have HB : Hid (Below w.heap.size w (w.alloc (.cells #[.int .i64 Kd, .int .i64 Col, .int .i64 Rot] 61))) := bAlloc (Below.refl _ _) _
  obtain ⟨bA, ebA⟩ : ∃ b, b = fitB Col Rot n := ⟨_, rfl⟩
  rw [← ebA]
  have HBA : Hid (bA = decide (0 ≤ Col ∧ Col < n ∧ -3 ≤ Rot ∧ Rot ≤ 3)) := ebA
  clear ebA
  by_cases h0 : 0 ≤ Col
  · by_cases h1 : Col < n
    · by_cases h2 : -3 ≤ Rot
      · by_cases h3 : Rot ≤ 3
        · have HF : Hid (bA = true) := HBA.out.trans (decide_eq_true ⟨h0, h1, h2, h3⟩)
          go_enter Tryd.func28, Tryd.ntmps28
          go_wp2
          go_ret
          exact ⟨by rw [HF.out]; rfl, HB.out⟩
        · have HF : Hid (bA = false) := HBA.out.trans (decide_eq_false (fun h => h3 h.2.2.2))
          go_enter Tryd.func28, Tryd.ntmps28
          go_wp2
          go_ret
          exact ⟨by rw [HF.out]; rfl, HB.out⟩
      · have HF : Hid (bA = false) := HBA.out.trans (decide_eq_false (fun h => h2 h.2.2.1))
        go_enter Tryd.func28, Tryd.ntmps28
        go_wp2
        go_ret
        exact ⟨by rw [HF.out]; rfl, HB.out⟩
    · have HF : Hid (bA = false) := HBA.out.trans (decide_eq_false (fun h => h1 h.2.1))
      go_enter Tryd.func28, Tryd.ntmps28
      go_wp2
      go_ret
      exact ⟨by rw [HF.out]; rfl, HB.out⟩
  · have HF : Hid (bA = false) := HBA.out.trans (decide_eq_false (fun h => h0 h.1))
    go_enter Tryd.func28, Tryd.ntmps28
    go_wp2
    go_ret
    exact ⟨by rw [HF.out]; rfl, HB.out⟩
set_option maxHeartbeats 8000000 in
set_option maxRecDepth 20000 in
theorem deg_query (O A B : Int) (v : Value) (w : World) : Calls Tryd.prog 90 #[.agg #[.int .i64 O, .int .i64 A, .int .i64 B], v] w fun e w' => e = .returned (.int .i64 1) ∧ Below w.heap.size w w' := by
  have HB : Hid (∀ o, Below w.heap.size w (w.alloc o)) := fun o => bAlloc (Below.refl _ _) o
  go_enter Tryd.func90, Tryd.ntmps90
  go_wp2
  go_ret
  exact ⟨rfl, by first | exact Below.refl _ _ | exact HB.out _⟩
set_option maxHeartbeats 8000000 in
set_option maxRecDepth 20000 in
theorem deg_const (V : Nat) (v : Value) (w : World) : Calls Tryd.prog 95 #[.agg #[.int .u64 ((limb 0 V : Nat) : Int), .int .u64 ((limb 1 V : Nat) : Int), .int .u64 ((limb 2 V : Nat) : Int), .int .u64 ((limb 3 V : Nat) : Int)], v] w fun e w' => e = .returned (.int .i64 0) ∧ Below w.heap.size w w' := by
  have HB : Hid (∀ o, Below w.heap.size w (w.alloc o)) := fun o => bAlloc (Below.refl _ _) o
  go_enter Tryd.func95, Tryd.ntmps95
  go_wp2
  go_ret
  exact ⟨rfl, by first | exact Below.refl _ _ | exact HB.out _⟩
set_option maxHeartbeats 8000000 in
set_option maxRecDepth 20000 in
theorem deg_neg (a n : Nat) (v : Value) (f : Nat → Int) (ha : a < n) (w : World) (hv : Zs w v n f) : Calls Tryd.prog 97 #[.agg #[.int .i64 (a : Int)], v] w fun e w' => e = .returned (.int .i64 (f a)) ∧ Below w.heap.size w w' := by
  rcases hv with ⟨_, h0⟩ | ⟨ab, ao, c, rfl, _, _, lab, hcell⟩
  · omega
  have hai : (a : Int) < (n : Int) := by omega
  have ha0 : (0 : Int) ≤ (a : Int) := by omega
  obtain ⟨y, ey⟩ : ∃ y, y = f a := ⟨_, rfl⟩
  have HB : Hid (∀ o, Below w.heap.size w (w.alloc o)) := fun o => bAlloc (Below.refl _ _) o
  have a0 := (HB.out (.cells #[.int .i64 (a : Int)] 101)).cell (p := ⟨ab, ao + a * 1 + 0, none⟩) lab
  rw [hcell a ha 0 (by decide)] at a0
  dsimp only at a0
  rw [Nat.add_zero, Nat.mul_one, ← ey] at a0
  rw [← ey]
  clear hcell ey
  go_enter Tryd.func97, Tryd.ntmps97
  go_wp2
  go_ret
  exact ⟨rfl, HB.out _⟩
set_option maxHeartbeats 8000000 in
set_option maxRecDepth 20000 in
theorem deg_mul (a n : Nat) (V : Nat) (v : Value) (f : Nat → Int) (ha : a < n) (w : World) (hv : Zs w v n f) : Calls Tryd.prog 113 #[.agg #[.int .i64 (a : Int), .int .u64 ((limb 0 V : Nat) : Int), .int .u64 ((limb 1 V : Nat) : Int), .int .u64 ((limb 2 V : Nat) : Int), .int .u64 ((limb 3 V : Nat) : Int)], v] w fun e w' => e = .returned (.int .i64 (f a)) ∧ Below w.heap.size w w' := by
  rcases hv with ⟨_, h0⟩ | ⟨ab, ao, c, rfl, _, _, lab, hcell⟩
  · omega
  have hai : (a : Int) < (n : Int) := by omega
  have ha0 : (0 : Int) ≤ (a : Int) := by omega
  obtain ⟨y, ey⟩ : ∃ y, y = f a := ⟨_, rfl⟩
  have HB : Hid (∀ o, Below w.heap.size w (w.alloc o)) := fun o => bAlloc (Below.refl _ _) o
  have a0 := (HB.out (.cells #[.int .i64 (a : Int), .int .u64 ((limb 0 V : Nat) : Int), .int .u64 ((limb 1 V : Nat) : Int), .int .u64 ((limb 2 V : Nat) : Int), .int .u64 ((limb 3 V : Nat) : Int)] 106)).cell (p := ⟨ab, ao + a * 1 + 0, none⟩) lab
  rw [hcell a ha 0 (by decide)] at a0
  dsimp only at a0
  rw [Nat.add_zero, Nat.mul_one, ← ey] at a0
  rw [← ey]
  clear hcell ey
  go_enter Tryd.func113, Tryd.ntmps113
  go_wp2
  go_ret
  exact ⟨rfl, HB.out _⟩

end Go.Proofs.YtimjgebiffemnaaDoor
