/- What field's small functions over numbers of four words do: numberOf, elem, plus, minus, isBelow. -/
import Derived.Test.YtaeembdabnomaaaGreatDoorCore1
import Derived.Test.YtaeembdabnomaaaGreatDoorStep
import Derived.Deep.QuietTactic
import Derived.Deep.RegionHeld3
import Derived.BigQuiet
namespace Go.Proofs.YtaeembdabnomaaaGreatDoor
open Go.RowKit

theorem cell_old (W : World) (ob : Obj) (b o : Nat) (h : b < W.heap.size) : (W.alloc ob).cell? ⟨b, o, none⟩ = W.cell? ⟨b, o, none⟩ :=
  (((Below.refl W.heap.size W).alloc (Nat.le_refl _) ob).cell (p := ⟨b, o, none⟩) h)
section
variable {W w1 : World} {n1 n2 n3 n4 n5 : Nat} {f1 f2 f3 f4 f5 : Nat → Nat}
theorem hold1 (hb : Below W.heap.size W w1) (h : (∀ i, i < 4 → W.cell? ⟨n1, i, none⟩ = some (.int .u64 ((f1 i : Nat) : Int)))) : (∀ i, i < 4 → w1.cell? ⟨n1, i, none⟩ = some (.int .u64 ((f1 i : Nat) : Int))) := cells_below hb h
theorem hold2 (hb : Below W.heap.size W w1) (h : (∀ i, i < 4 → W.cell? ⟨n1, i, none⟩ = some (.int .u64 ((f1 i : Nat) : Int))) ∧ (∀ i, i < 4 → W.cell? ⟨n2, i, none⟩ = some (.int .u64 ((f2 i : Nat) : Int)))) : (∀ i, i < 4 → w1.cell? ⟨n1, i, none⟩ = some (.int .u64 ((f1 i : Nat) : Int))) ∧ (∀ i, i < 4 → w1.cell? ⟨n2, i, none⟩ = some (.int .u64 ((f2 i : Nat) : Int))) := ⟨cells_below hb h.1, cells_below hb h.2⟩
theorem hold3 (hb : Below W.heap.size W w1) (h : (∀ i, i < 4 → W.cell? ⟨n1, i, none⟩ = some (.int .u64 ((f1 i : Nat) : Int))) ∧ (∀ i, i < 4 → W.cell? ⟨n2, i, none⟩ = some (.int .u64 ((f2 i : Nat) : Int))) ∧ (∀ i, i < 4 → W.cell? ⟨n3, i, none⟩ = some (.int .u64 ((f3 i : Nat) : Int)))) : (∀ i, i < 4 → w1.cell? ⟨n1, i, none⟩ = some (.int .u64 ((f1 i : Nat) : Int))) ∧ (∀ i, i < 4 → w1.cell? ⟨n2, i, none⟩ = some (.int .u64 ((f2 i : Nat) : Int))) ∧ (∀ i, i < 4 → w1.cell? ⟨n3, i, none⟩ = some (.int .u64 ((f3 i : Nat) : Int))) := ⟨cells_below hb h.1, cells_below hb h.2.1, cells_below hb h.2.2⟩
theorem hold4 (hb : Below W.heap.size W w1) (h : (∀ i, i < 4 → W.cell? ⟨n1, i, none⟩ = some (.int .u64 ((f1 i : Nat) : Int))) ∧ (∀ i, i < 4 → W.cell? ⟨n2, i, none⟩ = some (.int .u64 ((f2 i : Nat) : Int))) ∧ (∀ i, i < 4 → W.cell? ⟨n3, i, none⟩ = some (.int .u64 ((f3 i : Nat) : Int))) ∧ (∀ i, i < 4 → W.cell? ⟨n4, i, none⟩ = some (.int .u64 ((f4 i : Nat) : Int)))) : (∀ i, i < 4 → w1.cell? ⟨n1, i, none⟩ = some (.int .u64 ((f1 i : Nat) : Int))) ∧ (∀ i, i < 4 → w1.cell? ⟨n2, i, none⟩ = some (.int .u64 ((f2 i : Nat) : Int))) ∧ (∀ i, i < 4 → w1.cell? ⟨n3, i, none⟩ = some (.int .u64 ((f3 i : Nat) : Int))) ∧ (∀ i, i < 4 → w1.cell? ⟨n4, i, none⟩ = some (.int .u64 ((f4 i : Nat) : Int))) := ⟨cells_below hb h.1, cells_below hb h.2.1, cells_below hb h.2.2.1, cells_below hb h.2.2.2⟩
theorem hold5 (hb : Below W.heap.size W w1) (h : (∀ i, i < 4 → W.cell? ⟨n1, i, none⟩ = some (.int .u64 ((f1 i : Nat) : Int))) ∧ (∀ i, i < 4 → W.cell? ⟨n2, i, none⟩ = some (.int .u64 ((f2 i : Nat) : Int))) ∧ (∀ i, i < 4 → W.cell? ⟨n3, i, none⟩ = some (.int .u64 ((f3 i : Nat) : Int))) ∧ (∀ i, i < 4 → W.cell? ⟨n4, i, none⟩ = some (.int .u64 ((f4 i : Nat) : Int))) ∧ (∀ i, i < 4 → W.cell? ⟨n5, i, none⟩ = some (.int .u64 ((f5 i : Nat) : Int)))) : (∀ i, i < 4 → w1.cell? ⟨n1, i, none⟩ = some (.int .u64 ((f1 i : Nat) : Int))) ∧ (∀ i, i < 4 → w1.cell? ⟨n2, i, none⟩ = some (.int .u64 ((f2 i : Nat) : Int))) ∧ (∀ i, i < 4 → w1.cell? ⟨n3, i, none⟩ = some (.int .u64 ((f3 i : Nat) : Int))) ∧ (∀ i, i < 4 → w1.cell? ⟨n4, i, none⟩ = some (.int .u64 ((f4 i : Nat) : Int))) ∧ (∀ i, i < 4 → w1.cell? ⟨n5, i, none⟩ = some (.int .u64 ((f5 i : Nat) : Int))) := ⟨cells_below hb h.1, cells_below hb h.2.1, cells_below hb h.2.2.1, cells_below hb h.2.2.2.1, cells_below hb h.2.2.2.2⟩
theorem far1 {r : Nat} (v0 v1 v2 v3 : Value) (g1 : r ≠ n1) (h : (∀ i, i < 4 → W.cell? ⟨n1, i, none⟩ = some (.int .u64 ((f1 i : Nat) : Int)))) : (∀ i, i < 4 → ((((W.setCell ⟨r, 0, none⟩ v0).setCell ⟨r, 1, none⟩ v1).setCell ⟨r, 2, none⟩ v2).setCell ⟨r, 3, none⟩ v3).cell? ⟨n1, i, none⟩ = some (.int .u64 ((f1 i : Nat) : Int))) := cells_far4 v0 v1 v2 v3 g1 h
theorem far2 {r : Nat} (v0 v1 v2 v3 : Value) (g1 : r ≠ n1) (g2 : r ≠ n2) (h : (∀ i, i < 4 → W.cell? ⟨n1, i, none⟩ = some (.int .u64 ((f1 i : Nat) : Int))) ∧ (∀ i, i < 4 → W.cell? ⟨n2, i, none⟩ = some (.int .u64 ((f2 i : Nat) : Int)))) : (∀ i, i < 4 → ((((W.setCell ⟨r, 0, none⟩ v0).setCell ⟨r, 1, none⟩ v1).setCell ⟨r, 2, none⟩ v2).setCell ⟨r, 3, none⟩ v3).cell? ⟨n1, i, none⟩ = some (.int .u64 ((f1 i : Nat) : Int))) ∧ (∀ i, i < 4 → ((((W.setCell ⟨r, 0, none⟩ v0).setCell ⟨r, 1, none⟩ v1).setCell ⟨r, 2, none⟩ v2).setCell ⟨r, 3, none⟩ v3).cell? ⟨n2, i, none⟩ = some (.int .u64 ((f2 i : Nat) : Int))) := ⟨cells_far4 v0 v1 v2 v3 g1 h.1, cells_far4 v0 v1 v2 v3 g2 h.2⟩
theorem far3 {r : Nat} (v0 v1 v2 v3 : Value) (g1 : r ≠ n1) (g2 : r ≠ n2) (g3 : r ≠ n3) (h : (∀ i, i < 4 → W.cell? ⟨n1, i, none⟩ = some (.int .u64 ((f1 i : Nat) : Int))) ∧ (∀ i, i < 4 → W.cell? ⟨n2, i, none⟩ = some (.int .u64 ((f2 i : Nat) : Int))) ∧ (∀ i, i < 4 → W.cell? ⟨n3, i, none⟩ = some (.int .u64 ((f3 i : Nat) : Int)))) : (∀ i, i < 4 → ((((W.setCell ⟨r, 0, none⟩ v0).setCell ⟨r, 1, none⟩ v1).setCell ⟨r, 2, none⟩ v2).setCell ⟨r, 3, none⟩ v3).cell? ⟨n1, i, none⟩ = some (.int .u64 ((f1 i : Nat) : Int))) ∧ (∀ i, i < 4 → ((((W.setCell ⟨r, 0, none⟩ v0).setCell ⟨r, 1, none⟩ v1).setCell ⟨r, 2, none⟩ v2).setCell ⟨r, 3, none⟩ v3).cell? ⟨n2, i, none⟩ = some (.int .u64 ((f2 i : Nat) : Int))) ∧ (∀ i, i < 4 → ((((W.setCell ⟨r, 0, none⟩ v0).setCell ⟨r, 1, none⟩ v1).setCell ⟨r, 2, none⟩ v2).setCell ⟨r, 3, none⟩ v3).cell? ⟨n3, i, none⟩ = some (.int .u64 ((f3 i : Nat) : Int))) := ⟨cells_far4 v0 v1 v2 v3 g1 h.1, cells_far4 v0 v1 v2 v3 g2 h.2.1, cells_far4 v0 v1 v2 v3 g3 h.2.2⟩
theorem far4 {r : Nat} (v0 v1 v2 v3 : Value) (g1 : r ≠ n1) (g2 : r ≠ n2) (g3 : r ≠ n3) (g4 : r ≠ n4) (h : (∀ i, i < 4 → W.cell? ⟨n1, i, none⟩ = some (.int .u64 ((f1 i : Nat) : Int))) ∧ (∀ i, i < 4 → W.cell? ⟨n2, i, none⟩ = some (.int .u64 ((f2 i : Nat) : Int))) ∧ (∀ i, i < 4 → W.cell? ⟨n3, i, none⟩ = some (.int .u64 ((f3 i : Nat) : Int))) ∧ (∀ i, i < 4 → W.cell? ⟨n4, i, none⟩ = some (.int .u64 ((f4 i : Nat) : Int)))) : (∀ i, i < 4 → ((((W.setCell ⟨r, 0, none⟩ v0).setCell ⟨r, 1, none⟩ v1).setCell ⟨r, 2, none⟩ v2).setCell ⟨r, 3, none⟩ v3).cell? ⟨n1, i, none⟩ = some (.int .u64 ((f1 i : Nat) : Int))) ∧ (∀ i, i < 4 → ((((W.setCell ⟨r, 0, none⟩ v0).setCell ⟨r, 1, none⟩ v1).setCell ⟨r, 2, none⟩ v2).setCell ⟨r, 3, none⟩ v3).cell? ⟨n2, i, none⟩ = some (.int .u64 ((f2 i : Nat) : Int))) ∧ (∀ i, i < 4 → ((((W.setCell ⟨r, 0, none⟩ v0).setCell ⟨r, 1, none⟩ v1).setCell ⟨r, 2, none⟩ v2).setCell ⟨r, 3, none⟩ v3).cell? ⟨n3, i, none⟩ = some (.int .u64 ((f3 i : Nat) : Int))) ∧ (∀ i, i < 4 → ((((W.setCell ⟨r, 0, none⟩ v0).setCell ⟨r, 1, none⟩ v1).setCell ⟨r, 2, none⟩ v2).setCell ⟨r, 3, none⟩ v3).cell? ⟨n4, i, none⟩ = some (.int .u64 ((f4 i : Nat) : Int))) := ⟨cells_far4 v0 v1 v2 v3 g1 h.1, cells_far4 v0 v1 v2 v3 g2 h.2.1, cells_far4 v0 v1 v2 v3 g3 h.2.2.1, cells_far4 v0 v1 v2 v3 g4 h.2.2.2⟩
theorem far5 {r : Nat} (v0 v1 v2 v3 : Value) (g1 : r ≠ n1) (g2 : r ≠ n2) (g3 : r ≠ n3) (g4 : r ≠ n4) (g5 : r ≠ n5) (h : (∀ i, i < 4 → W.cell? ⟨n1, i, none⟩ = some (.int .u64 ((f1 i : Nat) : Int))) ∧ (∀ i, i < 4 → W.cell? ⟨n2, i, none⟩ = some (.int .u64 ((f2 i : Nat) : Int))) ∧ (∀ i, i < 4 → W.cell? ⟨n3, i, none⟩ = some (.int .u64 ((f3 i : Nat) : Int))) ∧ (∀ i, i < 4 → W.cell? ⟨n4, i, none⟩ = some (.int .u64 ((f4 i : Nat) : Int))) ∧ (∀ i, i < 4 → W.cell? ⟨n5, i, none⟩ = some (.int .u64 ((f5 i : Nat) : Int)))) : (∀ i, i < 4 → ((((W.setCell ⟨r, 0, none⟩ v0).setCell ⟨r, 1, none⟩ v1).setCell ⟨r, 2, none⟩ v2).setCell ⟨r, 3, none⟩ v3).cell? ⟨n1, i, none⟩ = some (.int .u64 ((f1 i : Nat) : Int))) ∧ (∀ i, i < 4 → ((((W.setCell ⟨r, 0, none⟩ v0).setCell ⟨r, 1, none⟩ v1).setCell ⟨r, 2, none⟩ v2).setCell ⟨r, 3, none⟩ v3).cell? ⟨n2, i, none⟩ = some (.int .u64 ((f2 i : Nat) : Int))) ∧ (∀ i, i < 4 → ((((W.setCell ⟨r, 0, none⟩ v0).setCell ⟨r, 1, none⟩ v1).setCell ⟨r, 2, none⟩ v2).setCell ⟨r, 3, none⟩ v3).cell? ⟨n3, i, none⟩ = some (.int .u64 ((f3 i : Nat) : Int))) ∧ (∀ i, i < 4 → ((((W.setCell ⟨r, 0, none⟩ v0).setCell ⟨r, 1, none⟩ v1).setCell ⟨r, 2, none⟩ v2).setCell ⟨r, 3, none⟩ v3).cell? ⟨n4, i, none⟩ = some (.int .u64 ((f4 i : Nat) : Int))) ∧ (∀ i, i < 4 → ((((W.setCell ⟨r, 0, none⟩ v0).setCell ⟨r, 1, none⟩ v1).setCell ⟨r, 2, none⟩ v2).setCell ⟨r, 3, none⟩ v3).cell? ⟨n5, i, none⟩ = some (.int .u64 ((f5 i : Nat) : Int))) := ⟨cells_far4 v0 v1 v2 v3 g1 h.1, cells_far4 v0 v1 v2 v3 g2 h.2.1, cells_far4 v0 v1 v2 v3 g3 h.2.2.1, cells_far4 v0 v1 v2 v3 g4 h.2.2.2.1, cells_far4 v0 v1 v2 v3 g5 h.2.2.2.2⟩
end

set_option maxHeartbeats 1000000 in
/-- field.numberOf: the same words. -/
theorem numberOf_any (A : Nat) (w : World) :
    Calls Tryz.prog 83 #[.agg #[.int .u64 ((limb 0 (A) : Nat) : Int), .int .u64 ((limb 1 (A) : Nat) : Int), .int .u64 ((limb 2 (A) : Nat) : Int), .int .u64 ((limb 3 (A) : Nat) : Int)]] w fun e w' => e = .returned (.agg #[.int .u64 ((limb 0 (A) : Nat) : Int), .int .u64 ((limb 1 (A) : Nat) : Int), .int .u64 ((limb 2 (A) : Nat) : Int), .int .u64 ((limb 3 (A) : Nat) : Int)]) ∧ Below w.heap.size w w' := by
  go_enter Tryz.func83, Tryz.ntmps83
  go_wp2
  refine bodyPost_ret (v := .agg #[.int .u64 ((limb 0 (A) : Nat) : Int), .int .u64 ((limb 1 (A) : Nat) : Int), .int .u64 ((limb 2 (A) : Nat) : Int), .int .u64 ((limb 3 (A) : Nat) : Int)]) (by simp [results, Tryz.results83, go_sem]) rfl ⟨rfl, ?_⟩
  repeat (first | with_reducible exact Below.refl _ _ | with_reducible refine Below.drew ?_ | with_reducible refine Below.setCell ?_ (by first | omega | (simp; omega) | simp) _ | with_reducible refine Below.alloc ?_ (by first | omega | (simp; omega) | simp) _)

set_option maxHeartbeats 1000000 in
/-- field's elem: the same words. -/
theorem toElem_any (A : Nat) (w : World) :
    Calls Tryz.prog 57 #[.agg #[.int .u64 ((limb 0 (A) : Nat) : Int), .int .u64 ((limb 1 (A) : Nat) : Int), .int .u64 ((limb 2 (A) : Nat) : Int), .int .u64 ((limb 3 (A) : Nat) : Int)]] w fun e w' => e = .returned (.agg #[.int .u64 ((limb 0 (A) : Nat) : Int), .int .u64 ((limb 1 (A) : Nat) : Int), .int .u64 ((limb 2 (A) : Nat) : Int), .int .u64 ((limb 3 (A) : Nat) : Int)]) ∧ Below w.heap.size w w' := by
  go_enter Tryz.func57, Tryz.ntmps57
  go_wp2
  refine bodyPost_ret (v := .agg #[.int .u64 ((limb 0 (A) : Nat) : Int), .int .u64 ((limb 1 (A) : Nat) : Int), .int .u64 ((limb 2 (A) : Nat) : Int), .int .u64 ((limb 3 (A) : Nat) : Int)]) (by simp [results, Tryz.results57, go_sem]) rfl ⟨rfl, ?_⟩
  repeat (first | with_reducible exact Below.refl _ _ | with_reducible refine Below.drew ?_ | with_reducible refine Below.setCell ?_ (by first | omega | (simp; omega) | simp) _ | with_reducible refine Below.alloc ?_ (by first | omega | (simp; omega) | simp) _)

set_option maxHeartbeats 2000000 in
theorem fplus_walk (a0 a1 a2 a3 b0 b1 b2 b3 s0 s1 s2 s3 c1 c2 c3 c4 : Nat) (w : World)
    (e0 : ∀ w, (callFunc 119 #[.int .u64 a0, .int .u64 b0, .int .u64 0]).run Tryz.prog w = .ok (.value (.tuple #[.int .u64 s0, .int .u64 c1])) w)
    (e1 : ∀ w, (callFunc 119 #[.int .u64 a1, .int .u64 b1, .int .u64 c1]).run Tryz.prog w = .ok (.value (.tuple #[.int .u64 s1, .int .u64 c2])) w)
    (e2 : ∀ w, (callFunc 119 #[.int .u64 a2, .int .u64 b2, .int .u64 c2]).run Tryz.prog w = .ok (.value (.tuple #[.int .u64 s2, .int .u64 c3])) w)
    (e3 : ∀ w, (callFunc 119 #[.int .u64 a3, .int .u64 b3, .int .u64 c3]).run Tryz.prog w = .ok (.value (.tuple #[.int .u64 s3, .int .u64 c4])) w) :
    Calls Tryz.prog 96 #[.agg #[.int .u64 a0, .int .u64 a1, .int .u64 a2, .int .u64 a3], .agg #[.int .u64 b0, .int .u64 b1, .int .u64 b2, .int .u64 b3]] w fun e w' =>
      e = .returned (.agg #[.int .u64 s0, .int .u64 s1, .int .u64 s2, .int .u64 s3]) ∧ Below w.heap.size w w' := by
  go_enter Tryz.func96, Tryz.ntmps96
  go_wp2
  refine bodyPost_ret (v := .agg #[.int .u64 s0, .int .u64 s1, .int .u64 s2, .int .u64 s3]) (by simp [results, Tryz.results96, go_sem]) rfl ⟨rfl, ?_⟩
  repeat (first | with_reducible exact Below.refl _ _ | with_reducible refine Below.drew ?_ | with_reducible refine Below.setCell ?_ (by first | omega | (simp; omega) | simp) _ | with_reducible refine Below.alloc ?_ (by first | omega | (simp; omega) | simp) _)

set_option maxHeartbeats 2000000 in
theorem fminus_walk (a0 a1 a2 a3 b0 b1 b2 b3 s0 s1 s2 s3 c1 c2 c3 c4 : Nat) (w : World)
    (e0 : ∀ w, (callFunc 112 #[.int .u64 a0, .int .u64 b0, .int .u64 0]).run Tryz.prog w = .ok (.value (.tuple #[.int .u64 s0, .int .u64 c1])) w)
    (e1 : ∀ w, (callFunc 112 #[.int .u64 a1, .int .u64 b1, .int .u64 c1]).run Tryz.prog w = .ok (.value (.tuple #[.int .u64 s1, .int .u64 c2])) w)
    (e2 : ∀ w, (callFunc 112 #[.int .u64 a2, .int .u64 b2, .int .u64 c2]).run Tryz.prog w = .ok (.value (.tuple #[.int .u64 s2, .int .u64 c3])) w)
    (e3 : ∀ w, (callFunc 112 #[.int .u64 a3, .int .u64 b3, .int .u64 c3]).run Tryz.prog w = .ok (.value (.tuple #[.int .u64 s3, .int .u64 c4])) w) :
    Calls Tryz.prog 95 #[.agg #[.int .u64 a0, .int .u64 a1, .int .u64 a2, .int .u64 a3], .agg #[.int .u64 b0, .int .u64 b1, .int .u64 b2, .int .u64 b3]] w fun e w' =>
      e = .returned (.tuple #[.agg #[.int .u64 s0, .int .u64 s1, .int .u64 s2, .int .u64 s3], .bool ((c4 : Int) != 0)]) ∧ Below w.heap.size w w' := by
  go_enter Tryz.func95, Tryz.ntmps95
  go_wp2
  refine bodyPost_ret (v := .tuple #[.agg #[.int .u64 s0, .int .u64 s1, .int .u64 s2, .int .u64 s3], .bool ((c4 : Int) != 0)]) (by simp [results, Tryz.results95, go_sem]) rfl ⟨rfl, ?_⟩
  repeat (first | with_reducible exact Below.refl _ _ | with_reducible refine Below.drew ?_ | with_reducible refine Below.setCell ?_ (by first | omega | (simp; omega) | simp) _ | with_reducible refine Below.alloc ?_ (by first | omega | (simp; omega) | simp) _)

/-- field.plus: the sum without what is above 256 bits. -/
theorem fplus_any (A B : Nat) (hA : A < 115792089237316195423570985008687907853269984665640564039457584007913129639936) (hB : B < 115792089237316195423570985008687907853269984665640564039457584007913129639936) (w : World) :
    Calls Tryz.prog 96 #[.agg #[.int .u64 ((limb 0 (A) : Nat) : Int), .int .u64 ((limb 1 (A) : Nat) : Int), .int .u64 ((limb 2 (A) : Nat) : Int), .int .u64 ((limb 3 (A) : Nat) : Int)], .agg #[.int .u64 ((limb 0 (B) : Nat) : Int), .int .u64 ((limb 1 (B) : Nat) : Int), .int .u64 ((limb 2 (B) : Nat) : Int), .int .u64 ((limb 3 (B) : Nat) : Int)]] w fun e w' => e = .returned (.agg #[.int .u64 ((limb 0 (add256 A B) : Nat) : Int), .int .u64 ((limb 1 (add256 A B) : Nat) : Int), .int .u64 ((limb 2 (add256 A B) : Nat) : Int), .int .u64 ((limb 3 (add256 A B) : Nat) : Int)]) ∧ Below w.heap.size w w' := by
  obtain ⟨c1, c2, c3, c4, p0, q0, r0, p1, q1, r1, p2, q2, r2, p3, q3, r3, hc⟩ := add_limbs A B hA hB
  exact fplus_walk _ _ _ _ _ _ _ _ _ _ _ _ c1 c2 c3 c4 w (run_pair_eq p0 q0 fun w => add64_run _ _ 0 (by decide) w) (run_pair_eq p1 q1 fun w => add64_run _ _ _ r0 w)
    (run_pair_eq p2 q2 fun w => add64_run _ _ _ r1 w) (run_pair_eq p3 q3 fun w => add64_run _ _ _ r2 w)
/-- field.minus: the difference modulo 2^256, and whether it is below 0. -/
theorem fminus_any (A B : Nat) (hA : A < 115792089237316195423570985008687907853269984665640564039457584007913129639936) (hB : B < 115792089237316195423570985008687907853269984665640564039457584007913129639936) (w : World) :
    Calls Tryz.prog 95 #[.agg #[.int .u64 ((limb 0 (A) : Nat) : Int), .int .u64 ((limb 1 (A) : Nat) : Int), .int .u64 ((limb 2 (A) : Nat) : Int), .int .u64 ((limb 3 (A) : Nat) : Int)], .agg #[.int .u64 ((limb 0 (B) : Nat) : Int), .int .u64 ((limb 1 (B) : Nat) : Int), .int .u64 ((limb 2 (B) : Nat) : Int), .int .u64 ((limb 3 (B) : Nat) : Int)]] w fun e w' => e = .returned (.tuple #[.agg #[.int .u64 ((limb 0 (sub256 A B) : Nat) : Int), .int .u64 ((limb 1 (sub256 A B) : Nat) : Int), .int .u64 ((limb 2 (sub256 A B) : Nat) : Int), .int .u64 ((limb 3 (sub256 A B) : Nat) : Int)], .bool (below256 A B)]) ∧ Below w.heap.size w w' := by
  obtain ⟨c1, c2, c3, c4, p0, q0, r0, p1, q1, r1, p2, q2, r2, p3, q3, r3, hc⟩ := sub_limbs A B hA hB
  have ho : below256 A B = ((c4 : Int) != 0) := by
    unfold below256; rw [Bool.eq_iff_iff]; simp only [decide_eq_true_eq, bne_iff_ne]; omega
  rw [ho]
  exact fminus_walk _ _ _ _ _ _ _ _ _ _ _ _ c1 c2 c3 c4 w (run_pair_eq p0 q0 fun w => sub64_run _ _ 0 (by decide) w) (run_pair_eq p1 q1 fun w => sub64_run _ _ _ r0 w)
    (run_pair_eq p2 q2 fun w => sub64_run _ _ _ r1 w) (run_pair_eq p3 q3 fun w => sub64_run _ _ _ r2 w)

/-- What a walk's end is made of, over the worlds it went through. -/
theorem bEnd {w W : World} (h : Below w.heap.size w W) (o : Obj) : Below w.heap.size w (W.alloc o) := h.alloc h.size o

set_option maxHeartbeats 1000000 in
/-- field.isBelow. -/
theorem isBelow_any (A B : Nat) (hA : A < 115792089237316195423570985008687907853269984665640564039457584007913129639936) (hB : B < 115792089237316195423570985008687907853269984665640564039457584007913129639936) (w : World) :
    Calls Tryz.prog 82 #[.agg #[.int .u64 ((limb 0 (A) : Nat) : Int), .int .u64 ((limb 1 (A) : Nat) : Int), .int .u64 ((limb 2 (A) : Nat) : Int), .int .u64 ((limb 3 (A) : Nat) : Int)], .agg #[.int .u64 ((limb 0 (B) : Nat) : Int), .int .u64 ((limb 1 (B) : Nat) : Int), .int .u64 ((limb 2 (B) : Nat) : Int), .int .u64 ((limb 3 (B) : Nat) : Int)]] w fun e w' => e = .returned (.bool (below256 A B)) ∧ Below w.heap.size w w' := by
  go_enter Tryz.func82, Tryz.ntmps82
  go_wp2_with fail
  have hb0 : Below w.heap.size w ((w.alloc (.cells #[.int .u64 ((limb 0 (A) : Nat) : Int), .int .u64 ((limb 1 (A) : Nat) : Int), .int .u64 ((limb 2 (A) : Nat) : Int), .int .u64 ((limb 3 (A) : Nat) : Int)] 63)).alloc (.cells #[.int .u64 ((limb 0 (B) : Nat) : Int), .int .u64 ((limb 1 (B) : Nat) : Int), .int .u64 ((limb 2 (B) : Nat) : Int), .int .u64 ((limb 3 (B) : Nat) : Int)] 63)) := by
    repeat (first | with_reducible exact Below.refl _ _ | with_reducible refine Below.alloc ?_ (by first | omega | (simp; omega) | simp) _)
  refine (fminus_any A B hA hB _).mono ?_
  rintro e w1 ⟨rfl, hb1⟩
  have hbw1 := bStep hb0 hb1
  go_wp2
  go_ret
  first | exact ⟨rfl, hbw1⟩ | exact ⟨rfl, bEnd hbw1 _⟩

end Go.Proofs.YtaeembdabnomaaaGreatDoor
