/- What field's small functions over numbers of four words do: numberOf, elem, plus, minus, isBelow. -/
import Derived.Test.YtfbfenljfdnggaaGreatDoorVWM
import Derived.Deep.QuietTactic
import Derived.Deep.RegionHeld3
import Derived.BigQuiet
namespace Go.Proofs.YtfbfenljfdnggaaGreatDoor
open Go.RowKit
theorem cell_old (W : World) (ob : Obj) (b o : Nat) (h : b < W.heap.size) : (W.alloc ob).cell? ⟨b, o, none⟩ = W.cell? ⟨b, o, none⟩ :=
  (((Below.refl W.heap.size W).alloc (Nat.le_refl _) ob).cell (p := ⟨b, o, none⟩) h)
section
variable {W w1 : World} {n1 n2 n3 n4 n5 : Nat} {f1 f2 f3 f4 f5 : Nat → Nat}
theorem hold2 (hb : Below W.heap.size W w1) (h : (∀ i, i < 4 → W.cell? ⟨n1, i, none⟩ = some (.int .u64 ((f1 i : Nat) : Int))) ∧ (∀ i, i < 4 → W.cell? ⟨n2, i, none⟩ = some (.int .u64 ((f2 i : Nat) : Int)))) : (∀ i, i < 4 → w1.cell? ⟨n1, i, none⟩ = some (.int .u64 ((f1 i : Nat) : Int))) ∧ (∀ i, i < 4 → w1.cell? ⟨n2, i, none⟩ = some (.int .u64 ((f2 i : Nat) : Int))) := ⟨cells_below hb h.1, cells_below hb h.2⟩
theorem hold3 (hb : Below W.heap.size W w1) (h : (∀ i, i < 4 → W.cell? ⟨n1, i, none⟩ = some (.int .u64 ((f1 i : Nat) : Int))) ∧ (∀ i, i < 4 → W.cell? ⟨n2, i, none⟩ = some (.int .u64 ((f2 i : Nat) : Int))) ∧ (∀ i, i < 4 → W.cell? ⟨n3, i, none⟩ = some (.int .u64 ((f3 i : Nat) : Int)))) : (∀ i, i < 4 → w1.cell? ⟨n1, i, none⟩ = some (.int .u64 ((f1 i : Nat) : Int))) ∧ (∀ i, i < 4 → w1.cell? ⟨n2, i, none⟩ = some (.int .u64 ((f2 i : Nat) : Int))) ∧ (∀ i, i < 4 → w1.cell? ⟨n3, i, none⟩ = some (.int .u64 ((f3 i : Nat) : Int))) := ⟨cells_below hb h.1, cells_below hb h.2.1, cells_below hb h.2.2⟩
theorem hold4 (hb : Below W.heap.size W w1) (h : (∀ i, i < 4 → W.cell? ⟨n1, i, none⟩ = some (.int .u64 ((f1 i : Nat) : Int))) ∧ (∀ i, i < 4 → W.cell? ⟨n2, i, none⟩ = some (.int .u64 ((f2 i : Nat) : Int))) ∧ (∀ i, i < 4 → W.cell? ⟨n3, i, none⟩ = some (.int .u64 ((f3 i : Nat) : Int))) ∧ (∀ i, i < 4 → W.cell? ⟨n4, i, none⟩ = some (.int .u64 ((f4 i : Nat) : Int)))) : (∀ i, i < 4 → w1.cell? ⟨n1, i, none⟩ = some (.int .u64 ((f1 i : Nat) : Int))) ∧ (∀ i, i < 4 → w1.cell? ⟨n2, i, none⟩ = some (.int .u64 ((f2 i : Nat) : Int))) ∧ (∀ i, i < 4 → w1.cell? ⟨n3, i, none⟩ = some (.int .u64 ((f3 i : Nat) : Int))) ∧ (∀ i, i < 4 → w1.cell? ⟨n4, i, none⟩ = some (.int .u64 ((f4 i : Nat) : Int))) := ⟨cells_below hb h.1, cells_below hb h.2.1, cells_below hb h.2.2.1, cells_below hb h.2.2.2⟩
theorem far1 {r : Nat} (v0 v1 v2 v3 : Value) (g1 : r ≠ n1) (h : (∀ i, i < 4 → W.cell? ⟨n1, i, none⟩ = some (.int .u64 ((f1 i : Nat) : Int)))) : (∀ i, i < 4 → ((((W.setCell ⟨r, 0, none⟩ v0).setCell ⟨r, 1, none⟩ v1).setCell ⟨r, 2, none⟩ v2).setCell ⟨r, 3, none⟩ v3).cell? ⟨n1, i, none⟩ = some (.int .u64 ((f1 i : Nat) : Int))) := cells_far4 v0 v1 v2 v3 g1 h
theorem far2 {r : Nat} (v0 v1 v2 v3 : Value) (g1 : r ≠ n1) (g2 : r ≠ n2) (h : (∀ i, i < 4 → W.cell? ⟨n1, i, none⟩ = some (.int .u64 ((f1 i : Nat) : Int))) ∧ (∀ i, i < 4 → W.cell? ⟨n2, i, none⟩ = some (.int .u64 ((f2 i : Nat) : Int)))) : (∀ i, i < 4 → ((((W.setCell ⟨r, 0, none⟩ v0).setCell ⟨r, 1, none⟩ v1).setCell ⟨r, 2, none⟩ v2).setCell ⟨r, 3, none⟩ v3).cell? ⟨n1, i, none⟩ = some (.int .u64 ((f1 i : Nat) : Int))) ∧ (∀ i, i < 4 → ((((W.setCell ⟨r, 0, none⟩ v0).setCell ⟨r, 1, none⟩ v1).setCell ⟨r, 2, none⟩ v2).setCell ⟨r, 3, none⟩ v3).cell? ⟨n2, i, none⟩ = some (.int .u64 ((f2 i : Nat) : Int))) := ⟨cells_far4 v0 v1 v2 v3 g1 h.1, cells_far4 v0 v1 v2 v3 g2 h.2⟩
theorem far3 {r : Nat} (v0 v1 v2 v3 : Value) (g1 : r ≠ n1) (g2 : r ≠ n2) (g3 : r ≠ n3) (h : (∀ i, i < 4 → W.cell? ⟨n1, i, none⟩ = some (.int .u64 ((f1 i : Nat) : Int))) ∧ (∀ i, i < 4 → W.cell? ⟨n2, i, none⟩ = some (.int .u64 ((f2 i : Nat) : Int))) ∧ (∀ i, i < 4 → W.cell? ⟨n3, i, none⟩ = some (.int .u64 ((f3 i : Nat) : Int)))) : (∀ i, i < 4 → ((((W.setCell ⟨r, 0, none⟩ v0).setCell ⟨r, 1, none⟩ v1).setCell ⟨r, 2, none⟩ v2).setCell ⟨r, 3, none⟩ v3).cell? ⟨n1, i, none⟩ = some (.int .u64 ((f1 i : Nat) : Int))) ∧ (∀ i, i < 4 → ((((W.setCell ⟨r, 0, none⟩ v0).setCell ⟨r, 1, none⟩ v1).setCell ⟨r, 2, none⟩ v2).setCell ⟨r, 3, none⟩ v3).cell? ⟨n2, i, none⟩ = some (.int .u64 ((f2 i : Nat) : Int))) ∧ (∀ i, i < 4 → ((((W.setCell ⟨r, 0, none⟩ v0).setCell ⟨r, 1, none⟩ v1).setCell ⟨r, 2, none⟩ v2).setCell ⟨r, 3, none⟩ v3).cell? ⟨n3, i, none⟩ = some (.int .u64 ((f3 i : Nat) : Int))) := ⟨cells_far4 v0 v1 v2 v3 g1 h.1, cells_far4 v0 v1 v2 v3 g2 h.2.1, cells_far4 v0 v1 v2 v3 g3 h.2.2⟩
theorem far4 {r : Nat} (v0 v1 v2 v3 : Value) (g1 : r ≠ n1) (g2 : r ≠ n2) (g3 : r ≠ n3) (g4 : r ≠ n4) (h : (∀ i, i < 4 → W.cell? ⟨n1, i, none⟩ = some (.int .u64 ((f1 i : Nat) : Int))) ∧ (∀ i, i < 4 → W.cell? ⟨n2, i, none⟩ = some (.int .u64 ((f2 i : Nat) : Int))) ∧ (∀ i, i < 4 → W.cell? ⟨n3, i, none⟩ = some (.int .u64 ((f3 i : Nat) : Int))) ∧ (∀ i, i < 4 → W.cell? ⟨n4, i, none⟩ = some (.int .u64 ((f4 i : Nat) : Int)))) : (∀ i, i < 4 → ((((W.setCell ⟨r, 0, none⟩ v0).setCell ⟨r, 1, none⟩ v1).setCell ⟨r, 2, none⟩ v2).setCell ⟨r, 3, none⟩ v3).cell? ⟨n1, i, none⟩ = some (.int .u64 ((f1 i : Nat) : Int))) ∧ (∀ i, i < 4 → ((((W.setCell ⟨r, 0, none⟩ v0).setCell ⟨r, 1, none⟩ v1).setCell ⟨r, 2, none⟩ v2).setCell ⟨r, 3, none⟩ v3).cell? ⟨n2, i, none⟩ = some (.int .u64 ((f2 i : Nat) : Int))) ∧ (∀ i, i < 4 → ((((W.setCell ⟨r, 0, none⟩ v0).setCell ⟨r, 1, none⟩ v1).setCell ⟨r, 2, none⟩ v2).setCell ⟨r, 3, none⟩ v3).cell? ⟨n3, i, none⟩ = some (.int .u64 ((f3 i : Nat) : Int))) ∧ (∀ i, i < 4 → ((((W.setCell ⟨r, 0, none⟩ v0).setCell ⟨r, 1, none⟩ v1).setCell ⟨r, 2, none⟩ v2).setCell ⟨r, 3, none⟩ v3).cell? ⟨n4, i, none⟩ = some (.int .u64 ((f4 i : Nat) : Int))) := ⟨cells_far4 v0 v1 v2 v3 g1 h.1, cells_far4 v0 v1 v2 v3 g2 h.2.1, cells_far4 v0 v1 v2 v3 g3 h.2.2.1, cells_far4 v0 v1 v2 v3 g4 h.2.2.2⟩
end
set_option maxHeartbeats 1000000 in
/-- field.numberOf: the same words. -/
theorem numberOf_any (A : Nat) (w : World) :
    Calls Tryz.prog 124 #[.agg #[.int .u64 ((limb 0 (A) : Nat) : Int), .int .u64 ((limb 1 (A) : Nat) : Int), .int .u64 ((limb 2 (A) : Nat) : Int), .int .u64 ((limb 3 (A) : Nat) : Int)]] w fun e w' => e = .returned (.agg #[.int .u64 ((limb 0 (A) : Nat) : Int), .int .u64 ((limb 1 (A) : Nat) : Int), .int .u64 ((limb 2 (A) : Nat) : Int), .int .u64 ((limb 3 (A) : Nat) : Int)]) ∧ Below w.heap.size w w' := by
  go_enter Tryz.func124, Tryz.ntmps124
  go_wp2
  refine bodyPost_ret (v := .agg #[.int .u64 ((limb 0 (A) : Nat) : Int), .int .u64 ((limb 1 (A) : Nat) : Int), .int .u64 ((limb 2 (A) : Nat) : Int), .int .u64 ((limb 3 (A) : Nat) : Int)]) (by simp [results, Tryz.results124, go_sem]) rfl ⟨rfl, ?_⟩
  repeat (first | with_reducible exact Below.refl _ _ | with_reducible refine Below.drew ?_ | with_reducible refine Below.setCell ?_ (by first | omega | (simp; omega) | simp) _ | with_reducible refine Below.alloc ?_ (by first | omega | (simp; omega) | simp) _)
set_option maxHeartbeats 1000000 in
/-- field's elem: the same words. -/
theorem toElem_any (A : Nat) (w : World) :
    Calls Tryz.prog 84 #[.agg #[.int .u64 ((limb 0 (A) : Nat) : Int), .int .u64 ((limb 1 (A) : Nat) : Int), .int .u64 ((limb 2 (A) : Nat) : Int), .int .u64 ((limb 3 (A) : Nat) : Int)]] w fun e w' => e = .returned (.agg #[.int .u64 ((limb 0 (A) : Nat) : Int), .int .u64 ((limb 1 (A) : Nat) : Int), .int .u64 ((limb 2 (A) : Nat) : Int), .int .u64 ((limb 3 (A) : Nat) : Int)]) ∧ Below w.heap.size w w' := by
  go_enter Tryz.func84, Tryz.ntmps84
  go_wp2
  refine bodyPost_ret (v := .agg #[.int .u64 ((limb 0 (A) : Nat) : Int), .int .u64 ((limb 1 (A) : Nat) : Int), .int .u64 ((limb 2 (A) : Nat) : Int), .int .u64 ((limb 3 (A) : Nat) : Int)]) (by simp [results, Tryz.results84, go_sem]) rfl ⟨rfl, ?_⟩
  repeat (first | with_reducible exact Below.refl _ _ | with_reducible refine Below.drew ?_ | with_reducible refine Below.setCell ?_ (by first | omega | (simp; omega) | simp) _ | with_reducible refine Below.alloc ?_ (by first | omega | (simp; omega) | simp) _)
set_option maxHeartbeats 2000000 in
theorem fplus_walk (a0 a1 a2 a3 b0 b1 b2 b3 s0 s1 s2 s3 c1 c2 c3 c4 : Nat) (w : World)
    (e0 : ∀ w, (callFunc 153 #[.int .u64 a0, .int .u64 b0, .int .u64 0]).run Tryz.prog w = .ok (.value (.tuple #[.int .u64 s0, .int .u64 c1])) w)
    (e1 : ∀ w, (callFunc 153 #[.int .u64 a1, .int .u64 b1, .int .u64 c1]).run Tryz.prog w = .ok (.value (.tuple #[.int .u64 s1, .int .u64 c2])) w)
    (e2 : ∀ w, (callFunc 153 #[.int .u64 a2, .int .u64 b2, .int .u64 c2]).run Tryz.prog w = .ok (.value (.tuple #[.int .u64 s2, .int .u64 c3])) w)
    (e3 : ∀ w, (callFunc 153 #[.int .u64 a3, .int .u64 b3, .int .u64 c3]).run Tryz.prog w = .ok (.value (.tuple #[.int .u64 s3, .int .u64 c4])) w) :
    Calls Tryz.prog 123 #[.agg #[.int .u64 a0, .int .u64 a1, .int .u64 a2, .int .u64 a3], .agg #[.int .u64 b0, .int .u64 b1, .int .u64 b2, .int .u64 b3]] w fun e w' =>
      e = .returned (.agg #[.int .u64 s0, .int .u64 s1, .int .u64 s2, .int .u64 s3]) ∧ Below w.heap.size w w' := by
  go_enter Tryz.func123, Tryz.ntmps123
  go_wp2
  refine bodyPost_ret (v := .agg #[.int .u64 s0, .int .u64 s1, .int .u64 s2, .int .u64 s3]) (by simp [results, Tryz.results123, go_sem]) rfl ⟨rfl, ?_⟩
  repeat (first | with_reducible exact Below.refl _ _ | with_reducible refine Below.drew ?_ | with_reducible refine Below.setCell ?_ (by first | omega | (simp; omega) | simp) _ | with_reducible refine Below.alloc ?_ (by first | omega | (simp; omega) | simp) _)
set_option maxHeartbeats 2000000 in
theorem fminus_walk (a0 a1 a2 a3 b0 b1 b2 b3 s0 s1 s2 s3 c1 c2 c3 c4 : Nat) (w : World)
    (e0 : ∀ w, (callFunc 172 #[.int .u64 a0, .int .u64 b0, .int .u64 0]).run Tryz.prog w = .ok (.value (.tuple #[.int .u64 s0, .int .u64 c1])) w)
    (e1 : ∀ w, (callFunc 172 #[.int .u64 a1, .int .u64 b1, .int .u64 c1]).run Tryz.prog w = .ok (.value (.tuple #[.int .u64 s1, .int .u64 c2])) w)
    (e2 : ∀ w, (callFunc 172 #[.int .u64 a2, .int .u64 b2, .int .u64 c2]).run Tryz.prog w = .ok (.value (.tuple #[.int .u64 s2, .int .u64 c3])) w)
    (e3 : ∀ w, (callFunc 172 #[.int .u64 a3, .int .u64 b3, .int .u64 c3]).run Tryz.prog w = .ok (.value (.tuple #[.int .u64 s3, .int .u64 c4])) w) :
    Calls Tryz.prog 145 #[.agg #[.int .u64 a0, .int .u64 a1, .int .u64 a2, .int .u64 a3], .agg #[.int .u64 b0, .int .u64 b1, .int .u64 b2, .int .u64 b3]] w fun e w' =>
      e = .returned (.tuple #[.agg #[.int .u64 s0, .int .u64 s1, .int .u64 s2, .int .u64 s3], .bool ((c4 : Int) != 0)]) ∧ Below w.heap.size w w' := by
  go_enter Tryz.func145, Tryz.ntmps145
  go_wp2
  refine bodyPost_ret (v := .tuple #[.agg #[.int .u64 s0, .int .u64 s1, .int .u64 s2, .int .u64 s3], .bool ((c4 : Int) != 0)]) (by simp [results, Tryz.results145, go_sem]) rfl ⟨rfl, ?_⟩
  repeat (first | with_reducible exact Below.refl _ _ | with_reducible refine Below.drew ?_ | with_reducible refine Below.setCell ?_ (by first | omega | (simp; omega) | simp) _ | with_reducible refine Below.alloc ?_ (by first | omega | (simp; omega) | simp) _)
/-- field.plus: the sum without what is above 256 bits. -/
theorem fplus_any (A B : Nat) (hA : A < 115792089237316195423570985008687907853269984665640564039457584007913129639936) (hB : B < 115792089237316195423570985008687907853269984665640564039457584007913129639936) (w : World) :
    Calls Tryz.prog 123 #[.agg #[.int .u64 ((limb 0 (A) : Nat) : Int), .int .u64 ((limb 1 (A) : Nat) : Int), .int .u64 ((limb 2 (A) : Nat) : Int), .int .u64 ((limb 3 (A) : Nat) : Int)], .agg #[.int .u64 ((limb 0 (B) : Nat) : Int), .int .u64 ((limb 1 (B) : Nat) : Int), .int .u64 ((limb 2 (B) : Nat) : Int), .int .u64 ((limb 3 (B) : Nat) : Int)]] w fun e w' => e = .returned (.agg #[.int .u64 ((limb 0 (add256 A B) : Nat) : Int), .int .u64 ((limb 1 (add256 A B) : Nat) : Int), .int .u64 ((limb 2 (add256 A B) : Nat) : Int), .int .u64 ((limb 3 (add256 A B) : Nat) : Int)]) ∧ Below w.heap.size w w' := by
  obtain ⟨c1, c2, c3, c4, p0, q0, r0, p1, q1, r1, p2, q2, r2, p3, q3, r3, hc⟩ := add_limbs A B hA hB
  exact fplus_walk _ _ _ _ _ _ _ _ _ _ _ _ c1 c2 c3 c4 w (run_pair_eq p0 q0 fun w => add64_run _ _ 0 (by decide) w) (run_pair_eq p1 q1 fun w => add64_run _ _ _ r0 w)
    (run_pair_eq p2 q2 fun w => add64_run _ _ _ r1 w) (run_pair_eq p3 q3 fun w => add64_run _ _ _ r2 w)
/-- field.minus: the difference modulo 2^256, and whether it is below 0. -/
theorem fminus_any (A B : Nat) (hA : A < 115792089237316195423570985008687907853269984665640564039457584007913129639936) (hB : B < 115792089237316195423570985008687907853269984665640564039457584007913129639936) (w : World) :
    Calls Tryz.prog 145 #[.agg #[.int .u64 ((limb 0 (A) : Nat) : Int), .int .u64 ((limb 1 (A) : Nat) : Int), .int .u64 ((limb 2 (A) : Nat) : Int), .int .u64 ((limb 3 (A) : Nat) : Int)], .agg #[.int .u64 ((limb 0 (B) : Nat) : Int), .int .u64 ((limb 1 (B) : Nat) : Int), .int .u64 ((limb 2 (B) : Nat) : Int), .int .u64 ((limb 3 (B) : Nat) : Int)]] w fun e w' => e = .returned (.tuple #[.agg #[.int .u64 ((limb 0 (sub256 A B) : Nat) : Int), .int .u64 ((limb 1 (sub256 A B) : Nat) : Int), .int .u64 ((limb 2 (sub256 A B) : Nat) : Int), .int .u64 ((limb 3 (sub256 A B) : Nat) : Int)], .bool (below256 A B)]) ∧ Below w.heap.size w w' := by
  obtain ⟨c1, c2, c3, c4, p0, q0, r0, p1, q1, r1, p2, q2, r2, p3, q3, r3, hc⟩ := sub_limbs A B hA hB
  have ho : below256 A B = ((c4 : Int) != 0) := by
    unfold below256; rw [Bool.eq_iff_iff]; simp only [decide_eq_true_eq, bne_iff_ne]; omega
  rw [ho]
  exact fminus_walk _ _ _ _ _ _ _ _ _ _ _ _ c1 c2 c3 c4 w (run_pair_eq p0 q0 fun w => sub64_run _ _ 0 (by decide) w) (run_pair_eq p1 q1 fun w => sub64_run _ _ _ r0 w)
    (run_pair_eq p2 q2 fun w => sub64_run _ _ _ r1 w) (run_pair_eq p3 q3 fun w => sub64_run _ _ _ r2 w)
/-- What a walk's end is made of, over the worlds it went through. -/
theorem bEnd {w W : World} (h : Below w.heap.size w W) (o : Obj) : Below w.heap.size w (W.alloc o) := h.alloc h.size o
set_option maxHeartbeats 1000000 in
/-- field.isBelow. -/
theorem isBelow_any (A B : Nat) (hA : A < 115792089237316195423570985008687907853269984665640564039457584007913129639936) (hB : B < 115792089237316195423570985008687907853269984665640564039457584007913129639936) (w : World) :
    Calls Tryz.prog 125 #[.agg #[.int .u64 ((limb 0 (A) : Nat) : Int), .int .u64 ((limb 1 (A) : Nat) : Int), .int .u64 ((limb 2 (A) : Nat) : Int), .int .u64 ((limb 3 (A) : Nat) : Int)], .agg #[.int .u64 ((limb 0 (B) : Nat) : Int), .int .u64 ((limb 1 (B) : Nat) : Int), .int .u64 ((limb 2 (B) : Nat) : Int), .int .u64 ((limb 3 (B) : Nat) : Int)]] w fun e w' => e = .returned (.bool (below256 A B)) ∧ Below w.heap.size w w' := by
  go_enter Tryz.func125, Tryz.ntmps125
  go_wp2_with fail
  have hb0 : Below w.heap.size w ((w.alloc (.cells #[.int .u64 ((limb 0 (A) : Nat) : Int), .int .u64 ((limb 1 (A) : Nat) : Int), .int .u64 ((limb 2 (A) : Nat) : Int), .int .u64 ((limb 3 (A) : Nat) : Int)] 154)).alloc (.cells #[.int .u64 ((limb 0 (B) : Nat) : Int), .int .u64 ((limb 1 (B) : Nat) : Int), .int .u64 ((limb 2 (B) : Nat) : Int), .int .u64 ((limb 3 (B) : Nat) : Int)] 154)) := by
    repeat (first | with_reducible exact Below.refl _ _ | with_reducible refine Below.alloc ?_ (by first | omega | (simp; omega) | simp) _)
  refine (fminus_any A B hA hB _).mono ?_
  rintro e w1 ⟨rfl, hb1⟩
  have hbw1 := bStep hb0 hb1
  go_wp2
  go_ret
  first | exact ⟨rfl, hbw1⟩ | exact ⟨rfl, bEnd hbw1 _⟩
end Go.Proofs.YtfbfenljfdnggaaGreatDoor
/- What field's lessOnce, sum and difference do. -/
namespace Go.Proofs.YtfbfenljfdnggaaGreatDoor
open Go.RowKit
def lessN (m x : Nat) : Nat := if x < m then x else x - m
def diffN (m x y : Nat) : Nat := if x < y then x + m - y else x - y
theorem lessN_mod (m x : Nat) (h : x < 2 * m) : lessN m x = x % m := by
  unfold lessN; split
  · rw [Nat.mod_eq_of_lt (by assumption)]
  · rw [Nat.mod_eq_sub_mod (by omega), Nat.mod_eq_of_lt (by omega)]
theorem sub256_ge (x y : Nat) (hx : x < 115792089237316195423570985008687907853269984665640564039457584007913129639936) (h : y ≤ x) : sub256 x y = x - y := by
  unfold sub256
  rw [show x + 115792089237316195423570985008687907853269984665640564039457584007913129639936 - y = (x - y) + 115792089237316195423570985008687907853269984665640564039457584007913129639936 from by omega, Nat.add_mod_right, Nat.mod_eq_of_lt (by omega)]
theorem add256_lt' (x y : Nat) (h : x + y < 115792089237316195423570985008687907853269984665640564039457584007913129639936) : add256 x y = x + y := Nat.mod_eq_of_lt h
theorem diff_under (m x y : Nat) (hx : x < 115792089237316195423570985008687907853269984665640564039457584007913129639936) (hy : y < 115792089237316195423570985008687907853269984665640564039457584007913129639936) (h : x < y) (hm : y ≤ x + m) (hM : x + m - y < 115792089237316195423570985008687907853269984665640564039457584007913129639936) : add256 (sub256 x y) m = x + m - y := by
  unfold add256 sub256
  rw [Nat.mod_eq_of_lt (show x + 115792089237316195423570985008687907853269984665640564039457584007913129639936 - y < 115792089237316195423570985008687907853269984665640564039457584007913129639936 by omega), show x + 115792089237316195423570985008687907853269984665640564039457584007913129639936 - y + m = (x + m - y) + 115792089237316195423570985008687907853269984665640564039457584007913129639936 from by omega, Nat.add_mod_right, Nat.mod_eq_of_lt hM]
set_option maxHeartbeats 2000000 in
/-- field.lessOnce. -/
theorem lessOnce_any (m x : Nat) (hm : m < 115792089237316195423570985008687907853269984665640564039457584007913129639936) (hx : x < 115792089237316195423570985008687907853269984665640564039457584007913129639936) (w : World) :
    Calls Tryz.prog 122 #[.agg #[.int .u64 ((limb 0 (m) : Nat) : Int), .int .u64 ((limb 1 (m) : Nat) : Int), .int .u64 ((limb 2 (m) : Nat) : Int), .int .u64 ((limb 3 (m) : Nat) : Int)], .agg #[.int .u64 ((limb 0 (x) : Nat) : Int), .int .u64 ((limb 1 (x) : Nat) : Int), .int .u64 ((limb 2 (x) : Nat) : Int), .int .u64 ((limb 3 (x) : Nat) : Int)]] w fun e w' => e = .returned (.agg #[.int .u64 ((limb 0 (lessN m x) : Nat) : Int), .int .u64 ((limb 1 (lessN m x) : Nat) : Int), .int .u64 ((limb 2 (lessN m x) : Nat) : Int), .int .u64 ((limb 3 (lessN m x) : Nat) : Int)]) ∧ Below w.heap.size w w' := by
  go_enter Tryz.func122, Tryz.ntmps122
  go_wp2_with fail
  obtain ⟨w0, hw0⟩ : ∃ w0 : World, w0 = ((w.alloc (.cells #[.int .u64 ((limb 0 (m) : Nat) : Int), .int .u64 ((limb 1 (m) : Nat) : Int), .int .u64 ((limb 2 (m) : Nat) : Int), .int .u64 ((limb 3 (m) : Nat) : Int)] 154)).alloc (.cells #[.int .u64 ((limb 0 (x) : Nat) : Int), .int .u64 ((limb 1 (x) : Nat) : Int), .int .u64 ((limb 2 (x) : Nat) : Int), .int .u64 ((limb 3 (x) : Nat) : Int)] 154)).alloc (.cells #[.int .u64 0, .int .u64 0, .int .u64 0, .int .u64 0] 154) := ⟨_, rfl⟩
  have bx0 : Blk w0 154 (w.heap.size + 1) (fun i => limb i x) := by rw [hw0]; exact (Blk.newAt _ _ _ (fun i => limb i x) (by simp)).alloc _
  have br0 : Blk w0 154 (w.heap.size + 1 + 1) (fun _ => 0) := by rw [hw0]; exact Blk.newAt _ _ _ (fun _ => 0) (by simp)
  have hb0 : Below w.heap.size w w0 := by
    rw [hw0]
    repeat (first | with_reducible exact Below.refl _ _ | with_reducible refine Below.alloc ?_ (by first | omega | (simp; omega) | simp) _)
  rw [← hw0]
  clear hw0
  refine (fminus_any x m hx hm _).mono ?_
  rintro e w1 ⟨rfl, hb1⟩
  have bx1 := bx0.belowAll hb1; have br1 := br0.belowAll hb1
  have hbw1 := bStep hb0 hb1
  clear bx0 br0 hb0 hb1
  have cx := bx1.cell; have cr := br1.cell; have fr := br1.frozen; have lx := bx1.lt; have lr := br1.lt
  obtain ⟨hA, hG⟩ := acell (w := w1) (n := w1.heap.size) (Nat.le_refl _)
  by_cases h : x < m
  · rw [show below256 x m = true from by simp [below256, h]]
    have E1 : Hid (lessN m x = x) := by show _ = _; unfold lessN; rw [if_pos h]
    clear h
    go_wp2
    refine bodyPost_ret (v := .agg #[.int .u64 ((limb 0 (x) : Nat) : Int), .int .u64 ((limb 1 (x) : Nat) : Int), .int .u64 ((limb 2 (x) : Nat) : Int), .int .u64 ((limb 3 (x) : Nat) : Int)]) (by simp [results, Tryz.results122, go_sem, cr, cell_old, lr]) rfl ⟨by rw [E1.out], ?_⟩
    have hz1 := hbw1.size
    repeat (first | with_reducible exact hbw1 | with_reducible refine Below.setCell ?_ (by first | omega | (simp; omega) | simp) _ | with_reducible refine Below.alloc ?_ (by first | omega | (simp; omega) | simp) _)
  · rw [show below256 x m = false from by simp [below256]; omega]
    have E1 : Hid (lessN m x = sub256 x m) := by show _ = _; unfold lessN; rw [if_neg h, sub256_ge x m hx (by omega)]
    clear h
    go_wp2
    refine bodyPost_ret (v := .agg #[.int .u64 ((limb 0 (sub256 x m) : Nat) : Int), .int .u64 ((limb 1 (sub256 x m) : Nat) : Int), .int .u64 ((limb 2 (sub256 x m) : Nat) : Int), .int .u64 ((limb 3 (sub256 x m) : Nat) : Int)]) (by simp [results, Tryz.results122, go_sem, cr, cell_old, lr]) rfl ⟨by rw [E1.out], ?_⟩
    have hz1 := hbw1.size
    repeat (first | with_reducible exact hbw1 | with_reducible refine Below.setCell ?_ (by first | omega | (simp; omega) | simp) _ | with_reducible refine Below.alloc ?_ (by first | omega | (simp; omega) | simp) _)
set_option maxHeartbeats 2000000 in
/-- field.difference. -/
theorem difference_any (m x y : Nat) (hm : m < 115792089237316195423570985008687907853269984665640564039457584007913129639936) (hx : x < 115792089237316195423570985008687907853269984665640564039457584007913129639936) (hy : y < 115792089237316195423570985008687907853269984665640564039457584007913129639936) (hd : y ≤ x + m) (w : World) :
    Calls Tryz.prog 115 #[.agg #[.int .u64 ((limb 0 (m) : Nat) : Int), .int .u64 ((limb 1 (m) : Nat) : Int), .int .u64 ((limb 2 (m) : Nat) : Int), .int .u64 ((limb 3 (m) : Nat) : Int)], .agg #[.int .u64 ((limb 0 (x) : Nat) : Int), .int .u64 ((limb 1 (x) : Nat) : Int), .int .u64 ((limb 2 (x) : Nat) : Int), .int .u64 ((limb 3 (x) : Nat) : Int)], .agg #[.int .u64 ((limb 0 (y) : Nat) : Int), .int .u64 ((limb 1 (y) : Nat) : Int), .int .u64 ((limb 2 (y) : Nat) : Int), .int .u64 ((limb 3 (y) : Nat) : Int)]] w fun e w' => e = .returned (.agg #[.int .u64 ((limb 0 (diffN m x y) : Nat) : Int), .int .u64 ((limb 1 (diffN m x y) : Nat) : Int), .int .u64 ((limb 2 (diffN m x y) : Nat) : Int), .int .u64 ((limb 3 (diffN m x y) : Nat) : Int)]) ∧ Below w.heap.size w w' := by
  go_enter Tryz.func115, Tryz.ntmps115
  go_wp2_with fail
  obtain ⟨w0, hw0⟩ : ∃ w0 : World, w0 = (((w.alloc (.cells #[.int .u64 ((limb 0 (m) : Nat) : Int), .int .u64 ((limb 1 (m) : Nat) : Int), .int .u64 ((limb 2 (m) : Nat) : Int), .int .u64 ((limb 3 (m) : Nat) : Int)] 154)).alloc (.cells #[.int .u64 ((limb 0 (x) : Nat) : Int), .int .u64 ((limb 1 (x) : Nat) : Int), .int .u64 ((limb 2 (x) : Nat) : Int), .int .u64 ((limb 3 (x) : Nat) : Int)] 154)).alloc (.cells #[.int .u64 ((limb 0 (y) : Nat) : Int), .int .u64 ((limb 1 (y) : Nat) : Int), .int .u64 ((limb 2 (y) : Nat) : Int), .int .u64 ((limb 3 (y) : Nat) : Int)] 154)).alloc (.cells #[.int .u64 0, .int .u64 0, .int .u64 0, .int .u64 0] 154) := ⟨_, rfl⟩
  have bm0 : Blk w0 154 w.heap.size (fun i => limb i m) := by rw [hw0]; exact (((Blk.newAt _ _ _ (fun i => limb i m) (by simp)).alloc _).alloc _).alloc _
  have br0 : Blk w0 154 (w.heap.size + 1 + 1 + 1) (fun _ => 0) := by rw [hw0]; exact Blk.newAt _ _ _ (fun _ => 0) (by simp)
  have hb0 : Below w.heap.size w w0 := by
    rw [hw0]
    repeat (first | with_reducible exact Below.refl _ _ | with_reducible refine Below.alloc ?_ (by first | omega | (simp; omega) | simp) _)
  rw [← hw0]
  clear hw0
  refine (fminus_any x y hx hy _).mono ?_
  rintro e w1 ⟨rfl, hb1⟩
  have bm1 := bm0.belowAll hb1; have br1 := br0.belowAll hb1
  have hbw1 := bStep hb0 hb1
  clear bm0 br0 hb0 hb1
  have cm := bm1.cell; have cr := br1.cell; have fr := br1.frozen; have lm := bm1.lt; have lr := br1.lt
  obtain ⟨hA, hG⟩ := acell (w := w1) (n := w1.heap.size) (Nat.le_refl _)
  by_cases h : x < y
  · rw [show below256 x y = true from by simp [below256, h]]
    have E1 : Hid (diffN m x y = add256 (sub256 x y) m) := by show _ = _; unfold diffN; rw [if_pos h, diff_under m x y hx hy h hd (by omega)]
    clear h
    go_wp2_with fail
    refine (fplus_any (sub256 x y) m (sub256_lt _ _) hm _).mono ?_
    rintro e w2 ⟨rfl, hb2⟩
    have br2 := (br1.alloc _).belowAll hb2
    have hbw2 := bStep (bAlloc hbw1 _) hb2
    clear cm cr fr bm1 br1 hbw1 hb2 hA hG
    have cr := br2.cell; have fr := br2.frozen
    go_wp2
    refine bodyPost_ret (v := .agg #[.int .u64 ((limb 0 (add256 (sub256 x y) m) : Nat) : Int), .int .u64 ((limb 1 (add256 (sub256 x y) m) : Nat) : Int), .int .u64 ((limb 2 (add256 (sub256 x y) m) : Nat) : Int), .int .u64 ((limb 3 (add256 (sub256 x y) m) : Nat) : Int)]) (by simp [results, Tryz.results115, go_sem, cr]) rfl ⟨by rw [E1.out], ?_⟩
    repeat (first | with_reducible exact hbw2 | with_reducible refine Below.setCell ?_ (by first | omega | (simp; omega) | simp) _)
  · rw [show below256 x y = false from by simp [below256]; omega]
    have E1 : Hid (diffN m x y = sub256 x y) := by show _ = _; unfold diffN; rw [if_neg h, sub256_ge x y hx (by omega)]
    clear h
    go_wp2
    refine bodyPost_ret (v := .agg #[.int .u64 ((limb 0 (sub256 x y) : Nat) : Int), .int .u64 ((limb 1 (sub256 x y) : Nat) : Int), .int .u64 ((limb 2 (sub256 x y) : Nat) : Int), .int .u64 ((limb 3 (sub256 x y) : Nat) : Int)]) (by simp [results, Tryz.results115, go_sem, cr, cell_old, lr]) rfl ⟨by rw [E1.out], ?_⟩
    have hz1 := hbw1.size
    repeat (first | with_reducible exact hbw1 | with_reducible refine Below.setCell ?_ (by first | omega | (simp; omega) | simp) _ | with_reducible refine Below.alloc ?_ (by first | omega | (simp; omega) | simp) _)
set_option maxHeartbeats 2000000 in
/-- field.sum. -/
theorem sum_any (m x y : Nat) (hm : 2 * m ≤ 115792089237316195423570985008687907853269984665640564039457584007913129639936) (hx : x < m) (hy : y < m) (w : World) :
    Calls Tryz.prog 88 #[.agg #[.int .u64 ((limb 0 (m) : Nat) : Int), .int .u64 ((limb 1 (m) : Nat) : Int), .int .u64 ((limb 2 (m) : Nat) : Int), .int .u64 ((limb 3 (m) : Nat) : Int)], .agg #[.int .u64 ((limb 0 (x) : Nat) : Int), .int .u64 ((limb 1 (x) : Nat) : Int), .int .u64 ((limb 2 (x) : Nat) : Int), .int .u64 ((limb 3 (x) : Nat) : Int)], .agg #[.int .u64 ((limb 0 (y) : Nat) : Int), .int .u64 ((limb 1 (y) : Nat) : Int), .int .u64 ((limb 2 (y) : Nat) : Int), .int .u64 ((limb 3 (y) : Nat) : Int)]] w fun e w' => e = .returned (.agg #[.int .u64 ((limb 0 ((x + y) % m) : Nat) : Int), .int .u64 ((limb 1 ((x + y) % m) : Nat) : Int), .int .u64 ((limb 2 ((x + y) % m) : Nat) : Int), .int .u64 ((limb 3 ((x + y) % m) : Nat) : Int)]) ∧ Below w.heap.size w w' := by
  go_enter Tryz.func88, Tryz.ntmps88
  go_wp2_with fail
  obtain ⟨w0, hw0⟩ : ∃ w0 : World, w0 = (((w.alloc (.cells #[.int .u64 ((limb 0 (m) : Nat) : Int), .int .u64 ((limb 1 (m) : Nat) : Int), .int .u64 ((limb 2 (m) : Nat) : Int), .int .u64 ((limb 3 (m) : Nat) : Int)] 154)).alloc (.cells #[.int .u64 ((limb 0 (x) : Nat) : Int), .int .u64 ((limb 1 (x) : Nat) : Int), .int .u64 ((limb 2 (x) : Nat) : Int), .int .u64 ((limb 3 (x) : Nat) : Int)] 154)).alloc (.cells #[.int .u64 ((limb 0 (y) : Nat) : Int), .int .u64 ((limb 1 (y) : Nat) : Int), .int .u64 ((limb 2 (y) : Nat) : Int), .int .u64 ((limb 3 (y) : Nat) : Int)] 154)).alloc (.cells #[.int .u64 0, .int .u64 0, .int .u64 0, .int .u64 0] 154) := ⟨_, rfl⟩
  have bm0 : Blk w0 154 w.heap.size (fun i => limb i m) := by rw [hw0]; exact (((Blk.newAt _ _ _ (fun i => limb i m) (by simp)).alloc _).alloc _).alloc _
  have bx0 : Blk w0 154 (w.heap.size + 1) (fun i => limb i x) := by rw [hw0]; exact ((Blk.newAt _ _ _ (fun i => limb i x) (by simp)).alloc _).alloc _
  have by0 : Blk w0 154 (w.heap.size + 1 + 1) (fun i => limb i y) := by rw [hw0]; exact (Blk.newAt _ _ _ (fun i => limb i y) (by simp)).alloc _
  have br0 : Blk w0 154 (w.heap.size + 1 + 1 + 1) (fun _ => 0) := by rw [hw0]; exact Blk.newAt _ _ _ (fun _ => 0) (by simp)
  have hb0 : Below w.heap.size w w0 := by
    rw [hw0]
    repeat (first | with_reducible exact Below.refl _ _ | with_reducible refine Below.alloc ?_ (by first | omega | (simp; omega) | simp) _)
  rw [← hw0]
  clear hw0
  have E1 : Hid (lessN m (add256 x y) = (x + y) % m) := by show _ = _; rw [add256_lt' x y (by omega), lessN_mod m _ (by omega)]
  go_region_held3 (fun w' => (∀ i, i < 4 → w'.cell? ⟨w.heap.size, i, none⟩ = some (.int .u64 ((limb i m : Nat) : Int))) ∧ (∀ i, i < 4 → w'.cell? ⟨w.heap.size + 1, i, none⟩ = some (.int .u64 ((limb i x : Nat) : Int))) ∧ (∀ i, i < 4 → w'.cell? ⟨w.heap.size + 1 + 1, i, none⟩ = some (.int .u64 ((limb i y : Nat) : Int))))
    (first | with_reducible exact far3 _ _ _ _ (by omega) (by omega) (by omega) (by with_reducible assumption) | with_reducible exact hold3 hb2 (by with_reducible assumption) | with_reducible exact hold3 hb1 (by with_reducible assumption) | with_reducible exact ⟨bm0.drew.cell, bx0.drew.cell, by0.drew.cell⟩)
    (first | (go_at_call 123; with_reducible refine (fplus_any x y (by omega) (by omega) _).mono ?_; rintro e w1 ⟨rfl, hb1⟩) | (go_at_call 122; with_reducible refine (lessOnce_any m (add256 x y) (by omega) (add256_lt x y) _).mono ?_; rintro e w2 ⟨rfl, hb2⟩; have br2 := (br0.drew.belowAll hb1).belowAll hb2; have cr := br2.cell; have fr := br2.frozen) | fail)
  have hbw2 := bStep (bStep hb0.drew hb1) hb2
  have lr := br2.lt
  go_wp2
  refine bodyPost_ret (v := .agg #[.int .u64 ((limb 0 (lessN m (add256 x y)) : Nat) : Int), .int .u64 ((limb 1 (lessN m (add256 x y)) : Nat) : Int), .int .u64 ((limb 2 (lessN m (add256 x y)) : Nat) : Int), .int .u64 ((limb 3 (lessN m (add256 x y)) : Nat) : Int)]) (by simp [results, Tryz.results88, go_sem, cr]) rfl ⟨by rw [E1.out], ?_⟩
  repeat (first | with_reducible exact hbw2 | with_reducible refine Below.setCell ?_ (by first | omega | (simp; omega) | simp) _)
end Go.Proofs.YtfbfenljfdnggaaGreatDoor
/- What field.addRow does: a number and another one times a word. -/
namespace Go.Proofs.YtfbfenljfdnggaaGreatDoor
open Go.RowKit
theorem row_lin (n0 n1 n2 n3 l0 l1 l2 l3 h0 h1 h2 h3 a1 a2 a3 c1 c2 c3 t b0 b1 b2 b3 d1 d2 d3 d4 : Nat)
    (e1 : l1 + h0 = a1 + 18446744073709551616 * c1) (e2 : l2 + h1 + c1 = a2 + 18446744073709551616 * c2) (e3 : l3 + h2 + c2 = a3 + 18446744073709551616 * c3) (et : h3 + c3 = t)
    (f0 : l0 + n0 = b0 + 18446744073709551616 * d1) (f1 : a1 + n1 + d1 = b1 + 18446744073709551616 * d2) (f2 : a2 + n2 + d2 = b2 + 18446744073709551616 * d3) (f3 : a3 + n3 + d3 = b3 + 18446744073709551616 * d4) :
    (n0 + 18446744073709551616 * n1 + 340282366920938463463374607431768211456 * n2 + 6277101735386680763835789423207666416102355444464034512896 * n3) + ((l0 + 18446744073709551616 * h0) + 18446744073709551616 * (l1 + 18446744073709551616 * h1) + 340282366920938463463374607431768211456 * (l2 + 18446744073709551616 * h2) + 6277101735386680763835789423207666416102355444464034512896 * (l3 + 18446744073709551616 * h3)) = b0 + 18446744073709551616 * (b1 + 18446744073709551616 * b2 + 340282366920938463463374607431768211456 * b3 + 6277101735386680763835789423207666416102355444464034512896 * (t + d4)) := by omega
theorem dm (x : Nat) : x = x % 18446744073709551616 + 18446744073709551616 * (x / 18446744073709551616) := (Nat.mod_add_div x _).symm
theorem dm0 (x y : Nat) : x + y = (x + y + 0) % 18446744073709551616 + 18446744073709551616 * ((x + y + 0) / 18446744073709551616) := dm _
theorem carry_le (x y c : Nat) (hx : x < 18446744073709551616) (hy : y < 18446744073709551616) (hc : c ≤ 1) : (x + y + c) / 18446744073709551616 ≤ 1 := by omega
theorem top_lt (N P b H T r : Nat) (key : N + P = b + 18446744073709551616 * H) (hN : N < 115792089237316195423570985008687907853269984665640564039457584007913129639936) (hP : P ≤ (115792089237316195423570985008687907853269984665640564039457584007913129639936 - 1) * (18446744073709551616 - 1)) (hH : H = r + 6277101735386680763835789423207666416102355444464034512896 * T) : T < 18446744073709551616 := by omega
theorem mul_limbs (X v : Nat) (hX : X < 115792089237316195423570985008687907853269984665640564039457584007913129639936) : X * v = limb 0 X * v + 18446744073709551616 * (limb 1 X * v) + 340282366920938463463374607431768211456 * (limb 2 X * v) + 6277101735386680763835789423207666416102355444464034512896 * (limb 3 X * v) := by
  have h := limbs_sum X hX
  generalize limb 0 X = a at *
  generalize limb 1 X = b at *
  generalize limb 2 X = c at *
  generalize limb 3 X = d at *
  subst h
  rw [Nat.add_mul, Nat.add_mul, Nat.add_mul, Nat.mul_assoc, Nat.mul_assoc, Nat.mul_assoc]
set_option maxHeartbeats 4000000 in
theorem addRow_walk (n0 n1 n2 n3 x0 x1 x2 x3 v h0 h1 h2 h3 l0 l1 l2 l3 a1 a2 a3 c1 c2 c3 t b0 b1 b2 b3 d1 d2 d3 d4 T : Nat) (w : World)
    (m0 : ∀ w, Calls Tryz.prog 207 #[.int .u64 x0, .int .u64 v] w fun e w' => e = .returned (.tuple #[.int .u64 h0, .int .u64 l0]) ∧ w' = w)
    (m1 : ∀ w, Calls Tryz.prog 207 #[.int .u64 x1, .int .u64 v] w fun e w' => e = .returned (.tuple #[.int .u64 h1, .int .u64 l1]) ∧ w' = w)
    (m2 : ∀ w, Calls Tryz.prog 207 #[.int .u64 x2, .int .u64 v] w fun e w' => e = .returned (.tuple #[.int .u64 h2, .int .u64 l2]) ∧ w' = w)
    (m3 : ∀ w, Calls Tryz.prog 207 #[.int .u64 x3, .int .u64 v] w fun e w' => e = .returned (.tuple #[.int .u64 h3, .int .u64 l3]) ∧ w' = w)
    (e1 : ∀ w, (callFunc 153 #[.int .u64 l1, .int .u64 h0, .int .u64 0]).run Tryz.prog w = .ok (.value (.tuple #[.int .u64 a1, .int .u64 c1])) w)
    (e2 : ∀ w, (callFunc 153 #[.int .u64 l2, .int .u64 h1, .int .u64 c1]).run Tryz.prog w = .ok (.value (.tuple #[.int .u64 a2, .int .u64 c2])) w)
    (e3 : ∀ w, (callFunc 153 #[.int .u64 l3, .int .u64 h2, .int .u64 c2]).run Tryz.prog w = .ok (.value (.tuple #[.int .u64 a3, .int .u64 c3])) w)
    (f0 : ∀ w, (callFunc 153 #[.int .u64 l0, .int .u64 n0, .int .u64 0]).run Tryz.prog w = .ok (.value (.tuple #[.int .u64 b0, .int .u64 d1])) w)
    (f1 : ∀ w, (callFunc 153 #[.int .u64 a1, .int .u64 n1, .int .u64 d1]).run Tryz.prog w = .ok (.value (.tuple #[.int .u64 b1, .int .u64 d2])) w)
    (f2 : ∀ w, (callFunc 153 #[.int .u64 a2, .int .u64 n2, .int .u64 d2]).run Tryz.prog w = .ok (.value (.tuple #[.int .u64 b2, .int .u64 d3])) w)
    (f3 : ∀ w, (callFunc 153 #[.int .u64 a3, .int .u64 n3, .int .u64 d3]).run Tryz.prog w = .ok (.value (.tuple #[.int .u64 b3, .int .u64 d4])) w)
    (k1 : IntKind.u64.wrap ((h3 : Int) + (c3 : Int)) = (t : Int)) (k2 : IntKind.u64.wrap ((t : Int) + (d4 : Int)) = (T : Int)) :
    Calls Tryz.prog 184 #[.agg #[.int .u64 n0, .int .u64 n1, .int .u64 n2, .int .u64 n3], .agg #[.int .u64 x0, .int .u64 x1, .int .u64 x2, .int .u64 x3], .int .u64 v] w fun e w' =>
      e = .returned (.tuple #[.int .u64 b0, .agg #[.int .u64 b1, .int .u64 b2, .int .u64 b3, .int .u64 T]]) ∧ Below w.heap.size w w' := by
  have M0 := (show Hid _ from m0); have M1 := (show Hid _ from m1); have M2 := (show Hid _ from m2); have M3 := (show Hid _ from m3)
  clear m0 m1 m2 m3
  go_enter Tryz.func184, Tryz.ntmps184
  go_wp2_with fail
  refine (M0.out _).mono ?_
  rintro e w' ⟨rfl, rfl⟩
  go_wp2_with fail
  refine (M1.out _).mono ?_
  rintro e w' ⟨rfl, rfl⟩
  go_wp2_with fail
  refine (M2.out _).mono ?_
  rintro e w' ⟨rfl, rfl⟩
  go_wp2_with fail
  refine (M3.out _).mono ?_
  rintro e w' ⟨rfl, rfl⟩
  go_wp2
  refine bodyPost_ret (v := .tuple #[.int .u64 b0, .agg #[.int .u64 b1, .int .u64 b2, .int .u64 b3, .int .u64 T]]) (by simp [results, Tryz.results184, go_sem]) rfl ⟨rfl, ?_⟩
  repeat (first | with_reducible exact Below.refl _ _ | with_reducible refine Below.drew ?_ | with_reducible refine Below.setCell ?_ (by first | omega | (simp; omega) | simp) _ | with_reducible refine Below.alloc ?_ (by first | omega | (simp; omega) | simp) _)
/-- field.addRow: the lowest word of N + X * v, and the words above it. -/
theorem addRow_any (N X v : Nat) (hN : N < 115792089237316195423570985008687907853269984665640564039457584007913129639936) (hX : X < 115792089237316195423570985008687907853269984665640564039457584007913129639936) (hv : v < 18446744073709551616) (w : World) :
    Calls Tryz.prog 184 #[.agg #[.int .u64 ((limb 0 (N) : Nat) : Int), .int .u64 ((limb 1 (N) : Nat) : Int), .int .u64 ((limb 2 (N) : Nat) : Int), .int .u64 ((limb 3 (N) : Nat) : Int)], .agg #[.int .u64 ((limb 0 (X) : Nat) : Int), .int .u64 ((limb 1 (X) : Nat) : Int), .int .u64 ((limb 2 (X) : Nat) : Int), .int .u64 ((limb 3 (X) : Nat) : Int)], .int .u64 (v : Int)] w fun e w' => e = .returned (.tuple #[.int .u64 (((N + X * v) % 18446744073709551616 : Nat) : Int), .agg #[.int .u64 ((limb 0 ((N + X * v) / 18446744073709551616) : Nat) : Int), .int .u64 ((limb 1 ((N + X * v) / 18446744073709551616) : Nat) : Int), .int .u64 ((limb 2 ((N + X * v) / 18446744073709551616) : Nat) : Int), .int .u64 ((limb 3 ((N + X * v) / 18446744073709551616) : Nat) : Int)]]) ∧ Below w.heap.size w w' := by
  have hn := limbs_sum N hN
  have n0 := limb_lt 0 N; have n1 := limb_lt 1 N; have n2 := limb_lt 2 N; have n3 := limb_lt 3 N
  have x0 := limb_lt 0 X; have x1 := limb_lt 1 X; have x2 := limb_lt 2 X; have x3 := limb_lt 3 X
  have p0 := mulLoHi (limb 0 X) v; have p1 := mulLoHi (limb 1 X) v; have p2 := mulLoHi (limb 2 X) v; have p3 := mulLoHi (limb 3 X) v
  have q0 := mulLo_lt (limb 0 X) v; have q1 := mulLo_lt (limb 1 X) v; have q2 := mulLo_lt (limb 2 X) v; have q3 := mulLo_lt (limb 3 X) v
  have r0 := mulHi_le (limb 0 X) v x0 hv; have r1 := mulHi_le (limb 1 X) v x1 hv; have r2 := mulHi_le (limb 2 X) v x2 hv; have r3 := mulHi_le (limb 3 X) v x3 hv
  have hx := mul_limbs X v hX
  have hmul : X * v ≤ (115792089237316195423570985008687907853269984665640564039457584007913129639936 - 1) * (18446744073709551616 - 1) := Nat.mul_le_mul (by omega) (by omega)
  have W := fun a1 a2 a3 c1 c2 c3 t b0 b1 b2 b3 d1 d2 d3 d4 T => addRow_walk (limb 0 N) (limb 1 N) (limb 2 N) (limb 3 N) (limb 0 X) (limb 1 X) (limb 2 X) (limb 3 X) v (mulHi (limb 0 X) v) (mulHi (limb 1 X) v) (mulHi (limb 2 X) v) (mulHi (limb 3 X) v) (mulLo (limb 0 X) v) (mulLo (limb 1 X) v) (mulLo (limb 2 X) v) (mulLo (limb 3 X) v)
    a1 a2 a3 c1 c2 c3 t b0 b1 b2 b3 d1 d2 d3 d4 T w (fun w => mul64_any _ v x0 hv w) (fun w => mul64_any _ v x1 hv w) (fun w => mul64_any _ v x2 hv w) (fun w => mul64_any _ v x3 hv w)
  generalize mulLo (limb 0 X) v = l0 at *
  generalize mulLo (limb 1 X) v = l1 at *
  generalize mulLo (limb 2 X) v = l2 at *
  generalize mulLo (limb 3 X) v = l3 at *
  generalize mulHi (limb 0 X) v = h0 at *
  generalize mulHi (limb 1 X) v = h1 at *
  generalize mulHi (limb 2 X) v = h2 at *
  generalize mulHi (limb 3 X) v = h3 at *
  rw [← p0, ← p1, ← p2, ← p3] at hx
  clear p0 p1 p2 p3
  obtain ⟨a1, ea1⟩ : ∃ a1, a1 = (l1 + h0 + 0) % 18446744073709551616 := ⟨_, rfl⟩
  obtain ⟨c1, ec1⟩ : ∃ c1, c1 = (l1 + h0 + 0) / 18446744073709551616 := ⟨_, rfl⟩
  have lc1 : c1 ≤ 1 := by rw [ec1]; exact carry_le _ _ _ q1 (by omega) (by decide)
  obtain ⟨a2, ea2⟩ : ∃ a2, a2 = (l2 + h1 + c1) % 18446744073709551616 := ⟨_, rfl⟩
  obtain ⟨c2, ec2⟩ : ∃ c2, c2 = (l2 + h1 + c1) / 18446744073709551616 := ⟨_, rfl⟩
  have lc2 : c2 ≤ 1 := by rw [ec2]; exact carry_le _ _ _ q2 (by omega) lc1
  obtain ⟨a3, ea3⟩ : ∃ a3, a3 = (l3 + h2 + c2) % 18446744073709551616 := ⟨_, rfl⟩
  obtain ⟨c3, ec3⟩ : ∃ c3, c3 = (l3 + h2 + c2) / 18446744073709551616 := ⟨_, rfl⟩
  have lc3 : c3 ≤ 1 := by rw [ec3]; exact carry_le _ _ _ q3 (by omega) lc2
  have la1 : a1 < 18446744073709551616 := by rw [ea1]; exact Nat.mod_lt _ (by decide)
  have la2 : a2 < 18446744073709551616 := by rw [ea2]; exact Nat.mod_lt _ (by decide)
  have la3 : a3 < 18446744073709551616 := by rw [ea3]; exact Nat.mod_lt _ (by decide)
  obtain ⟨b0, eb0⟩ : ∃ b0, b0 = (l0 + limb 0 N + 0) % 18446744073709551616 := ⟨_, rfl⟩
  obtain ⟨d1, ed1⟩ : ∃ d1, d1 = (l0 + limb 0 N + 0) / 18446744073709551616 := ⟨_, rfl⟩
  have ld1 : d1 ≤ 1 := by rw [ed1]; exact carry_le _ _ _ q0 n0 (by decide)
  obtain ⟨b1, eb1⟩ : ∃ b1, b1 = (a1 + limb 1 N + d1) % 18446744073709551616 := ⟨_, rfl⟩
  obtain ⟨d2, ed2⟩ : ∃ d2, d2 = (a1 + limb 1 N + d1) / 18446744073709551616 := ⟨_, rfl⟩
  have ld2 : d2 ≤ 1 := by rw [ed2]; exact carry_le _ _ _ la1 n1 ld1
  obtain ⟨b2, eb2⟩ : ∃ b2, b2 = (a2 + limb 2 N + d2) % 18446744073709551616 := ⟨_, rfl⟩
  obtain ⟨d3, ed3⟩ : ∃ d3, d3 = (a2 + limb 2 N + d2) / 18446744073709551616 := ⟨_, rfl⟩
  have ld3 : d3 ≤ 1 := by rw [ed3]; exact carry_le _ _ _ la2 n2 ld2
  obtain ⟨b3, eb3⟩ : ∃ b3, b3 = (a3 + limb 3 N + d3) % 18446744073709551616 := ⟨_, rfl⟩
  obtain ⟨d4, ed4⟩ : ∃ d4, d4 = (a3 + limb 3 N + d3) / 18446744073709551616 := ⟨_, rfl⟩
  have lb0 : b0 < 18446744073709551616 := by rw [eb0]; exact Nat.mod_lt _ (by decide)
  have lb1 : b1 < 18446744073709551616 := by rw [eb1]; exact Nat.mod_lt _ (by decide)
  have lb2 : b2 < 18446744073709551616 := by rw [eb2]; exact Nat.mod_lt _ (by decide)
  have lb3 : b3 < 18446744073709551616 := by rw [eb3]; exact Nat.mod_lt _ (by decide)
  have key := row_lin (limb 0 N) (limb 1 N) (limb 2 N) (limb 3 N) l0 l1 l2 l3 h0 h1 h2 h3 a1 a2 a3 c1 c2 c3 (h3 + c3) b0 b1 b2 b3 d1 d2 d3 d4 (by rw [ea1, ec1]; exact dm0 _ _) (by rw [ea2, ec2]; exact dm _) (by rw [ea3, ec3]; exact dm _) rfl (by rw [eb0, ed1]; exact dm0 _ _) (by rw [eb1, ed2]; exact dm _) (by rw [eb2, ed3]; exact dm _) (by rw [eb3, ed4]; exact dm _)
  rw [← hn, ← hx] at key
  have lT : h3 + c3 + d4 < 18446744073709551616 := top_lt N (X * v) b0 _ (h3 + c3 + d4) _ key hN hmul rfl
  have g := limbs_of b1 b2 b3 (h3 + c3 + d4) lb1 lb2 lb3 lT _ rfl
  have e1 : (N + X * v) % 18446744073709551616 = b0 := by rw [key, Nat.add_mul_mod_self_left, Nat.mod_eq_of_lt lb0]
  have e2 : (N + X * v) / 18446744073709551616 = b1 + 18446744073709551616 * b2 + 340282366920938463463374607431768211456 * b3 + 6277101735386680763835789423207666416102355444464034512896 * (h3 + c3 + d4) := by rw [key, Nat.add_mul_div_left _ _ (by decide), Nat.div_eq_of_lt lb0, Nat.zero_add]
  rw [e1, e2, ← g.1, ← g.2.1, ← g.2.2.1, ← g.2.2.2.1]
  refine W a1 a2 a3 c1 c2 c3 (h3 + c3) b0 b1 b2 b3 d1 d2 d3 d4 (h3 + c3 + d4) ?_ ?_ ?_ ?_ ?_ ?_ ?_ (wrap_sum _ _ _ rfl (by omega)) (wrap_sum _ _ _ rfl lT)
  · exact run_pair_eq ea1.symm ec1.symm fun w => add64_run _ _ 0 (by decide) w
  · exact run_pair_eq ea2.symm ec2.symm fun w => add64_run _ _ _ lc1 w
  · exact run_pair_eq ea3.symm ec3.symm fun w => add64_run _ _ _ lc2 w
  · exact run_pair_eq eb0.symm ed1.symm fun w => add64_run _ _ 0 (by decide) w
  · exact run_pair_eq eb1.symm ed2.symm fun w => add64_run _ _ _ ld1 w
  · exact run_pair_eq eb2.symm ed3.symm fun w => add64_run _ _ _ ld2 w
  · exact run_pair_eq eb3.symm ed4.symm fun w => add64_run _ _ _ ld3 w
end Go.Proofs.YtfbfenljfdnggaaGreatDoor
