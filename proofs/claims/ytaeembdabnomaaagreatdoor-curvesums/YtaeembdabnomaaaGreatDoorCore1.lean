/- What math/bits.Add64 and Sub64 answer, and what word.Add, word.Sub and word.Less do. -/
import Derived.Test.YtaeembdabnomaaaGreatDoorProg
import Derived.Test.YtaeembdabnomaaaGreatDoorNum
import Derived.Test.YtaeembdabnomaaaGreatDoorBlk
import Derived.WalkKit
import Derived.WalkSpells
import Derived.WalkLawsBesides
import Derived.Laws.Externs
import Derived.LoopN
namespace Go.Proofs.YtaeembdabnomaaaGreatDoor
open Go.RowKit

theorem add64_run (x y c : Nat) (hc : c ≤ 1) (w : World) :
    (callFunc 119 #[.int .u64 x, .int .u64 y, .int .u64 c]).run Tryz.prog w =
      .ok (.value (.tuple #[.int .u64 (((x + y + c) % 18446744073709551616 : Nat) : Int), .int .u64 (((x + y + c) / 18446744073709551616 : Nat) : Int)])) w := by
  rw [run_callFunc_extern Tryz.func119 (by kernel_rfl) (by kernel_rfl) (by kernel_rfl) (e := add64Entry) (by kernel_rfl), run_add64 x y c (by omega) (by omega) (by omega) (by omega)]
  simp only [Result.andThen]
  congr 5 <;> omega

def sub64Row : Array Value → Sem Value := (Extern.MathBitsCarry.rows[1]'(by decide)).2
theorem sub64_raw (x y b : Nat) (hb : b ≤ 1) (w : World) :
    (sub64Row #[.int .u64 x, .int .u64 y, .int .u64 b]).run Tryz.prog w =
      .ok (.tuple #[.int .u64 (((x + 18446744073709551616 - y - b) % 18446744073709551616 : Nat) : Int), .int .u64 ((if x < y + b then 1 else 0 : Nat) : Int)]) w := by
  have : b = 0 ∨ b = 1 := by omega
  rcases this with rfl | rfl <;> rfl
theorem sub64_run (x y c : Nat) (hc : c ≤ 1) (w : World) :
    (callFunc 112 #[.int .u64 x, .int .u64 y, .int .u64 c]).run Tryz.prog w =
      .ok (.value (.tuple #[.int .u64 (((x + 18446744073709551616 - y - c) % 18446744073709551616 : Nat) : Int), .int .u64 ((if x < y + c then 1 else 0 : Nat) : Int)])) w := by
  rw [run_callFunc_extern Tryz.func112 (by kernel_rfl) (by kernel_rfl) (by kernel_rfl) (e := sub64Row) (by kernel_rfl), sub64_raw x y c hc]
  rfl

set_option maxHeartbeats 1000000 in
theorem add_walk (a0 a1 a2 a3 b0 b1 b2 b3 s0 s1 s2 s3 c1 c2 c3 c4 : Nat) (w : World)
    (e0 : ∀ w, (callFunc 119 #[.int .u64 a0, .int .u64 b0, .int .u64 0]).run Tryz.prog w = .ok (.value (.tuple #[.int .u64 s0, .int .u64 c1])) w)
    (e1 : ∀ w, (callFunc 119 #[.int .u64 a1, .int .u64 b1, .int .u64 c1]).run Tryz.prog w = .ok (.value (.tuple #[.int .u64 s1, .int .u64 c2])) w)
    (e2 : ∀ w, (callFunc 119 #[.int .u64 a2, .int .u64 b2, .int .u64 c2]).run Tryz.prog w = .ok (.value (.tuple #[.int .u64 s2, .int .u64 c3])) w)
    (e3 : ∀ w, (callFunc 119 #[.int .u64 a3, .int .u64 b3, .int .u64 c3]).run Tryz.prog w = .ok (.value (.tuple #[.int .u64 s3, .int .u64 c4])) w) :
    Calls Tryz.prog 101 #[.agg #[.int .u64 a0, .int .u64 a1, .int .u64 a2, .int .u64 a3], .agg #[.int .u64 b0, .int .u64 b1, .int .u64 b2, .int .u64 b3]] w fun e w' =>
      e = .returned (.tuple #[.agg #[.int .u64 s0, .int .u64 s1, .int .u64 s2, .int .u64 s3], .bool ((c4 : Int) != 0)]) ∧ Below w.heap.size w w' := by
  go_enter Tryz.func101, Tryz.ntmps101
  go_wp2
  refine wp_loop_rounds 5 ?_
  iterate 4 (rw [rounds_succ]; go_wp2; go_region; go_wp2)
  rw [rounds_succ]
  go_wp2
  refine bodyPost_ret (v := .tuple #[.agg #[.int .u64 s0, .int .u64 s1, .int .u64 s2, .int .u64 s3], .bool ((c4 : Int) != 0)]) (by simp [results, Tryz.results101, go_sem]) rfl ⟨rfl, ?_⟩
  repeat (first | with_reducible exact Below.refl _ _ | with_reducible refine Below.drew ?_ | with_reducible refine Below.alloc ?_ (by first | omega | (simp; omega) | simp) _)

set_option maxHeartbeats 1000000 in
theorem sub_walk (a0 a1 a2 a3 b0 b1 b2 b3 s0 s1 s2 s3 c1 c2 c3 c4 : Nat) (w : World)
    (e0 : ∀ w, (callFunc 112 #[.int .u64 a0, .int .u64 b0, .int .u64 0]).run Tryz.prog w = .ok (.value (.tuple #[.int .u64 s0, .int .u64 c1])) w)
    (e1 : ∀ w, (callFunc 112 #[.int .u64 a1, .int .u64 b1, .int .u64 c1]).run Tryz.prog w = .ok (.value (.tuple #[.int .u64 s1, .int .u64 c2])) w)
    (e2 : ∀ w, (callFunc 112 #[.int .u64 a2, .int .u64 b2, .int .u64 c2]).run Tryz.prog w = .ok (.value (.tuple #[.int .u64 s2, .int .u64 c3])) w)
    (e3 : ∀ w, (callFunc 112 #[.int .u64 a3, .int .u64 b3, .int .u64 c3]).run Tryz.prog w = .ok (.value (.tuple #[.int .u64 s3, .int .u64 c4])) w) :
    Calls Tryz.prog 90 #[.agg #[.int .u64 a0, .int .u64 a1, .int .u64 a2, .int .u64 a3], .agg #[.int .u64 b0, .int .u64 b1, .int .u64 b2, .int .u64 b3]] w fun e w' =>
      e = .returned (.tuple #[.agg #[.int .u64 s0, .int .u64 s1, .int .u64 s2, .int .u64 s3], .bool ((c4 : Int) != 0)]) ∧ Below w.heap.size w w' := by
  go_enter Tryz.func90, Tryz.ntmps90
  go_wp2
  refine wp_loop_rounds 5 ?_
  iterate 4 (rw [rounds_succ]; go_wp2; go_region; go_wp2)
  rw [rounds_succ]
  go_wp2
  refine bodyPost_ret (v := .tuple #[.agg #[.int .u64 s0, .int .u64 s1, .int .u64 s2, .int .u64 s3], .bool ((c4 : Int) != 0)]) (by simp [results, Tryz.results90, go_sem]) rfl ⟨rfl, ?_⟩
  repeat (first | with_reducible exact Below.refl _ _ | with_reducible refine Below.drew ?_ | with_reducible refine Below.alloc ?_ (by first | omega | (simp; omega) | simp) _)

theorem run_pair_eq {f : Nat} {args : Array Value} {a b a' b' : Nat} (ha : a = a') (hb : b = b')
    (h : ∀ w, (callFunc f args).run Tryz.prog w = .ok (.value (.tuple #[.int .u64 a, .int .u64 b])) w) :
    ∀ w, (callFunc f args).run Tryz.prog w = .ok (.value (.tuple #[.int .u64 a', .int .u64 b'])) w := by
  subst ha; subst hb; exact h

/-- word.Add: the sum's lowest 256 bits, and whether it is 2^256 or more; nothing that was there is changed. -/
theorem add_any (A B : Nat) (hA : A < 115792089237316195423570985008687907853269984665640564039457584007913129639936) (hB : B < 115792089237316195423570985008687907853269984665640564039457584007913129639936) (w : World) :
    Calls Tryz.prog 101 #[.agg #[.int .u64 ((limb 0 (A) : Nat) : Int), .int .u64 ((limb 1 (A) : Nat) : Int), .int .u64 ((limb 2 (A) : Nat) : Int), .int .u64 ((limb 3 (A) : Nat) : Int)], .agg #[.int .u64 ((limb 0 (B) : Nat) : Int), .int .u64 ((limb 1 (B) : Nat) : Int), .int .u64 ((limb 2 (B) : Nat) : Int), .int .u64 ((limb 3 (B) : Nat) : Int)]] w fun e w' => e = .returned (.tuple #[.agg #[.int .u64 ((limb 0 (add256 A B) : Nat) : Int), .int .u64 ((limb 1 (add256 A B) : Nat) : Int), .int .u64 ((limb 2 (add256 A B) : Nat) : Int), .int .u64 ((limb 3 (add256 A B) : Nat) : Int)], .bool (over256 A B)]) ∧ Below w.heap.size w w' := by
  obtain ⟨c1, c2, c3, c4, p0, q0, r0, p1, q1, r1, p2, q2, r2, p3, q3, r3, hc⟩ := add_limbs A B hA hB
  have ho : over256 A B = ((c4 : Int) != 0) := by
    unfold over256; rw [Bool.eq_iff_iff]; simp only [decide_eq_true_eq, bne_iff_ne]; omega
  rw [ho]
  exact add_walk _ _ _ _ _ _ _ _ _ _ _ _ c1 c2 c3 c4 w (run_pair_eq p0 q0 fun w => add64_run _ _ 0 (by decide) w) (run_pair_eq p1 q1 fun w => add64_run _ _ _ r0 w)
    (run_pair_eq p2 q2 fun w => add64_run _ _ _ r1 w) (run_pair_eq p3 q3 fun w => add64_run _ _ _ r2 w)

/-- word.Sub: the difference modulo 2^256, and whether it is below 0. -/
theorem sub_any (A B : Nat) (hA : A < 115792089237316195423570985008687907853269984665640564039457584007913129639936) (hB : B < 115792089237316195423570985008687907853269984665640564039457584007913129639936) (w : World) :
    Calls Tryz.prog 90 #[.agg #[.int .u64 ((limb 0 (A) : Nat) : Int), .int .u64 ((limb 1 (A) : Nat) : Int), .int .u64 ((limb 2 (A) : Nat) : Int), .int .u64 ((limb 3 (A) : Nat) : Int)], .agg #[.int .u64 ((limb 0 (B) : Nat) : Int), .int .u64 ((limb 1 (B) : Nat) : Int), .int .u64 ((limb 2 (B) : Nat) : Int), .int .u64 ((limb 3 (B) : Nat) : Int)]] w fun e w' => e = .returned (.tuple #[.agg #[.int .u64 ((limb 0 (sub256 A B) : Nat) : Int), .int .u64 ((limb 1 (sub256 A B) : Nat) : Int), .int .u64 ((limb 2 (sub256 A B) : Nat) : Int), .int .u64 ((limb 3 (sub256 A B) : Nat) : Int)], .bool (below256 A B)]) ∧ Below w.heap.size w w' := by
  obtain ⟨c1, c2, c3, c4, p0, q0, r0, p1, q1, r1, p2, q2, r2, p3, q3, r3, hc⟩ := sub_limbs A B hA hB
  have ho : below256 A B = ((c4 : Int) != 0) := by
    unfold below256; rw [Bool.eq_iff_iff]; simp only [decide_eq_true_eq, bne_iff_ne]; omega
  rw [ho]
  exact sub_walk _ _ _ _ _ _ _ _ _ _ _ _ c1 c2 c3 c4 w (run_pair_eq p0 q0 fun w => sub64_run _ _ 0 (by decide) w) (run_pair_eq p1 q1 fun w => sub64_run _ _ _ r0 w)
    (run_pair_eq p2 q2 fun w => sub64_run _ _ _ r1 w) (run_pair_eq p3 q3 fun w => sub64_run _ _ _ r2 w)

set_option maxHeartbeats 400000 in
/-- word.Less. -/
theorem less_any (A B : Nat) (hA : A < 115792089237316195423570985008687907853269984665640564039457584007913129639936) (hB : B < 115792089237316195423570985008687907853269984665640564039457584007913129639936) (w : World) :
    Calls Tryz.prog 53 #[.agg #[.int .u64 ((limb 0 (A) : Nat) : Int), .int .u64 ((limb 1 (A) : Nat) : Int), .int .u64 ((limb 2 (A) : Nat) : Int), .int .u64 ((limb 3 (A) : Nat) : Int)], .agg #[.int .u64 ((limb 0 (B) : Nat) : Int), .int .u64 ((limb 1 (B) : Nat) : Int), .int .u64 ((limb 2 (B) : Nat) : Int), .int .u64 ((limb 3 (B) : Nat) : Int)]] w fun e w' => e = .returned (.bool (below256 A B)) ∧ Below w.heap.size w w' := by
  go_enter Tryz.func53, Tryz.ntmps53
  go_wp2_with fail
  refine (sub_any A B hA hB _).mono ?_
  rintro e w' ⟨rfl, hb⟩
  go_wp2
  go_ret
  refine ⟨rfl, ?_⟩
  have hz := hb.size
  simp at hz
  repeat (first | with_reducible exact Below.refl _ _ | with_reducible refine Below.drew ?_ | with_reducible refine Below.alloc ?_ (by first | omega | (simp; omega) | simp) _ | with_reducible refine Below.trans ?_ (hb.mono (by first | omega | (simp; omega) | simp)))

end Go.Proofs.YtaeembdabnomaaaGreatDoor
