/- What math/bits.Add64 and Sub64 answer, and what word.Add, word.Sub and word.Less do. -/
import Derived.Test.YtfdddpndjmookaaGreatDoorProg
import Derived.Test.YtfdddpndjmookaaGreatDoorBA
import Derived.WalkKit
import Derived.WalkSpells
import Derived.WalkLawsBesides
import Derived.Laws.Externs
import Derived.LoopN
import Derived.Lib.Mul64
import Derived.Laws.Bits64b
namespace Go.Proofs.YtfdddpndjmookaaGreatDoor
open Go.RowKit

theorem add64_run (x y c : Nat) (hc : c ≤ 1) (w : World) :
    (callFunc 84 #[.int .u64 x, .int .u64 y, .int .u64 c]).run Tryz.prog w =
      .ok (.value (.tuple #[.int .u64 (((x + y + c) % 18446744073709551616 : Nat) : Int), .int .u64 (((x + y + c) / 18446744073709551616 : Nat) : Int)])) w := by
  rw [run_callFunc_extern Tryz.func84 (by kernel_rfl) (by kernel_rfl) (by kernel_rfl) (e := add64Entry) (by kernel_rfl), run_add64 x y c (by omega) (by omega) (by omega) (by omega)]
  simp only [Result.andThen]
  congr 5 <;> omega

def sub64Row : Array Value → Sem Value := (Extern.MathBitsCarry.rows[1]'(by decide)).2
theorem sub64_raw (x y b : Nat) (hb : b ≤ 1) (w : World) :
    (sub64Row #[.int .u64 x, .int .u64 y, .int .u64 b]).run Tryz.prog w =
      .ok (.tuple #[.int .u64 (((x + 18446744073709551616 - y - b) % 18446744073709551616 : Nat) : Int), .int .u64 ((if x < y + b then 1 else 0 : Nat) : Int)]) w := by
  have : b = 0 ∨ b = 1 := by omega
  rcases this with rfl | rfl <;> rfl
theorem sub64_run (x y c : Nat) (hc : c ≤ 1) (w : World) :
    (callFunc 83 #[.int .u64 x, .int .u64 y, .int .u64 c]).run Tryz.prog w =
      .ok (.value (.tuple #[.int .u64 (((x + 18446744073709551616 - y - c) % 18446744073709551616 : Nat) : Int), .int .u64 ((if x < y + c then 1 else 0 : Nat) : Int)])) w := by
  rw [run_callFunc_extern Tryz.func83 (by kernel_rfl) (by kernel_rfl) (by kernel_rfl) (e := sub64Row) (by kernel_rfl), sub64_raw x y c hc]
  rfl

set_option maxHeartbeats 1000000 in
theorem add_walk (a0 a1 a2 a3 b0 b1 b2 b3 s0 s1 s2 s3 c1 c2 c3 c4 : Nat) (w : World)
    (e0 : ∀ w, (callFunc 84 #[.int .u64 a0, .int .u64 b0, .int .u64 0]).run Tryz.prog w = .ok (.value (.tuple #[.int .u64 s0, .int .u64 c1])) w)
    (e1 : ∀ w, (callFunc 84 #[.int .u64 a1, .int .u64 b1, .int .u64 c1]).run Tryz.prog w = .ok (.value (.tuple #[.int .u64 s1, .int .u64 c2])) w)
    (e2 : ∀ w, (callFunc 84 #[.int .u64 a2, .int .u64 b2, .int .u64 c2]).run Tryz.prog w = .ok (.value (.tuple #[.int .u64 s2, .int .u64 c3])) w)
    (e3 : ∀ w, (callFunc 84 #[.int .u64 a3, .int .u64 b3, .int .u64 c3]).run Tryz.prog w = .ok (.value (.tuple #[.int .u64 s3, .int .u64 c4])) w) :
    Calls Tryz.prog 101 #[.agg #[.int .u64 a0, .int .u64 a1, .int .u64 a2, .int .u64 a3], .agg #[.int .u64 b0, .int .u64 b1, .int .u64 b2, .int .u64 b3]] w fun e w' =>
      e = .returned (.tuple #[.agg #[.int .u64 s0, .int .u64 s1, .int .u64 s2, .int .u64 s3], .bool ((c4 : Int) != 0)]) ∧ Below w.heap.size w w' := by
  go_enter Tryz.func101, Tryz.ntmps101
  go_wp2
  refine wp_loop_rounds 5 ?_
  iterate 4 (rw [rounds_succ]; go_wp2; go_region; go_wp2)
  rw [rounds_succ]
  go_wp2
  refine bodyPost_ret (v := .tuple #[.agg #[.int .u64 s0, .int .u64 s1, .int .u64 s2, .int .u64 s3], .bool ((c4 : Int) != 0)]) (by simp [results, Tryz.results101, go_sem]) rfl ⟨rfl, ?_⟩
  repeat (first | with_reducible exact Below.refl _ _ | with_reducible refine Below.drew ?_ | with_reducible refine Below.alloc ?_ (by first | omega | (simp; omega) | simp) _)

set_option maxHeartbeats 1000000 in
theorem sub_walk (a0 a1 a2 a3 b0 b1 b2 b3 s0 s1 s2 s3 c1 c2 c3 c4 : Nat) (w : World)
    (e0 : ∀ w, (callFunc 83 #[.int .u64 a0, .int .u64 b0, .int .u64 0]).run Tryz.prog w = .ok (.value (.tuple #[.int .u64 s0, .int .u64 c1])) w)
    (e1 : ∀ w, (callFunc 83 #[.int .u64 a1, .int .u64 b1, .int .u64 c1]).run Tryz.prog w = .ok (.value (.tuple #[.int .u64 s1, .int .u64 c2])) w)
    (e2 : ∀ w, (callFunc 83 #[.int .u64 a2, .int .u64 b2, .int .u64 c2]).run Tryz.prog w = .ok (.value (.tuple #[.int .u64 s2, .int .u64 c3])) w)
    (e3 : ∀ w, (callFunc 83 #[.int .u64 a3, .int .u64 b3, .int .u64 c3]).run Tryz.prog w = .ok (.value (.tuple #[.int .u64 s3, .int .u64 c4])) w) :
    Calls Tryz.prog 78 #[.agg #[.int .u64 a0, .int .u64 a1, .int .u64 a2, .int .u64 a3], .agg #[.int .u64 b0, .int .u64 b1, .int .u64 b2, .int .u64 b3]] w fun e w' =>
      e = .returned (.tuple #[.agg #[.int .u64 s0, .int .u64 s1, .int .u64 s2, .int .u64 s3], .bool ((c4 : Int) != 0)]) ∧ Below w.heap.size w w' := by
  go_enter Tryz.func78, Tryz.ntmps78
  go_wp2
  refine wp_loop_rounds 5 ?_
  iterate 4 (rw [rounds_succ]; go_wp2; go_region; go_wp2)
  rw [rounds_succ]
  go_wp2
  refine bodyPost_ret (v := .tuple #[.agg #[.int .u64 s0, .int .u64 s1, .int .u64 s2, .int .u64 s3], .bool ((c4 : Int) != 0)]) (by simp [results, Tryz.results78, go_sem]) rfl ⟨rfl, ?_⟩
  repeat (first | with_reducible exact Below.refl _ _ | with_reducible refine Below.drew ?_ | with_reducible refine Below.alloc ?_ (by first | omega | (simp; omega) | simp) _)

theorem run_pair_eq {f : Nat} {args : Array Value} {a b a' b' : Nat} (ha : a = a') (hb : b = b')
    (h : ∀ w, (callFunc f args).run Tryz.prog w = .ok (.value (.tuple #[.int .u64 a, .int .u64 b])) w) :
    ∀ w, (callFunc f args).run Tryz.prog w = .ok (.value (.tuple #[.int .u64 a', .int .u64 b'])) w := by
  subst ha; subst hb; exact h

/-- word.Add: the sum's lowest 256 bits, and whether it is 2^256 or more; nothing that was there is changed. -/
theorem add_any (A B : Nat) (hA : A < 115792089237316195423570985008687907853269984665640564039457584007913129639936) (hB : B < 115792089237316195423570985008687907853269984665640564039457584007913129639936) (w : World) :
    Calls Tryz.prog 101 #[.agg #[.int .u64 ((limb 0 (A) : Nat) : Int), .int .u64 ((limb 1 (A) : Nat) : Int), .int .u64 ((limb 2 (A) : Nat) : Int), .int .u64 ((limb 3 (A) : Nat) : Int)], .agg #[.int .u64 ((limb 0 (B) : Nat) : Int), .int .u64 ((limb 1 (B) : Nat) : Int), .int .u64 ((limb 2 (B) : Nat) : Int), .int .u64 ((limb 3 (B) : Nat) : Int)]] w fun e w' => e = .returned (.tuple #[.agg #[.int .u64 ((limb 0 (add256 A B) : Nat) : Int), .int .u64 ((limb 1 (add256 A B) : Nat) : Int), .int .u64 ((limb 2 (add256 A B) : Nat) : Int), .int .u64 ((limb 3 (add256 A B) : Nat) : Int)], .bool (over256 A B)]) ∧ Below w.heap.size w w' := by
  obtain ⟨c1, c2, c3, c4, p0, q0, r0, p1, q1, r1, p2, q2, r2, p3, q3, r3, hc⟩ := add_limbs A B hA hB
  have ho : over256 A B = ((c4 : Int) != 0) := by
    unfold over256; rw [Bool.eq_iff_iff]; simp only [decide_eq_true_eq, bne_iff_ne]; omega
  rw [ho]
  exact add_walk _ _ _ _ _ _ _ _ _ _ _ _ c1 c2 c3 c4 w (run_pair_eq p0 q0 fun w => add64_run _ _ 0 (by decide) w) (run_pair_eq p1 q1 fun w => add64_run _ _ _ r0 w)
    (run_pair_eq p2 q2 fun w => add64_run _ _ _ r1 w) (run_pair_eq p3 q3 fun w => add64_run _ _ _ r2 w)

/-- word.Sub: the difference modulo 2^256, and whether it is below 0. -/
theorem sub_any (A B : Nat) (hA : A < 115792089237316195423570985008687907853269984665640564039457584007913129639936) (hB : B < 115792089237316195423570985008687907853269984665640564039457584007913129639936) (w : World) :
    Calls Tryz.prog 78 #[.agg #[.int .u64 ((limb 0 (A) : Nat) : Int), .int .u64 ((limb 1 (A) : Nat) : Int), .int .u64 ((limb 2 (A) : Nat) : Int), .int .u64 ((limb 3 (A) : Nat) : Int)], .agg #[.int .u64 ((limb 0 (B) : Nat) : Int), .int .u64 ((limb 1 (B) : Nat) : Int), .int .u64 ((limb 2 (B) : Nat) : Int), .int .u64 ((limb 3 (B) : Nat) : Int)]] w fun e w' => e = .returned (.tuple #[.agg #[.int .u64 ((limb 0 (sub256 A B) : Nat) : Int), .int .u64 ((limb 1 (sub256 A B) : Nat) : Int), .int .u64 ((limb 2 (sub256 A B) : Nat) : Int), .int .u64 ((limb 3 (sub256 A B) : Nat) : Int)], .bool (below256 A B)]) ∧ Below w.heap.size w w' := by
  obtain ⟨c1, c2, c3, c4, p0, q0, r0, p1, q1, r1, p2, q2, r2, p3, q3, r3, hc⟩ := sub_limbs A B hA hB
  have ho : below256 A B = ((c4 : Int) != 0) := by
    unfold below256; rw [Bool.eq_iff_iff]; simp only [decide_eq_true_eq, bne_iff_ne]; omega
  rw [ho]
  exact sub_walk _ _ _ _ _ _ _ _ _ _ _ _ c1 c2 c3 c4 w (run_pair_eq p0 q0 fun w => sub64_run _ _ 0 (by decide) w) (run_pair_eq p1 q1 fun w => sub64_run _ _ _ r0 w)
    (run_pair_eq p2 q2 fun w => sub64_run _ _ _ r1 w) (run_pair_eq p3 q3 fun w => sub64_run _ _ _ r2 w)

set_option maxHeartbeats 400000 in
/-- word.Less. -/
theorem less_any (A B : Nat) (hA : A < 115792089237316195423570985008687907853269984665640564039457584007913129639936) (hB : B < 115792089237316195423570985008687907853269984665640564039457584007913129639936) (w : World) :
    Calls Tryz.prog 54 #[.agg #[.int .u64 ((limb 0 (A) : Nat) : Int), .int .u64 ((limb 1 (A) : Nat) : Int), .int .u64 ((limb 2 (A) : Nat) : Int), .int .u64 ((limb 3 (A) : Nat) : Int)], .agg #[.int .u64 ((limb 0 (B) : Nat) : Int), .int .u64 ((limb 1 (B) : Nat) : Int), .int .u64 ((limb 2 (B) : Nat) : Int), .int .u64 ((limb 3 (B) : Nat) : Int)]] w fun e w' => e = .returned (.bool (below256 A B)) ∧ Below w.heap.size w w' := by
  go_enter Tryz.func54, Tryz.ntmps54
  go_wp2_with fail
  refine (sub_any A B hA hB _).mono ?_
  rintro e w' ⟨rfl, hb⟩
  go_wp2
  go_ret
  refine ⟨rfl, ?_⟩
  have hz := hb.size
  simp at hz
  repeat (first | with_reducible exact Below.refl _ _ | with_reducible refine Below.drew ?_ | with_reducible refine Below.alloc ?_ (by first | omega | (simp; omega) | simp) _ | with_reducible refine Below.trans ?_ (hb.mono (by first | omega | (simp; omega) | simp)))

end Go.Proofs.YtfdddpndjmookaaGreatDoor

/- What math/bits.Mul64 answers, and what word.mulWord and word.Mul do. -/
namespace Go.Proofs.YtfdddpndjmookaaGreatDoor
open Go.RowKit Go.Lib

theorem maskN (a : Nat) (ha : a < 18446744073709551616) : bits .and .u64 (a : Int) 4294967295 = ((a % 4294967296 : Nat) : Int) := by
  have h := bits_and_u64_nat a 4294967295 ha (by omega)
  have e : a &&& 4294967295 = a % 4294967296 := Nat.and_two_pow_sub_one_eq_mod a 32
  rw [e] at h
  exact h
theorem divN (a : Nat) : (a : Int) / 4294967296 = ((a / 4294967296 : Nat) : Int) := by omega
theorem mulN (a b : Nat) : (a : Int) * (b : Int) = ((a * b : Nat) : Int) := (Int.natCast_mul a b).symm
theorem addN (a b : Nat) : (a : Int) + (b : Int) = ((a + b : Nat) : Int) := (Int.natCast_add a b).symm
theorem wrapN (a : Nat) (ha : a < 18446744073709551616) : IntKind.u64.wrap (a : Int) = (a : Int) := by rw [IntKind.wrap_u64]; omega
theorem wrapM (a : Nat) : IntKind.u64.wrap (a : Int) = ((a % 18446744073709551616 : Nat) : Int) := by rw [IntKind.wrap_u64]; omega

set_option maxHeartbeats 1000000 in
/-- math/bits.Mul64: the product's upper and lower word. -/
theorem mul64_any (x y : Nat) (hx : x < 18446744073709551616) (hy : y < 18446744073709551616) (w : World) :
    Calls Tryz.prog 102 #[.int .u64 x, .int .u64 y] w fun e w' => e = .returned (.tuple #[.int .u64 ((mulHi x y : Nat) : Int), .int .u64 ((mulLo x y : Nat) : Int)]) ∧ w' = w := by
  unfold mulHi mulLo
  obtain ⟨bd, bt, bw, hhi⟩ := Lib.mul64_hi x y hx hy
  have ba := Lib.half_mul_le (a := x / 4294967296) (b := y / 4294967296) (by omega) (by omega)
  have bb := Lib.half_mul_le (a := x / 4294967296) (b := y % 4294967296) (by omega) (by omega)
  have bc := Lib.half_mul_le (a := x % 4294967296) (b := y / 4294967296) (by omega) (by omega)
  have ba' : x / 4294967296 * (y / 4294967296) < 18446744073709551616 := by omega
  have bb' : x / 4294967296 * (y % 4294967296) < 18446744073709551616 := by omega
  have bc' : x % 4294967296 * (y / 4294967296) < 18446744073709551616 := by omega
  have bh1 : x / 4294967296 * (y / 4294967296) + (x / 4294967296 * (y % 4294967296) + x % 4294967296 * (y % 4294967296) / 4294967296) / 4294967296 < 18446744073709551616 := by omega
  have bh : x / 4294967296 * (y / 4294967296) + (x / 4294967296 * (y % 4294967296) + x % 4294967296 * (y % 4294967296) / 4294967296) / 4294967296 + ((x / 4294967296 * (y % 4294967296) + x % 4294967296 * (y % 4294967296) / 4294967296) % 4294967296 + x % 4294967296 * (y / 4294967296)) / 4294967296 < 18446744073709551616 := by omega
  go_enter Tryz.func102, Tryz.ntmps102
  go_wp2
  simp only [maskN x hx, maskN y hy, divN, mulN, addN, wrapN _ bd, wrapN _ bb', wrapN _ bt, maskN _ bt, wrapN _ bc', wrapN _ bw, wrapN _ ba', wrapN _ bh1, wrapN _ bh, wrapM (x * y)]
  rw [hhi]
  go_ret2
  exact ⟨rfl, rfl⟩

set_option maxHeartbeats 2000000 in
theorem mulWord_walk (a0 a1 a2 a3 v h0 h1 h2 h3 l0 l1 l2 l3 s0 s1 s2 s3 o0 o1 o2 o3 c1 c2 c3 c4 : Nat) (w : World)
    (m0 : ∀ w, Calls Tryz.prog 102 #[.int .u64 a0, .int .u64 v] w fun e w' => e = .returned (.tuple #[.int .u64 h0, .int .u64 l0]) ∧ w' = w)
    (m1 : ∀ w, Calls Tryz.prog 102 #[.int .u64 a1, .int .u64 v] w fun e w' => e = .returned (.tuple #[.int .u64 h1, .int .u64 l1]) ∧ w' = w)
    (m2 : ∀ w, Calls Tryz.prog 102 #[.int .u64 a2, .int .u64 v] w fun e w' => e = .returned (.tuple #[.int .u64 h2, .int .u64 l2]) ∧ w' = w)
    (m3 : ∀ w, Calls Tryz.prog 102 #[.int .u64 a3, .int .u64 v] w fun e w' => e = .returned (.tuple #[.int .u64 h3, .int .u64 l3]) ∧ w' = w)
    (e0 : ∀ w, (callFunc 84 #[.int .u64 l0, .int .u64 0, .int .u64 0]).run Tryz.prog w = .ok (.value (.tuple #[.int .u64 s0, .int .u64 o0])) w)
    (e1 : ∀ w, (callFunc 84 #[.int .u64 l1, .int .u64 c1, .int .u64 0]).run Tryz.prog w = .ok (.value (.tuple #[.int .u64 s1, .int .u64 o1])) w)
    (e2 : ∀ w, (callFunc 84 #[.int .u64 l2, .int .u64 c2, .int .u64 0]).run Tryz.prog w = .ok (.value (.tuple #[.int .u64 s2, .int .u64 o2])) w)
    (e3 : ∀ w, (callFunc 84 #[.int .u64 l3, .int .u64 c3, .int .u64 0]).run Tryz.prog w = .ok (.value (.tuple #[.int .u64 s3, .int .u64 o3])) w)
    (k1 : IntKind.u64.wrap ((h0 : Int) + (o0 : Int)) = (c1 : Int)) (k2 : IntKind.u64.wrap ((h1 : Int) + (o1 : Int)) = (c2 : Int)) (k3 : IntKind.u64.wrap ((h2 : Int) + (o2 : Int)) = (c3 : Int)) (k4 : IntKind.u64.wrap ((h3 : Int) + (o3 : Int)) = (c4 : Int)) :
    Calls Tryz.prog 99 #[.agg #[.int .u64 a0, .int .u64 a1, .int .u64 a2, .int .u64 a3], .int .u64 v] w fun e w' =>
      e = .returned (.tuple #[.agg #[.int .u64 s0, .int .u64 s1, .int .u64 s2, .int .u64 s3], .int .u64 c4]) ∧ Below w.heap.size w w' := by
  have M0 := (show Hid _ from m0); have M1 := (show Hid _ from m1); have M2 := (show Hid _ from m2); have M3 := (show Hid _ from m3)
  clear m0 m1 m2 m3
  go_enter Tryz.func99, Tryz.ntmps99
  go_wp2
  refine wp_loop_rounds 5 ?_
  rw [rounds_succ]
  go_wp2_with fail
  refine (M0.out _).mono ?_
  rintro e w' ⟨rfl, rfl⟩
  go_wp2
  rw [rounds_succ]
  go_wp2_with fail
  refine (M1.out _).mono ?_
  rintro e w' ⟨rfl, rfl⟩
  go_wp2
  rw [rounds_succ]
  go_wp2_with fail
  refine (M2.out _).mono ?_
  rintro e w' ⟨rfl, rfl⟩
  go_wp2
  rw [rounds_succ]
  go_wp2_with fail
  refine (M3.out _).mono ?_
  rintro e w' ⟨rfl, rfl⟩
  go_wp2
  rw [rounds_succ]
  go_wp2
  refine bodyPost_ret (v := .tuple #[.agg #[.int .u64 s0, .int .u64 s1, .int .u64 s2, .int .u64 s3], .int .u64 c4]) (by simp [results, Tryz.results99, go_sem]) rfl ⟨rfl, ?_⟩
  repeat (first | with_reducible exact Below.refl _ _ | with_reducible refine Below.drew ?_ | with_reducible refine Below.alloc ?_ (by first | omega | (simp; omega) | simp) _)

theorem wrap_sum (a b c : Nat) (h : a + b = c) (hc : c < 18446744073709551616) : IntKind.u64.wrap ((a : Int) + (b : Int)) = (c : Int) := by
  rw [IntKind.wrap_u64]; omega

/-- word.mulWord: a number times a word: the lowest 256 bits, and the word above them. -/
theorem mulWord_any (A v : Nat) (hA : A < 115792089237316195423570985008687907853269984665640564039457584007913129639936) (hv : v < 18446744073709551616) (w : World) :
    Calls Tryz.prog 99 #[.agg #[.int .u64 ((limb 0 (A) : Nat) : Int), .int .u64 ((limb 1 (A) : Nat) : Int), .int .u64 ((limb 2 (A) : Nat) : Int), .int .u64 ((limb 3 (A) : Nat) : Int)], .int .u64 (v : Int)] w fun e w' => e = .returned (.tuple #[.agg #[.int .u64 ((limb 0 (lo256 (A * v)) : Nat) : Int), .int .u64 ((limb 1 (lo256 (A * v)) : Nat) : Int), .int .u64 ((limb 2 (lo256 (A * v)) : Nat) : Int), .int .u64 ((limb 3 (lo256 (A * v)) : Nat) : Int)], .int .u64 ((hi256 (A * v) : Nat) : Int)]) ∧ Below w.heap.size w w' := by
  obtain ⟨o0, o1, o2, o3, c1, c2, c3, c4, p0, q0, k1, b0, p1, q1, k2, b1, p2, q2, k3, b2, p3, q3, k4, b3, hc⟩ := mulWord_limbs A v hA hv
  rw [← hc]
  exact mulWord_walk _ _ _ _ v _ _ _ _ _ _ _ _ _ _ _ _ o0 o1 o2 o3 c1 c2 c3 c4 w (fun w => mul64_any _ v (limb_lt _ _) hv w) (fun w => mul64_any _ v (limb_lt _ _) hv w) (fun w => mul64_any _ v (limb_lt _ _) hv w) (fun w => mul64_any _ v (limb_lt _ _) hv w)
    (run_pair_eq p0 q0 fun w => add64_run _ 0 0 (by decide) w) (run_pair_eq p1 q1 fun w => add64_run _ _ 0 (by decide) w) (run_pair_eq p2 q2 fun w => add64_run _ _ 0 (by decide) w) (run_pair_eq p3 q3 fun w => add64_run _ _ 0 (by decide) w)
    (wrap_sum _ _ _ k1 b0) (wrap_sum _ _ _ k2 b1) (wrap_sum _ _ _ k3 b2) (wrap_sum _ _ _ k4 b3)

end Go.Proofs.YtfdddpndjmookaaGreatDoor

