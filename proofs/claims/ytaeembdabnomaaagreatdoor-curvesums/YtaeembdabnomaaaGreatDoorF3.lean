/- What field.addRow does: a number and another one times a word. -/
import Derived.Test.YtaeembdabnomaaaGreatDoorF2
import Derived.Test.YtaeembdabnomaaaGreatDoorCore2
namespace Go.Proofs.YtaeembdabnomaaaGreatDoor
open Go.RowKit

theorem row_lin (n0 n1 n2 n3 l0 l1 l2 l3 h0 h1 h2 h3 a1 a2 a3 c1 c2 c3 t b0 b1 b2 b3 d1 d2 d3 d4 : Nat)
    (e1 : l1 + h0 = a1 + 18446744073709551616 * c1) (e2 : l2 + h1 + c1 = a2 + 18446744073709551616 * c2) (e3 : l3 + h2 + c2 = a3 + 18446744073709551616 * c3) (et : h3 + c3 = t)
    (f0 : l0 + n0 = b0 + 18446744073709551616 * d1) (f1 : a1 + n1 + d1 = b1 + 18446744073709551616 * d2) (f2 : a2 + n2 + d2 = b2 + 18446744073709551616 * d3) (f3 : a3 + n3 + d3 = b3 + 18446744073709551616 * d4) :
    (n0 + 18446744073709551616 * n1 + 340282366920938463463374607431768211456 * n2 + 6277101735386680763835789423207666416102355444464034512896 * n3) + ((l0 + 18446744073709551616 * h0) + 18446744073709551616 * (l1 + 18446744073709551616 * h1) + 340282366920938463463374607431768211456 * (l2 + 18446744073709551616 * h2) + 6277101735386680763835789423207666416102355444464034512896 * (l3 + 18446744073709551616 * h3)) = b0 + 18446744073709551616 * (b1 + 18446744073709551616 * b2 + 340282366920938463463374607431768211456 * b3 + 6277101735386680763835789423207666416102355444464034512896 * (t + d4)) := by omega
theorem dm (x : Nat) : x = x % 18446744073709551616 + 18446744073709551616 * (x / 18446744073709551616) := (Nat.mod_add_div x _).symm
theorem dm0 (x y : Nat) : x + y = (x + y + 0) % 18446744073709551616 + 18446744073709551616 * ((x + y + 0) / 18446744073709551616) := dm _
theorem carry_le (x y c : Nat) (hx : x < 18446744073709551616) (hy : y < 18446744073709551616) (hc : c ≤ 1) : (x + y + c) / 18446744073709551616 ≤ 1 := by omega
theorem top_lt (N P b H T r : Nat) (key : N + P = b + 18446744073709551616 * H) (hN : N < 115792089237316195423570985008687907853269984665640564039457584007913129639936) (hP : P ≤ (115792089237316195423570985008687907853269984665640564039457584007913129639936 - 1) * (18446744073709551616 - 1)) (hH : H = r + 6277101735386680763835789423207666416102355444464034512896 * T) : T < 18446744073709551616 := by omega
theorem mul_limbs (X v : Nat) (hX : X < 115792089237316195423570985008687907853269984665640564039457584007913129639936) : X * v = limb 0 X * v + 18446744073709551616 * (limb 1 X * v) + 340282366920938463463374607431768211456 * (limb 2 X * v) + 6277101735386680763835789423207666416102355444464034512896 * (limb 3 X * v) := by
  have h := limbs_sum X hX
  generalize limb 0 X = a at *
  generalize limb 1 X = b at *
  generalize limb 2 X = c at *
  generalize limb 3 X = d at *
  subst h
  rw [Nat.add_mul, Nat.add_mul, Nat.add_mul, Nat.mul_assoc, Nat.mul_assoc, Nat.mul_assoc]

set_option maxHeartbeats 4000000 in
theorem addRow_walk (n0 n1 n2 n3 x0 x1 x2 x3 v h0 h1 h2 h3 l0 l1 l2 l3 a1 a2 a3 c1 c2 c3 t b0 b1 b2 b3 d1 d2 d3 d4 T : Nat) (w : World)
    (m0 : ∀ w, Calls Tryz.prog 121 #[.int .u64 x0, .int .u64 v] w fun e w' => e = .returned (.tuple #[.int .u64 h0, .int .u64 l0]) ∧ w' = w)
    (m1 : ∀ w, Calls Tryz.prog 121 #[.int .u64 x1, .int .u64 v] w fun e w' => e = .returned (.tuple #[.int .u64 h1, .int .u64 l1]) ∧ w' = w)
    (m2 : ∀ w, Calls Tryz.prog 121 #[.int .u64 x2, .int .u64 v] w fun e w' => e = .returned (.tuple #[.int .u64 h2, .int .u64 l2]) ∧ w' = w)
    (m3 : ∀ w, Calls Tryz.prog 121 #[.int .u64 x3, .int .u64 v] w fun e w' => e = .returned (.tuple #[.int .u64 h3, .int .u64 l3]) ∧ w' = w)
    (e1 : ∀ w, (callFunc 119 #[.int .u64 l1, .int .u64 h0, .int .u64 0]).run Tryz.prog w = .ok (.value (.tuple #[.int .u64 a1, .int .u64 c1])) w)
    (e2 : ∀ w, (callFunc 119 #[.int .u64 l2, .int .u64 h1, .int .u64 c1]).run Tryz.prog w = .ok (.value (.tuple #[.int .u64 a2, .int .u64 c2])) w)
    (e3 : ∀ w, (callFunc 119 #[.int .u64 l3, .int .u64 h2, .int .u64 c2]).run Tryz.prog w = .ok (.value (.tuple #[.int .u64 a3, .int .u64 c3])) w)
    (f0 : ∀ w, (callFunc 119 #[.int .u64 l0, .int .u64 n0, .int .u64 0]).run Tryz.prog w = .ok (.value (.tuple #[.int .u64 b0, .int .u64 d1])) w)
    (f1 : ∀ w, (callFunc 119 #[.int .u64 a1, .int .u64 n1, .int .u64 d1]).run Tryz.prog w = .ok (.value (.tuple #[.int .u64 b1, .int .u64 d2])) w)
    (f2 : ∀ w, (callFunc 119 #[.int .u64 a2, .int .u64 n2, .int .u64 d2]).run Tryz.prog w = .ok (.value (.tuple #[.int .u64 b2, .int .u64 d3])) w)
    (f3 : ∀ w, (callFunc 119 #[.int .u64 a3, .int .u64 n3, .int .u64 d3]).run Tryz.prog w = .ok (.value (.tuple #[.int .u64 b3, .int .u64 d4])) w)
    (k1 : IntKind.u64.wrap ((h3 : Int) + (c3 : Int)) = (t : Int)) (k2 : IntKind.u64.wrap ((t : Int) + (d4 : Int)) = (T : Int)) :
    Calls Tryz.prog 113 #[.agg #[.int .u64 n0, .int .u64 n1, .int .u64 n2, .int .u64 n3], .agg #[.int .u64 x0, .int .u64 x1, .int .u64 x2, .int .u64 x3], .int .u64 v] w fun e w' =>
      e = .returned (.tuple #[.int .u64 b0, .agg #[.int .u64 b1, .int .u64 b2, .int .u64 b3, .int .u64 T]]) ∧ Below w.heap.size w w' := by
  have M0 := (show Hid _ from m0); have M1 := (show Hid _ from m1); have M2 := (show Hid _ from m2); have M3 := (show Hid _ from m3)
  clear m0 m1 m2 m3
  go_enter Tryz.func113, Tryz.ntmps113
  go_wp2_with fail
  refine (M0.out _).mono ?_
  rintro e w' ⟨rfl, rfl⟩
  go_wp2_with fail
  refine (M1.out _).mono ?_
  rintro e w' ⟨rfl, rfl⟩
  go_wp2_with fail
  refine (M2.out _).mono ?_
  rintro e w' ⟨rfl, rfl⟩
  go_wp2_with fail
  refine (M3.out _).mono ?_
  rintro e w' ⟨rfl, rfl⟩
  go_wp2
  refine bodyPost_ret (v := .tuple #[.int .u64 b0, .agg #[.int .u64 b1, .int .u64 b2, .int .u64 b3, .int .u64 T]]) (by simp [results, Tryz.results113, go_sem]) rfl ⟨rfl, ?_⟩
  repeat (first | with_reducible exact Below.refl _ _ | with_reducible refine Below.drew ?_ | with_reducible refine Below.setCell ?_ (by first | omega | (simp; omega) | simp) _ | with_reducible refine Below.alloc ?_ (by first | omega | (simp; omega) | simp) _)

/-- field.addRow: the lowest word of N + X * v, and the words above it. -/
theorem addRow_any (N X v : Nat) (hN : N < 115792089237316195423570985008687907853269984665640564039457584007913129639936) (hX : X < 115792089237316195423570985008687907853269984665640564039457584007913129639936) (hv : v < 18446744073709551616) (w : World) :
    Calls Tryz.prog 113 #[.agg #[.int .u64 ((limb 0 (N) : Nat) : Int), .int .u64 ((limb 1 (N) : Nat) : Int), .int .u64 ((limb 2 (N) : Nat) : Int), .int .u64 ((limb 3 (N) : Nat) : Int)], .agg #[.int .u64 ((limb 0 (X) : Nat) : Int), .int .u64 ((limb 1 (X) : Nat) : Int), .int .u64 ((limb 2 (X) : Nat) : Int), .int .u64 ((limb 3 (X) : Nat) : Int)], .int .u64 (v : Int)] w fun e w' => e = .returned (.tuple #[.int .u64 (((N + X * v) % 18446744073709551616 : Nat) : Int), .agg #[.int .u64 ((limb 0 ((N + X * v) / 18446744073709551616) : Nat) : Int), .int .u64 ((limb 1 ((N + X * v) / 18446744073709551616) : Nat) : Int), .int .u64 ((limb 2 ((N + X * v) / 18446744073709551616) : Nat) : Int), .int .u64 ((limb 3 ((N + X * v) / 18446744073709551616) : Nat) : Int)]]) ∧ Below w.heap.size w w' := by
  have hn := limbs_sum N hN
  have n0 := limb_lt 0 N; have n1 := limb_lt 1 N; have n2 := limb_lt 2 N; have n3 := limb_lt 3 N
  have x0 := limb_lt 0 X; have x1 := limb_lt 1 X; have x2 := limb_lt 2 X; have x3 := limb_lt 3 X
  have p0 := mulLoHi (limb 0 X) v; have p1 := mulLoHi (limb 1 X) v; have p2 := mulLoHi (limb 2 X) v; have p3 := mulLoHi (limb 3 X) v
  have q0 := mulLo_lt (limb 0 X) v; have q1 := mulLo_lt (limb 1 X) v; have q2 := mulLo_lt (limb 2 X) v; have q3 := mulLo_lt (limb 3 X) v
  have r0 := mulHi_le (limb 0 X) v x0 hv; have r1 := mulHi_le (limb 1 X) v x1 hv; have r2 := mulHi_le (limb 2 X) v x2 hv; have r3 := mulHi_le (limb 3 X) v x3 hv
  have hx := mul_limbs X v hX
  have hmul : X * v ≤ (115792089237316195423570985008687907853269984665640564039457584007913129639936 - 1) * (18446744073709551616 - 1) := Nat.mul_le_mul (by omega) (by omega)
  have W := fun a1 a2 a3 c1 c2 c3 t b0 b1 b2 b3 d1 d2 d3 d4 T => addRow_walk (limb 0 N) (limb 1 N) (limb 2 N) (limb 3 N) (limb 0 X) (limb 1 X) (limb 2 X) (limb 3 X) v (mulHi (limb 0 X) v) (mulHi (limb 1 X) v) (mulHi (limb 2 X) v) (mulHi (limb 3 X) v) (mulLo (limb 0 X) v) (mulLo (limb 1 X) v) (mulLo (limb 2 X) v) (mulLo (limb 3 X) v)
    a1 a2 a3 c1 c2 c3 t b0 b1 b2 b3 d1 d2 d3 d4 T w (fun w => mul64_any _ v x0 hv w) (fun w => mul64_any _ v x1 hv w) (fun w => mul64_any _ v x2 hv w) (fun w => mul64_any _ v x3 hv w)
  generalize mulLo (limb 0 X) v = l0 at *
  generalize mulLo (limb 1 X) v = l1 at *
  generalize mulLo (limb 2 X) v = l2 at *
  generalize mulLo (limb 3 X) v = l3 at *
  generalize mulHi (limb 0 X) v = h0 at *
  generalize mulHi (limb 1 X) v = h1 at *
  generalize mulHi (limb 2 X) v = h2 at *
  generalize mulHi (limb 3 X) v = h3 at *
  rw [← p0, ← p1, ← p2, ← p3] at hx
  clear p0 p1 p2 p3
  obtain ⟨a1, ea1⟩ : ∃ a1, a1 = (l1 + h0 + 0) % 18446744073709551616 := ⟨_, rfl⟩
  obtain ⟨c1, ec1⟩ : ∃ c1, c1 = (l1 + h0 + 0) / 18446744073709551616 := ⟨_, rfl⟩
  have lc1 : c1 ≤ 1 := by rw [ec1]; exact carry_le _ _ _ q1 (by omega) (by decide)
  obtain ⟨a2, ea2⟩ : ∃ a2, a2 = (l2 + h1 + c1) % 18446744073709551616 := ⟨_, rfl⟩
  obtain ⟨c2, ec2⟩ : ∃ c2, c2 = (l2 + h1 + c1) / 18446744073709551616 := ⟨_, rfl⟩
  have lc2 : c2 ≤ 1 := by rw [ec2]; exact carry_le _ _ _ q2 (by omega) lc1
  obtain ⟨a3, ea3⟩ : ∃ a3, a3 = (l3 + h2 + c2) % 18446744073709551616 := ⟨_, rfl⟩
  obtain ⟨c3, ec3⟩ : ∃ c3, c3 = (l3 + h2 + c2) / 18446744073709551616 := ⟨_, rfl⟩
  have lc3 : c3 ≤ 1 := by rw [ec3]; exact carry_le _ _ _ q3 (by omega) lc2
  have la1 : a1 < 18446744073709551616 := by rw [ea1]; exact Nat.mod_lt _ (by decide)
  have la2 : a2 < 18446744073709551616 := by rw [ea2]; exact Nat.mod_lt _ (by decide)
  have la3 : a3 < 18446744073709551616 := by rw [ea3]; exact Nat.mod_lt _ (by decide)
  obtain ⟨b0, eb0⟩ : ∃ b0, b0 = (l0 + limb 0 N + 0) % 18446744073709551616 := ⟨_, rfl⟩
  obtain ⟨d1, ed1⟩ : ∃ d1, d1 = (l0 + limb 0 N + 0) / 18446744073709551616 := ⟨_, rfl⟩
  have ld1 : d1 ≤ 1 := by rw [ed1]; exact carry_le _ _ _ q0 n0 (by decide)
  obtain ⟨b1, eb1⟩ : ∃ b1, b1 = (a1 + limb 1 N + d1) % 18446744073709551616 := ⟨_, rfl⟩
  obtain ⟨d2, ed2⟩ : ∃ d2, d2 = (a1 + limb 1 N + d1) / 18446744073709551616 := ⟨_, rfl⟩
  have ld2 : d2 ≤ 1 := by rw [ed2]; exact carry_le _ _ _ la1 n1 ld1
  obtain ⟨b2, eb2⟩ : ∃ b2, b2 = (a2 + limb 2 N + d2) % 18446744073709551616 := ⟨_, rfl⟩
  obtain ⟨d3, ed3⟩ : ∃ d3, d3 = (a2 + limb 2 N + d2) / 18446744073709551616 := ⟨_, rfl⟩
  have ld3 : d3 ≤ 1 := by rw [ed3]; exact carry_le _ _ _ la2 n2 ld2
  obtain ⟨b3, eb3⟩ : ∃ b3, b3 = (a3 + limb 3 N + d3) % 18446744073709551616 := ⟨_, rfl⟩
  obtain ⟨d4, ed4⟩ : ∃ d4, d4 = (a3 + limb 3 N + d3) / 18446744073709551616 := ⟨_, rfl⟩
  have lb0 : b0 < 18446744073709551616 := by rw [eb0]; exact Nat.mod_lt _ (by decide)
  have lb1 : b1 < 18446744073709551616 := by rw [eb1]; exact Nat.mod_lt _ (by decide)
  have lb2 : b2 < 18446744073709551616 := by rw [eb2]; exact Nat.mod_lt _ (by decide)
  have lb3 : b3 < 18446744073709551616 := by rw [eb3]; exact Nat.mod_lt _ (by decide)
  have key := row_lin (limb 0 N) (limb 1 N) (limb 2 N) (limb 3 N) l0 l1 l2 l3 h0 h1 h2 h3 a1 a2 a3 c1 c2 c3 (h3 + c3) b0 b1 b2 b3 d1 d2 d3 d4 (by rw [ea1, ec1]; exact dm0 _ _) (by rw [ea2, ec2]; exact dm _) (by rw [ea3, ec3]; exact dm _) rfl (by rw [eb0, ed1]; exact dm0 _ _) (by rw [eb1, ed2]; exact dm _) (by rw [eb2, ed3]; exact dm _) (by rw [eb3, ed4]; exact dm _)
  rw [← hn, ← hx] at key
  have lT : h3 + c3 + d4 < 18446744073709551616 := top_lt N (X * v) b0 _ (h3 + c3 + d4) _ key hN hmul rfl
  have g := limbs_of b1 b2 b3 (h3 + c3 + d4) lb1 lb2 lb3 lT _ rfl
  have e1 : (N + X * v) % 18446744073709551616 = b0 := by rw [key, Nat.add_mul_mod_self_left, Nat.mod_eq_of_lt lb0]
  have e2 : (N + X * v) / 18446744073709551616 = b1 + 18446744073709551616 * b2 + 340282366920938463463374607431768211456 * b3 + 6277101735386680763835789423207666416102355444464034512896 * (h3 + c3 + d4) := by rw [key, Nat.add_mul_div_left _ _ (by decide), Nat.div_eq_of_lt lb0, Nat.zero_add]
  rw [e1, e2, ← g.1, ← g.2.1, ← g.2.2.1, ← g.2.2.2.1]
  refine W a1 a2 a3 c1 c2 c3 (h3 + c3) b0 b1 b2 b3 d1 d2 d3 d4 (h3 + c3 + d4) ?_ ?_ ?_ ?_ ?_ ?_ ?_ (wrap_sum _ _ _ rfl (by omega)) (wrap_sum _ _ _ rfl lT)
  · exact run_pair_eq ea1.symm ec1.symm fun w => add64_run _ _ 0 (by decide) w
  · exact run_pair_eq ea2.symm ec2.symm fun w => add64_run _ _ _ lc1 w
  · exact run_pair_eq ea3.symm ec3.symm fun w => add64_run _ _ _ lc2 w
  · exact run_pair_eq eb0.symm ed1.symm fun w => add64_run _ _ 0 (by decide) w
  · exact run_pair_eq eb1.symm ed2.symm fun w => add64_run _ _ _ ld1 w
  · exact run_pair_eq eb2.symm ed3.symm fun w => add64_run _ _ _ ld2 w
  · exact run_pair_eq eb3.symm ed4.symm fun w => add64_run _ _ _ ld3 w

end Go.Proofs.YtaeembdabnomaaaGreatDoor
