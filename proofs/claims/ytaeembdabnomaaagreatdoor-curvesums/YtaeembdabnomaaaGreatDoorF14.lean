/- The laws of a field, as plain arithmetic; the statements' own first look (alive) of layer 2. -/
import Derived.Test.YtaeembdabnomaaaGreatDoorF13
namespace Go.Proofs.YtaeembdabnomaaaGreatDoor
open Go.RowKit

theorem mulP_comm (s a b : Nat) : mulP s b a = mulP s a b := by unfold mulP; rw [Nat.mul_comm]
theorem mulP_assoc (s a b c : Nat) : mulP s a (mulP s b c) = mulP s (mulP s a b) c := by
  unfold mulP; rw [Nat.mul_mod_mod, Nat.mod_mul_mod, Nat.mul_assoc]
theorem mulP_add (s a b c : Nat) : addP s (mulP s a b) (mulP s a c) = mulP s a (addP s b c) := by
  unfold mulP addP; rw [← Nat.add_mod, Nat.mul_mod_mod, Nat.mul_add]
theorem subP_back (s b c : Nat) : addP s b 0 = subP s (addP s b c) c := by
  have hp := modN_pos s
  have hc := Nat.mod_lt c hp
  have hd := Nat.div_add_mod c (modN s)
  unfold subP addP
  rw [Nat.mod_add_mod, Nat.add_zero, show b + c + (modN s - c % modN s) = b + modN s * (c / modN s + 1) from by rw [Nat.mul_add]; omega, Nat.add_mul_mod_self_left]
theorem negP_zero (s a : Nat) : addP s a (subP s 0 a) = 0 := by
  have hp := modN_pos s
  have hc := Nat.mod_lt a hp
  have hd := Nat.div_add_mod a (modN s)
  unfold addP subP
  rw [Nat.add_mod_mod, Nat.zero_add, show a + (modN s - a % modN s) = modN s * (a / modN s + 1) from by rw [Nat.mul_add]; omega, Nat.mul_mod_right]
theorem invP_one (s q a : Nat) (h : q * (a % modN s) % modN s = 1) : mulP s q a = 1 := by unfold mulP; rw [← Nat.mul_mod_mod]; exact h
theorem zeroP (s a : Nat) (h : a % modN s = 0) : addP s a 0 = 0 := by unfold addP; rw [Nat.add_zero]; exact h
theorem modN_lt (s : Nat) : modN s < 115792089237316195423570985008687907853269984665640564039457584007913129639936 := (modN_good s).lt.2.2
theorem eqlN (X n : Nat) (hX : X < 115792089237316195423570985008687907853269984665640564039457584007913129639936) (hn : n < 18446744073709551616) (w : World) : (binOp .eql 24 (.agg #[.int .u64 ((limb 0 (X) : Nat) : Int), .int .u64 ((limb 1 (X) : Nat) : Int), .int .u64 ((limb 2 (X) : Nat) : Int), .int .u64 ((limb 3 (X) : Nat) : Int)]) (.agg #[.int .u64 (n : Int), .int .u64 0, .int .u64 0, .int .u64 0])).run Tryz.prog w = .ok (.bool (decide (X = n))) w := by
  have h := eqlE X n hX (by omega) w
  rw [limb_small n 0 hn, limb_small n 1 hn, limb_small n 2 hn, limb_small n 3 hn, if_pos rfl, if_neg (by decide), if_neg (by decide), if_neg (by decide)] at h
  exact h
theorem neqZ (X : Nat) (hX : X < 115792089237316195423570985008687907853269984665640564039457584007913129639936) (w : World) : (binOp .neq 24 (.agg #[.int .u64 ((limb 0 (X) : Nat) : Int), .int .u64 ((limb 1 (X) : Nat) : Int), .int .u64 ((limb 2 (X) : Nat) : Int), .int .u64 ((limb 3 (X) : Nat) : Int)]) (.agg #[.int .u64 0, .int .u64 0, .int .u64 0, .int .u64 0])).run Tryz.prog w = .ok (.bool (!decide (X = 0))) w := by
  have h := neqE X 0 hX (by decide) w
  rw [limb_zero, limb_zero, limb_zero, limb_zero] at h
  exact h
theorem word_agg (n : Nat) (hn : n < 18446744073709551616) : (.agg #[.int .u64 ((limb 0 (n) : Nat) : Int), .int .u64 ((limb 1 (n) : Nat) : Int), .int .u64 ((limb 2 (n) : Nat) : Int), .int .u64 ((limb 3 (n) : Nat) : Int)] : Value) = .agg #[.int .u64 (n : Int), .int .u64 0, .int .u64 0, .int .u64 0] := by
  rw [limb_small n 0 hn, limb_small n 1 hn, limb_small n 2 hn, limb_small n 3 hn, if_pos rfl, if_neg (by decide), if_neg (by decide), if_neg (by decide)]
  rfl

theorem half_one (p h q : Nat) (hp : p + 1 = 2 * h) (hp0 : 0 < p) (lq : q < p) (hq : q * 2 % p = 1) : q = h := by
  have h1 := Nat.div_add_mod (q * 2) p
  rw [hq] at h1
  have hk : q * 2 / p < 2 := by rw [Nat.div_lt_iff_lt_mul hp0]; omega
  obtain ⟨k, ek⟩ : ∃ k, k = q * 2 / p := ⟨_, rfl⟩
  rw [← ek] at h1 hk
  have h2 : k = 0 ∨ k = 1 := by omega
  rcases h2 with rfl | rfl
  · omega
  · omega
theorem q_alive (q : Nat) (lq : q < 16513537) (hq : q * 2 % 16513537 = 1) : q = 8256769 := half_one 16513537 8256769 q (by decide) (by decide) lq hq
theorem inv_alive (w : World) (hg : Glob w) : Calls Tryz.prog 67 #[.int .i64 0, .agg #[.int .u64 2, .int .u64 0, .int .u64 0, .int .u64 0]] w fun e w' => e = .returned (.tuple #[.agg #[.int .u64 8256769, .int .u64 0, .int .u64 0, .int .u64 0], .int .i64 0]) ∧ Below w.heap.size w w' := by
  have h := fInv_any 0 2 (by decide) (by decide) w hg
  rw [word_agg 2 (by decide)] at h
  refine h.mono ?_
  rintro e w1 ⟨he, hb1⟩
  refine ⟨?_, hb1⟩
  rw [show modN 0 = 16513537 from rfl, show 2 % 16513537 = 2 from by decide] at he
  rcases he with ⟨h, _⟩ | ⟨_, q, lq, hq, he⟩
  · cases h
  · have hq2 := q_alive q lq hq
    subst hq2
    rw [he]
    exact congrArg (fun v => Ending.returned (.tuple #[v, .int .i64 0])) (word_agg 8256769 (by decide))
theorem add_alive (w : World) (hg : Glob w) : Calls Tryz.prog 58 #[.int .i64 0, .agg #[.int .u64 16513536, .int .u64 0, .int .u64 0, .int .u64 0], .agg #[.int .u64 2, .int .u64 0, .int .u64 0, .int .u64 0]] w fun e w' => e = .returned (.agg #[.int .u64 1, .int .u64 0, .int .u64 0, .int .u64 0]) ∧ Below w.heap.size w w' := by
  have h := fAdd_any 0 16513536 2 (by decide) (by decide) (by decide) w hg
  rw [show addP 0 16513536 2 = 1 from by decide, word_agg 2 (by decide), word_agg 16513536 (by decide), word_agg 1 (by decide)] at h
  exact h

end Go.Proofs.YtaeembdabnomaaaGreatDoor
