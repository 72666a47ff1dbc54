/- What word.zerosAhead and word.Rem do. -/
import Derived.Test.YtfbfenljfdnggaaGreatDoorVCB
import Derived.Test.YtfbfenljfdnggaaGreatDoorVBE
namespace Go.Proofs.YtfbfenljfdnggaaGreatDoor
open Go.RowKit
/-- word.lengthen: two halves joined. -/
theorem lengthen_any (A B : Nat) (hA : A < 115792089237316195423570985008687907853269984665640564039457584007913129639936) (hB : B < 115792089237316195423570985008687907853269984665640564039457584007913129639936) (w : World) :
    Calls Tryz.prog 157 #[.agg #[.int .u64 ((limb 0 (A) : Nat) : Int), .int .u64 ((limb 1 (A) : Nat) : Int), .int .u64 ((limb 2 (A) : Nat) : Int), .int .u64 ((limb 3 (A) : Nat) : Int)], .agg #[.int .u64 ((limb 0 (B) : Nat) : Int), .int .u64 ((limb 1 (B) : Nat) : Int), .int .u64 ((limb 2 (B) : Nat) : Int), .int .u64 ((limb 3 (B) : Nat) : Int)]] w fun e w' => e = .returned (.agg #[.int .u64 ((limb 0 (A + 115792089237316195423570985008687907853269984665640564039457584007913129639936 * B) : Nat) : Int), .int .u64 ((limb 1 (A + 115792089237316195423570985008687907853269984665640564039457584007913129639936 * B) : Nat) : Int), .int .u64 ((limb 2 (A + 115792089237316195423570985008687907853269984665640564039457584007913129639936 * B) : Nat) : Int), .int .u64 ((limb 3 (A + 115792089237316195423570985008687907853269984665640564039457584007913129639936 * B) : Nat) : Int), .int .u64 ((limb 4 (A + 115792089237316195423570985008687907853269984665640564039457584007913129639936 * B) : Nat) : Int), .int .u64 ((limb 5 (A + 115792089237316195423570985008687907853269984665640564039457584007913129639936 * B) : Nat) : Int), .int .u64 ((limb 6 (A + 115792089237316195423570985008687907853269984665640564039457584007913129639936 * B) : Nat) : Int), .int .u64 ((limb 7 (A + 115792089237316195423570985008687907853269984665640564039457584007913129639936 * B) : Nat) : Int), .int .u64 ((limb 8 (A + 115792089237316195423570985008687907853269984665640564039457584007913129639936 * B) : Nat) : Int), .int .u64 ((limb 9 (A + 115792089237316195423570985008687907853269984665640564039457584007913129639936 * B) : Nat) : Int), .int .u64 ((limb 10 (A + 115792089237316195423570985008687907853269984665640564039457584007913129639936 * B) : Nat) : Int), .int .u64 ((limb 11 (A + 115792089237316195423570985008687907853269984665640564039457584007913129639936 * B) : Nat) : Int)]) ∧ Below w.heap.size w w' := by
  refine (lengthen_walk A B w).mono ?_
  rintro e w' ⟨rfl, hb⟩
  refine ⟨?_, hb⟩
  rw [limb_join_lo A B 0 (by decide), limb_join_lo A B 1 (by decide), limb_join_lo A B 2 (by decide), limb_join_lo A B 3 (by decide),
    show limb 4 (A + 115792089237316195423570985008687907853269984665640564039457584007913129639936 * B) = limb 0 B from limb_join_hi A B 0 hA, show limb 5 (A + 115792089237316195423570985008687907853269984665640564039457584007913129639936 * B) = limb 1 B from limb_join_hi A B 1 hA, show limb 6 (A + 115792089237316195423570985008687907853269984665640564039457584007913129639936 * B) = limb 2 B from limb_join_hi A B 2 hA, show limb 7 (A + 115792089237316195423570985008687907853269984665640564039457584007913129639936 * B) = limb 3 B from limb_join_hi A B 3 hA,
    show limb 8 (A + 115792089237316195423570985008687907853269984665640564039457584007913129639936 * B) = limb 4 B from limb_join_hi A B 4 hA, show limb 9 (A + 115792089237316195423570985008687907853269984665640564039457584007913129639936 * B) = limb 5 B from limb_join_hi A B 5 hA, show limb 10 (A + 115792089237316195423570985008687907853269984665640564039457584007913129639936 * B) = limb 6 B from limb_join_hi A B 6 hA, show limb 11 (A + 115792089237316195423570985008687907853269984665640564039457584007913129639936 * B) = limb 7 B from limb_join_hi A B 7 hA,
    limb_ge4 4 B (by decide) hB, limb_ge4 5 B (by decide) hB, limb_ge4 6 B (by decide) hB, limb_ge4 7 B (by decide) hB]
  rfl
/-- word.part, from the lowest word and from the fifth. -/
theorem part0_any (L : Nat) (w : World) :
    Calls Tryz.prog 155 #[.agg #[.int .u64 ((limb 0 (L) : Nat) : Int), .int .u64 ((limb 1 (L) : Nat) : Int), .int .u64 ((limb 2 (L) : Nat) : Int), .int .u64 ((limb 3 (L) : Nat) : Int), .int .u64 ((limb 4 (L) : Nat) : Int), .int .u64 ((limb 5 (L) : Nat) : Int), .int .u64 ((limb 6 (L) : Nat) : Int), .int .u64 ((limb 7 (L) : Nat) : Int), .int .u64 ((limb 8 (L) : Nat) : Int), .int .u64 ((limb 9 (L) : Nat) : Int), .int .u64 ((limb 10 (L) : Nat) : Int), .int .u64 ((limb 11 (L) : Nat) : Int)], .int .i64 0] w fun e w' => e = .returned (.agg #[.int .u64 ((limb 0 (L % 115792089237316195423570985008687907853269984665640564039457584007913129639936) : Nat) : Int), .int .u64 ((limb 1 (L % 115792089237316195423570985008687907853269984665640564039457584007913129639936) : Nat) : Int), .int .u64 ((limb 2 (L % 115792089237316195423570985008687907853269984665640564039457584007913129639936) : Nat) : Int), .int .u64 ((limb 3 (L % 115792089237316195423570985008687907853269984665640564039457584007913129639936) : Nat) : Int)]) ∧ Below w.heap.size w w' := by
  refine (part_walk L 0 (Or.inl rfl) w).mono ?_
  rintro e w' ⟨rfl, hb⟩
  refine ⟨?_, hb⟩
  rw [← limb_mod L 0 (by decide), ← limb_mod L 1 (by decide), ← limb_mod L 2 (by decide), ← limb_mod L 3 (by decide)]
theorem part4_any (L : Nat) (w : World) :
    Calls Tryz.prog 155 #[.agg #[.int .u64 ((limb 0 (L) : Nat) : Int), .int .u64 ((limb 1 (L) : Nat) : Int), .int .u64 ((limb 2 (L) : Nat) : Int), .int .u64 ((limb 3 (L) : Nat) : Int), .int .u64 ((limb 4 (L) : Nat) : Int), .int .u64 ((limb 5 (L) : Nat) : Int), .int .u64 ((limb 6 (L) : Nat) : Int), .int .u64 ((limb 7 (L) : Nat) : Int), .int .u64 ((limb 8 (L) : Nat) : Int), .int .u64 ((limb 9 (L) : Nat) : Int), .int .u64 ((limb 10 (L) : Nat) : Int), .int .u64 ((limb 11 (L) : Nat) : Int)], .int .i64 4] w fun e w' => e = .returned (.agg #[.int .u64 ((limb 0 (L / 115792089237316195423570985008687907853269984665640564039457584007913129639936 % 115792089237316195423570985008687907853269984665640564039457584007913129639936) : Nat) : Int), .int .u64 ((limb 1 (L / 115792089237316195423570985008687907853269984665640564039457584007913129639936 % 115792089237316195423570985008687907853269984665640564039457584007913129639936) : Nat) : Int), .int .u64 ((limb 2 (L / 115792089237316195423570985008687907853269984665640564039457584007913129639936 % 115792089237316195423570985008687907853269984665640564039457584007913129639936) : Nat) : Int), .int .u64 ((limb 3 (L / 115792089237316195423570985008687907853269984665640564039457584007913129639936 % 115792089237316195423570985008687907853269984665640564039457584007913129639936) : Nat) : Int)]) ∧ Below w.heap.size w w' := by
  refine (part_walk L 4 (Or.inr rfl) w).mono ?_
  rintro e w' ⟨rfl, hb⟩
  refine ⟨?_, hb⟩
  rw [← limb_mod _ 0 (by decide), ← limb_mod _ 1 (by decide), ← limb_mod _ 2 (by decide), ← limb_mod _ 3 (by decide), ← limb_add4, ← limb_add4, ← limb_add4, ← limb_add4]
theorem top_bound (m k L : Nat) (hm : m < 115792089237316195423570985008687907853269984665640564039457584007913129639936) (hk : k ≤ 3) (hz : ∀ j, k < j → j ≤ 3 → limb j m = 0) (ht : limb k m < 2 ^ L) (hL : L ≤ 64) : m * 2 ^ ((3 - k) * 64 + (64 - L)) < 115792089237316195423570985008687907853269984665640564039457584007913129639936 := by
  have hs := limbs_sum m hm
  have l0 := limb_lt 0 m; have l1 := limb_lt 1 m; have l2 := limb_lt 2 m
  have key : m < 2 ^ (64 * k) * 2 ^ L := by
    obtain ⟨p, hp⟩ : ∃ p, p = 2 ^ L := ⟨_, rfl⟩
    rw [← hp] at ht ⊢
    have hk4 : k = 0 ∨ k = 1 ∨ k = 2 ∨ k = 3 := by omega
    rcases hk4 with rfl | rfl | rfl | rfl
    · rw [hz 1 (by decide) (by decide), hz 2 (by decide) (by decide), hz 3 (by decide) (by decide)] at hs
      rw [show 2 ^ (64 * 0) = 1 from by decide]; omega
    · rw [hz 2 (by decide) (by decide), hz 3 (by decide) (by decide)] at hs
      rw [show 2 ^ (64 * 1) = 18446744073709551616 from by decide]; omega
    · rw [hz 3 (by decide) (by decide)] at hs
      rw [show 2 ^ (64 * 2) = 340282366920938463463374607431768211456 from by decide]; omega
    · rw [show 2 ^ (64 * 3) = 6277101735386680763835789423207666416102355444464034512896 from by decide]; omega
  have h2 := mul_lt_right m _ (2 ^ ((3 - k) * 64 + (64 - L))) key (Nat.two_pow_pos _)
  rw [← Nat.pow_add, ← Nat.pow_add, show 64 * k + L + ((3 - k) * 64 + (64 - L)) = 256 from by omega] at h2
  exact h2
set_option maxHeartbeats 1000000 in
/-- word.zerosAhead: by so many bits a number that isn't 0 can be shifted up. -/
theorem zerosAhead_any (m : Nat) (hm : m < 115792089237316195423570985008687907853269984665640564039457584007913129639936) (h0 : m ≠ 0) (w : World) :
    Calls Tryz.prog 154 #[.agg #[.int .u64 ((limb 0 (m) : Nat) : Int), .int .u64 ((limb 1 (m) : Nat) : Int), .int .u64 ((limb 2 (m) : Nat) : Int), .int .u64 ((limb 3 (m) : Nat) : Int)]] w fun e w' => ∃ n : Nat, e = .returned (.int .i64 (n : Int)) ∧ n ≤ 256 ∧ m * 2 ^ n < 115792089237316195423570985008687907853269984665640564039457584007913129639936 ∧ Below w.heap.size w w' := by
  go_enter Tryz.func154, Tryz.ntmps154
  go_wp2
  obtain ⟨w0, hw0⟩ : ∃ w0 : World, w0 = w.alloc (.cells #[.int .u64 ((limb 0 (m) : Nat) : Int), .int .u64 ((limb 1 (m) : Nat) : Int), .int .u64 ((limb 2 (m) : Nat) : Int), .int .u64 ((limb 3 (m) : Nat) : Int)] 25) := ⟨_, rfl⟩
  have bA : Blk w0 25 w.heap.size (fun i => limb i m) := by rw [hw0]; exact Blk.newAt _ _ _ (fun i => limb i m) rfl
  have hb0 : Below w.heap.size w w0 := by rw [hw0]; exact (Below.refl _ _).alloc (Nat.le_refl _) _
  rw [← hw0]
  clear hw0
  go_loop [3] (fun a => ∃ k : Nat, a = .int .i64 (k : Int) ∧ k ≤ 3 ∧ Hid (∀ j, k < j → j ≤ 3 → limb j m = 0)) (fun a => (intOf a).toNat)
  case atStart => exact ⟨3, rfl, by decide, fun j h1 h2 => by omega⟩
  case round =>
    obtain ⟨k, rfl, hk, hz⟩ := hrel
    have cA := bA.cell k (by omega)
    by_cases ht : limb k m = 0
    · have hk0 : k ≠ 0 := by
        intro e
        subst e
        have h1 := hz.out
        have := limbs_sum m hm
        rw [ht, h1 1 (by decide) (by decide), h1 2 (by decide) (by decide), h1 3 (by decide) (by decide)] at this
        exact h0 this
      have hz' : Hid (∀ j, k - 1 < j → j ≤ 3 → limb j m = 0) := by
        intro j h1 h2
        by_cases e : j = k
        · rw [e]; exact ht
        · exact hz.out j (by omega) h2
      rw [ht] at cA
      clear ht
      go_wp2
      go_round
      case rel => exact ⟨k - 1, by go_num, by omega, hz'⟩
      case measure => simp [intOf]; omega
    · have hb : (((limb k m : Nat) : Int) == 0) = false := by rw [beq_eq_false_iff_ne]; omega
      have hl := limb_lt k m
      have l64 : Lib.bitLen (limb k m) ≤ 64 := Lib.bitLen_le _ 64 (by decide) hl
      have htop := top_bound m k (Lib.bitLen (limb k m)) hm hk hz.out (bitLen_top _ hl).1 l64
      have HT := (show Hid _ from htop); clear htop
      clear ht
      go_wp2_with fail
      refine (lz64_any (limb k m) hl _).mono ?_
      rintro e w' ⟨rfl, rfl⟩
      go_wp2
      go_ret
      refine ⟨(3 - k) * 64 + (64 - Lib.bitLen (limb k m)), ?_, by omega, HT.out, hb0⟩
      refine congrArg Ending.returned (congrArg (Value.int IntKind.i64) ?_)
      omega
theorem limb_zero (i : Nat) : limb i 0 = 0 := by unfold limb; rw [Nat.zero_div]
theorem eq4N (X Y : Nat) (hX : X < 115792089237316195423570985008687907853269984665640564039457584007913129639936) (hY : Y < 115792089237316195423570985008687907853269984665640564039457584007913129639936) : (((limb 0 X : Nat) : Int) == ((limb 0 Y : Nat) : Int) && (((limb 1 X : Nat) : Int) == ((limb 1 Y : Nat) : Int) && (((limb 2 X : Nat) : Int) == ((limb 2 Y : Nat) : Int) && ((limb 3 X : Nat) : Int) == ((limb 3 Y : Nat) : Int)))) = decide (X = Y) := by
  rw [Bool.eq_iff_iff]
  simp only [Bool.and_eq_true, beq_iff_eq, decide_eq_true_eq, Int.natCast_inj]
  constructor
  · rintro ⟨h0, h1, h2, h3⟩; exact limbs_inj X Y hX hY h0 h1 h2 h3
  · rintro rfl; exact ⟨rfl, rfl, rfl, rfl⟩
theorem eqlE (X Y : Nat) (hX : X < 115792089237316195423570985008687907853269984665640564039457584007913129639936) (hY : Y < 115792089237316195423570985008687907853269984665640564039457584007913129639936) (w : World) : (binOp .eql 25 (.agg #[.int .u64 ((limb 0 (X) : Nat) : Int), .int .u64 ((limb 1 (X) : Nat) : Int), .int .u64 ((limb 2 (X) : Nat) : Int), .int .u64 ((limb 3 (X) : Nat) : Int)]) (.agg #[.int .u64 ((limb 0 (Y) : Nat) : Int), .int .u64 ((limb 1 (Y) : Nat) : Int), .int .u64 ((limb 2 (Y) : Nat) : Int), .int .u64 ((limb 3 (Y) : Nat) : Int)])).run Tryz.prog w = .ok (.bool (decide (X = Y))) w := by
  rw [eql4, eq4N X Y hX hY]
theorem neqE (X Y : Nat) (hX : X < 115792089237316195423570985008687907853269984665640564039457584007913129639936) (hY : Y < 115792089237316195423570985008687907853269984665640564039457584007913129639936) (w : World) : (binOp .neq 25 (.agg #[.int .u64 ((limb 0 (X) : Nat) : Int), .int .u64 ((limb 1 (X) : Nat) : Int), .int .u64 ((limb 2 (X) : Nat) : Int), .int .u64 ((limb 3 (X) : Nat) : Int)]) (.agg #[.int .u64 ((limb 0 (Y) : Nat) : Int), .int .u64 ((limb 1 (Y) : Nat) : Int), .int .u64 ((limb 2 (Y) : Nat) : Int), .int .u64 ((limb 3 (Y) : Nat) : Int)])).run Tryz.prog w = .ok (.bool (!decide (X = Y))) w := by
  rw [neq4, eq4N X Y hX hY]
theorem eql0 (X : Nat) (hX : X < 115792089237316195423570985008687907853269984665640564039457584007913129639936) (w : World) : (binOp .eql 25 (.agg #[.int .u64 ((limb 0 (X) : Nat) : Int), .int .u64 ((limb 1 (X) : Nat) : Int), .int .u64 ((limb 2 (X) : Nat) : Int), .int .u64 ((limb 3 (X) : Nat) : Int)]) (.agg #[.int .u64 0, .int .u64 0, .int .u64 0, .int .u64 0])).run Tryz.prog w = .ok (.bool (decide (X = 0))) w := by
  have h := eqlE X 0 hX (by decide) w
  rw [limb_zero, limb_zero, limb_zero, limb_zero] at h
  exact h
theorem lengthen_zero (A : Nat) (hA : A < 115792089237316195423570985008687907853269984665640564039457584007913129639936) (w : World) :
    Calls Tryz.prog 157 #[.agg #[.int .u64 ((limb 0 (A) : Nat) : Int), .int .u64 ((limb 1 (A) : Nat) : Int), .int .u64 ((limb 2 (A) : Nat) : Int), .int .u64 ((limb 3 (A) : Nat) : Int)], .agg #[.int .u64 0, .int .u64 0, .int .u64 0, .int .u64 0]] w fun e w' => e = .returned (.agg #[.int .u64 ((limb 0 (A) : Nat) : Int), .int .u64 ((limb 1 (A) : Nat) : Int), .int .u64 ((limb 2 (A) : Nat) : Int), .int .u64 ((limb 3 (A) : Nat) : Int), .int .u64 ((limb 4 (A) : Nat) : Int), .int .u64 ((limb 5 (A) : Nat) : Int), .int .u64 ((limb 6 (A) : Nat) : Int), .int .u64 ((limb 7 (A) : Nat) : Int), .int .u64 ((limb 8 (A) : Nat) : Int), .int .u64 ((limb 9 (A) : Nat) : Int), .int .u64 ((limb 10 (A) : Nat) : Int), .int .u64 ((limb 11 (A) : Nat) : Int)]) ∧ Below w.heap.size w w' := by
  have h := lengthen_any A 0 hA (by decide) w
  rw [limb_zero, limb_zero, limb_zero, limb_zero, Nat.mul_zero, Nat.add_zero] at h
  exact h
def remK (N D k : Nat) : Nat := N / 18446744073709551616 ^ (12 - k) % D
theorem remK_start (N D : Nat) (hN : N < 18446744073709551616 ^ 12) : remK N D 0 = 0 := by
  unfold remK; rw [Nat.sub_zero, Nat.div_eq_of_lt hN, Nat.zero_mod]
theorem remK_end (N D : Nat) : remK N D 12 = N % D := by unfold remK; rw [Nat.sub_self, Nat.pow_zero, Nat.div_one]
theorem remK_step (N D k : Nat) (hk : k < 12) : (remK N D k * 18446744073709551616 + limb (11 - k) N) % D = remK N D (k + 1) := by
  unfold remK
  have e : N / 18446744073709551616 ^ (12 - (k + 1)) = N / 18446744073709551616 ^ (12 - k) * 18446744073709551616 + limb (11 - k) N := by
    have e2 : N / 18446744073709551616 ^ (12 - k) = N / 18446744073709551616 ^ (11 - k) / 18446744073709551616 := by
      rw [Nat.div_div_eq_div_mul, ← Nat.pow_succ]; congr 2; omega
    rw [e2, show 12 - (k + 1) = 11 - k from by omega]
    unfold limb
    rw [Nat.mul_comm]
    exact (Nat.div_add_mod _ _).symm
  rw [e, Nat.add_mod, Nat.mul_mod, Nat.mod_mod, ← Nat.mul_mod, ← Nat.add_mod]
theorem num_lt (A B n : Nat) (hA : A < 115792089237316195423570985008687907853269984665640564039457584007913129639936) (hB : B < 115792089237316195423570985008687907853269984665640564039457584007913129639936) (hn : n ≤ 256) : (A + 115792089237316195423570985008687907853269984665640564039457584007913129639936 * B) * 2 ^ n < 18446744073709551616 ^ 12 := by
  have h1 : A + 115792089237316195423570985008687907853269984665640564039457584007913129639936 * B < 115792089237316195423570985008687907853269984665640564039457584007913129639936 * 115792089237316195423570985008687907853269984665640564039457584007913129639936 := by omega
  have h2 := mul_lt_right _ _ (2 ^ n) h1 (Nat.two_pow_pos n)
  have h3 : 2 ^ n ≤ 2 ^ 256 := Nat.pow_le_pow_right (by decide) hn
  have h4 : 115792089237316195423570985008687907853269984665640564039457584007913129639936 * 115792089237316195423570985008687907853269984665640564039457584007913129639936 * 2 ^ n ≤ 115792089237316195423570985008687907853269984665640564039457584007913129639936 * 115792089237316195423570985008687907853269984665640564039457584007913129639936 * 2 ^ 256 := Nat.mul_le_mul_left _ h3
  have e : 115792089237316195423570985008687907853269984665640564039457584007913129639936 * 115792089237316195423570985008687907853269984665640564039457584007913129639936 * 2 ^ 256 = 18446744073709551616 ^ 12 := by decide
  rw [← e]
  exact Nat.lt_of_lt_of_le h2 h4
section
variable {W w1 : World} {r d c : Nat} {g : Nat → Nat} {v : Nat} {j : Nat}
end
theorem rem_back (X m n k : Nat) (hk : n + k = 256) (hlt : X % m < 115792089237316195423570985008687907853269984665640564039457584007913129639936) : X * 2 ^ n % (m * 2 ^ n) * 2 ^ k / 115792089237316195423570985008687907853269984665640564039457584007913129639936 % 115792089237316195423570985008687907853269984665640564039457584007913129639936 = X % m := by
  rw [Nat.mul_mod_mul_right, Nat.mul_assoc, ← Nat.pow_add, hk, show (2 : Nat) ^ 256 = 115792089237316195423570985008687907853269984665640564039457584007913129639936 from by decide, Nat.mul_div_cancel _ (by decide), Nat.mod_eq_of_lt hlt]
set_option maxHeartbeats 8000000 in
theorem rem_walk (A B m : Nat) (hA : A < 115792089237316195423570985008687907853269984665640564039457584007913129639936) (hB : B < 115792089237316195423570985008687907853269984665640564039457584007913129639936) (hm : m < 115792089237316195423570985008687907853269984665640564039457584007913129639936) (h0 : m ≠ 0) (w : World) :
    Calls Tryz.prog 126 #[.agg #[.int .u64 ((limb 0 (A) : Nat) : Int), .int .u64 ((limb 1 (A) : Nat) : Int), .int .u64 ((limb 2 (A) : Nat) : Int), .int .u64 ((limb 3 (A) : Nat) : Int)], .agg #[.int .u64 ((limb 0 (B) : Nat) : Int), .int .u64 ((limb 1 (B) : Nat) : Int), .int .u64 ((limb 2 (B) : Nat) : Int), .int .u64 ((limb 3 (B) : Nat) : Int)], .agg #[.int .u64 ((limb 0 (m) : Nat) : Int), .int .u64 ((limb 1 (m) : Nat) : Int), .int .u64 ((limb 2 (m) : Nat) : Int), .int .u64 ((limb 3 (m) : Nat) : Int)]] w fun e w' => e = .returned (.tuple #[.agg #[.int .u64 ((limb 0 ((A + 115792089237316195423570985008687907853269984665640564039457584007913129639936 * B) % m) : Nat) : Int), .int .u64 ((limb 1 ((A + 115792089237316195423570985008687907853269984665640564039457584007913129639936 * B) % m) : Nat) : Int), .int .u64 ((limb 2 ((A + 115792089237316195423570985008687907853269984665640564039457584007913129639936 * B) % m) : Nat) : Int), .int .u64 ((limb 3 ((A + 115792089237316195423570985008687907853269984665640564039457584007913129639936 * B) % m) : Nat) : Int)], .int .i64 0]) ∧ Below w.heap.size w w' := by
  have hq := fun w => eql0 m hm w
  rw [show decide (m = 0) = false from by simp [h0]] at hq
  go_enter Tryz.func126, Tryz.ntmps126
  go_wp2_with fail
  obtain ⟨w0, hw0⟩ : ∃ w0 : World, w0 = (((w.alloc (.cells #[.int .u64 ((limb 0 (A) : Nat) : Int), .int .u64 ((limb 1 (A) : Nat) : Int), .int .u64 ((limb 2 (A) : Nat) : Int), .int .u64 ((limb 3 (A) : Nat) : Int)] 25)).alloc (.cells #[.int .u64 ((limb 0 (B) : Nat) : Int), .int .u64 ((limb 1 (B) : Nat) : Int), .int .u64 ((limb 2 (B) : Nat) : Int), .int .u64 ((limb 3 (B) : Nat) : Int)] 25)).alloc (.cells #[.int .u64 ((limb 0 (m) : Nat) : Int), .int .u64 ((limb 1 (m) : Nat) : Int), .int .u64 ((limb 2 (m) : Nat) : Int), .int .u64 ((limb 3 (m) : Nat) : Int)] 25)).alloc (.cells #[.int .u64 0, .int .u64 0, .int .u64 0, .int .u64 0] 25) := ⟨_, rfl⟩
  have bA : Blk w0 25 w.heap.size (fun i => limb i A) := by rw [hw0]; exact (((Blk.newAt _ _ _ (fun i => limb i A) rfl).alloc _).alloc _).alloc _
  have bB : Blk w0 25 (w.heap.size + 1) (fun i => limb i B) := by rw [hw0]; exact ((Blk.newAt _ _ _ (fun i => limb i B) (by simp)).alloc _).alloc _
  have bm : Blk w0 25 (w.heap.size + 1 + 1) (fun i => limb i m) := by rw [hw0]; exact (Blk.newAt _ _ _ (fun i => limb i m) (by simp)).alloc _
  have b3 : Blk w0 25 (w.heap.size + 1 + 1 + 1) (fun _ => 0) := by rw [hw0]; exact Blk.newAt _ _ _ (fun _ => 0) (by simp)
  have hb0 : Below w.heap.size w w0 := by
    rw [hw0]
    repeat (first | with_reducible exact Below.refl _ _ | with_reducible refine Below.alloc ?_ (by first | omega | (simp; omega) | simp) _)
  rw [← hw0]
  clear hw0 hq
  refine (zerosAhead_any m hm h0 _).mono ?_
  rintro e w1 ⟨n, rfl, hn, hD, hb1⟩
  have bA1 := bA.belowAll hb1; have bB1 := bB.belowAll hb1; have bm1 := bm.belowAll hb1; have b31 := b3.belowAll hb1
  have hbw1 := hb0.trans (hb1.mono hb0.size)
  clear bA bB bm b3 hb0 hb1
  have cm := bm1.cell
  have HD := (show Hid _ from hD); clear hD
  go_wp2_with fail
  refine (lengthen_zero m hm _).mono ?_
  rintro e w2 ⟨rfl, hb2⟩
  go_wp2_with fail
  refine (shiftUp_any m n hn _).mono ?_
  rintro e w3 ⟨rfl, hb3⟩
  go_wp2_with fail
  refine (part0_any _ _).mono ?_
  rintro e w4 ⟨rfl, hb4⟩
  obtain ⟨D, hDe⟩ : ∃ D, D = m * 2 ^ n := ⟨_, rfl⟩
  rw [← hDe] at HD ⊢
  rw [Nat.mod_eq_of_lt HD.out]
  have EX := (show Hid _ from hDe); clear hDe
  have hb14 : Below w1.heap.size w1 w4 := hb2.trans ((hb3.trans (hb4.mono hb3.size)).mono hb2.size)
  have bA4 := bA1.belowAll hb14; have bB4 := bB1.belowAll hb14; have b34 := b31.belowAll hb14
  have hbw4 := hbw1.trans (hb14.mono hbw1.size)
  clear bA1 bB1 bm1 b31 hbw1 hb14 hb2 hb3 hb4 cm
  have cA := bA4.cell; have cB := bB4.cell
  have hz4 := b34.lt
  obtain ⟨ha4, hg4⟩ := acell (w := w4) (n := w.heap.size + 1 + 1 + 1 + 1) (by omega)
  go_wp2_with fail
  refine (lengthen_any A B hA hB _).mono ?_
  rintro e w5 ⟨rfl, hb5⟩
  go_wp2_with fail
  refine (shiftUp_any (A + 115792089237316195423570985008687907853269984665640564039457584007913129639936 * B) n hn _).mono ?_
  rintro e w6 ⟨rfl, hb6⟩
  obtain ⟨N, hNe⟩ : ∃ N, N = (A + 115792089237316195423570985008687907853269984665640564039457584007913129639936 * B) * 2 ^ n := ⟨_, rfl⟩
  have HN := (show Hid _ from hNe)
  rw [← hNe]
  clear hNe
  have bD6 : Blk w6 25 w4.heap.size (fun i => limb i D) := ((Blk.new w4 25 (fun i => limb i D)).belowAll hb5).belowAll hb6
  have b36 := ((b34.alloc _).belowAll hb5).belowAll hb6
  have hbw5 : Below w.heap.size w w5 := (hbw4.alloc hbw4.size _).trans (hb5.mono (by have := hbw4.size; simp; omega))
  have hbw6 := hbw5.trans (hb6.mono hbw5.size)
  clear bA4 bB4 b34 hbw4 hbw5 hb5 hb6 cA cB ha4 hg4
  have hz6 := bD6.lt
  go_wp2
  go_loopw [31] (fun i wr => ∃ k : Nat, i = .int .i64 (k : Int) ∧ k ≤ 12 ∧ Below w.heap.size w wr ∧ Blk wr 25 (w.heap.size + 1 + 1 + 1) (fun _ => 0) ∧ Blk wr 25 w4.heap.size (fun i => limb i D) ∧
      BlkN wr 243 w6.heap.size 12 (fun i => limb i N) ∧ Blk wr 25 (w6.heap.size + 1) (fun i => limb i (remK N D k))) (fun i _ => 12 - (intOf i).toNat)
  case atStart =>
    refine ⟨0, rfl, by decide, ?_, (b36.alloc _).alloc _, (bD6.alloc _).alloc _, ?_, ?_⟩
    · exact (hbw6.alloc hbw6.size _).alloc (by have := hbw6.size; simp; omega) _
    · refine (BlkN.newAt _ _ _ 12 (fun i => limb i N) _ rfl rfl ?_).alloc _
      intro i hi
      have h12 : i = 0 ∨ i = 1 ∨ i = 2 ∨ i = 3 ∨ i = 4 ∨ i = 5 ∨ i = 6 ∨ i = 7 ∨ i = 8 ∨ i = 9 ∨ i = 10 ∨ i = 11 := by omega
      rcases h12 with rfl | rfl | rfl | rfl | rfl | rfl | rfl | rfl | rfl | rfl | rfl | rfl <;> rfl
    · have hs : remK N D 0 = 0 := remK_start N D (HN.out ▸ num_lt A B n hA hB hn)
      rw [hs]
      exact (Blk.newAt _ _ _ (fun _ => 0) (by simp)).congr (fun i _ => limb_zero i)
  case round =>
    obtain ⟨k, rfl, hk, hbr, b3r, bDr, bNr, bRr⟩ := hrel
    have hzr := bRr.lt
    have hD0 : 0 < D := by rw [EX.out]; exact Nat.mul_pos (by omega) (Nat.two_pow_pos _)
    have hRD : remK N D k < D := Nat.mod_lt _ hD0
    by_cases hlt : k < 12
    · have hkw : (k : Int) < 12 := by omega
      have hst := remK_step N D k hlt
      obtain ⟨j, hj⟩ : ∃ j, j = 11 - k := ⟨_, rfl⟩
      have hj12 : j < 12 := by omega
      have hj12' : (j : Int) < 12 := by omega
      have ej1 : (11 : Int) - (k : Int) = (j : Int) := by omega
      have ej2 : IntKind.i64.wrap (j : Int) = (j : Int) := by rw [IntKind.wrap_i64]; omega
      rw [← hj] at hst
      clear hj
      have HST := (show Hid _ from hst); clear hst
      have cN := bNr.cell j hj12
      have cR := bRr.cell; have fR := bRr.frozen
      have cRd := bRr.drew.cell; have cDd := bDr.drew.cell; have cNd := bNr.drew.cell j hj12
      go_wp2_with fail
      have cD := bDr.cell
      go_region_with (go_at_call 158; refine (nextRem_any (remK N D k) (limb j N) D hRD (Nat.lt_trans hRD HD.out) (limb_lt _ _) HD.out _).mono ?_; rintro e w7 ⟨rfl, hb7⟩; rw [HST.out]; have bR7 := bRr.drew.belowAll hb7; have cR7 := bR7.cell; have fR7 := bR7.frozen)
      all_goals (
        have hb7' : Below w.heap.size w w7 := hbr.drew.trans (hb7.mono (show w.heap.size ≤ wr.heap.size from hbr.size))
        go_wp2
        go_roundw
        case measure => simp [intOf]; omega
        case rel =>
          refine ⟨k + 1, by go_num, by omega, ?_, ?_, ?_, ?_, bR7.set4 (fun i => limb i (remK N D (k + 1)))⟩
          · exact (((hb7'.setCell (by dsimp only; omega) _).setCell (by dsimp only; omega) _).setCell (by dsimp only; omega) _).setCell (by dsimp only; omega) _
          · exact ((((b3r.drew.belowAll hb7).other (by dsimp only; omega) _).other (by dsimp only; omega) _).other (by dsimp only; omega) _).other (by dsimp only; omega) _
          · exact ((((bDr.drew.belowAll hb7).other (by dsimp only; omega) _).other (by dsimp only; omega) _).other (by dsimp only; omega) _).other (by dsimp only; omega) _
          · exact ((((bNr.drew.belowAll hb7).other (by dsimp only; omega) _).other (by dsimp only; omega) _).other (by dsimp only; omega) _).other (by dsimp only; omega) _)
    · have hk12 : k = 12 := by omega
      subst hk12
      rw [remK_end] at bRr hRD
      have hRM : N % D < 115792089237316195423570985008687907853269984665640564039457584007913129639936 := Nat.lt_trans hRD HD.out
      have cR := bRr.cell
      go_wp2_with fail
      refine (lengthen_zero (N % D) hRM _).mono ?_
      rintro e w8 ⟨rfl, hb8⟩
      go_wp2_with fail
      have e256 : (256 : Int) - (n : Int) = ((256 - n : Nat) : Int) := by omega
      rw [e256]
      refine (shiftUp_any (N % D) (256 - n) (by omega) _).mono ?_
      rintro e w9 ⟨rfl, hb9⟩
      have b39 := (b3r.belowAll hb8).belowAll hb9
      have hbw8 := hbr.trans (hb8.mono hbr.size)
      have hbw9 := hbw8.trans (hb9.mono hbw8.size)
      clear cR hb8 hb9 hbw8
      go_wp2_with fail
      refine (part4_any _ _).mono ?_
      rintro e w10 ⟨rfl, hb10⟩
      have hfin := rem_back (A + 115792089237316195423570985008687907853269984665640564039457584007913129639936 * B) m n (256 - n) (by omega) (Nat.lt_trans (Nat.mod_lt _ (by omega)) hm)
      rw [← HN.out, ← EX.out] at hfin
      rw [hfin]
      have b310 := (b39.alloc _).belowAll hb10
      have hbw10 : Below w.heap.size w w10 := (hbw9.alloc hbw9.size _).trans (hb10.mono (by have := hbw9.size; simp; omega))
      clear hfin b39 hb10 hbw9
      have c3 := b310.cell; have f3 := b310.frozen
      go_wp2
      refine bodyPost_ret (v := .tuple #[.agg #[.int .u64 ((limb 0 ((A + 115792089237316195423570985008687907853269984665640564039457584007913129639936 * B) % m) : Nat) : Int), .int .u64 ((limb 1 ((A + 115792089237316195423570985008687907853269984665640564039457584007913129639936 * B) % m) : Nat) : Int), .int .u64 ((limb 2 ((A + 115792089237316195423570985008687907853269984665640564039457584007913129639936 * B) % m) : Nat) : Int), .int .u64 ((limb 3 ((A + 115792089237316195423570985008687907853269984665640564039457584007913129639936 * B) % m) : Nat) : Int)], .int .i64 0]) (by simp [results, Tryz.results126, go_sem, c3]) rfl ⟨rfl, ?_⟩
      repeat (first | with_reducible exact hbw10 | with_reducible refine Below.setCell ?_ (by first | omega | (simp; omega) | simp) _)
/-- word.Rem: the remainder of two halves by a number that isn't 0. -/
theorem rem_any (A B m : Nat) (hA : A < 115792089237316195423570985008687907853269984665640564039457584007913129639936) (hB : B < 115792089237316195423570985008687907853269984665640564039457584007913129639936) (hm : m < 115792089237316195423570985008687907853269984665640564039457584007913129639936) (h0 : m ≠ 0) (w : World) :
    Calls Tryz.prog 126 #[.agg #[.int .u64 ((limb 0 (A) : Nat) : Int), .int .u64 ((limb 1 (A) : Nat) : Int), .int .u64 ((limb 2 (A) : Nat) : Int), .int .u64 ((limb 3 (A) : Nat) : Int)], .agg #[.int .u64 ((limb 0 (B) : Nat) : Int), .int .u64 ((limb 1 (B) : Nat) : Int), .int .u64 ((limb 2 (B) : Nat) : Int), .int .u64 ((limb 3 (B) : Nat) : Int)], .agg #[.int .u64 ((limb 0 (m) : Nat) : Int), .int .u64 ((limb 1 (m) : Nat) : Int), .int .u64 ((limb 2 (m) : Nat) : Int), .int .u64 ((limb 3 (m) : Nat) : Int)]] w fun e w' => e = .returned (.tuple #[.agg #[.int .u64 ((limb 0 ((A + 115792089237316195423570985008687907853269984665640564039457584007913129639936 * B) % m) : Nat) : Int), .int .u64 ((limb 1 ((A + 115792089237316195423570985008687907853269984665640564039457584007913129639936 * B) % m) : Nat) : Int), .int .u64 ((limb 2 ((A + 115792089237316195423570985008687907853269984665640564039457584007913129639936 * B) % m) : Nat) : Int), .int .u64 ((limb 3 ((A + 115792089237316195423570985008687907853269984665640564039457584007913129639936 * B) % m) : Nat) : Int)], .int .i64 0]) ∧ Below w.heap.size w w' := rem_walk A B m hA hB hm h0 w
end Go.Proofs.YtfbfenljfdnggaaGreatDoor
/- Two numbers (structs of four words) are held against each other word by word. -/
namespace Go.Proofs.YtfbfenljfdnggaaGreatDoor
open Go.RowKit
theorem list4s {α : Type} (l : List α) (h : l.length = 4) : ∃ a b c d, l = [a, b, c, d] := by
  match l, h with
  | [a, b, c, d], _ => exact ⟨a, b, c, d, rfl⟩
theorem fieldsF : ∃ n0 n1 n2 n3 : Field, (Tryz.prog.fieldsOf 154).toList = [n0, n1, n2, n3] ∧ n0.name ≠ "_" ∧ n1.name ≠ "_" ∧ n2.name ≠ "_" ∧ n3.name ≠ "_" ∧ n0.type = 23 ∧ n1.type = 23 ∧ n2.type = 23 ∧ n3.type = 23 ∧ n0.offset = 0 ∧ n1.offset = 1 ∧ n2.offset = 2 ∧ n3.offset = 3 := by
  have h : (Tryz.prog.fieldsOf 154).toList.map (fun f => (f.name, f.type, f.offset)) = [("a", 23, 0), ("b", 23, 1), ("c", 23, 2), ("d", 23, 3)] := by kernel_rfl
  have hlen : (Tryz.prog.fieldsOf 154).toList.length = 4 := by
    have := congrArg List.length h
    simpa using this
  obtain ⟨n0, n1, n2, n3, hl⟩ := list4s _ hlen
  rw [hl] at h ⊢
  simp only [List.map_cons, List.map_nil, List.cons.injEq, Prod.mk.injEq, and_true] at h
  obtain ⟨⟨a1, a2, a3⟩, ⟨b1, b2, b3⟩, ⟨c1, c2, c3⟩, ⟨d1, d2, d3⟩⟩ := h
  exact ⟨n0, n1, n2, n3, rfl, by rw [a1]; decide, by rw [b1]; decide, by rw [c1]; decide, by rw [d1]; decide, a2, b2, c2, d2, a3, b3, c3, d3⟩
theorem eqS_in (a0 a1 a2 a3 b0 b1 b2 b3 : Int) (w : World) :
    (Op.equalIn 10000 154 (.agg #[.int .u64 a0, .int .u64 a1, .int .u64 a2, .int .u64 a3]) (.agg #[.int .u64 b0, .int .u64 b1, .int .u64 b2, .int .u64 b3])).run Tryz.prog w =
      .ok (a0 == b0 && (a1 == b1 && (a2 == b2 && a3 == b3))) w := by
  obtain ⟨n0, n1, n2, n3, hl, m0, m1, m2, m3, t0, t1, t2, t3, o0, o1, o2, o3⟩ := fieldsF
  rw [run_equalIn_struct w 9999 _ _ _ (by kernel_rfl) (by kernel_rfl), hl]
  obtain ⟨p0, p1, p2, p3⟩ := part4_at a0 a1 a2 a3 w
  obtain ⟨q0, q1, q2, q3⟩ := part4_at b0 b1 b2 b3 w
  have hq : ∀ a b : Int, (Op.equalIn 9999 23 (.int .u64 a) (.int .u64 b)).run Tryz.prog w = .ok (a == b) w := fun a b => run_equalIn_int w 9998 23 .u64 .u64 a b Tryz.underlying23
  simp only [Op.eqFields, m0, m1, m2, m3, ne_eq, not_false_eq_true, if_true, t0, t1, t2, t3, o0, o1, o2, o3, Sem.run_bind, p0, q0, hq, Result.andThen_ok]
  cases h0 : (a0 == b0)
  · simp
  · simp only [Bool.not_true, Bool.false_eq_true, if_false, Sem.run_bind, p1, q1, hq, Result.andThen_ok, Bool.true_and]
    cases h1 : (a1 == b1)
    · simp
    · simp only [Bool.not_true, Bool.false_eq_true, if_false, Sem.run_bind, p2, q2, hq, Result.andThen_ok, Bool.true_and]
      cases h2 : (a2 == b2)
      · simp
      · simp only [Bool.not_true, Bool.false_eq_true, if_false, Sem.run_bind, p3, q3, hq, Result.andThen_ok, Bool.true_and]
        cases h3 : (a3 == b3) <;> simp
theorem eqlS0 (X : Nat) (hX : X < 115792089237316195423570985008687907853269984665640564039457584007913129639936) (w : World) : (binOp .eql 154 (.agg #[.int .u64 ((limb 0 (X) : Nat) : Int), .int .u64 ((limb 1 (X) : Nat) : Int), .int .u64 ((limb 2 (X) : Nat) : Int), .int .u64 ((limb 3 (X) : Nat) : Int)]) (.agg #[.int .u64 0, .int .u64 0, .int .u64 0, .int .u64 0])).run Tryz.prog w = .ok (.bool (decide (X = 0))) w := by
  have h := eq4N X 0 hX (by decide)
  rw [limb_zero, limb_zero, limb_zero, limb_zero] at h
  rw [run_eql_struct, eqS_in]
  simp only [Result.andThen]
  rw [← h]; rfl
theorem neqS0 (X : Nat) (hX : X < 115792089237316195423570985008687907853269984665640564039457584007913129639936) (w : World) : (binOp .neq 154 (.agg #[.int .u64 ((limb 0 (X) : Nat) : Int), .int .u64 ((limb 1 (X) : Nat) : Int), .int .u64 ((limb 2 (X) : Nat) : Int), .int .u64 ((limb 3 (X) : Nat) : Int)]) (.agg #[.int .u64 0, .int .u64 0, .int .u64 0, .int .u64 0])).run Tryz.prog w = .ok (.bool (!decide (X = 0))) w := by
  have h := eq4N X 0 hX (by decide)
  rw [limb_zero, limb_zero, limb_zero, limb_zero] at h
  rw [run_neq_struct, eqS_in]
  simp only [Result.andThen]
  rw [← h]; rfl
end Go.Proofs.YtfbfenljfdnggaaGreatDoor
