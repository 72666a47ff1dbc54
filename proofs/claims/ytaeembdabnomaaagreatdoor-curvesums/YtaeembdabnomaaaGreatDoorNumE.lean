/- Plain arithmetic: a number's words out of its bits. No program is named here. -/
import Derived.Test.YtaeembdabnomaaaGreatDoorNum4
namespace Go.Proofs.YtaeembdabnomaaaGreatDoor

def bitN (A i : Nat) : Nat := A / 2 ^ i % 2
theorem bitN_test (A i : Nat) : A.testBit i = decide (bitN A i = 1) := by
  unfold bitN; rw [Nat.testBit_eq_decide_div_mod_eq]
theorem limb_test (j X i : Nat) : (limb j X).testBit i = (decide (i < 64) && X.testBit (64 * j + i)) := by
  unfold limb
  rw [pow64, show (18446744073709551616 : Nat) = 2 ^ 64 from by decide, Nat.testBit_mod_two_pow, Nat.testBit_div_two_pow, Nat.add_comm]
/-- The number with all bits below k struck. -/
def hiPart (N k : Nat) : Nat := N / 2 ^ k * 2 ^ k
theorem hiPart_test (N k t : Nat) : (hiPart N k).testBit t = (decide (k ≤ t) && N.testBit t) := by
  unfold hiPart
  rw [Nat.testBit_mul_two_pow, Nat.testBit_div_two_pow]
  by_cases h : k ≤ t
  · simp [h]
  · simp [h]
theorem hiPart_zero (N : Nat) : hiPart N 0 = N := by simp [hiPart]
theorem hiPart_top (N : Nat) (h : N < 115792089237316195423570985008687907853269984665640564039457584007913129639936) : hiPart N 256 = 0 := by
  unfold hiPart; rw [Nat.div_eq_of_lt (by exact h), Nat.zero_mul]
theorem hiPart_off (N k : Nat) (h : bitN N k ≠ 1) : hiPart N k = hiPart N (k + 1) := by
  apply Nat.eq_of_testBit_eq
  intro t
  rw [hiPart_test, hiPart_test]
  by_cases e : t = k
  · subst e; rw [bitN_test]; simp [h]
  · by_cases h1 : k ≤ t
    · simp [h1, show k + 1 ≤ t from by omega]
    · simp [h1, show ¬ k + 1 ≤ t from by omega]
theorem hiPart_on (N k j : Nat) (h : bitN N k = 1) : limb j (hiPart N k) = if j = k / 64 then limb j (hiPart N (k + 1)) ||| 2 ^ (k % 64) else limb j (hiPart N (k + 1)) := by
  have hb : N.testBit k = true := by rw [bitN_test]; simp [h]
  by_cases hj : j = k / 64
  · rw [if_pos hj]
    apply Nat.eq_of_testBit_eq
    intro i
    rw [Nat.testBit_or, Nat.testBit_two_pow, limb_test, limb_test, hiPart_test, hiPart_test]
    by_cases e : k % 64 = i
    · have e2 : 64 * j + i = k := by omega
      rw [e2]
      simp [e, hb, show i < 64 from by omega]
    · by_cases hi : i < 64
      · by_cases h1 : k ≤ 64 * j + i
        · simp [e, hi, h1, show k + 1 ≤ 64 * j + i from by omega]
        · simp [e, hi, h1, show ¬ k + 1 ≤ 64 * j + i from by omega]
      · simp [e, hi]
  · rw [if_neg hj]
    apply Nat.eq_of_testBit_eq
    intro i
    rw [limb_test, limb_test, hiPart_test, hiPart_test]
    by_cases hi : i < 64
    · by_cases h1 : k ≤ 64 * j + i
      · simp [hi, h1, show k + 1 ≤ 64 * j + i from by omega]
      · simp [hi, h1, show ¬ k + 1 ≤ 64 * j + i from by omega]
    · simp [hi]

end Go.Proofs.YtaeembdabnomaaaGreatDoor
