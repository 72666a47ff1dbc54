/- Plain arithmetic: a number of many words shifted up by bits, word by word; words of a number that two halves make. No program is named here. -/
import Derived.Test.YtaeembdabnomaaaGreatDoorNum3
namespace Go.Proofs.YtaeembdabnomaaaGreatDoor

def shW (L r i : Nat) : Nat := (limb i L * 2 ^ r % 18446744073709551616) ||| (if i = 0 then 0 else limb (i - 1) L / 2 ^ (64 - r))
def shF (L W r k j : Nat) : Nat := if W ≤ j ∧ j < W + k then shW L r (j - W) else 0

theorem pow64 (i : Nat) : (18446744073709551616 : Nat) ^ i = 2 ^ (64 * i) := by
  rw [Nat.pow_mul]
theorem hi_part (H r : Nat) (hr : r ≤ 64) : 2 ^ r * H % 18446744073709551616 = 2 ^ r * (H % 2 ^ (64 - r)) := by
  have eQ : (18446744073709551616 : Nat) = 2 ^ r * 2 ^ (64 - r) := by rw [← Nat.pow_add, show r + (64 - r) = 64 from by omega]
  rw [eQ, Nat.mul_mod_mul_left]
theorem mod_small (H r : Nat) (hr : r ≤ 64) : H % 18446744073709551616 % 2 ^ (64 - r) = H % 2 ^ (64 - r) := by
  have eQ : (18446744073709551616 : Nat) = 2 ^ (64 - r) * 2 ^ r := by rw [← Nat.pow_add, show 64 - r + r = 64 from by omega]
  rw [eQ]; exact Nat.mod_mul_right_mod _ _ _
theorem limb_shift (L r i : Nat) (hr : r ≤ 63) : limb i (L * 2 ^ r) = shW L r i := by
  unfold shW
  by_cases h0 : i = 0
  · subst h0
    rw [if_pos rfl, Nat.or_zero, limb0, limb0, Nat.mod_mul_mod]
  · rw [if_neg h0]
    have hp : 0 < 2 ^ r := Nat.two_pow_pos r
    have e1 : L * 2 ^ r / 18446744073709551616 ^ i = L / 18446744073709551616 ^ (i - 1) / 2 ^ (64 - r) := by
      rw [pow64, pow64, Nat.div_div_eq_div_mul, ← Nat.pow_add, show 64 * i = (64 * (i - 1) + (64 - r)) + r from by omega, Nat.pow_add 2 (64 * (i - 1) + (64 - r)) r]
      exact Nat.mul_div_mul_right _ _ hp
    have e2 : L / 18446744073709551616 ^ (i - 1) = limb (i - 1) L + 18446744073709551616 * (L / 18446744073709551616 ^ i) := by
      have : L / 18446744073709551616 ^ i = L / 18446744073709551616 ^ (i - 1) / 18446744073709551616 := by
        rw [Nat.div_div_eq_div_mul, ← Nat.pow_succ]; congr 2; omega
      rw [this]; unfold limb; exact (Nat.mod_add_div _ _).symm
    have e3 : (limb (i - 1) L + 18446744073709551616 * (L / 18446744073709551616 ^ i)) / 2 ^ (64 - r) = limb (i - 1) L / 2 ^ (64 - r) + 2 ^ r * (L / 18446744073709551616 ^ i) := by
      have eQ : (18446744073709551616 : Nat) = 2 ^ (64 - r) * 2 ^ r := by rw [← Nat.pow_add, show 64 - r + r = 64 from by omega]
      obtain ⟨l, hl⟩ : ∃ l, l = limb (i - 1) L := ⟨_, rfl⟩
      obtain ⟨H, hH⟩ : ∃ H, H = L / 18446744073709551616 ^ i := ⟨_, rfl⟩
      rw [← hl, ← hH, eQ, Nat.mul_assoc]
      exact Nat.add_mul_div_left _ _ (Nat.two_pow_pos _)
    have e4 : limb i (L * 2 ^ r) = (limb (i - 1) L / 2 ^ (64 - r) + 2 ^ r * (L / 18446744073709551616 ^ i)) % 18446744073709551616 := by
      show L * 2 ^ r / 18446744073709551616 ^ i % 18446744073709551616 = _
      rw [e1, e2, e3]
    have hE : limb (i - 1) L / 2 ^ (64 - r) < 2 ^ r := by
      rw [Nat.div_lt_iff_lt_mul (Nat.two_pow_pos _), ← Nat.pow_add, show r + (64 - r) = 64 from by omega]
      exact limb_lt _ _
    have e5 : limb i L * 2 ^ r % 18446744073709551616 = 2 ^ r * (L / 18446744073709551616 ^ i % 2 ^ (64 - r)) := by
      rw [Nat.mul_comm, hi_part _ _ (by omega)]
      show 2 ^ r * (L / 18446744073709551616 ^ i % 18446744073709551616 % 2 ^ (64 - r)) = _
      rw [mod_small _ _ (by omega)]
    rw [e4, e5, ← Nat.two_pow_add_eq_or_of_lt hE]
    have hH : L / 18446744073709551616 ^ i % 2 ^ (64 - r) < 2 ^ (64 - r) := Nat.mod_lt _ (Nat.two_pow_pos _)
    have hb := hi_part (L / 18446744073709551616 ^ i) r (by omega)
    obtain ⟨E, hEe⟩ : ∃ E, E = limb (i - 1) L / 2 ^ (64 - r) := ⟨_, rfl⟩
    obtain ⟨K, hK⟩ : ∃ K, K = L / 18446744073709551616 ^ i % 2 ^ (64 - r) := ⟨_, rfl⟩
    obtain ⟨Z, hZ⟩ : ∃ Z, Z = 2 ^ r * (L / 18446744073709551616 ^ i) := ⟨_, rfl⟩
    rw [← hEe] at hE ⊢
    rw [← hK] at hH hb ⊢
    rw [← hZ] at hb ⊢
    have hs : 2 ^ r * K + 2 ^ r ≤ 18446744073709551616 := by
      have := Nat.mul_le_mul_left (2 ^ r) (show K + 1 ≤ 2 ^ (64 - r) from hH)
      rw [← Nat.pow_add, show r + (64 - r) = 64 from by omega] at this
      exact this
    generalize 2 ^ r * K = y at *
    generalize 2 ^ r = p at *
    clear e1 e2 e3 e4 e5
    omega
theorem limb_up (N W j : Nat) : limb j (N * 18446744073709551616 ^ W) = if j < W then 0 else limb (j - W) N := by
  have hp : ∀ k, 0 < 18446744073709551616 ^ k := fun k => Nat.pow_pos (by decide)
  by_cases h : j < W
  · rw [if_pos h]
    unfold limb
    have : N * 18446744073709551616 ^ W = (N * 18446744073709551616 ^ (W - j - 1) * 18446744073709551616) * 18446744073709551616 ^ j := by
      rw [Nat.mul_assoc, Nat.mul_assoc, ← Nat.pow_succ', ← Nat.pow_add]; congr 2; omega
    rw [this, Nat.mul_div_cancel _ (hp j), Nat.mul_mod_left]
  · rw [if_neg h]
    unfold limb
    have : 18446744073709551616 ^ j = 18446744073709551616 ^ (j - W) * 18446744073709551616 ^ W := by rw [← Nat.pow_add]; congr 1; omega
    rw [this, Nat.mul_div_mul_right _ _ (hp W)]
theorem shF_limb (L n W : Nat) (hW : W = n / 64) (j : Nat) (hj : j < 12) (hW' : W ≤ 12) : shF L W (n % 64) (12 - W) j = limb j (L * 2 ^ n) := by
  have e : L * 2 ^ n = L * 2 ^ (n % 64) * 18446744073709551616 ^ W := by
    rw [Nat.mul_assoc, pow64, ← Nat.pow_add]; congr 2; omega
  rw [e, limb_up]
  unfold shF
  by_cases h : j < W
  · rw [if_pos h, if_neg (by omega)]
  · rw [if_neg h, if_pos (by omega), limb_shift _ _ _ (by omega)]
theorem shF_zero (L W r j : Nat) : shF L W r 0 j = 0 := by unfold shF; rw [if_neg (by omega)]
theorem shF_step (L W r k j : Nat) : shF L W r (k + 1) j = if j = k + W then shW L r k else shF L W r k j := by
  unfold shF
  by_cases h : j = k + W
  · subst h; rw [if_pos (by omega), if_pos rfl]; congr 1; omega
  · rw [if_neg h]
    by_cases h2 : W ≤ j ∧ j < W + k
    · rw [if_pos h2, if_pos (by omega)]
    · rw [if_neg h2, if_neg (by omega)]

/-- Words of two halves joined. -/
theorem limb_join_lo (A B i : Nat) (hi : i < 4) : limb i (A + 115792089237316195423570985008687907853269984665640564039457584007913129639936 * B) = limb i A := by
  have h4 : i = 0 ∨ i = 1 ∨ i = 2 ∨ i = 3 := by omega
  rcases h4 with rfl | rfl | rfl | rfl
  · rw [limb0, limb0]; omega
  · rw [limb1, limb1]; omega
  · rw [limb2, limb2]; omega
  · rw [limb3, limb3]; omega
theorem limb_add4 (N i : Nat) : limb (i + 4) N = limb i (N / 115792089237316195423570985008687907853269984665640564039457584007913129639936) := by
  unfold limb
  rw [Nat.pow_add, show (18446744073709551616 : Nat) ^ 4 = 115792089237316195423570985008687907853269984665640564039457584007913129639936 from by decide, Nat.mul_comm, Nat.div_div_eq_div_mul]
theorem limb_join_hi (A B i : Nat) (hA : A < 115792089237316195423570985008687907853269984665640564039457584007913129639936) : limb (i + 4) (A + 115792089237316195423570985008687907853269984665640564039457584007913129639936 * B) = limb i B := by
  rw [limb_add4, Nat.add_mul_div_left _ _ (by decide), Nat.div_eq_of_lt hA, Nat.zero_add]
theorem limb_mod (N i : Nat) (hi : i < 4) : limb i N = limb i (N % 115792089237316195423570985008687907853269984665640564039457584007913129639936) := by
  have h4 : i = 0 ∨ i = 1 ∨ i = 2 ∨ i = 3 := by omega
  rcases h4 with rfl | rfl | rfl | rfl
  · rw [limb0, limb0]; omega
  · rw [limb1, limb1]; omega
  · rw [limb2, limb2]; omega
  · rw [limb3, limb3]; omega

end Go.Proofs.YtaeembdabnomaaaGreatDoor
