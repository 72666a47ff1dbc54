/- Plain arithmetic: numbers out of columns that are carried, and doublings modulo a number. No program is named here. -/
import Derived.Test.YtlndeghggdpmaacDoorNumE
namespace Go.Proofs.YtlndeghggdpmaacDoor

/-- The number of columns f 0 and on, each with its weight. -/
def valB (f : Nat → Nat) : Nat → Nat
  | 0 => 0
  | k + 1 => valB f k + f k * 2 ^ k
theorem valB_congr (f g : Nat → Nat) : ∀ n, (∀ i, i < n → f i = g i) → valB f n = valB g n
  | 0, _ => rfl
  | n + 1, h => by unfold valB; rw [valB_congr f g n (fun i hi => h i (by omega)), h n (by omega)]
theorem valB_set (f : Nat → Nat) (k v : Nat) : ∀ N, k < N → valB (fun i => if i = k then v else f i) N + f k * 2 ^ k = valB f N + v * 2 ^ k
  | 0, h => by omega
  | N + 1, h => by
    unfold valB
    by_cases e : k = N
    · subst e
      rw [valB_congr (fun i => if i = k then v else f i) f k (fun i hi => by simp [show i ≠ k from by omega])]
      simp
      omega
    · have ih := valB_set f k v N (by omega)
      rw [if_neg (show ¬ N = k from fun h => e h.symm)]
      omega
theorem valB_zero : ∀ N, valB (fun _ => 0) N = 0
  | 0 => rfl
  | N + 1 => by unfold valB; rw [valB_zero N]; simp
theorem valB_lt (f : Nat → Nat) : ∀ n, (∀ i, i < n → f i ≤ 1) → valB f n < 2 ^ n
  | 0, _ => by simp [valB]
  | n + 1, h => by
    unfold valB
    have ih := valB_lt f n (fun i hi => h i (by omega))
    have h1 := Nat.mul_le_mul_right (2 ^ n) (h n (by omega))
    rw [Nat.pow_succ]; omega
theorem valB_split (f : Nat → Nat) (n : Nat) : ∀ d, ∃ r, valB f (n + d) = valB f n + 2 ^ n * r
  | 0 => ⟨0, by simp⟩
  | d + 1 => by
    obtain ⟨r, hr⟩ := valB_split f n d
    refine ⟨r + f (n + d) * 2 ^ d, ?_⟩
    show valB f (n + d) + f (n + d) * 2 ^ (n + d) = _
    rw [hr, Nat.pow_add, Nat.mul_add, Nat.add_assoc]
    congr 2
    rw [← Nat.mul_assoc, ← Nat.mul_assoc, Nat.mul_comm (2 ^ n) (f (n + d))]
theorem valB_bit (f : Nat → Nat) (t N : Nat) (ht : t ≤ N) (h : ∀ i, i < t → f i ≤ 1) (n : Nat) (hn : n < t) : bitN (valB f N) n = f n := by
  obtain ⟨r, hr⟩ := valB_split f (n + 1) (N - (n + 1))
  rw [show n + 1 + (N - (n + 1)) = N from by omega] at hr
  have hl := valB_lt f n (fun i hi => h i (by omega))
  have hf := h n hn
  unfold bitN
  rw [hr]
  show (valB f n + f n * 2 ^ n + 2 ^ (n + 1) * r) / 2 ^ n % 2 = f n
  rw [show valB f n + f n * 2 ^ n + 2 ^ (n + 1) * r = valB f n + 2 ^ n * (f n + 2 * r) from by
    rw [Nat.pow_succ, Nat.mul_add, Nat.mul_assoc, Nat.mul_comm (f n)]; omega]
  rw [Nat.add_mul_div_left _ _ (Nat.two_pow_pos n), Nat.div_eq_of_lt hl]
  omega
theorem mod_pow_bit' (A k : Nat) : A % 2 ^ (k + 1) = A % 2 ^ k + 2 ^ k * bitN A k := by
  rw [Nat.mod_pow_succ]; rfl
theorem col_start (A B i : Nat) (h : bitN A i = 0) : A % 2 ^ (i + 1) * B = A % 2 ^ i * B := by rw [mod_pow_bit', h]; simp
theorem col_end (A B i : Nat) (hB : B < 2 ^ 256) (h : bitN A i = 1) : A % 2 ^ (i + 1) * B = A % 2 ^ i * B + 2 ^ i * (B % 2 ^ 256) := by
  rw [mod_pow_bit', h, Nat.mod_eq_of_lt hB, Nat.mul_one, Nat.add_mul]
theorem col_step (X B i j F F' b v : Nat) (hF : F = X + 2 ^ i * (B % 2 ^ j)) (hb : b = bitN B j) (hs : F' + v * 2 ^ (i + j) = F + (v + b) * 2 ^ (i + j)) : F' = X + 2 ^ i * (B % 2 ^ (j + 1)) := by
  have e : 2 ^ i * (B % 2 ^ (j + 1)) = 2 ^ i * (B % 2 ^ j) + b * 2 ^ (i + j) := by
    rw [mod_pow_bit', ← hb, Nat.mul_add, Nat.pow_add, ← Nat.mul_assoc, Nat.mul_comm b]
  rw [Nat.add_mul] at hs
  omega
/-- A column's carry. -/
theorem carry_keep (f : Nat → Nat) (t N P : Nat) (ht : t + 1 < N) (h : valB f N = P) :
    valB (fun i => if i = t then f t % 2 else if i = t + 1 then f (t + 1) + f t / 2 else f i) N = P := by
  have h1 := valB_set f (t + 1) (f (t + 1) + f t / 2) N ht
  have h2 := valB_set (fun i => if i = t + 1 then f (t + 1) + f t / 2 else f i) t (f t % 2) N (by omega)
  simp only [show ¬ t = t + 1 from by omega, if_false] at h2
  have e : f t * 2 ^ t = f t % 2 * 2 ^ t + f t / 2 * 2 ^ (t + 1) := by
    rw [Nat.pow_succ, ← Nat.mul_assoc, Nat.mul_right_comm, ← Nat.add_mul]
    congr 1; omega
  rw [Nat.add_mul] at h1
  omega
/-- One more bit of a remainder. -/
theorem rem_bit (N m k : Nat) : (2 * (N / 2 ^ (k + 1) % m) + bitN N k) % m = N / 2 ^ k % m := by
  have e : N / 2 ^ k = 2 * (N / 2 ^ (k + 1)) + bitN N k := by
    unfold bitN; rw [Nat.pow_succ, ← Nat.div_div_eq_div_mul]; omega
  rw [e, Nat.add_mod, Nat.mul_mod, Nat.mod_mod, ← Nat.mul_mod, ← Nat.add_mod]
theorem rem_once (m r b : Nat) (hm : m < 115792089237316195423570985008687907853269984665640564039457584007913129639936) (hr : r < m) (hb : b ≤ 1) :
    (2 * r + b) % m = (if (decide (115792089237316195423570985008687907853269984665640564039457584007913129639936 ≤ 2 * r) || !below256 ((2 * r + b) % 115792089237316195423570985008687907853269984665640564039457584007913129639936) m) then sub256 ((2 * r + b) % 115792089237316195423570985008687907853269984665640564039457584007913129639936) m else (2 * r + b) % 115792089237316195423570985008687907853269984665640564039457584007913129639936) := by
  unfold below256 sub256
  by_cases h1 : 115792089237316195423570985008687907853269984665640564039457584007913129639936 ≤ 2 * r
  · rw [if_pos (by simp [h1])]
    rw [Nat.mod_eq_sub_mod (show m ≤ 2 * r + b by omega), Nat.mod_eq_of_lt (show 2 * r + b - m < m by omega)]
    omega
  · have h2 : 2 * r + b < 115792089237316195423570985008687907853269984665640564039457584007913129639936 := by omega
    rw [Nat.mod_eq_of_lt h2]
    by_cases h3 : 2 * r + b < m
    · rw [if_neg (by simp; omega), Nat.mod_eq_of_lt h3]
    · rw [if_pos (by simp; omega)]
      rw [Nat.mod_eq_sub_mod (show m ≤ 2 * r + b by omega), Nat.mod_eq_of_lt (show 2 * r + b - m < m by omega)]
      omega
theorem bitN_le (A k : Nat) : bitN A k ≤ 1 := by unfold bitN; omega
theorem bitN_high (N i : Nat) : bitN (N / 115792089237316195423570985008687907853269984665640564039457584007913129639936) i = bitN N (256 + i) := by
  unfold bitN; rw [Nat.pow_add, ← Nat.div_div_eq_div_mul]
theorem bitN_low (A B i : Nat) (hi : i < 256) : bitN (A + 115792089237316195423570985008687907853269984665640564039457584007913129639936 * B) i = bitN A i := by
  unfold bitN
  have e : 115792089237316195423570985008687907853269984665640564039457584007913129639936 * B = 2 ^ i * (2 * (2 ^ (255 - i) * B)) := by
    rw [← Nat.mul_assoc 2, ← Nat.pow_succ', ← Nat.mul_assoc, ← Nat.pow_add, show i + (255 - i + 1) = 256 from by omega]
  rw [e, Nat.add_mul_div_left _ _ (Nat.two_pow_pos i)]
  omega
theorem bitN_upper (A B i : Nat) (hA : A < 115792089237316195423570985008687907853269984665640564039457584007913129639936) : bitN (A + 115792089237316195423570985008687907853269984665640564039457584007913129639936 * B) (256 + i) = bitN B i := by
  rw [← bitN_high, Nat.add_mul_div_left _ _ (by decide), Nat.div_eq_of_lt hA, Nat.zero_add]
end Go.Proofs.YtlndeghggdpmaacDoor
