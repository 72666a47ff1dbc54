/- Plain arithmetic: quotients by a small number word by word and bit by bit; the digits of a number. No program is named here. -/
import Derived.Test.YtlndeghggdpmaaaNumE
namespace Go.Proofs.Ytlndeghggdpmaaa

theorem limb_over (A k : Nat) : A / 18446744073709551616 ^ k = limb k A + 18446744073709551616 * (A / 18446744073709551616 ^ (k + 1)) := by
  unfold limb; rw [Nat.pow_succ, ← Nat.div_div_eq_div_mul]; omega
/-- One word of a quotient. -/
theorem quo_step (A b k : Nat) (hb : 0 < b) :
    (A / 18446744073709551616 ^ (k + 1) % b * 18446744073709551616 + limb k A) / b = limb k (A / b) ∧ (A / 18446744073709551616 ^ (k + 1) % b * 18446744073709551616 + limb k A) % b = A / 18446744073709551616 ^ k % b := by
  obtain ⟨U, eU⟩ : ∃ U, U = A / 18446744073709551616 ^ (k + 1) := ⟨_, rfl⟩
  have hl := limb_lt k A
  have h1 := limb_over A k
  rw [← eU] at h1 ⊢
  have h2 := Nat.div_add_mod U b
  have hr := Nat.mod_lt U hb
  obtain ⟨q, eq⟩ : ∃ q, q = U / b := ⟨_, rfl⟩
  obtain ⟨r, er⟩ : ∃ r, r = U % b := ⟨_, rfl⟩
  obtain ⟨l, el⟩ : ∃ l, l = limb k A := ⟨_, rfl⟩
  rw [← eq, ← er] at h2
  rw [← er] at hr ⊢
  rw [← el] at hl h1 ⊢
  have h3 : A / 18446744073709551616 ^ k = (r * 18446744073709551616 + l) + b * (q * 18446744073709551616) := by
    rw [h1, ← h2, Nat.mul_add, ← Nat.mul_assoc, Nat.mul_comm 18446744073709551616 b, Nat.mul_assoc, Nat.mul_comm 18446744073709551616 q, Nat.mul_comm 18446744073709551616 r]
    omega
  have hlt : (r * 18446744073709551616 + l) / b < 18446744073709551616 := by
    apply Nat.div_lt_of_lt_mul
    have : (r + 1) * 18446744073709551616 ≤ b * 18446744073709551616 := Nat.mul_le_mul_right _ hr
    omega
  refine ⟨?_, ?_⟩
  · have e : limb k (A / b) = A / 18446744073709551616 ^ k / b % 18446744073709551616 := by
      unfold limb
      rw [Nat.div_div_eq_div_mul, Nat.div_div_eq_div_mul, Nat.mul_comm]
    rw [e, h3, Nat.add_mul_div_left _ _ hb, Nat.add_mul_mod_self_right, Nat.mod_eq_of_lt hlt]
  · rw [h3, Nat.add_mul_mod_self_left]
/-- One bit of a quotient. -/
theorem quo_bit (A b p : Nat) (hb : 0 < b) (r c : Nat) (hr : r = A / 2 ^ (p + 1) % b) (hc : c = bitN A p) :
    (r * 2 + c < b → r * 2 + c = A / 2 ^ p % b ∧ A / b / 2 ^ p = 2 * (A / b / 2 ^ (p + 1))) ∧ (b ≤ r * 2 + c → r * 2 + c - b = A / 2 ^ p % b ∧ A / b / 2 ^ p = 2 * (A / b / 2 ^ (p + 1)) + 1) := by
  obtain ⟨U, eU⟩ : ∃ U, U = A / 2 ^ (p + 1) := ⟨_, rfl⟩
  have h1 : A / 2 ^ p = 2 * U + c := by rw [eU, hc]; unfold bitN; rw [Nat.pow_succ, ← Nat.div_div_eq_div_mul]; omega
  have hc1 : c ≤ 1 := by rw [hc]; unfold bitN; omega
  have s1 : A / b / 2 ^ p = A / 2 ^ p / b := by rw [Nat.div_div_eq_div_mul, Nat.div_div_eq_div_mul, Nat.mul_comm]
  have s2 : A / b / 2 ^ (p + 1) = U / b := by rw [eU, Nat.div_div_eq_div_mul, Nat.div_div_eq_div_mul, Nat.mul_comm]
  rw [s1, s2, h1]
  rw [← eU] at hr
  have h2 := Nat.div_add_mod U b
  have hrb := Nat.mod_lt U hb
  rw [← hr] at h2 hrb
  obtain ⟨q, eq⟩ : ∃ q, q = U / b := ⟨_, rfl⟩
  rw [← eq] at h2 ⊢
  have h3 : 2 * U + c = (r * 2 + c) + b * (2 * q) := by
    rw [← h2, Nat.mul_add, Nat.mul_left_comm]
    omega
  refine ⟨fun h => ?_, fun h => ?_⟩
  · rw [h3, Nat.add_mul_mod_self_left, Nat.mod_eq_of_lt h, Nat.add_mul_div_left _ _ hb, Nat.div_eq_of_lt h]
    exact ⟨rfl, by omega⟩
  · have h4 : 2 * U + c = (r * 2 + c - b) + b * (2 * q + 1) := by rw [h3, Nat.mul_add, Nat.mul_one]; omega
    have h5 : r * 2 + c - b < b := by omega
    rw [h4, Nat.add_mul_mod_self_left, Nat.mod_eq_of_lt h5, Nat.add_mul_div_left _ _ hb, Nat.div_eq_of_lt h5]
    exact ⟨rfl, by omega⟩
/-- The bits of a word of N above a place. -/
def topW (N i j : Nat) : Nat := N / 2 ^ (64 * i + j) % 2 ^ (64 - j)
theorem topW_full (N i : Nat) : topW N i 64 = 0 := by unfold topW; rw [show 64 - 64 = 0 from rfl, Nat.pow_zero, Nat.mod_one]
theorem topW_zero (N i : Nat) : topW N i 0 = limb i N := by
  unfold topW limb
  rw [pow64]
  rfl
theorem topW_step (N i j c : Nat) (hj : j < 64) (h : N / 2 ^ (64 * i + j) = 2 * (N / 2 ^ (64 * i + (j + 1))) + c) (hc : c ≤ 1) : topW N i j = 2 * topW N i (j + 1) + c := by
  unfold topW
  rw [h, show 64 - j = (64 - (j + 1)) + 1 from by omega, Nat.pow_succ, Nat.mul_comm (2 ^ _) 2]
  generalize N / 2 ^ (64 * i + (j + 1)) = x
  have hm : 0 < 2 ^ (64 - (j + 1)) := Nat.two_pow_pos _
  generalize 2 ^ (64 - (j + 1)) = m at hm
  have h1 := Nat.div_add_mod x m
  have h2 := Nat.mod_lt x hm
  have h3 : 2 * x + c = (2 * (x % m) + c) + 2 * m * (x / m) := by rw [Nat.mul_assoc]; omega
  rw [h3, Nat.add_mul_mod_self_left, Nat.mod_eq_of_lt (by omega)]
theorem topW_lt (N i j : Nat) : topW N i j < 2 ^ (64 - j) := Nat.mod_lt _ (Nat.two_pow_pos _)
theorem topW_half (N i j : Nat) : 2 * topW N i (j + 1) < 18446744073709551616 := by
  have h := topW_lt N i (j + 1)
  have h2 : 2 ^ (64 - (j + 1)) ≤ 2 ^ 63 := Nat.pow_le_pow_right (by decide) (by omega)
  have h3 : (2 : Nat) ^ 63 = 9223372036854775808 := by decide
  omega

/-- The signs of the digits. -/
def chN (d : Nat) : Nat := if d < 10 then 48 + d else 87 + d
theorem chN_lt (d : Nat) (h : d < 16) : chN d < 256 := by unfold chN; split <;> omega
/-- The digits of a number, t of them, the highest first. -/
def digS (b a : Nat) : Nat → List UInt8
  | 0 => []
  | t + 1 => UInt8.ofNat (chN (a / b ^ t % b)) :: digS b a t
theorem digS_len (b a : Nat) : ∀ t, (digS b a t).length = t
  | 0 => rfl
  | t + 1 => by simp [digS, digS_len b a t]
theorem digS_get (b a : Nat) : ∀ t j (h : j < (digS b a t).length), ((digS b a t)[j]).toNat = (UInt8.ofNat (chN (a / b ^ (t - 1 - j) % b))).toNat
  | 0, j, h => by simp [digS] at h
  | t + 1, 0, h => by simp [digS]
  | t + 1, j + 1, h => by
    have h1 : j < (digS b a t).length := by rw [digS_len] at h ⊢; omega
    have e := digS_get b a t j h1
    rw [show t + 1 - 1 - (j + 1) = t - 1 - j from by omega]
    simpa [digS] using e
/-- t is the number of a's digits. -/
def Ends (b a t : Nat) : Prop := 1 ≤ t ∧ a / b ^ t = 0 ∧ ∀ s, 1 ≤ s → s < t → a / b ^ s ≠ 0
theorem least_of (P : Nat → Prop) : ∀ n, P n → ∃ t, P t ∧ ∀ s, s < t → ¬ P s := by
  intro n
  induction n using Nat.strongRecOn with
  | ind n ih =>
    intro hn
    by_cases h : ∃ m, m < n ∧ P m
    · obtain ⟨m, hm, hp⟩ := h
      exact ih m hm hp
    · exact ⟨n, hn, fun s hs hp => h ⟨s, hs, hp⟩⟩
theorem ends_some (b a : Nat) (hb : 2 ≤ b) (ha : a < 115792089237316195423570985008687907853269984665640564039457584007913129639936) : ∃ t, Ends b a t := by
  have h : 1 ≤ 256 ∧ a / b ^ 256 = 0 := by
    refine ⟨by decide, Nat.div_eq_of_lt ?_⟩
    have h1 : 2 ^ 256 ≤ b ^ 256 := Nat.pow_le_pow_left hb 256
    have h2 : (2 : Nat) ^ 256 = 115792089237316195423570985008687907853269984665640564039457584007913129639936 := by decide
    omega
  obtain ⟨t, ⟨h1, h2⟩, h3⟩ := least_of (fun t => 1 ≤ t ∧ a / b ^ t = 0) 256 h
  exact ⟨t, h1, h2, fun s hs hst he => h3 s hst ⟨hs, he⟩⟩
theorem pow_bound (b a t : Nat) (hb : 10 ≤ b) (ha : a < 115792089237316195423570985008687907853269984665640564039457584007913129639936) (h : a / b ^ t ≠ 0) : t < 78 := by
  rcases Nat.lt_or_ge t 78 with h1 | h1
  · exact h1
  · exfalso
    apply h
    apply Nat.div_eq_of_lt
    have h2 : 10 ^ 78 ≤ b ^ 78 := Nat.pow_le_pow_left hb 78
    have h3 : b ^ 78 ≤ b ^ t := Nat.pow_le_pow_right (by omega) h1
    have h4 : 115792089237316195423570985008687907853269984665640564039457584007913129639936 < (10 : Nat) ^ 78 := by decide
    omega

end Go.Proofs.Ytlndeghggdpmaaa
