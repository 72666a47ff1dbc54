/- Plain arithmetic: the remainder word by word: a guess that is never too small, mended by adding the divisor. No program is named here. -/
import Derived.Test.YtaeembdabnomaaaGreatDoorNum2
namespace Go.Proofs.YtaeembdabnomaaaGreatDoor

def guessN (h l d : Nat) : Nat := if d ≤ h then 18446744073709551616 - 1 else (h * 18446744073709551616 + l) / d
theorem guessN_lt (h l d : Nat) (hl : l < 18446744073709551616) : guessN h l d < 18446744073709551616 := by
  unfold guessN
  split
  · omega
  · have hd : 0 < d := by omega
    rw [Nat.div_lt_iff_lt_mul hd]
    have := mul_le_right (h + 1) d 18446744073709551616 (by omega)
    rw [Nat.mul_comm 18446744073709551616 d]
    omega

/-- A guess by the highest words is never too small. -/
theorem guess_ge (R v D : Nat) (hR : R < D) (hD : D < 115792089237316195423570985008687907853269984665640564039457584007913129639936) (hv : v < 18446744073709551616) : (R * 18446744073709551616 + v) / D ≤ guessN (limb 3 R) (limb 2 R) (limb 3 D) := by
  have hDp : 0 < D := by omega
  unfold guessN
  split
  · have : (R * 18446744073709551616 + v) / D < 18446744073709551616 := by
      rw [Nat.div_lt_iff_lt_mul hDp]
      have := mul_le_right (R + 1) D 18446744073709551616 (by omega)
      rw [Nat.mul_comm 18446744073709551616 D]
      omega
    exact Nat.le_sub_one_of_lt this
  · have h3 : 0 < limb 3 D := by omega
    rw [Nat.le_div_iff_mul_le h3]
    have e1 : (R * 18446744073709551616 + v) / D * D ≤ R * 18446744073709551616 + v := Nat.div_mul_le_self _ _
    obtain ⟨q, hq⟩ : ∃ q, q = (R * 18446744073709551616 + v) / D := ⟨_, rfl⟩
    rw [← hq] at e1 ⊢
    clear hq
    have hs := limbs_sum D hD
    have ht := limbs_sum R (by omega)
    have l0 := limb_lt 0 R; have l1 := limb_lt 1 R
    have e2 : q * (6277101735386680763835789423207666416102355444464034512896 * limb 3 D) ≤ q * D := Nat.mul_le_mul_left q (by omega)
    rw [Nat.mul_left_comm] at e2
    generalize q * limb 3 D = z at *
    generalize q * D = y at *
    generalize limb 0 R = a at *
    generalize limb 1 R = b at *
    generalize limb 2 R = c at *
    generalize limb 3 R = d at *
    clear hs
    omega

/-- What holds at the head of each round: t times the divisor is still to be added. -/
def NRInv (N D t T h : Nat) : Prop := T < 115792089237316195423570985008687907853269984665640564039457584007913129639936 ∧ h < 18446744073709551616 ∧ t < 18446744073709551616 ∧ T + 115792089237316195423570985008687907853269984665640564039457584007913129639936 * h + t * D = N % D + (if t = 0 then 0 else 115792089237316195423570985008687907853269984665640564039457584007913129639936 * 18446744073709551616)
theorem nr_zero {N D t T h : Nat} (hD : 0 < D) (hDM : D < 115792089237316195423570985008687907853269984665640564039457584007913129639936) (ht : t = 0) (i : NRInv N D t T h) : h = 0 ∧ T = N % D := by
  obtain ⟨i1, i2, i3, i4⟩ := i
  subst ht
  simp only [Nat.zero_mul, Nat.add_zero, if_true] at i4
  have := Nat.mod_lt N hD
  generalize N % D = r at *
  omega
theorem nr_more {N D t T h : Nat} (hDM : D < 115792089237316195423570985008687907853269984665640564039457584007913129639936) (ht : t ≠ 0) (i : NRInv N D t T h) : h ≠ 0 := by
  obtain ⟨i1, i2, i3, i4⟩ := i
  rw [if_neg ht] at i4
  have b : t * D ≤ (18446744073709551616 - 1) * D := mul_le_right t (18446744073709551616 - 1) D (by omega)
  generalize N % D = r at *
  generalize t * D = z at *
  omega
theorem nr_step {N D t T h : Nat} (hD : 0 < D) (hDM : D < 115792089237316195423570985008687907853269984665640564039457584007913129639936) (ht : t ≠ 0) (i : NRInv N D t T h) : NRInv N D (t - 1) (add256 T D) ((h + (if over256 T D then 1 else 0)) % 18446744073709551616) := by
  obtain ⟨i1, i2, i3, i4⟩ := i
  rw [if_neg ht] at i4
  have hm := Nat.mod_lt N hD
  have et : t * D = (t - 1) * D + D := by
    conv => lhs; rw [show t = (t - 1) + 1 from by omega, Nat.add_mul, Nat.one_mul]
  rw [et] at i4
  have hs : T + D = add256 T D + 115792089237316195423570985008687907853269984665640564039457584007913129639936 * (if over256 T D then 1 else 0) := by
    unfold add256 over256
    by_cases hc : 115792089237316195423570985008687907853269984665640564039457584007913129639936 ≤ T + D
    · simp only [hc, decide_true, if_true]; omega
    · simp only [hc, decide_false, Bool.false_eq_true, if_false]; omega
  have hc1 : (if over256 T D then 1 else 0) ≤ 1 := by split <;> omega
  have ha := add256_lt T D
  refine ⟨ha, Nat.mod_lt _ (by decide), by omega, ?_⟩
  generalize (if over256 T D then 1 else 0) = c at *
  generalize add256 T D = T' at *
  generalize N % D = r at *
  by_cases h1 : t - 1 = 0
  · rw [if_pos h1]
    rw [h1] at i4 ⊢
    simp only [Nat.zero_mul, Nat.add_zero, Nat.zero_add] at i4 ⊢
    omega
  · rw [if_neg h1]
    have hge : D ≤ (t - 1) * D := by
      have := mul_le_right 1 (t - 1) D (by omega)
      omega
    generalize (t - 1) * D = z at *
    omega
theorem nr_lin (N y r X r3 Pl Ph T c u : Nat) (hN : N = X + 115792089237316195423570985008687907853269984665640564039457584007913129639936 * r3) (e : y + r = N) (hP : y + u = Pl + 115792089237316195423570985008687907853269984665640564039457584007913129639936 * Ph) (hs : X + 115792089237316195423570985008687907853269984665640564039457584007913129639936 * c = T + Pl) : T + 115792089237316195423570985008687907853269984665640564039457584007913129639936 * r3 + u = r + 115792089237316195423570985008687907853269984665640564039457584007913129639936 * (Ph + c) := by omega
theorem nr_lin0 (T r r3 Ph c : Nat) (h : T + 115792089237316195423570985008687907853269984665640564039457584007913129639936 * r3 + 0 = r + 115792089237316195423570985008687907853269984665640564039457584007913129639936 * (Ph + c)) (hT : T < 115792089237316195423570985008687907853269984665640564039457584007913129639936) (hr : r < 115792089237316195423570985008687907853269984665640564039457584007913129639936) : r3 = Ph + c ∧ T = r := by omega
theorem nr_lin1 (D T r r3 Ph c u : Nat) (h : T + 115792089237316195423570985008687907853269984665640564039457584007913129639936 * r3 + u = r + 115792089237316195423570985008687907853269984665640564039457584007913129639936 * (Ph + c)) (hT : T < 115792089237316195423570985008687907853269984665640564039457584007913129639936) (hr : r < D) (hD : D < 115792089237316195423570985008687907853269984665640564039457584007913129639936) (hu : D ≤ u) (hu' : u ≤ (18446744073709551616 - 1) * D) : r3 < Ph + c ∧ Ph + c < r3 + 18446744073709551616 := by omega
theorem nr_fin (T r r3 k u m : Nat) (h : T + 115792089237316195423570985008687907853269984665640564039457584007913129639936 * r3 + u = r + 115792089237316195423570985008687907853269984665640564039457584007913129639936 * k) (hm : m + k = r3 + 18446744073709551616) : T + 115792089237316195423570985008687907853269984665640564039457584007913129639936 * m + u = r + 115792089237316195423570985008687907853269984665640564039457584007913129639936 * 18446744073709551616 := by omega
theorem nr_fin0 (T r : Nat) (h : T = r) : T + 115792089237316195423570985008687907853269984665640564039457584007913129639936 * 0 + 0 = r + 0 := by omega
theorem high_zero (r3 Ph c : Nat) (h : r3 = Ph + c) : (r3 + 18446744073709551616 - Ph + 18446744073709551616 - c) % 18446744073709551616 = 0 := by
  rw [show r3 + 18446744073709551616 - Ph + 18446744073709551616 - c = 18446744073709551616 + 18446744073709551616 from by omega]
theorem high_neg (r3 Ph c : Nat) (hr : Ph < 18446744073709551616) (h1 : r3 < Ph + c) (h2 : Ph + c < r3 + 18446744073709551616) (hc : c ≤ 1) : (r3 + 18446744073709551616 - Ph + 18446744073709551616 - c) % 18446744073709551616 = r3 + 18446744073709551616 - (Ph + c) := by
  rw [show r3 + 18446744073709551616 - Ph + 18446744073709551616 - c = r3 + 18446744073709551616 - (Ph + c) + 18446744073709551616 from by omega, Nat.add_mod_right]
  exact Nat.mod_eq_of_lt (by omega)
theorem sub_back (X Pl : Nat) (hX : X < 115792089237316195423570985008687907853269984665640564039457584007913129639936) (hPl : Pl < 115792089237316195423570985008687907853269984665640564039457584007913129639936) : X + 115792089237316195423570985008687907853269984665640564039457584007913129639936 * (if below256 X Pl then 1 else 0) = sub256 X Pl + Pl := by
  unfold sub256 below256
  by_cases hc : X < Pl
  · simp only [hc, decide_true, if_true]; omega
  · simp only [hc, decide_false, Bool.false_eq_true, if_false]; omega
theorem below_le (X Pl : Nat) : (if below256 X Pl then 1 else 0) ≤ 1 := by split <;> omega
theorem nr_start (N D g X r3 Pl Ph : Nat) (hD : 0 < D) (hDM : D < 115792089237316195423570985008687907853269984665640564039457584007913129639936) (hN : N = X + 115792089237316195423570985008687907853269984665640564039457584007913129639936 * r3) (hX : X < 115792089237316195423570985008687907853269984665640564039457584007913129639936) (hP : D * g = Pl + 115792089237316195423570985008687907853269984665640564039457584007913129639936 * Ph) (hPl : Pl < 115792089237316195423570985008687907853269984665640564039457584007913129639936) (hPh : Ph < 18446744073709551616) (hg : g < 18446744073709551616) (hq : N / D ≤ g) :
    NRInv N D (g - N / D) (sub256 X Pl) ((r3 + 18446744073709551616 - Ph + 18446744073709551616 - (if below256 X Pl then 1 else 0)) % 18446744073709551616) := by
  have hm := Nat.mod_lt N hD
  have e := Nat.div_add_mod N D
  obtain ⟨q, hqe⟩ : ∃ q, q = N / D := ⟨_, rfl⟩
  rw [← hqe] at e hq ⊢
  obtain ⟨t, hte⟩ : ∃ t, t = g - q := ⟨_, rfl⟩
  rw [← hte]
  have htg : t ≤ 18446744073709551616 - 1 := by omega
  have hb : t * D ≤ (18446744073709551616 - 1) * D := mul_le_right _ _ D htg
  have et : D * g = D * q + t * D := by
    rw [Nat.mul_comm t, ← Nat.mul_add]; congr 1; omega
  have hs := sub_back X Pl hX hPl
  have hc1 := below_le X Pl
  have ha := sub256_lt X Pl
  have key := nr_lin N (D * q) (N % D) X r3 Pl Ph (sub256 X Pl) (if below256 X Pl then 1 else 0) (t * D) hN e (et.symm.trans hP) hs
  refine ⟨ha, Nat.mod_lt _ (by decide), by omega, ?_⟩
  by_cases h0 : t = 0
  · rw [if_pos h0]
    rw [h0] at key ⊢
    simp only [Nat.zero_mul] at key ⊢
    have k := nr_lin0 _ _ _ _ _ key ha (Nat.lt_trans hm hDM)
    rw [high_zero _ _ _ k.1]
    exact nr_fin0 _ _ k.2
  · rw [if_neg h0]
    have hge : D ≤ t * D := by
      have := mul_le_right 1 t D (by omega)
      omega
    have k := nr_lin1 D _ _ _ _ _ _ key ha hm hDM hge hb
    rw [high_neg _ _ _ hPh k.1 k.2 hc1]
    exact nr_fin _ _ _ _ _ _ key (Nat.sub_add_cancel (Nat.le_of_lt k.2))
/-- The words of R * 2^64 + v without its highest word. -/
theorem shift_in (R v : Nat) (hR : R < 115792089237316195423570985008687907853269984665640564039457584007913129639936) (hv : v < 18446744073709551616) : ∃ X, X < 115792089237316195423570985008687907853269984665640564039457584007913129639936 ∧ R * 18446744073709551616 + v = X + 115792089237316195423570985008687907853269984665640564039457584007913129639936 * limb 3 R ∧ v = limb 0 X ∧ limb 0 R = limb 1 X ∧ limb 1 R = limb 2 X ∧ limb 2 R = limb 3 X := by
  have g := limbs_of v (limb 0 R) (limb 1 R) (limb 2 R) hv (limb_lt _ _) (limb_lt _ _) (limb_lt _ _) _ rfl
  have hs := limbs_sum R hR
  refine ⟨_, g.2.2.2.2, ?_, g.1, g.2.1, g.2.2.1, g.2.2.2.1⟩
  generalize limb 0 R = a at *
  generalize limb 1 R = b at *
  generalize limb 2 R = c at *
  generalize limb 3 R = d at *
  omega

end Go.Proofs.YtaeembdabnomaaaGreatDoor
