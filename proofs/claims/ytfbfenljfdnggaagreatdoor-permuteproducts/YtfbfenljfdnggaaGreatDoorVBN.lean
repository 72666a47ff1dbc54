/- Plain arithmetic: the division of two words by a word, by half words. No program is named here. -/
import Derived.Test.YtfbfenljfdnggaaGreatDoorVWM
namespace Go.Proofs.YtfbfenljfdnggaaGreatDoor
theorem half_id (U V Y Y1 Y0 a b : Nat) (hY : Y = Y1 * 4294967296 + Y0) (hinv : a * Y1 + b = U) : U * 4294967296 + V + a * Y0 = a * Y + (b * 4294967296 + V) := by
  subst hY; subst hinv
  rw [Nat.mul_add, Nat.add_mul, ← Nat.mul_assoc]
  omega
theorem half_lt (U V Y : Nat) (hU : U < Y) (hV : V < 4294967296) : (U * 4294967296 + V) / Y < 4294967296 := by
  have hY : 0 < Y := by omega
  rw [Nat.div_lt_iff_lt_mul hY]
  have : (U + 1) * 4294967296 ≤ Y * 4294967296 := Nat.mul_le_mul_right _ hU
  rw [Nat.mul_comm 4294967296 Y]
  omega
/-- What holds at the head of each round of the correction of a half word. -/
def HalfInv (U V Y Y1 a b : Nat) : Prop := a * Y1 + b = U ∧ (U * 4294967296 + V) / Y ≤ a ∧ b < 4294967296
theorem half_start (U V Y Y1 Y0 : Nat) (hY : Y = Y1 * 4294967296 + Y0) (h1 : 0 < Y1) (h1' : Y1 < 4294967296) (hV : V < 4294967296) : HalfInv U V Y Y1 (U / Y1) (U % Y1) := by
  refine ⟨by rw [Nat.mul_comm]; exact Nat.div_add_mod U Y1, ?_, by have := Nat.mod_lt U h1; omega⟩
  have hYp : 0 < Y := by omega
  rw [Nat.le_div_iff_mul_le h1]
  have e1 : (U * 4294967296 + V) / Y * Y ≤ U * 4294967296 + V := Nat.div_mul_le_self _ _
  obtain ⟨q, hq⟩ : ∃ q, q = (U * 4294967296 + V) / Y := ⟨_, rfl⟩
  rw [← hq] at e1 ⊢
  have e2 : q * (Y1 * 4294967296) ≤ q * Y := Nat.mul_le_mul_left _ (by omega)
  rw [← Nat.mul_assoc] at e2
  clear hq
  omega
theorem half_done (U V Y Y1 Y0 a b : Nat) (hY : Y = Y1 * 4294967296 + Y0) (hYp : 0 < Y) (h : HalfInv U V Y Y1 a b) (ht : a * Y0 ≤ 4294967296 * b + V) : a = (U * 4294967296 + V) / Y := by
  have k := half_id U V Y Y1 Y0 a b hY h.1
  refine Nat.le_antisymm ?_ h.2.1
  rw [Nat.le_div_iff_mul_le hYp]
  rw [Nat.mul_comm b 4294967296] at k
  omega
theorem half_more (U V Y Y1 Y0 a b : Nat) (hY : Y = Y1 * 4294967296 + Y0) (hU : U < Y) (hV : V < 4294967296) (h : HalfInv U V Y Y1 a b) (ht : 4294967296 ≤ a ∨ 4294967296 * b + V < a * Y0) :
    1 ≤ a ∧ (a - 1) * Y1 + (b + Y1) = U ∧ (U * 4294967296 + V) / Y ≤ a - 1 := by
  have hYp : 0 < Y := by omega
  have hlt : (U * 4294967296 + V) / Y < a := by
    rcases ht with ht | ht
    · have := half_lt U V Y hU hV; omega
    · have k := half_id U V Y Y1 Y0 a b hY h.1
      rw [Nat.div_lt_iff_lt_mul hYp]
      rw [Nat.mul_comm b 4294967296] at k
      omega
  have hpos : 1 ≤ a := Nat.lt_of_le_of_lt (Nat.zero_le _) hlt
  refine ⟨hpos, ?_, Nat.le_sub_one_of_lt hlt⟩
  have e : a * Y1 = (a - 1) * Y1 + Y1 := by
    conv => lhs; rw [show a = (a - 1) + 1 from by omega, Nat.add_mul, Nat.one_mul]
  have := h.1
  omega
theorem half_break (U V Y Y1 Y0 a b : Nat) (hY : Y = Y1 * 4294967296 + Y0) (h0 : Y0 < 4294967296) (hU : U < Y) (hinv : a * Y1 + b = U) (hq : (U * 4294967296 + V) / Y ≤ a) (hb : 4294967296 ≤ b) : a = (U * 4294967296 + V) / Y := by
  have hYp : 0 < Y := by omega
  have ha : a < 4294967296 := by
    have h1 : a * Y1 < Y1 * 4294967296 := by omega
    rw [Nat.mul_comm Y1] at h1
    exact Nat.lt_of_mul_lt_mul_right h1
  have k := half_id U V Y Y1 Y0 a b hY hinv
  have hp : a * Y0 ≤ 4294967296 * 4294967296 := Nat.mul_le_mul (by omega) (by omega)
  have hbH : 4294967296 * 4294967296 ≤ b * 4294967296 := Nat.mul_le_mul_right _ hb
  refine Nat.le_antisymm ?_ hq
  rw [Nat.le_div_iff_mul_le hYp]
  omega
theorem join_lin (U V1 V0 Y q1 r1 q0 r0 : Nat) (e1 : Y * q1 + r1 = U * 4294967296 + V1) (e2 : Y * q0 + r0 = r1 * 4294967296 + V0) : U * 18446744073709551616 + (V1 * 4294967296 + V0) = (q1 * 4294967296 + q0) * Y + r0 := by
  rw [Nat.add_mul, Nat.mul_right_comm, Nat.mul_comm q1 Y, Nat.mul_comm q0 Y]
  omega
theorem join_uniq (N Y q r : Nat) (hr : r < Y) (h : N = q * Y + r) : q = N / Y ∧ r = N % Y := by
  subst h
  refine ⟨?_, ?_⟩
  · rw [Nat.add_comm, Nat.add_mul_div_right _ _ (by omega), Nat.div_eq_of_lt hr]; omega
  · rw [Nat.add_comm, Nat.add_mul_mod_self_right, Nat.mod_eq_of_lt hr]
theorem div_join (U V1 V0 Y : Nat) (hY : 0 < Y) :
    (U * 4294967296 + V1) / Y * 4294967296 + (((U * 4294967296 + V1) % Y) * 4294967296 + V0) / Y = (U * 18446744073709551616 + (V1 * 4294967296 + V0)) / Y ∧ (((U * 4294967296 + V1) % Y) * 4294967296 + V0) % Y = (U * 18446744073709551616 + (V1 * 4294967296 + V0)) % Y :=
  join_uniq _ Y _ _ (Nat.mod_lt _ hY) (join_lin U V1 V0 Y _ _ _ _ (Nat.div_add_mod _ Y) (Nat.div_add_mod _ Y))
theorem div_shift (N y s : Nat) : N * 2 ^ s / (y * 2 ^ s) = N / y ∧ N * 2 ^ s % (y * 2 ^ s) / 2 ^ s = N % y := by
  have hp : 0 < 2 ^ s := Nat.two_pow_pos s
  refine ⟨Nat.mul_div_mul_right _ _ hp, ?_⟩
  rw [Nat.mul_mod_mul_right, Nat.mul_div_cancel _ hp]
theorem div_norm (h l s : Nat) (hs : s ≤ 64) (hl : l < 18446744073709551616) : (h * 2 ^ s + l / 2 ^ (64 - s)) * 18446744073709551616 + l * 2 ^ s % 18446744073709551616 = (h * 18446744073709551616 + l) * 2 ^ s ∧ l / 2 ^ (64 - s) < 2 ^ s := by
  have eQ : (18446744073709551616 : Nat) = 2 ^ (64 - s) * 2 ^ s := by rw [← Nat.pow_add, show 64 - s + s = 64 from by omega]
  have hp : 0 < 2 ^ s := Nat.two_pow_pos s
  have hp' : 0 < 2 ^ (64 - s) := Nat.two_pow_pos _
  have e1 : l * 2 ^ s / 18446744073709551616 = l / 2 ^ (64 - s) := by rw [eQ]; exact Nat.mul_div_mul_right _ _ hp
  have e2 := Nat.div_add_mod (l * 2 ^ s) 18446744073709551616
  rw [e1] at e2
  refine ⟨?_, ?_⟩
  · rw [Nat.add_mul, Nat.add_mul, Nat.mul_right_comm]
    omega
  · rw [Nat.div_lt_iff_lt_mul hp', Nat.mul_comm, ← eQ]; exact hl
theorem mul_le_right (a b c : Nat) (h : a ≤ b) : a * c ≤ b * c := Nat.mul_le_mul_right c h
theorem mul_lt_right (a b c : Nat) (h : a < b) (hc : 0 < c) : a * c < b * c := Nat.mul_lt_mul_of_pos_right h hc
theorem norm_lt' (N y p U V : Nat) (e : U * 18446744073709551616 + V = N * p) (h1 : N < y * 18446744073709551616) (hp : 0 < p) : U < y * p := by
  have h2 : N * p < y * 18446744073709551616 * p := mul_lt_right N (y * 18446744073709551616) p h1 hp
  rw [Nat.mul_right_comm, ← e] at h2
  generalize y * p = z at *
  omega
theorem norm_lt (h l y s U V : Nat) (e : U * 18446744073709551616 + V = (h * 18446744073709551616 + l) * 2 ^ s) (hh : h < y) (hl : l < 18446744073709551616) : U < y * 2 ^ s :=
  norm_lt' (h * 18446744073709551616 + l) y (2 ^ s) U V e (by have := mul_le_right (h + 1) y 18446744073709551616 hh; omega) (Nat.two_pow_pos s)
theorem norm_top (y L : Nat) (h1 : y < 2 ^ L) (h2 : 2 ^ (L - 1) ≤ y) (h3 : 1 ≤ L) (h4 : L ≤ 64) : y * 2 ^ (64 - L) < 18446744073709551616 ∧ 9223372036854775808 ≤ y * 2 ^ (64 - L) := by
  have a : y * 2 ^ (64 - L) < 2 ^ L * 2 ^ (64 - L) := Nat.mul_lt_mul_of_pos_right h1 (Nat.two_pow_pos _)
  have b : 2 ^ (L - 1) * 2 ^ (64 - L) ≤ y * 2 ^ (64 - L) := Nat.mul_le_mul_right _ h2
  rw [← Nat.pow_add] at a b
  rw [show L + (64 - L) = 64 from by omega] at a
  rw [show L - 1 + (64 - L) = 63 from by omega] at b
  exact ⟨a, b⟩
/-- What is fixed while a half word is found: the divisor's halves, what is divided, the next half word. -/
def HalfF (U V Y Y1 Y0 : Nat) : Prop := Y = Y1 * 4294967296 + Y0 ∧ Y0 < 4294967296 ∧ 0 < Y1 ∧ Y1 < 4294967296 ∧ U < Y ∧ V < 4294967296
theorem HalfF.lt {U V Y Y1 Y0 : Nat} (F : HalfF U V Y Y1 Y0) : Y < 18446744073709551616 ∧ 0 < Y := by
  obtain ⟨h1, h2, h3, h4, h5, h6⟩ := F; omega
theorem int_le {U V Y Y1 Y0 : Nat} (F : HalfF U V Y Y1 Y0) {A B : Int} (hA : 0 ≤ A) (hB : 0 ≤ B) (h : HalfInv U V Y Y1 A.toNat B.toNat) : A ≤ U ∧ B < 4294967296 := by
  obtain ⟨a, rfl⟩ := Int.eq_ofNat_of_zero_le hA
  obtain ⟨b, rfl⟩ := Int.eq_ofNat_of_zero_le hB
  simp only [Int.toNat_natCast] at h
  have h1 := h.1
  have h3 := h.2.2
  have : a * 1 ≤ a * Y1 := Nat.mul_le_mul_left _ F.2.2.1
  omega
theorem int_prod {U V Y Y1 Y0 : Nat} (F : HalfF U V Y Y1 Y0) {A : Int} (hA : 0 ≤ A) (hA1 : ¬ 4294967296 ≤ A) : 0 ≤ A * (Y0 : Int) ∧ A * (Y0 : Int) < 18446744073709551616 := by
  obtain ⟨a, rfl⟩ := Int.eq_ofNat_of_zero_le hA
  have h : a * Y0 ≤ 4294967295 * 4294967295 := Nat.mul_le_mul (by omega) (by have := F.2.1; omega)
  rw [← Int.natCast_mul]
  omega
theorem int_more {U V Y Y1 Y0 : Nat} (F : HalfF U V Y Y1 Y0) {A B : Int} (hA : 0 ≤ A) (hB : 0 ≤ B) (h : HalfInv U V Y Y1 A.toNat B.toNat) (ht : 4294967296 ≤ A ∨ 4294967296 * B + (V : Int) < A * (Y0 : Int)) :
    1 ≤ A ∧ (A - 1).toNat * Y1 + (B + (Y1 : Int)).toNat = U ∧ (U * 4294967296 + V) / Y ≤ (A - 1).toNat := by
  obtain ⟨a, rfl⟩ := Int.eq_ofNat_of_zero_le hA
  obtain ⟨b, rfl⟩ := Int.eq_ofNat_of_zero_le hB
  simp only [Int.toNat_natCast] at h
  have ht' : 4294967296 ≤ a ∨ 4294967296 * b + V < a * Y0 := by
    rcases ht with ht | ht
    · left; omega
    · right; rw [← Int.natCast_mul] at ht; omega
  have m := half_more U V Y Y1 Y0 a b F.1 F.2.2.2.2.1 F.2.2.2.2.2 h ht'
  have e1 : ((a : Int) - 1).toNat = a - 1 := by omega
  have e2 : ((b : Int) + (Y1 : Int)).toNat = b + Y1 := by omega
  rw [e1, e2]
  exact ⟨by omega, m.2⟩
theorem int_done {U V Y Y1 Y0 : Nat} (F : HalfF U V Y Y1 Y0) {A B : Int} (hA : 0 ≤ A) (hB : 0 ≤ B) (h : HalfInv U V Y Y1 A.toNat B.toNat) (ht : ¬ 4294967296 * B + (V : Int) < A * (Y0 : Int)) :
    A = (((U * 4294967296 + V) / Y : Nat) : Int) := by
  obtain ⟨a, rfl⟩ := Int.eq_ofNat_of_zero_le hA
  obtain ⟨b, rfl⟩ := Int.eq_ofNat_of_zero_le hB
  simp only [Int.toNat_natCast] at h
  rw [← Int.natCast_mul] at ht
  have := half_done U V Y Y1 Y0 a b F.1 F.lt.2 h (by omega)
  rw [← this]
theorem int_break {U V Y Y1 Y0 : Nat} (F : HalfF U V Y Y1 Y0) {A B : Int} (hA : 1 ≤ A) (h1 : (A - 1).toNat * Y1 + (B + (Y1 : Int)).toNat = U) (h2 : (U * 4294967296 + V) / Y ≤ (A - 1).toNat) (hb : 4294967296 ≤ B + (Y1 : Int)) :
    A - 1 = (((U * 4294967296 + V) / Y : Nat) : Int) := by
  have := half_break U V Y Y1 Y0 _ _ F.1 F.2.1 F.2.2.2.2.1 h1 h2 (by omega)
  rw [← this]; omega
end Go.Proofs.YtfbfenljfdnggaaGreatDoor
/- Plain arithmetic: the remainder word by word: a guess that is never too small, mended by adding the divisor. No program is named here. -/
namespace Go.Proofs.YtfbfenljfdnggaaGreatDoor
def guessN (h l d : Nat) : Nat := if d ≤ h then 18446744073709551616 - 1 else (h * 18446744073709551616 + l) / d
theorem guessN_lt (h l d : Nat) (hl : l < 18446744073709551616) : guessN h l d < 18446744073709551616 := by
  unfold guessN
  split
  · omega
  · have hd : 0 < d := by omega
    rw [Nat.div_lt_iff_lt_mul hd]
    have := mul_le_right (h + 1) d 18446744073709551616 (by omega)
    rw [Nat.mul_comm 18446744073709551616 d]
    omega
/-- A guess by the highest words is never too small. -/
theorem guess_ge (R v D : Nat) (hR : R < D) (hD : D < 115792089237316195423570985008687907853269984665640564039457584007913129639936) (hv : v < 18446744073709551616) : (R * 18446744073709551616 + v) / D ≤ guessN (limb 3 R) (limb 2 R) (limb 3 D) := by
  have hDp : 0 < D := by omega
  unfold guessN
  split
  · have : (R * 18446744073709551616 + v) / D < 18446744073709551616 := by
      rw [Nat.div_lt_iff_lt_mul hDp]
      have := mul_le_right (R + 1) D 18446744073709551616 (by omega)
      rw [Nat.mul_comm 18446744073709551616 D]
      omega
    exact Nat.le_sub_one_of_lt this
  · have h3 : 0 < limb 3 D := by omega
    rw [Nat.le_div_iff_mul_le h3]
    have e1 : (R * 18446744073709551616 + v) / D * D ≤ R * 18446744073709551616 + v := Nat.div_mul_le_self _ _
    obtain ⟨q, hq⟩ : ∃ q, q = (R * 18446744073709551616 + v) / D := ⟨_, rfl⟩
    rw [← hq] at e1 ⊢
    clear hq
    have hs := limbs_sum D hD
    have ht := limbs_sum R (by omega)
    have l0 := limb_lt 0 R; have l1 := limb_lt 1 R
    have e2 : q * (6277101735386680763835789423207666416102355444464034512896 * limb 3 D) ≤ q * D := Nat.mul_le_mul_left q (by omega)
    rw [Nat.mul_left_comm] at e2
    generalize q * limb 3 D = z at *
    generalize q * D = y at *
    generalize limb 0 R = a at *
    generalize limb 1 R = b at *
    generalize limb 2 R = c at *
    generalize limb 3 R = d at *
    clear hs
    omega
/-- What holds at the head of each round: t times the divisor is still to be added. -/
def NRInv (N D t T h : Nat) : Prop := T < 115792089237316195423570985008687907853269984665640564039457584007913129639936 ∧ h < 18446744073709551616 ∧ t < 18446744073709551616 ∧ T + 115792089237316195423570985008687907853269984665640564039457584007913129639936 * h + t * D = N % D + (if t = 0 then 0 else 115792089237316195423570985008687907853269984665640564039457584007913129639936 * 18446744073709551616)
theorem nr_zero {N D t T h : Nat} (hD : 0 < D) (hDM : D < 115792089237316195423570985008687907853269984665640564039457584007913129639936) (ht : t = 0) (i : NRInv N D t T h) : h = 0 ∧ T = N % D := by
  obtain ⟨i1, i2, i3, i4⟩ := i
  subst ht
  simp only [Nat.zero_mul, Nat.add_zero, if_true] at i4
  have := Nat.mod_lt N hD
  generalize N % D = r at *
  omega
theorem nr_more {N D t T h : Nat} (hDM : D < 115792089237316195423570985008687907853269984665640564039457584007913129639936) (ht : t ≠ 0) (i : NRInv N D t T h) : h ≠ 0 := by
  obtain ⟨i1, i2, i3, i4⟩ := i
  rw [if_neg ht] at i4
  have b : t * D ≤ (18446744073709551616 - 1) * D := mul_le_right t (18446744073709551616 - 1) D (by omega)
  generalize N % D = r at *
  generalize t * D = z at *
  omega
theorem nr_step {N D t T h : Nat} (hD : 0 < D) (hDM : D < 115792089237316195423570985008687907853269984665640564039457584007913129639936) (ht : t ≠ 0) (i : NRInv N D t T h) : NRInv N D (t - 1) (add256 T D) ((h + (if over256 T D then 1 else 0)) % 18446744073709551616) := by
  obtain ⟨i1, i2, i3, i4⟩ := i
  rw [if_neg ht] at i4
  have hm := Nat.mod_lt N hD
  have et : t * D = (t - 1) * D + D := by
    conv => lhs; rw [show t = (t - 1) + 1 from by omega, Nat.add_mul, Nat.one_mul]
  rw [et] at i4
  have hs : T + D = add256 T D + 115792089237316195423570985008687907853269984665640564039457584007913129639936 * (if over256 T D then 1 else 0) := by
    unfold add256 over256
    by_cases hc : 115792089237316195423570985008687907853269984665640564039457584007913129639936 ≤ T + D
    · simp only [hc, decide_true, if_true]; omega
    · simp only [hc, decide_false, Bool.false_eq_true, if_false]; omega
  have hc1 : (if over256 T D then 1 else 0) ≤ 1 := by split <;> omega
  have ha := add256_lt T D
  refine ⟨ha, Nat.mod_lt _ (by decide), by omega, ?_⟩
  generalize (if over256 T D then 1 else 0) = c at *
  generalize add256 T D = T' at *
  generalize N % D = r at *
  by_cases h1 : t - 1 = 0
  · rw [if_pos h1]
    rw [h1] at i4 ⊢
    simp only [Nat.zero_mul, Nat.add_zero, Nat.zero_add] at i4 ⊢
    omega
  · rw [if_neg h1]
    have hge : D ≤ (t - 1) * D := by
      have := mul_le_right 1 (t - 1) D (by omega)
      omega
    generalize (t - 1) * D = z at *
    omega
theorem nr_lin (N y r X r3 Pl Ph T c u : Nat) (hN : N = X + 115792089237316195423570985008687907853269984665640564039457584007913129639936 * r3) (e : y + r = N) (hP : y + u = Pl + 115792089237316195423570985008687907853269984665640564039457584007913129639936 * Ph) (hs : X + 115792089237316195423570985008687907853269984665640564039457584007913129639936 * c = T + Pl) : T + 115792089237316195423570985008687907853269984665640564039457584007913129639936 * r3 + u = r + 115792089237316195423570985008687907853269984665640564039457584007913129639936 * (Ph + c) := by omega
theorem nr_lin0 (T r r3 Ph c : Nat) (h : T + 115792089237316195423570985008687907853269984665640564039457584007913129639936 * r3 + 0 = r + 115792089237316195423570985008687907853269984665640564039457584007913129639936 * (Ph + c)) (hT : T < 115792089237316195423570985008687907853269984665640564039457584007913129639936) (hr : r < 115792089237316195423570985008687907853269984665640564039457584007913129639936) : r3 = Ph + c ∧ T = r := by omega
theorem nr_lin1 (D T r r3 Ph c u : Nat) (h : T + 115792089237316195423570985008687907853269984665640564039457584007913129639936 * r3 + u = r + 115792089237316195423570985008687907853269984665640564039457584007913129639936 * (Ph + c)) (hT : T < 115792089237316195423570985008687907853269984665640564039457584007913129639936) (hr : r < D) (hD : D < 115792089237316195423570985008687907853269984665640564039457584007913129639936) (hu : D ≤ u) (hu' : u ≤ (18446744073709551616 - 1) * D) : r3 < Ph + c ∧ Ph + c < r3 + 18446744073709551616 := by omega
theorem nr_fin (T r r3 k u m : Nat) (h : T + 115792089237316195423570985008687907853269984665640564039457584007913129639936 * r3 + u = r + 115792089237316195423570985008687907853269984665640564039457584007913129639936 * k) (hm : m + k = r3 + 18446744073709551616) : T + 115792089237316195423570985008687907853269984665640564039457584007913129639936 * m + u = r + 115792089237316195423570985008687907853269984665640564039457584007913129639936 * 18446744073709551616 := by omega
theorem nr_fin0 (T r : Nat) (h : T = r) : T + 115792089237316195423570985008687907853269984665640564039457584007913129639936 * 0 + 0 = r + 0 := by omega
theorem high_zero (r3 Ph c : Nat) (h : r3 = Ph + c) : (r3 + 18446744073709551616 - Ph + 18446744073709551616 - c) % 18446744073709551616 = 0 := by
  rw [show r3 + 18446744073709551616 - Ph + 18446744073709551616 - c = 18446744073709551616 + 18446744073709551616 from by omega]
theorem high_neg (r3 Ph c : Nat) (hr : Ph < 18446744073709551616) (h1 : r3 < Ph + c) (h2 : Ph + c < r3 + 18446744073709551616) (hc : c ≤ 1) : (r3 + 18446744073709551616 - Ph + 18446744073709551616 - c) % 18446744073709551616 = r3 + 18446744073709551616 - (Ph + c) := by
  rw [show r3 + 18446744073709551616 - Ph + 18446744073709551616 - c = r3 + 18446744073709551616 - (Ph + c) + 18446744073709551616 from by omega, Nat.add_mod_right]
  exact Nat.mod_eq_of_lt (by omega)
theorem sub_back (X Pl : Nat) (hX : X < 115792089237316195423570985008687907853269984665640564039457584007913129639936) (hPl : Pl < 115792089237316195423570985008687907853269984665640564039457584007913129639936) : X + 115792089237316195423570985008687907853269984665640564039457584007913129639936 * (if below256 X Pl then 1 else 0) = sub256 X Pl + Pl := by
  unfold sub256 below256
  by_cases hc : X < Pl
  · simp only [hc, decide_true, if_true]; omega
  · simp only [hc, decide_false, Bool.false_eq_true, if_false]; omega
theorem below_le (X Pl : Nat) : (if below256 X Pl then 1 else 0) ≤ 1 := by split <;> omega
theorem nr_start (N D g X r3 Pl Ph : Nat) (hD : 0 < D) (hDM : D < 115792089237316195423570985008687907853269984665640564039457584007913129639936) (hN : N = X + 115792089237316195423570985008687907853269984665640564039457584007913129639936 * r3) (hX : X < 115792089237316195423570985008687907853269984665640564039457584007913129639936) (hP : D * g = Pl + 115792089237316195423570985008687907853269984665640564039457584007913129639936 * Ph) (hPl : Pl < 115792089237316195423570985008687907853269984665640564039457584007913129639936) (hPh : Ph < 18446744073709551616) (hg : g < 18446744073709551616) (hq : N / D ≤ g) :
    NRInv N D (g - N / D) (sub256 X Pl) ((r3 + 18446744073709551616 - Ph + 18446744073709551616 - (if below256 X Pl then 1 else 0)) % 18446744073709551616) := by
  have hm := Nat.mod_lt N hD
  have e := Nat.div_add_mod N D
  obtain ⟨q, hqe⟩ : ∃ q, q = N / D := ⟨_, rfl⟩
  rw [← hqe] at e hq ⊢
  obtain ⟨t, hte⟩ : ∃ t, t = g - q := ⟨_, rfl⟩
  rw [← hte]
  have htg : t ≤ 18446744073709551616 - 1 := by omega
  have hb : t * D ≤ (18446744073709551616 - 1) * D := mul_le_right _ _ D htg
  have et : D * g = D * q + t * D := by
    rw [Nat.mul_comm t, ← Nat.mul_add]; congr 1; omega
  have hs := sub_back X Pl hX hPl
  have hc1 := below_le X Pl
  have ha := sub256_lt X Pl
  have key := nr_lin N (D * q) (N % D) X r3 Pl Ph (sub256 X Pl) (if below256 X Pl then 1 else 0) (t * D) hN e (et.symm.trans hP) hs
  refine ⟨ha, Nat.mod_lt _ (by decide), by omega, ?_⟩
  by_cases h0 : t = 0
  · rw [if_pos h0]
    rw [h0] at key ⊢
    simp only [Nat.zero_mul] at key ⊢
    have k := nr_lin0 _ _ _ _ _ key ha (Nat.lt_trans hm hDM)
    rw [high_zero _ _ _ k.1]
    exact nr_fin0 _ _ k.2
  · rw [if_neg h0]
    have hge : D ≤ t * D := by
      have := mul_le_right 1 t D (by omega)
      omega
    have k := nr_lin1 D _ _ _ _ _ _ key ha hm hDM hge hb
    rw [high_neg _ _ _ hPh k.1 k.2 hc1]
    exact nr_fin _ _ _ _ _ _ key (Nat.sub_add_cancel (Nat.le_of_lt k.2))
/-- The words of R * 2^64 + v without its highest word. -/
theorem shift_in (R v : Nat) (hR : R < 115792089237316195423570985008687907853269984665640564039457584007913129639936) (hv : v < 18446744073709551616) : ∃ X, X < 115792089237316195423570985008687907853269984665640564039457584007913129639936 ∧ R * 18446744073709551616 + v = X + 115792089237316195423570985008687907853269984665640564039457584007913129639936 * limb 3 R ∧ v = limb 0 X ∧ limb 0 R = limb 1 X ∧ limb 1 R = limb 2 X ∧ limb 2 R = limb 3 X := by
  have g := limbs_of v (limb 0 R) (limb 1 R) (limb 2 R) hv (limb_lt _ _) (limb_lt _ _) (limb_lt _ _) _ rfl
  have hs := limbs_sum R hR
  refine ⟨_, g.2.2.2.2, ?_, g.1, g.2.1, g.2.2.1, g.2.2.2.1⟩
  generalize limb 0 R = a at *
  generalize limb 1 R = b at *
  generalize limb 2 R = c at *
  generalize limb 3 R = d at *
  omega
end Go.Proofs.YtfbfenljfdnggaaGreatDoor
/- Plain arithmetic: a number of many words shifted up by bits, word by word; words of a number that two halves make. No program is named here. -/
namespace Go.Proofs.YtfbfenljfdnggaaGreatDoor
def shW (L r i : Nat) : Nat := (limb i L * 2 ^ r % 18446744073709551616) ||| (if i = 0 then 0 else limb (i - 1) L / 2 ^ (64 - r))
def shF (L W r k j : Nat) : Nat := if W ≤ j ∧ j < W + k then shW L r (j - W) else 0
theorem pow64 (i : Nat) : (18446744073709551616 : Nat) ^ i = 2 ^ (64 * i) := by
  rw [Nat.pow_mul]
theorem hi_part (H r : Nat) (hr : r ≤ 64) : 2 ^ r * H % 18446744073709551616 = 2 ^ r * (H % 2 ^ (64 - r)) := by
  have eQ : (18446744073709551616 : Nat) = 2 ^ r * 2 ^ (64 - r) := by rw [← Nat.pow_add, show r + (64 - r) = 64 from by omega]
  rw [eQ, Nat.mul_mod_mul_left]
theorem mod_small (H r : Nat) (hr : r ≤ 64) : H % 18446744073709551616 % 2 ^ (64 - r) = H % 2 ^ (64 - r) := by
  have eQ : (18446744073709551616 : Nat) = 2 ^ (64 - r) * 2 ^ r := by rw [← Nat.pow_add, show 64 - r + r = 64 from by omega]
  rw [eQ]; exact Nat.mod_mul_right_mod _ _ _
theorem limb_shift (L r i : Nat) (hr : r ≤ 63) : limb i (L * 2 ^ r) = shW L r i := by
  unfold shW
  by_cases h0 : i = 0
  · subst h0
    rw [if_pos rfl, Nat.or_zero, limb0, limb0, Nat.mod_mul_mod]
  · rw [if_neg h0]
    have hp : 0 < 2 ^ r := Nat.two_pow_pos r
    have e1 : L * 2 ^ r / 18446744073709551616 ^ i = L / 18446744073709551616 ^ (i - 1) / 2 ^ (64 - r) := by
      rw [pow64, pow64, Nat.div_div_eq_div_mul, ← Nat.pow_add, show 64 * i = (64 * (i - 1) + (64 - r)) + r from by omega, Nat.pow_add 2 (64 * (i - 1) + (64 - r)) r]
      exact Nat.mul_div_mul_right _ _ hp
    have e2 : L / 18446744073709551616 ^ (i - 1) = limb (i - 1) L + 18446744073709551616 * (L / 18446744073709551616 ^ i) := by
      have : L / 18446744073709551616 ^ i = L / 18446744073709551616 ^ (i - 1) / 18446744073709551616 := by
        rw [Nat.div_div_eq_div_mul, ← Nat.pow_succ]; congr 2; omega
      rw [this]; unfold limb; exact (Nat.mod_add_div _ _).symm
    have e3 : (limb (i - 1) L + 18446744073709551616 * (L / 18446744073709551616 ^ i)) / 2 ^ (64 - r) = limb (i - 1) L / 2 ^ (64 - r) + 2 ^ r * (L / 18446744073709551616 ^ i) := by
      have eQ : (18446744073709551616 : Nat) = 2 ^ (64 - r) * 2 ^ r := by rw [← Nat.pow_add, show 64 - r + r = 64 from by omega]
      obtain ⟨l, hl⟩ : ∃ l, l = limb (i - 1) L := ⟨_, rfl⟩
      obtain ⟨H, hH⟩ : ∃ H, H = L / 18446744073709551616 ^ i := ⟨_, rfl⟩
      rw [← hl, ← hH, eQ, Nat.mul_assoc]
      exact Nat.add_mul_div_left _ _ (Nat.two_pow_pos _)
    have e4 : limb i (L * 2 ^ r) = (limb (i - 1) L / 2 ^ (64 - r) + 2 ^ r * (L / 18446744073709551616 ^ i)) % 18446744073709551616 := by
      show L * 2 ^ r / 18446744073709551616 ^ i % 18446744073709551616 = _
      rw [e1, e2, e3]
    have hE : limb (i - 1) L / 2 ^ (64 - r) < 2 ^ r := by
      rw [Nat.div_lt_iff_lt_mul (Nat.two_pow_pos _), ← Nat.pow_add, show r + (64 - r) = 64 from by omega]
      exact limb_lt _ _
    have e5 : limb i L * 2 ^ r % 18446744073709551616 = 2 ^ r * (L / 18446744073709551616 ^ i % 2 ^ (64 - r)) := by
      rw [Nat.mul_comm, hi_part _ _ (by omega)]
      show 2 ^ r * (L / 18446744073709551616 ^ i % 18446744073709551616 % 2 ^ (64 - r)) = _
      rw [mod_small _ _ (by omega)]
    rw [e4, e5, ← Nat.two_pow_add_eq_or_of_lt hE]
    have hH : L / 18446744073709551616 ^ i % 2 ^ (64 - r) < 2 ^ (64 - r) := Nat.mod_lt _ (Nat.two_pow_pos _)
    have hb := hi_part (L / 18446744073709551616 ^ i) r (by omega)
    obtain ⟨E, hEe⟩ : ∃ E, E = limb (i - 1) L / 2 ^ (64 - r) := ⟨_, rfl⟩
    obtain ⟨K, hK⟩ : ∃ K, K = L / 18446744073709551616 ^ i % 2 ^ (64 - r) := ⟨_, rfl⟩
    obtain ⟨Z, hZ⟩ : ∃ Z, Z = 2 ^ r * (L / 18446744073709551616 ^ i) := ⟨_, rfl⟩
    rw [← hEe] at hE ⊢
    rw [← hK] at hH hb ⊢
    rw [← hZ] at hb ⊢
    have hs : 2 ^ r * K + 2 ^ r ≤ 18446744073709551616 := by
      have := Nat.mul_le_mul_left (2 ^ r) (show K + 1 ≤ 2 ^ (64 - r) from hH)
      rw [← Nat.pow_add, show r + (64 - r) = 64 from by omega] at this
      exact this
    generalize 2 ^ r * K = y at *
    generalize 2 ^ r = p at *
    clear e1 e2 e3 e4 e5
    omega
theorem limb_up (N W j : Nat) : limb j (N * 18446744073709551616 ^ W) = if j < W then 0 else limb (j - W) N := by
  have hp : ∀ k, 0 < 18446744073709551616 ^ k := fun k => Nat.pow_pos (by decide)
  by_cases h : j < W
  · rw [if_pos h]
    unfold limb
    have : N * 18446744073709551616 ^ W = (N * 18446744073709551616 ^ (W - j - 1) * 18446744073709551616) * 18446744073709551616 ^ j := by
      rw [Nat.mul_assoc, Nat.mul_assoc, ← Nat.pow_succ', ← Nat.pow_add]; congr 2; omega
    rw [this, Nat.mul_div_cancel _ (hp j), Nat.mul_mod_left]
  · rw [if_neg h]
    unfold limb
    have : 18446744073709551616 ^ j = 18446744073709551616 ^ (j - W) * 18446744073709551616 ^ W := by rw [← Nat.pow_add]; congr 1; omega
    rw [this, Nat.mul_div_mul_right _ _ (hp W)]
theorem shF_limb (L n W : Nat) (hW : W = n / 64) (j : Nat) (hj : j < 12) (hW' : W ≤ 12) : shF L W (n % 64) (12 - W) j = limb j (L * 2 ^ n) := by
  have e : L * 2 ^ n = L * 2 ^ (n % 64) * 18446744073709551616 ^ W := by
    rw [Nat.mul_assoc, pow64, ← Nat.pow_add]; congr 2; omega
  rw [e, limb_up]
  unfold shF
  by_cases h : j < W
  · rw [if_pos h, if_neg (by omega)]
  · rw [if_neg h, if_pos (by omega), limb_shift _ _ _ (by omega)]
theorem shF_zero (L W r j : Nat) : shF L W r 0 j = 0 := by unfold shF; rw [if_neg (by omega)]
theorem shF_step (L W r k j : Nat) : shF L W r (k + 1) j = if j = k + W then shW L r k else shF L W r k j := by
  unfold shF
  by_cases h : j = k + W
  · subst h; rw [if_pos (by omega), if_pos rfl]; congr 1; omega
  · rw [if_neg h]
    by_cases h2 : W ≤ j ∧ j < W + k
    · rw [if_pos h2, if_pos (by omega)]
    · rw [if_neg h2, if_neg (by omega)]
/-- Words of two halves joined. -/
theorem limb_join_lo (A B i : Nat) (hi : i < 4) : limb i (A + 115792089237316195423570985008687907853269984665640564039457584007913129639936 * B) = limb i A := by
  have h4 : i = 0 ∨ i = 1 ∨ i = 2 ∨ i = 3 := by omega
  rcases h4 with rfl | rfl | rfl | rfl
  · rw [limb0, limb0]; omega
  · rw [limb1, limb1]; omega
  · rw [limb2, limb2]; omega
  · rw [limb3, limb3]; omega
theorem limb_add4 (N i : Nat) : limb (i + 4) N = limb i (N / 115792089237316195423570985008687907853269984665640564039457584007913129639936) := by
  unfold limb
  rw [Nat.pow_add, show (18446744073709551616 : Nat) ^ 4 = 115792089237316195423570985008687907853269984665640564039457584007913129639936 from by decide, Nat.mul_comm, Nat.div_div_eq_div_mul]
theorem limb_join_hi (A B i : Nat) (hA : A < 115792089237316195423570985008687907853269984665640564039457584007913129639936) : limb (i + 4) (A + 115792089237316195423570985008687907853269984665640564039457584007913129639936 * B) = limb i B := by
  rw [limb_add4, Nat.add_mul_div_left _ _ (by decide), Nat.div_eq_of_lt hA, Nat.zero_add]
theorem limb_mod (N i : Nat) (hi : i < 4) : limb i N = limb i (N % 115792089237316195423570985008687907853269984665640564039457584007913129639936) := by
  have h4 : i = 0 ∨ i = 1 ∨ i = 2 ∨ i = 3 := by omega
  rcases h4 with rfl | rfl | rfl | rfl
  · rw [limb0, limb0]; omega
  · rw [limb1, limb1]; omega
  · rw [limb2, limb2]; omega
  · rw [limb3, limb3]; omega
end Go.Proofs.YtfbfenljfdnggaaGreatDoor
/- Plain arithmetic: a number's words out of its bits. No program is named here. -/
namespace Go.Proofs.YtfbfenljfdnggaaGreatDoor
def bitN (A i : Nat) : Nat := A / 2 ^ i % 2
theorem bitN_test (A i : Nat) : A.testBit i = decide (bitN A i = 1) := by
  unfold bitN; rw [Nat.testBit_eq_decide_div_mod_eq]
theorem limb_test (j X i : Nat) : (limb j X).testBit i = (decide (i < 64) && X.testBit (64 * j + i)) := by
  unfold limb
  rw [pow64, show (18446744073709551616 : Nat) = 2 ^ 64 from by decide, Nat.testBit_mod_two_pow, Nat.testBit_div_two_pow, Nat.add_comm]
end Go.Proofs.YtfbfenljfdnggaaGreatDoor
