/- Plain arithmetic: the division of two words by a word, by half words. No program is named here. -/
import Derived.Test.YtaeembdabnomaaaGreatDoorNum
namespace Go.Proofs.YtaeembdabnomaaaGreatDoor

theorem half_id (U V Y Y1 Y0 a b : Nat) (hY : Y = Y1 * 4294967296 + Y0) (hinv : a * Y1 + b = U) : U * 4294967296 + V + a * Y0 = a * Y + (b * 4294967296 + V) := by
  subst hY; subst hinv
  rw [Nat.mul_add, Nat.add_mul, ← Nat.mul_assoc]
  omega
theorem half_lt (U V Y : Nat) (hU : U < Y) (hV : V < 4294967296) : (U * 4294967296 + V) / Y < 4294967296 := by
  have hY : 0 < Y := by omega
  rw [Nat.div_lt_iff_lt_mul hY]
  have : (U + 1) * 4294967296 ≤ Y * 4294967296 := Nat.mul_le_mul_right _ hU
  rw [Nat.mul_comm 4294967296 Y]
  omega
/-- What holds at the head of each round of the correction of a half word. -/
def HalfInv (U V Y Y1 a b : Nat) : Prop := a * Y1 + b = U ∧ (U * 4294967296 + V) / Y ≤ a ∧ b < 4294967296
theorem half_start (U V Y Y1 Y0 : Nat) (hY : Y = Y1 * 4294967296 + Y0) (h1 : 0 < Y1) (h1' : Y1 < 4294967296) (hV : V < 4294967296) : HalfInv U V Y Y1 (U / Y1) (U % Y1) := by
  refine ⟨by rw [Nat.mul_comm]; exact Nat.div_add_mod U Y1, ?_, by have := Nat.mod_lt U h1; omega⟩
  have hYp : 0 < Y := by omega
  rw [Nat.le_div_iff_mul_le h1]
  have e1 : (U * 4294967296 + V) / Y * Y ≤ U * 4294967296 + V := Nat.div_mul_le_self _ _
  obtain ⟨q, hq⟩ : ∃ q, q = (U * 4294967296 + V) / Y := ⟨_, rfl⟩
  rw [← hq] at e1 ⊢
  have e2 : q * (Y1 * 4294967296) ≤ q * Y := Nat.mul_le_mul_left _ (by omega)
  rw [← Nat.mul_assoc] at e2
  clear hq
  omega
theorem half_done (U V Y Y1 Y0 a b : Nat) (hY : Y = Y1 * 4294967296 + Y0) (hYp : 0 < Y) (h : HalfInv U V Y Y1 a b) (ht : a * Y0 ≤ 4294967296 * b + V) : a = (U * 4294967296 + V) / Y := by
  have k := half_id U V Y Y1 Y0 a b hY h.1
  refine Nat.le_antisymm ?_ h.2.1
  rw [Nat.le_div_iff_mul_le hYp]
  rw [Nat.mul_comm b 4294967296] at k
  omega
theorem half_more (U V Y Y1 Y0 a b : Nat) (hY : Y = Y1 * 4294967296 + Y0) (hU : U < Y) (hV : V < 4294967296) (h : HalfInv U V Y Y1 a b) (ht : 4294967296 ≤ a ∨ 4294967296 * b + V < a * Y0) :
    1 ≤ a ∧ (a - 1) * Y1 + (b + Y1) = U ∧ (U * 4294967296 + V) / Y ≤ a - 1 := by
  have hYp : 0 < Y := by omega
  have hlt : (U * 4294967296 + V) / Y < a := by
    rcases ht with ht | ht
    · have := half_lt U V Y hU hV; omega
    · have k := half_id U V Y Y1 Y0 a b hY h.1
      rw [Nat.div_lt_iff_lt_mul hYp]
      rw [Nat.mul_comm b 4294967296] at k
      omega
  have hpos : 1 ≤ a := Nat.lt_of_le_of_lt (Nat.zero_le _) hlt
  refine ⟨hpos, ?_, Nat.le_sub_one_of_lt hlt⟩
  have e : a * Y1 = (a - 1) * Y1 + Y1 := by
    conv => lhs; rw [show a = (a - 1) + 1 from by omega, Nat.add_mul, Nat.one_mul]
  have := h.1
  omega
theorem half_break (U V Y Y1 Y0 a b : Nat) (hY : Y = Y1 * 4294967296 + Y0) (h0 : Y0 < 4294967296) (hU : U < Y) (hinv : a * Y1 + b = U) (hq : (U * 4294967296 + V) / Y ≤ a) (hb : 4294967296 ≤ b) : a = (U * 4294967296 + V) / Y := by
  have hYp : 0 < Y := by omega
  have ha : a < 4294967296 := by
    have h1 : a * Y1 < Y1 * 4294967296 := by omega
    rw [Nat.mul_comm Y1] at h1
    exact Nat.lt_of_mul_lt_mul_right h1
  have k := half_id U V Y Y1 Y0 a b hY hinv
  have hp : a * Y0 ≤ 4294967296 * 4294967296 := Nat.mul_le_mul (by omega) (by omega)
  have hbH : 4294967296 * 4294967296 ≤ b * 4294967296 := Nat.mul_le_mul_right _ hb
  refine Nat.le_antisymm ?_ hq
  rw [Nat.le_div_iff_mul_le hYp]
  omega
theorem join_lin (U V1 V0 Y q1 r1 q0 r0 : Nat) (e1 : Y * q1 + r1 = U * 4294967296 + V1) (e2 : Y * q0 + r0 = r1 * 4294967296 + V0) : U * 18446744073709551616 + (V1 * 4294967296 + V0) = (q1 * 4294967296 + q0) * Y + r0 := by
  rw [Nat.add_mul, Nat.mul_right_comm, Nat.mul_comm q1 Y, Nat.mul_comm q0 Y]
  omega
theorem join_uniq (N Y q r : Nat) (hr : r < Y) (h : N = q * Y + r) : q = N / Y ∧ r = N % Y := by
  subst h
  refine ⟨?_, ?_⟩
  · rw [Nat.add_comm, Nat.add_mul_div_right _ _ (by omega), Nat.div_eq_of_lt hr]; omega
  · rw [Nat.add_comm, Nat.add_mul_mod_self_right, Nat.mod_eq_of_lt hr]
theorem div_join (U V1 V0 Y : Nat) (hY : 0 < Y) :
    (U * 4294967296 + V1) / Y * 4294967296 + (((U * 4294967296 + V1) % Y) * 4294967296 + V0) / Y = (U * 18446744073709551616 + (V1 * 4294967296 + V0)) / Y ∧ (((U * 4294967296 + V1) % Y) * 4294967296 + V0) % Y = (U * 18446744073709551616 + (V1 * 4294967296 + V0)) % Y :=
  join_uniq _ Y _ _ (Nat.mod_lt _ hY) (join_lin U V1 V0 Y _ _ _ _ (Nat.div_add_mod _ Y) (Nat.div_add_mod _ Y))
theorem div_shift (N y s : Nat) : N * 2 ^ s / (y * 2 ^ s) = N / y ∧ N * 2 ^ s % (y * 2 ^ s) / 2 ^ s = N % y := by
  have hp : 0 < 2 ^ s := Nat.two_pow_pos s
  refine ⟨Nat.mul_div_mul_right _ _ hp, ?_⟩
  rw [Nat.mul_mod_mul_right, Nat.mul_div_cancel _ hp]

theorem div_norm (h l s : Nat) (hs : s ≤ 64) (hl : l < 18446744073709551616) : (h * 2 ^ s + l / 2 ^ (64 - s)) * 18446744073709551616 + l * 2 ^ s % 18446744073709551616 = (h * 18446744073709551616 + l) * 2 ^ s ∧ l / 2 ^ (64 - s) < 2 ^ s := by
  have eQ : (18446744073709551616 : Nat) = 2 ^ (64 - s) * 2 ^ s := by rw [← Nat.pow_add, show 64 - s + s = 64 from by omega]
  have hp : 0 < 2 ^ s := Nat.two_pow_pos s
  have hp' : 0 < 2 ^ (64 - s) := Nat.two_pow_pos _
  have e1 : l * 2 ^ s / 18446744073709551616 = l / 2 ^ (64 - s) := by rw [eQ]; exact Nat.mul_div_mul_right _ _ hp
  have e2 := Nat.div_add_mod (l * 2 ^ s) 18446744073709551616
  rw [e1] at e2
  refine ⟨?_, ?_⟩
  · rw [Nat.add_mul, Nat.add_mul, Nat.mul_right_comm]
    omega
  · rw [Nat.div_lt_iff_lt_mul hp', Nat.mul_comm, ← eQ]; exact hl
theorem mul_le_right (a b c : Nat) (h : a ≤ b) : a * c ≤ b * c := Nat.mul_le_mul_right c h
theorem mul_lt_right (a b c : Nat) (h : a < b) (hc : 0 < c) : a * c < b * c := Nat.mul_lt_mul_of_pos_right h hc
theorem norm_lt' (N y p U V : Nat) (e : U * 18446744073709551616 + V = N * p) (h1 : N < y * 18446744073709551616) (hp : 0 < p) : U < y * p := by
  have h2 : N * p < y * 18446744073709551616 * p := mul_lt_right N (y * 18446744073709551616) p h1 hp
  rw [Nat.mul_right_comm, ← e] at h2
  generalize y * p = z at *
  omega
theorem norm_lt (h l y s U V : Nat) (e : U * 18446744073709551616 + V = (h * 18446744073709551616 + l) * 2 ^ s) (hh : h < y) (hl : l < 18446744073709551616) : U < y * 2 ^ s :=
  norm_lt' (h * 18446744073709551616 + l) y (2 ^ s) U V e (by have := mul_le_right (h + 1) y 18446744073709551616 hh; omega) (Nat.two_pow_pos s)
theorem norm_top (y L : Nat) (h1 : y < 2 ^ L) (h2 : 2 ^ (L - 1) ≤ y) (h3 : 1 ≤ L) (h4 : L ≤ 64) : y * 2 ^ (64 - L) < 18446744073709551616 ∧ 9223372036854775808 ≤ y * 2 ^ (64 - L) := by
  have a : y * 2 ^ (64 - L) < 2 ^ L * 2 ^ (64 - L) := Nat.mul_lt_mul_of_pos_right h1 (Nat.two_pow_pos _)
  have b : 2 ^ (L - 1) * 2 ^ (64 - L) ≤ y * 2 ^ (64 - L) := Nat.mul_le_mul_right _ h2
  rw [← Nat.pow_add] at a b
  rw [show L + (64 - L) = 64 from by omega] at a
  rw [show L - 1 + (64 - L) = 63 from by omega] at b
  exact ⟨a, b⟩

/-- What is fixed while a half word is found: the divisor's halves, what is divided, the next half word. -/
def HalfF (U V Y Y1 Y0 : Nat) : Prop := Y = Y1 * 4294967296 + Y0 ∧ Y0 < 4294967296 ∧ 0 < Y1 ∧ Y1 < 4294967296 ∧ U < Y ∧ V < 4294967296
theorem HalfF.lt {U V Y Y1 Y0 : Nat} (F : HalfF U V Y Y1 Y0) : Y < 18446744073709551616 ∧ 0 < Y := by
  obtain ⟨h1, h2, h3, h4, h5, h6⟩ := F; omega
theorem int_le {U V Y Y1 Y0 : Nat} (F : HalfF U V Y Y1 Y0) {A B : Int} (hA : 0 ≤ A) (hB : 0 ≤ B) (h : HalfInv U V Y Y1 A.toNat B.toNat) : A ≤ U ∧ B < 4294967296 := by
  obtain ⟨a, rfl⟩ := Int.eq_ofNat_of_zero_le hA
  obtain ⟨b, rfl⟩ := Int.eq_ofNat_of_zero_le hB
  simp only [Int.toNat_natCast] at h
  have h1 := h.1
  have h3 := h.2.2
  have : a * 1 ≤ a * Y1 := Nat.mul_le_mul_left _ F.2.2.1
  omega
theorem int_prod {U V Y Y1 Y0 : Nat} (F : HalfF U V Y Y1 Y0) {A : Int} (hA : 0 ≤ A) (hA1 : ¬ 4294967296 ≤ A) : 0 ≤ A * (Y0 : Int) ∧ A * (Y0 : Int) < 18446744073709551616 := by
  obtain ⟨a, rfl⟩ := Int.eq_ofNat_of_zero_le hA
  have h : a * Y0 ≤ 4294967295 * 4294967295 := Nat.mul_le_mul (by omega) (by have := F.2.1; omega)
  rw [← Int.natCast_mul]
  omega
theorem int_more {U V Y Y1 Y0 : Nat} (F : HalfF U V Y Y1 Y0) {A B : Int} (hA : 0 ≤ A) (hB : 0 ≤ B) (h : HalfInv U V Y Y1 A.toNat B.toNat) (ht : 4294967296 ≤ A ∨ 4294967296 * B + (V : Int) < A * (Y0 : Int)) :
    1 ≤ A ∧ (A - 1).toNat * Y1 + (B + (Y1 : Int)).toNat = U ∧ (U * 4294967296 + V) / Y ≤ (A - 1).toNat := by
  obtain ⟨a, rfl⟩ := Int.eq_ofNat_of_zero_le hA
  obtain ⟨b, rfl⟩ := Int.eq_ofNat_of_zero_le hB
  simp only [Int.toNat_natCast] at h
  have ht' : 4294967296 ≤ a ∨ 4294967296 * b + V < a * Y0 := by
    rcases ht with ht | ht
    · left; omega
    · right; rw [← Int.natCast_mul] at ht; omega
  have m := half_more U V Y Y1 Y0 a b F.1 F.2.2.2.2.1 F.2.2.2.2.2 h ht'
  have e1 : ((a : Int) - 1).toNat = a - 1 := by omega
  have e2 : ((b : Int) + (Y1 : Int)).toNat = b + Y1 := by omega
  rw [e1, e2]
  exact ⟨by omega, m.2⟩
theorem int_done {U V Y Y1 Y0 : Nat} (F : HalfF U V Y Y1 Y0) {A B : Int} (hA : 0 ≤ A) (hB : 0 ≤ B) (h : HalfInv U V Y Y1 A.toNat B.toNat) (ht : ¬ 4294967296 * B + (V : Int) < A * (Y0 : Int)) :
    A = (((U * 4294967296 + V) / Y : Nat) : Int) := by
  obtain ⟨a, rfl⟩ := Int.eq_ofNat_of_zero_le hA
  obtain ⟨b, rfl⟩ := Int.eq_ofNat_of_zero_le hB
  simp only [Int.toNat_natCast] at h
  rw [← Int.natCast_mul] at ht
  have := half_done U V Y Y1 Y0 a b F.1 F.lt.2 h (by omega)
  rw [← this]
theorem int_break {U V Y Y1 Y0 : Nat} (F : HalfF U V Y Y1 Y0) {A B : Int} (hA : 1 ≤ A) (h1 : (A - 1).toNat * Y1 + (B + (Y1 : Int)).toNat = U) (h2 : (U * 4294967296 + V) / Y ≤ (A - 1).toNat) (hb : 4294967296 ≤ B + (Y1 : Int)) :
    A - 1 = (((U * 4294967296 + V) / Y : Nat) : Int) := by
  have := half_break U V Y Y1 Y0 _ _ F.1 F.2.1 F.2.2.2.2.1 h1 h2 (by omega)
  rw [← this]; omega

end Go.Proofs.YtaeembdabnomaaaGreatDoor
