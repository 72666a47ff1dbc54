/- Polynomials' values at the powers of a root of unity, by halves. No walk. -/
import Derived.Test.YtoipnjfajandmaaDoorVBE
namespace Go.Proofs.YtoipnjfajandmaaDoor
section
variable {n : Nat} [NeZero n]
/-- x to the power e. -/
def fp (x : Fin n) : Nat → Fin n
  | 0 => 1
  | e + 1 => fp x e * x
theorem fp_add (x : Fin n) (a : Nat) : ∀ b, fp x (a + b) = fp x a * fp x b
  | 0 => by show fp x a = fp x a * 1; grind
  | b + 1 => by
    show fp x (a + b) * x = fp x a * (fp x b * x)
    rw [fp_add x a b]; grind
theorem fp_one (e : Nat) : fp (1 : Fin n) e = 1 := by
  induction e with
  | zero => rfl
  | succ e ih => show fp 1 e * 1 = (1 : Fin n); rw [ih]; grind
theorem fp_mul (x : Fin n) (a : Nat) : ∀ b, fp x (a * b) = fp (fp x a) b
  | 0 => rfl
  | b + 1 => by
    rw [Nat.mul_succ, fp_add, fp_mul x a b]; rfl
theorem fp_prod (x y : Fin n) : ∀ e, fp (x * y) e = fp x e * fp y e
  | 0 => by show (1 : Fin n) = 1 * 1; grind
  | e + 1 => by
    show fp (x * y) e * (x * y) = fp x e * x * (fp y e * y)
    rw [fp_prod x y e]; grind
end
/-- The b bits of m backwards. -/
def rv : Nat → Nat → Nat
  | 0, _ => 0
  | b + 1, m => m % 2 * 2 ^ b + rv b (m / 2)
section
variable {n : Nat} [NeZero n]
end
end Go.Proofs.YtoipnjfajandmaaDoor
/- Sums of powers, roots of unity, Lagrange's polynomials. No walk. -/
namespace Go.Proofs.YtoipnjfajandmaaDoor
section
variable {n : Nat} [NeZero n]
/-- The sum of the first m. -/
def fs (f : Nat → Fin n) : Nat → Fin n
  | 0 => 0
  | m + 1 => fs f m + f m
theorem fs_congr {f g : Nat → Fin n} : ∀ m, (∀ i, i < m → f i = g i) → fs f m = fs g m
  | 0, _ => rfl
  | m + 1, h => by show fs f m + f m = fs g m + g m; rw [fs_congr m (fun i hi => h i (by omega)), h m (by omega)]
/-- The sum of the powers. -/
theorem geo (z : Fin n) : ∀ m, fs (fp z) m * (z - 1) = fp z m - 1
  | 0 => by show (0 : Fin n) * (z - 1) = 1 - 1; grind
  | m + 1 => by
    show (fs (fp z) m + fp z m) * (z - 1) = fp z m * z - 1
    have := geo z m
    grind
/-- The product of 1 + y^(2^r), r below k. -/
def pw2 (y : Fin n) : Nat → Fin n
  | 0 => 1
  | k + 1 => pw2 y k * (fp y (2 ^ k) + 1)
theorem geo2 (y : Fin n) : ∀ k, pw2 y k = fs (fp y) (2 ^ k)
  | 0 => by show (1 : Fin n) = 0 + 1; grind
  | k + 1 => by
    show pw2 y k * (fp y (2 ^ k) + 1) = _
    rw [geo2 y k, Nat.pow_succ, Nat.mul_two]
    have h : ∀ m, fs (fp y) (2 ^ k + m) = fs (fp y) (2 ^ k) + fp y (2 ^ k) * fs (fp y) m := by
      intro m
      induction m with
      | zero => show fs (fp y) (2 ^ k) = fs (fp y) (2 ^ k) + fp y (2 ^ k) * 0; grind
      | succ m ih =>
        show fs (fp y) (2 ^ k + m) + fp y (2 ^ k + m) = fs (fp y) (2 ^ k) + fp y (2 ^ k) * (fs (fp y) m + fp y m)
        rw [ih, fp_add]; grind
    rw [h]; grind
/-- The number m as an element. -/
def fn : Nat → Fin n
  | 0 => 0
  | m + 1 => fn m + 1
theorem fs_ones : ∀ m, fs (fun _ => (1 : Fin n)) m = fn m
  | 0 => rfl
  | m + 1 => by show fs _ m + 1 = fn m + 1; rw [fs_ones m]
end
section
variable {n : Nat} [NeZero n] {w : Fin n}
/-- w is a root of unity of the order 2^k. -/
def Uni (w : Fin n) (k : Nat) : Prop := (∀ a b : Fin n, a * b = 0 → a = 0 ∨ b = 0) ∧ (0 - 1 : Fin n) ≠ 1 ∧ ((k = 0 ∧ w = 1) ∨ (0 < k ∧ fp w (2 ^ (k - 1)) = 0 - 1))
theorem Uni.all {k : Nat} (h : Uni w k) : fp w (2 ^ k) = 1 := by
  obtain ⟨_, _, ⟨rfl, rfl⟩ | ⟨h0, h1⟩⟩ := h
  · exact fp_one _
  · obtain ⟨j, rfl⟩ : ∃ j, k = j + 1 := ⟨k - 1, by omega⟩
    rw [Nat.add_sub_cancel] at h1
    rw [Nat.pow_succ, Nat.mul_two, fp_add, h1]; grind
theorem Uni.sq {k : Nat} (h : Uni w (k + 1)) : Uni (w * w) k := by
  have hw : ∀ e, fp (w * w) e = fp w (2 * e) := fun e => by
    rw [Nat.two_mul, fp_add, fp_prod]
  refine ⟨h.1, h.2.1, ?_⟩
  obtain ⟨_, _, ⟨h0, _⟩ | ⟨_, h1⟩⟩ := h
  · omega
  · rw [Nat.add_sub_cancel] at h1
    cases k with
    | zero =>
      refine Or.inl ⟨rfl, ?_⟩
      have : w = 0 - 1 := by
        have e : fp w (2 ^ 0) = 1 * w := rfl
        rw [e] at h1; grind
      rw [this]; grind
    | succ k =>
      refine Or.inr ⟨by omega, ?_⟩
      rw [hw, Nat.add_sub_cancel, Nat.mul_comm, ← Nat.pow_succ]
      exact h1
theorem Uni.prim : ∀ {k : Nat} {w : Fin n}, Uni w k → ∀ d, 0 < d → d < 2 ^ k → fp w d ≠ 1
  | 0, _, _, d, h0, hd => by have : 2 ^ 0 = 1 := rfl; omega
  | k + 1, w, h, d, h0, hd => by
    have hww : ∀ e, fp (w * w) e = fp w (2 * e) := fun e => by rw [Nat.two_mul, fp_add, fp_prod]
    have hw1 : fp w (2 ^ k) = 0 - 1 := by
      rcases h.2.2 with ⟨h0, _⟩ | ⟨_, h1⟩
      · omega
      · rwa [Nat.add_sub_cancel] at h1
    intro e1
    by_cases hp : d % 2 = 0
    · obtain ⟨a, rfl⟩ : ∃ a, d = 2 * a := ⟨d / 2, by omega⟩
      exact h.sq.prim a (by omega) (by rw [Nat.pow_succ] at hd; omega) (by rw [hww]; exact e1)
    · obtain ⟨a, rfl⟩ : ∃ a, d = 2 * a + 1 := ⟨d / 2, by omega⟩
      have e2 : fp (fp w (2 * a + 1)) (2 ^ k) = 1 := by rw [e1, fp_one]
      have hall : fp w (2 ^ (k + 1)) = 1 := h.all
      rw [← fp_mul, show (2 * a + 1) * 2 ^ k = 2 ^ (k + 1) * a + 2 ^ k by rw [Nat.add_mul, Nat.one_mul, Nat.pow_succ, Nat.mul_comm 2 a, Nat.mul_assoc, Nat.mul_comm a, Nat.mul_comm 2], fp_add, fp_mul, hall, fp_one, hw1] at e2
      exact h.2.1 (by grind)
/-- The sum of the powers of a power of w: nothing, but for the power 0. -/
theorem Uni.sums {k : Nat} (h : Uni w k) (d : Nat) : fs (fp (fp w d)) (2 ^ k) = if d % 2 ^ k = 0 then fn (2 ^ k) else 0 := by
  have hall := h.all
  have hd : fp w d = fp w (d % 2 ^ k) := by
    have e := Nat.div_add_mod d (2 ^ k)
    rw [← e, fp_add, fp_mul, hall, fp_one]
    rw [Nat.mul_add_mod, Nat.mod_mod]
    grind
  split
  · rename_i h0
    rw [hd, h0]
    show fs (fp (1 : Fin n)) (2 ^ k) = _
    rw [fs_congr (g := fun _ => 1) _ (fun i _ => fp_one i), fs_ones]
  · rename_i h0
    have hne : fp w d ≠ 1 := by
      rw [hd]
      exact h.prim _ (by omega) (Nat.mod_lt _ (Nat.two_pow_pos _))
    have hg := geo (fp w d) (2 ^ k)
    rw [← fp_mul, Nat.mul_comm, fp_mul, hall, fp_one] at hg
    rcases h.1 _ _ (show fs (fp (fp w d)) (2 ^ k) * (fp w d - 1) = 0 by rw [hg]; grind) with h1 | h1
    · exact h1
    · exact absurd (by grind) hne
end
section
variable {n : Nat} [NeZero n]
end
end Go.Proofs.YtoipnjfajandmaaDoor
