/- Polynomials' values at the powers of a root of unity, by halves. No walk. -/
import Derived.Test.YtfjdnlcfhgamfaaDoorSBE
namespace Go.Proofs.YtfjdnlcfhgamfaaDoor
section
variable {n : Nat} [NeZero n]
/-- x to the power e. -/
def fp (x : Fin n) : Nat → Fin n
  | 0 => 1
  | e + 1 => fp x e * x
theorem fp_add (x : Fin n) (a : Nat) : ∀ b, fp x (a + b) = fp x a * fp x b
  | 0 => by show fp x a = fp x a * 1; grind
  | b + 1 => by
    show fp x (a + b) * x = fp x a * (fp x b * x)
    rw [fp_add x a b]; grind
theorem fp_one (e : Nat) : fp (1 : Fin n) e = 1 := by
  induction e with
  | zero => rfl
  | succ e ih => show fp 1 e * 1 = (1 : Fin n); rw [ih]; grind
/-- A polynomial's value at x: m coefficients, the least power first. -/
def pf (x : Fin n) : Nat → (Nat → Fin n) → Fin n
  | 0, _ => 0
  | m + 1, f => pf x m (fun j => f (j + 1)) * x + f 0
theorem pf_congr (x : Fin n) : ∀ (m : Nat) {f g : Nat → Fin n}, (∀ i, i < m → f i = g i) → pf x m f = pf x m g
  | 0, _, _, _ => rfl
  | m + 1, f, g, h => by
    show pf x m (fun j => f (j + 1)) * x + f 0 = pf x m (fun j => g (j + 1)) * x + g 0
    rw [pf_congr x m (fun i hi => h (i + 1) (by omega)), h 0 (by omega)]
end
section
variable {n : Nat} [NeZero n]
end
end Go.Proofs.YtfjdnlcfhgamfaaDoor
/- Sums of powers, roots of unity, Lagrange's polynomials. No walk. -/
namespace Go.Proofs.YtfjdnlcfhgamfaaDoor
section
variable {n : Nat} [NeZero n]
/-- The number m as an element. -/
def fn : Nat → Fin n
  | 0 => 0
  | m + 1 => fn m + 1
end
section
variable {n : Nat} [NeZero n] {w : Fin n}
/-- w is a root of unity of the order 2^k. -/
def Uni (w : Fin n) (k : Nat) : Prop := (∀ a b : Fin n, a * b = 0 → a = 0 ∨ b = 0) ∧ (0 - 1 : Fin n) ≠ 1 ∧ ((k = 0 ∧ w = 1) ∨ (0 < k ∧ fp w (2 ^ (k - 1)) = 0 - 1))
theorem Uni.all {k : Nat} (h : Uni w k) : fp w (2 ^ k) = 1 := by
  obtain ⟨_, _, ⟨rfl, rfl⟩ | ⟨h0, h1⟩⟩ := h
  · exact fp_one _
  · obtain ⟨j, rfl⟩ : ∃ j, k = j + 1 := ⟨k - 1, by omega⟩
    rw [Nat.add_sub_cancel] at h1
    rw [Nat.pow_succ, Nat.mul_two, fp_add, h1]; grind
end
section
variable {n : Nat} [NeZero n]
end
end Go.Proofs.YtfjdnlcfhgamfaaDoor
