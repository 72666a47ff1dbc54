/- Polynomials' values at the powers of a root of unity, by halves. No walk. -/
import Derived.Test.YtfbfenljfdnggaaGreatDoorVBE
namespace Go.Proofs.YtfbfenljfdnggaaGreatDoor
section
variable {n : Nat} [NeZero n]
/-- x to the power e. -/
def fp (x : Fin n) : Nat → Fin n
  | 0 => 1
  | e + 1 => fp x e * x
theorem fp_add (x : Fin n) (a : Nat) : ∀ b, fp x (a + b) = fp x a * fp x b
  | 0 => by show fp x a = fp x a * 1; grind
  | b + 1 => by
    show fp x (a + b) * x = fp x a * (fp x b * x)
    rw [fp_add x a b]; grind
theorem fp_one (e : Nat) : fp (1 : Fin n) e = 1 := by
  induction e with
  | zero => rfl
  | succ e ih => show fp 1 e * 1 = (1 : Fin n); rw [ih]; grind
end
/-- The b bits of m backwards. -/
def rv : Nat → Nat → Nat
  | 0, _ => 0
  | b + 1, m => m % 2 * 2 ^ b + rv b (m / 2)
section
variable {n : Nat} [NeZero n]
end
end Go.Proofs.YtfbfenljfdnggaaGreatDoor
/- Sums of powers, roots of unity, Lagrange's polynomials. No walk. -/
namespace Go.Proofs.YtfbfenljfdnggaaGreatDoor
section
variable {n : Nat} [NeZero n]
/-- The sum of the first m. -/
def fs (f : Nat → Fin n) : Nat → Fin n
  | 0 => 0
  | m + 1 => fs f m + f m
/-- The product of 1 + y^(2^r), r below k. -/
def pw2 (y : Fin n) : Nat → Fin n
  | 0 => 1
  | k + 1 => pw2 y k * (fp y (2 ^ k) + 1)
/-- The number m as an element. -/
def fn : Nat → Fin n
  | 0 => 0
  | m + 1 => fn m + 1
end
section
variable {n : Nat} [NeZero n] {w : Fin n}
/-- w is a root of unity of the order 2^k. -/
def Uni (w : Fin n) (k : Nat) : Prop := (∀ a b : Fin n, a * b = 0 → a = 0 ∨ b = 0) ∧ (0 - 1 : Fin n) ≠ 1 ∧ ((k = 0 ∧ w = 1) ∨ (0 < k ∧ fp w (2 ^ (k - 1)) = 0 - 1))
theorem Uni.all {k : Nat} (h : Uni w k) : fp w (2 ^ k) = 1 := by
  obtain ⟨_, _, ⟨rfl, rfl⟩ | ⟨h0, h1⟩⟩ := h
  · exact fp_one _
  · obtain ⟨j, rfl⟩ : ∃ j, k = j + 1 := ⟨k - 1, by omega⟩
    rw [Nat.add_sub_cancel] at h1
    rw [Nat.pow_succ, Nat.mul_two, fp_add, h1]; grind
end
section
variable {n : Nat} [NeZero n]
end
end Go.Proofs.YtfbfenljfdnggaaGreatDoor
