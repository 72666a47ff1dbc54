/- domain: Coeffs. -/
import Derived.Test.YtpkhppjcpfkbmaaDoorD13
namespace Go.Proofs.YtpkhppjcpfkbmaaDoor
open Go.RowKit

/-- What Coeffs answers. -/
def CoP (s k x : Nat) (f F : Nat → Nat) : Prop := ∃ p b : Fq s, p * fz s (2 ^ k) = 1 ∧ b * fz s x = 1 ∧ ∀ i, i < 2 ^ k → F i < modN s ∧ fz s (F i) = pf (fp (fz s (rootP s k)) ((2 ^ k - i) % 2 ^ k)) (2 ^ k) (fun j => fz s (f j)) * (p * fp b i)
theorem fz_inv1 {s q a : Nat} (h : q * a % modN s = 1) : fz s q * fz s a = 1 := by
  rw [← fz_mul, show mulP s q a = 1 from h]
  exact fz_one s
theorem co_ok {s k x p b : Nat} {f F : Nat → Nat} (hp : p * 2 ^ k % modN s = 1) (hb : b * (x % modN s) % modN s = 1) (hF : ∃ G, TrP s k (rootP s k) f G ∧ ∀ i, i < 2 ^ k → F i = rvF G 1 (2 ^ k - 1) (2 ^ k - 1) i) : CoP s k x f (fun i => mulP s (F i) (facP s p b i)) := by
  obtain ⟨G, hG, hE⟩ := hF
  refine ⟨fz s p, fz s b, fz_inv1 hp, fz_inv1 (by rw [Nat.mul_mod_mod] at hb; exact hb), fun i hi => ⟨mulP_lt _ _ _, ?_⟩⟩
  have hpos := Nat.two_pow_pos k
  have e : F i = G ((2 ^ k - i) % 2 ^ k) := by
    rw [hE i hi]
    unfold rvF
    by_cases h0 : i = 0
    · subst h0
      rw [if_neg (by omega), Nat.sub_zero, Nat.mod_self]
    · rw [if_pos (by omega), Nat.mod_eq_of_lt (by omega), show 1 + (2 ^ k - 1 - 1 - (i - 1)) = 2 ^ k - i by omega]
  rw [fz_mul, fz_fac, e, (hG _ (Nat.mod_lt _ hpos)).2.2]
end Go.Proofs.YtpkhppjcpfkbmaaDoor
