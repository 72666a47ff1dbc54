/- Lagrange's polynomials: their sum, and what they give (math for DomainSums). -/
import Derived.Test.YtfkdfngegeeciaaDoorD30
namespace Go.Proofs.YtfkdfngegeeciaaDoor
open Go.RowKit

section
variable {n : Nat} [NeZero n]
theorem Uni.turn {k : Nat} {w : Fin n} (h : Uni w k) {i j : Nat} (hi : i < 2 ^ k) (hj : j < 2 ^ k) : fp (fp w (2 ^ k - i)) j = fp (fp w ((2 ^ k - j) % 2 ^ k)) i := by
  have hall := h.all
  have hm : fp w ((2 ^ k - j) % 2 ^ k) = fp w (2 ^ k - j) := by
    have q := Nat.div_add_mod (2 ^ k - j) (2 ^ k)
    have : fp w (2 ^ k - j) = fp w (2 ^ k * ((2 ^ k - j) / 2 ^ k) + (2 ^ k - j) % 2 ^ k) := by rw [q]
    rw [this, fp_add, fp_mul, hall, fp_one]; grind
  have one : ∀ a b : Nat, a < 2 ^ k → fp (fp w (2 ^ k - a)) b * fp w (a * b) = 1 := fun a b ha => by
    rw [← fp_mul, ← fp_add, ← Nat.add_mul, show 2 ^ k - a + a = 2 ^ k by omega, fp_mul, hall, fp_one]
  have h1 := one i j hi
  have h2 := one j i hj
  rw [Nat.mul_comm j i] at h2
  rw [hm]
  grind
theorem lag_sum {k : Nat} {w : Fin n} (h : Uni w k) (q x : Fin n) (hq : q * fn (2 ^ k) = 1) (c : Nat → Fin n) : fs (fun i => q * pw2 (x * fp w (2 ^ k - i)) k * pf (1 * fp w i) (2 ^ k) c) (2 ^ k) = pf x (2 ^ k) c := by
  rw [fs_congr (g := fun i => fs (fun j => fp (x * fp w (2 ^ k - i)) j * (q * pf (1 * fp w i) (2 ^ k) c)) (2 ^ k)) _ (fun i _ => by rw [fs_mul, geo2]; grind)]
  rw [fs_swap (fun i j => fp (x * fp w (2 ^ k - i)) j * (q * pf (1 * fp w i) (2 ^ k) c)), pf_sum]
  refine fs_congr _ (fun j hj => ?_)
  rw [fs_congr (g := fun i => pf (1 * fp w i) (2 ^ k) c * fp (fp w ((2 ^ k - j) % 2 ^ k)) i * (fp x j * q)) _ (fun i hi => by rw [fp_prod, h.turn hi hj]; grind)]
  rw [fs_mul]
  have hb := h.back c 1 j hj
  rw [pf_sum, fp_one] at hb
  rw [hb]
  grind
theorem pf_first (x : Fin n) (m : Nat) : pf x (m + 1) (fun j => if j = 0 then (1 : Fin n) else 0) = 1 := by
  rw [Nat.add_comm m 1, pf_pad x 1 m (fun j => if j = 0 then (1 : Fin n) else 0) (fun i hi => if_neg (by omega)), pf_sum]
  show (0 : Fin n) + (if 0 = 0 then (1 : Fin n) else 0) * 1 = 1
  rw [if_pos rfl]
  grind
end
theorem lags {s k x n : Nat} {l V f : Nat → Nat} (hk : k ≤ 9) (hn : n ≤ 2 ^ k) (hl : ∀ i, i < 2 ^ k → LagP s k i x (l i)) (hV : ValP s k 1 n f V) : fs (fun i => fz s (l i)) (2 ^ k) = 1 ∧ fs (fun i => fz s (l i) * fz s (V i)) (2 ^ k) = pf (fz s x) n (fun j => fz s (f j)) := by
  have hU := uni_root s k hk
  have h2 := two_lt s k hk
  have hP := pow9 hk
  have hqn : invU (modN s) (2 ^ k) * 2 ^ k % modN s = 1 := invU_ok (modN_prime s) (by rw [Nat.mod_eq_of_lt h2]; omega)
  have hq := fz_inv1 hqn
  obtain ⟨q, eq⟩ : ∃ q, q = fz s (invU (modN s) (2 ^ k)) := ⟨_, rfl⟩
  rw [← eq] at hq
  have hL : ∀ i, i < 2 ^ k → fz s (l i) = q * pw2 (fz s x * fp (fz s (rootP s k)) (2 ^ k - i)) k := fun i hi => by
    obtain ⟨_, p, h1, h3⟩ := hl i hi
    have e1 := fz_inv1 h1
    have e2 : fz s p = q := by
      have : fz s p * fz s (2 ^ k) * q = q * fz s (2 ^ k) * fz s p := by grind
      rw [e1, hq, Fin.one_mul, Fin.one_mul] at this
      exact this.symm
    rw [h3, e2]
  have hqf : q * fn (2 ^ k) = 1 := by rw [fn_fzl]; exact hq
  obtain ⟨d, hd⟩ : ∃ d, 2 ^ k = n + d := ⟨2 ^ k - n, by omega⟩
  have hpad : ∀ z : Fq s, pf z n (fun j => fz s (f j)) = pf z (2 ^ k) (fun j => if j < n then fz s (f j) else 0) := fun z => by
    rw [hd, pf_pad _ _ _ _ (fun j hj => by rw [if_neg (by omega)]), pf_congr _ n (f := fun j => if j < n then fz s (f j) else 0) (g := fun j => fz s (f j)) (fun j hj => by rw [if_pos hj])]
  refine ⟨?_, ?_⟩
  · have h := lag_sum hU q (fz s x) hqf (fun j => if j = 0 then 1 else 0)
    obtain ⟨m, hm⟩ : ∃ m, 2 ^ k = m + 1 := ⟨2 ^ k - 1, by omega⟩
    have hone : ∀ z : Fq s, pf z (2 ^ k) (fun j => if j = 0 then (1 : Fq s) else 0) = 1 := fun z => by rw [hm]; exact pf_first z m
    rw [hone] at h
    rw [← h]
    refine fs_congr _ (fun i hi => ?_)
    rw [hone, hL i hi]
    grind
  · rw [hpad, ← lag_sum hU q (fz s x) hqf (fun j => if j < n then fz s (f j) else 0)]
    refine fs_congr _ (fun i hi => ?_)
    rw [hL i hi, (hV i hi).2, hpad, fz_one]
end Go.Proofs.YtfkdfngegeeciaaDoor
