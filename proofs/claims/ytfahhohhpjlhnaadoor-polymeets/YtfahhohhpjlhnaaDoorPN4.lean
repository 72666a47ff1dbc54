/- What Through answers, as polynomials. No walk. -/
import Derived.Test.YtfahhohhpjlhnaaDoorPN3
import Derived.Test.YtfahhohhpjlhnaaDoorPN1
import Derived.Test.YtfahhohhpjlhnaaDoorPM2
namespace Go.Proofs.YtfahhohhpjlhnaaDoor

section
variable {s : Nat}
/-- The points as elements. -/
def Xq (s : Nat) (xs : Nat → Nat) (i : Nat) : Fq s := fz s (xs i)
theorem fz_el (s a : Nat) : fz s (addP s a 0) = fz s a := fz_eq.2 (Nat.mod_mod _ _)
theorem hor_dq (s x : Nat) (f : Nat → Nat) (N : Nat) : ∀ d, d ≤ N + 1 → fz s (hor (addP s) (mulP s) x f (N + 1) d) = dq (fz s x) (fun t => fz s (f t)) N d
  | 0, _ => fz_zero s
  | d + 1, h => by
    show fz s (addP s (mulP s (hor (addP s) (mulP s) x f (N + 1) d) x) (f (N + 1 - (d + 1)))) = dq (fz s x) (fun t => fz s (f t)) N d * fz s x + fz s (f (N - d))
    rw [fz_add, fz_mul, hor_dq s x f N d (by omega), show N + 1 - (d + 1) = N - d by omega]
theorem dq_evl {m : Nat} [NeZero m] (x : Fin m) (P : Nat → Fin m) (N : Nat) : dq x P N (N + 1) = evl P x (N + 1) := by
  have h := evl_div x x P N
  grind
theorem hor_evl (s x : Nat) (f : Nat → Nat) : ∀ n, fz s (hor (addP s) (mulP s) x f n n) = evl (fun t => fz s (f t)) (fz s x) n
  | 0 => fz_zero s
  | N + 1 => (hor_dq s x f N (N + 1) (Nat.le_refl _)).trans (dq_evl _ _ _)
theorem hor_qt (s x : Nat) (P : Nat → Nat) (n : Nat) : ∀ d, d ≤ n → fz s (hor (addP s) (mulP s) x (fun j => P (j + 1)) n d) = dq (fz s x) (fun t => fz s (P t)) n d
  | 0, _ => fz_zero s
  | d + 1, h => by
    show fz s (addP s (mulP s (hor (addP s) (mulP s) x (fun j => P (j + 1)) n d) x) (P (n - (d + 1) + 1))) = dq (fz s x) (fun t => fz s (P t)) n d * fz s x + fz s (P (n - d))
    rw [fz_add, fz_mul, hor_qt s x P n d (by omega), show n - (d + 1) + 1 = n - d by omega]
theorem oth_cof (s : Nat) (xs : Nat → Nat) {n i t : Nat} (hi : i < n) (ht : t ≤ n) : fz s (othN s xs n i t) = cof (Xq s xs) i n t := by
  unfold othN
  rw [hor_qt s _ (zrs s xs n) n (n - t) (by omega), fz_el, dq_congr (Q := zr (Xq s xs) n) _ n (fun u _ => zrs_zr s xs n u)]
  exact dq_zr (Xq s xs) hi t ht
theorem val_cof (s : Nat) (xs : Nat → Nat) {n i : Nat} (hi : i < n) : fz s (valN s xs n i) = evl (cof (Xq s xs) i n) (Xq s xs i) n := by
  unfold valN
  rw [hor_evl, fz_el]
  exact evl_congr _ n (fun t ht => oth_cof s xs hi (by omega))
theorem acc_thr (s : Nat) (xs ys : Nat → Nat) {n t : Nat} (ht : t ≤ n) : ∀ k, k ≤ n → fz s (accN s xs ys n k t) = thr (Xq s xs) (fun i => fz s (ys i) * fz s (invU (modN s) (valN s xs n i))) n k t
  | 0, _ => fz_zero s
  | k + 1, h => by
    show fz s (addP s (accN s xs ys n k t) (mulP s (mulP s (ys k) (invU (modN s) (valN s xs n k))) (othN s xs n k t))) = thr (Xq s xs) (fun i => fz s (ys i) * fz s (invU (modN s) (valN s xs n i))) n k t + fz s (ys k) * fz s (invU (modN s) (valN s xs n k)) * cof (Xq s xs) k n t
    rw [fz_add, fz_mul, fz_mul, acc_thr s xs ys ht k (by omega), oth_cof s xs h ht]
theorem acc_lt (s : Nat) (xs ys : Nat → Nat) (n : Nat) : ∀ k t, accN s xs ys n k t < modN s
  | 0, _ => modN_pos s
  | _ + 1, _ => addP_lt _ _ _
theorem one_neq (s : Nat) : (1 : Fq s) ≠ 0 := fun h => by
  have e : fz s 1 = fz s 0 := h
  have := fz_eq.1 e
  rw [Nat.zero_mod, Nat.mod_eq_of_lt (modN_odd s).2] at this
  omega
theorem invU_okP {m a : Nat} (hp : IsPrime m) (ha : a % m ≠ 0) : invU m a * a % m = 1 := by
  have h2 := hp.1
  unfold invU
  rw [powM_more, show m - 2 + 1 = m - 1 from by omega]
  exact fermat_one hp ha
theorem inv_fz (s v : Nat) (h : fz s v ≠ 0) : fz s (invU (modN s) v) * fz s v = 1 := by
  have h0 : v % modN s ≠ 0 := fun e => h (fz_eq.2 (by rw [e, Nat.zero_mod]))
  rw [← fz_mul, ← fz_one]
  refine fz_eq.2 ?_
  unfold mulP
  rw [Nat.mod_mod, invU_okP (modN_prime s) h0, Nat.mod_eq_of_lt (modN_odd s).2]
/-- No inverse lacks just where all points are different. -/
theorem pre_ne (s : Nat) (xs : Nat → Nat) (n : Nat) : pre (modN s) (valN s xs n) n ≠ 0 ↔ ∀ i j, i < j → j < n → Xq s xs i ≠ Xq s xs j := by
  have key : ∀ i, i < n → (valN s xs n i % modN s = 0 ↔ ∃ j, j < n ∧ j ≠ i ∧ Xq s xs j = Xq s xs i) := fun i hi => by
    rw [← cof_own (fq_zd s) (one_neq s) (Xq s xs) hi, ← val_cof s xs hi]
    constructor
    · intro h; exact fz_eq.2 (by rw [h, Nat.zero_mod])
    · intro h
      have := fz_eq.1 (h.trans (fz_zero s).symm)
      rwa [Nat.zero_mod] at this
  constructor
  · intro h i j hij hj e
    exact h (pre_some _ _ n i (by omega) ((key i (by omega)).2 ⟨j, hj, by omega, e.symm⟩))
  · intro h e
    obtain ⟨i, hi, h0⟩ := pre_zero _ _ (modN_prime s) n e
    obtain ⟨j, hj, hne, e2⟩ := (key i hi).1 h0
    rcases Nat.lt_or_gt_of_ne hne with c | c
    · exact h j i c hi e2
    · exact h i j c hj e2.symm
theorem val_ne (s : Nat) (xs : Nat → Nat) (n : Nat) (h : pre (modN s) (valN s xs n) n ≠ 0) {i : Nat} (hi : i < n) : fz s (valN s xs n i) ≠ 0 := fun e => by
  rw [val_cof s xs hi] at e
  obtain ⟨j, hj, hne, e2⟩ := (cof_own (fq_zd s) (one_neq s) (Xq s xs) hi).1 e
  have hd := (pre_ne s xs n).1 h
  rcases Nat.lt_or_gt_of_ne hne with c | c
  · exact hd j i c hi e2
  · exact hd i j c hj e2.symm
/-- The polynomial through the points. -/
def TP (s : Nat) (xs ys : Nat → Nat) (n : Nat) : Nat → Fq s := Pl s n (accN s xs ys n n)
theorem TP_thr (s : Nat) (xs ys : Nat → Nat) (n t : Nat) : TP s xs ys n t = thr (Xq s xs) (fun i => fz s (ys i) * fz s (invU (modN s) (valN s xs n i))) n n t := by
  unfold TP Pl
  by_cases h : t < n
  · rw [if_pos h]; exact acc_thr s xs ys (by omega) n (Nat.le_refl _)
  · rw [if_neg h, thr_supp _ _ n n (Nat.le_refl _) t (by omega)]
theorem TP_meets (s : Nat) (xs ys : Nat → Nat) (n : Nat) (h : pre (modN s) (valN s xs n) n ≠ 0) {j : Nat} (hj : j < n) : evl (TP s xs ys n) (Xq s xs j) n = fz s (ys j) := by
  rw [evl_congr _ n (fun t _ => TP_thr s xs ys n t), thr_at _ _ n j hj n (Nat.le_refl _), if_pos hj, ← val_cof s xs hj]
  have := inv_fz s _ (val_ne s xs n h hj)
  grind
/-- A polynomial of at most n coefficients that meets them too is that one. -/
theorem TP_only (s : Nat) (xs ys : Nat → Nat) (n : Nat) (h : pre (modN s) (valN s xs n) n ≠ 0) (Q : Nat → Fq s) (hQ : ∀ t, n ≤ t → Q t = 0) (hm : ∀ j, j < n → evl Q (Xq s xs j) n = fz s (ys j)) : ∀ t, TP s xs ys n t = Q t := fun t => by
  have e := few (fq_zd s) (Xq s xs) n (fun t => TP s xs ys n t + (0 - 1) * Q t) (fun t ht => by
    show TP s xs ys n t + (0 - 1) * Q t = 0
    rw [hQ t ht, show TP s xs ys n t = 0 from if_neg (by omega)]; grind) ((pre_ne s xs n).1 h) (fun i hi => by
    rw [evl_lin, TP_meets s xs ys n h hi, hm i hi]; grind) t
  grind
end

end Go.Proofs.YtfahhohhpjlhnaaDoor
