/- Factors X - x put to polynomials and taken away; polynomials of few coefficients with many zeros; the polynomials that are 0 at all points but one. No walk. -/
import Derived.Test.YtfahhohhpjlhnaaDoorPM1
import Derived.Test.YtfahhohhpjlhnaaDoorPZ1
namespace Go.Proofs.YtfahhohhpjlhnaaDoor

section
variable {n : Nat} [NeZero n]
/-- The polynomial times X - x. -/
def mX (x : Fin n) (P : Nat → Fin n) (t : Nat) : Fin n := (if t = 0 then 0 else P (t - 1)) - x * P t
theorem mX_zero (x : Fin n) (P : Nat → Fin n) : mX x P 0 = 0 - x * P 0 := by unfold mX; rw [if_pos rfl]
theorem mX_succ (x : Fin n) (P : Nat → Fin n) (t : Nat) : mX x P (t + 1) = P t - x * P (t + 1) := by unfold mX; rw [if_neg (by omega), Nat.add_sub_cancel]
theorem mX_comm (x y : Fin n) (P : Nat → Fin n) : mX x (mX y P) = mX y (mX x P) := funext fun t => by
  match t with
  | 0 => rw [mX_zero, mX_zero, mX_zero, mX_zero]; grind
  | 1 => rw [mX_succ, mX_succ, mX_zero, mX_succ, mX_zero, mX_succ]; grind
  | t + 2 => rw [mX_succ, mX_succ, mX_succ, mX_succ, mX_succ, mX_succ]; grind
theorem mX_evl1 (x y : Fin n) (P : Nat → Fin n) : ∀ N, evl (mX x P) y (N + 1) = y * evl P y N - x * evl P y (N + 1)
  | 0 => by
    show 0 + mX x P 0 * 1 = y * 0 - x * (0 + P 0 * 1)
    rw [mX_zero]; grind
  | N + 1 => by
    show evl (mX x P) y (N + 1) + mX x P (N + 1) * fp y (N + 1) = y * (evl P y N + P N * fp y N) - x * (evl P y (N + 1) + P (N + 1) * fp y (N + 1))
    rw [mX_evl1 x y P N, mX_succ, show fp y (N + 1) = fp y N * y from rfl]
    grind
theorem mX_evl (x y : Fin n) (P : Nat → Fin n) (N : Nat) (h : P N = 0) : evl (mX x P) y (N + 1) = (y - x) * evl P y N := by
  rw [mX_evl1, show evl P y (N + 1) = evl P y N + P N * fp y N from rfl, h]
  grind
/-- The quotient by X - x of a polynomial of N + 1 coefficients, its last d coefficients' last one. -/
def dq (x : Fin n) (P : Nat → Fin n) (N : Nat) : Nat → Fin n
  | 0 => 0
  | d + 1 => dq x P N d * x + P (N - d)
theorem dq_mX (x : Fin n) (C : Nat → Fin n) (N : Nat) (h : C N = 0) : ∀ d, d ≤ N → dq x (mX x C) N d = C (N - d)
  | 0, _ => by rw [Nat.sub_zero, h]; rfl
  | d + 1, hd => by
    show dq x (mX x C) N d * x + mX x C (N - d) = _
    rw [dq_mX x C N h d (by omega), show N - d = N - (d + 1) + 1 by omega, mX_succ]
    grind
theorem dq_congr (x : Fin n) {P Q : Nat → Fin n} (N : Nat) (h : ∀ t, t ≤ N → P t = Q t) : ∀ d, dq x P N d = dq x Q N d
  | 0 => rfl
  | d + 1 => by
    show dq x P N d * x + P (N - d) = dq x Q N d * x + Q (N - d)
    rw [dq_congr x N h d, h (N - d) (by omega)]
/-- The quotient. -/
def qt (x : Fin n) (P : Nat → Fin n) (N t : Nat) : Fin n := if t < N then dq x P N (N - t) else 0
theorem qt_id (x : Fin n) (P : Nat → Fin n) (N t : Nat) (ht : t ≤ N) : P t = mX x (qt x P N) t + (if t = 0 then dq x P N (N + 1) else 0) := by
  have e : ∀ t, t ≤ N → qt x P N t = dq x P N (N - t) := fun t ht => by
    unfold qt
    by_cases h : t < N
    · rw [if_pos h]
    · rw [if_neg h, show N - t = 0 by omega]; rfl
  match t with
  | 0 =>
    rw [mX_zero, if_pos rfl, e 0 ht]
    show P 0 = 0 - x * dq x P N (N - 0) + (dq x P N N * x + P (N - N))
    rw [Nat.sub_zero, Nat.sub_self]
    grind
  | t + 1 =>
    rw [mX_succ, if_neg (by omega), e t (by omega), e (t + 1) ht, show N - t = N - (t + 1) + 1 by omega]
    show P (t + 1) = dq x P N (N - (t + 1)) * x + P (N - (N - (t + 1))) - x * dq x P N (N - (t + 1)) + 0
    rw [show N - (N - (t + 1)) = t + 1 by omega]
    grind
theorem evl_congr {P Q : Nat → Fin n} (y : Fin n) (N : Nat) (h : ∀ t, t < N → P t = Q t) : evl P y N = evl Q y N := by
  unfold evl
  exact fs_congr N (fun t ht => by rw [h t ht])
theorem evl_const (Q : Nat → Fin n) (r y : Fin n) : ∀ N, evl (fun t => Q t + (if t = 0 then r else 0)) y (N + 1) = evl Q y (N + 1) + r
  | 0 => by
    show 0 + (Q 0 + (if 0 = 0 then r else 0)) * 1 = 0 + Q 0 * 1 + r
    rw [if_pos rfl]; grind
  | N + 1 => by
    show evl (fun t => Q t + (if t = 0 then r else 0)) y (N + 1) + (Q (N + 1) + (if N + 1 = 0 then r else 0)) * fp y (N + 1) = evl Q y (N + 1) + Q (N + 1) * fp y (N + 1) + r
    rw [evl_const Q r y N, if_neg (by omega)]
    grind
theorem evl_div (x y : Fin n) (P : Nat → Fin n) (N : Nat) : evl P y (N + 1) = (y - x) * evl (qt x P N) y N + dq x P N (N + 1) := by
  rw [evl_congr y (N + 1) (fun t ht => qt_id x P N t (by omega)), evl_const, mX_evl x y _ N (if_neg (by omega))]
/-- A polynomial with fewer coefficients than zeros is 0. -/
theorem few (hz : ∀ a b : Fin n, a * b = 0 → a = 0 ∨ b = 0) (X : Nat → Fin n) : ∀ (N : Nat) (P : Nat → Fin n), (∀ t, N ≤ t → P t = 0) → (∀ i j, i < j → j < N → X i ≠ X j) → (∀ i, i < N → evl P (X i) N = 0) → ∀ t, P t = 0
  | 0, P, h, _, _ => fun t => h t (by omega)
  | N + 1, P, h, hd, he => fun t => by
    have e0 : dq (X N) P N (N + 1) = 0 := by
      have := evl_div (X N) (X N) P N
      rw [he N (by omega)] at this
      grind
    have hq : ∀ i, i < N → evl (qt (X N) P N) (X i) N = 0 := fun i hi => by
      have := evl_div (X N) (X i) P N
      rw [he i (by omega), e0] at this
      have k : (X i - X N) * evl (qt (X N) P N) (X i) N = 0 := by grind
      rcases hz _ _ k with k | k
      · exact absurd (show X i = X N by grind) (hd i N hi (by omega))
      · exact k
    have hb := few hz X N (qt (X N) P N) (fun t ht => if_neg (by omega)) (fun i j hij hj => hd i j hij (by omega)) hq
    by_cases ht : t ≤ N
    · rw [qt_id (X N) P N t ht, e0]
      unfold mX
      rw [hb t]
      by_cases h0 : t = 0
      · rw [if_pos h0, if_pos h0]; grind
      · rw [if_neg h0, if_neg h0, hb]; grind
    · exact h t (by omega)
/-- The product of X - x over the first k. -/
def zr (X : Nat → Fin n) : Nat → Nat → Fin n
  | 0 => fun t => if t = 0 then 1 else 0
  | k + 1 => mX (X k) (zr X k)
/-- The same without X - x at the place i. -/
def cof (X : Nat → Fin n) (i : Nat) : Nat → Nat → Fin n
  | 0 => fun t => if t = 0 then 1 else 0
  | k + 1 => if k = i then cof X i k else mX (X k) (cof X i k)
theorem zr_supp (X : Nat → Fin n) : ∀ k t, k < t → zr X k t = 0
  | 0, t, h => if_neg (by omega)
  | k + 1, t, h => by
    obtain ⟨u, rfl⟩ : ∃ u, t = u + 1 := ⟨t - 1, by omega⟩
    show mX (X k) (zr X k) (u + 1) = 0
    rw [mX_succ, zr_supp X k u (by omega), zr_supp X k (u + 1) (by omega)]
    grind
theorem cof_zr (X : Nat → Fin n) (i : Nat) : ∀ k, k ≤ i → cof X i k = zr X k
  | 0, _ => rfl
  | k + 1, h => by
    show (if k = i then cof X i k else mX (X k) (cof X i k)) = mX (X k) (zr X k)
    rw [if_neg (by omega), cof_zr X i k (by omega)]
theorem cof_at (X : Nat → Fin n) (i : Nat) : cof X i (i + 1) = zr X i := by
  show (if i = i then cof X i i else _) = _
  rw [if_pos rfl, cof_zr X i i (Nat.le_refl _)]
theorem zr_cof (X : Nat → Fin n) (i : Nat) : ∀ d, zr X (i + 1 + d) = mX (X i) (cof X i (i + 1 + d))
  | 0 => by
    show mX (X i) (zr X i) = mX (X i) (cof X i (i + 1))
    rw [cof_at]
  | d + 1 => by
    show mX (X (i + 1 + d)) (zr X (i + 1 + d)) = mX (X i) (if i + 1 + d = i then cof X i (i + 1 + d) else mX (X (i + 1 + d)) (cof X i (i + 1 + d)))
    rw [if_neg (by omega), zr_cof X i d, mX_comm]
theorem zr_cofs (X : Nat → Fin n) {i k : Nat} (h : i < k) : zr X k = mX (X i) (cof X i k) := by
  obtain ⟨d, rfl⟩ : ∃ d, k = i + 1 + d := ⟨k - (i + 1), by omega⟩
  exact zr_cof X i d
theorem cof_supp (X : Nat → Fin n) (i : Nat) : ∀ d t, i + 1 + d ≤ t → cof X i (i + 1 + d) t = 0
  | 0, t, h => by
    show cof X i (i + 1) t = 0
    rw [cof_at]; exact zr_supp X i t (by omega)
  | d + 1, t, h => by
    obtain ⟨u, rfl⟩ : ∃ u, t = u + 1 := ⟨t - 1, by omega⟩
    show (if i + 1 + d = i then cof X i (i + 1 + d) else mX (X (i + 1 + d)) (cof X i (i + 1 + d))) (u + 1) = 0
    rw [if_neg (by omega), mX_succ, cof_supp X i d u (by omega), cof_supp X i d (u + 1) (by omega)]
    grind
theorem cof_supps (X : Nat → Fin n) {i k : Nat} (h : i < k) (t : Nat) (ht : k ≤ t) : cof X i k t = 0 := by
  obtain ⟨d, rfl⟩ : ∃ d, k = i + 1 + d := ⟨k - (i + 1), by omega⟩
  exact cof_supp X i d t ht
/-- The quotient by X - x of the product is the product of the others. -/
theorem dq_zr (X : Nat → Fin n) {i k : Nat} (h : i < k) (t : Nat) (ht : t ≤ k) : dq (X i) (zr X k) k (k - t) = cof X i k t := by
  rw [zr_cofs X h, dq_mX (X i) _ k (cof_supps X h k (Nat.le_refl _)) (k - t) (by omega), show k - (k - t) = t by omega]
/-- Products. -/
def pr (f : Nat → Fin n) : Nat → Fin n
  | 0 => 1
  | k + 1 => pr f k * f k
theorem pr_zero (f : Nat → Fin n) {j : Nat} (hf : f j = 0) : ∀ k, j < k → pr f k = 0
  | k + 1, h => by
    show pr f k * f k = 0
    by_cases e : j = k
    · subst e; rw [hf]; grind
    · rw [pr_zero f hf k (by omega)]; grind
theorem pr_ne (hz : ∀ a b : Fin n, a * b = 0 → a = 0 ∨ b = 0) (h1 : (1 : Fin n) ≠ 0) (f : Nat → Fin n) : ∀ k, (∀ j, j < k → f j ≠ 0) → pr f k ≠ 0
  | 0, _ => h1
  | k + 1, h => fun e => by
    rcases hz _ _ (show pr f k * f k = 0 from e) with e | e
    · exact pr_ne hz h1 f k (fun j hj => h j (by omega)) e
    · exact h k (by omega) e
theorem zr_evl (X : Nat → Fin n) (y : Fin n) : ∀ k, evl (zr X k) y (k + 1) = pr (fun j => y - X j) k
  | 0 => by show 0 + (if 0 = 0 then (1 : Fin n) else 0) * 1 = 1; rw [if_pos rfl]; grind
  | k + 1 => by
    show evl (mX (X k) (zr X k)) y (k + 1 + 1) = pr (fun j => y - X j) k * (y - X k)
    rw [mX_evl _ _ _ (k + 1) (zr_supp X k (k + 1) (by omega)), zr_evl X y k]
    grind
theorem pr_congr {f g : Nat → Fin n} : ∀ k, (∀ j, j < k → f j = g j) → pr f k = pr g k
  | 0, _ => rfl
  | k + 1, h => by
    show pr f k * f k = pr g k * g k
    rw [pr_congr k (fun j hj => h j (by omega)), h k (by omega)]
theorem cof_evl (X : Nat → Fin n) (i : Nat) (y : Fin n) : ∀ d, evl (cof X i (i + 1 + d)) y (i + 1 + d) = pr (fun j => if j = i then 1 else y - X j) (i + 1 + d)
  | 0 => by
    show evl (cof X i (i + 1)) y (i + 1) = pr (fun j => if j = i then 1 else y - X j) i * (if i = i then 1 else y - X i)
    rw [cof_at, zr_evl, if_pos rfl, pr_congr (g := fun j => if j = i then 1 else y - X j) i (fun j hj => (if_neg (by omega)).symm)]
    grind
  | d + 1 => by
    show evl (if i + 1 + d = i then cof X i (i + 1 + d) else mX (X (i + 1 + d)) (cof X i (i + 1 + d))) y (i + 1 + d + 1) = pr (fun j => if j = i then 1 else y - X j) (i + 1 + d) * (if i + 1 + d = i then 1 else y - X (i + 1 + d))
    rw [if_neg (by omega), if_neg (by omega), mX_evl _ _ _ (i + 1 + d) (cof_supp X i d _ (Nat.le_refl _)), cof_evl X i y d]
    grind
theorem cof_evls (X : Nat → Fin n) {i k : Nat} (y : Fin n) (h : i < k) : evl (cof X i k) y k = pr (fun j => if j = i then 1 else y - X j) k := by
  obtain ⟨d, rfl⟩ : ∃ d, k = i + 1 + d := ⟨k - (i + 1), by omega⟩
  exact cof_evl X i y d
theorem cof_other (X : Nat → Fin n) {i j k : Nat} (h : i < k) (hj : j < k) (hne : j ≠ i) : evl (cof X i k) (X j) k = 0 := by
  rw [cof_evls X _ h]
  exact pr_zero _ (j := j) (by rw [if_neg hne]; grind) k hj
/-- The value at its own point is 0 just where another point is the same. -/
theorem cof_own (hz : ∀ a b : Fin n, a * b = 0 → a = 0 ∨ b = 0) (h1 : (1 : Fin n) ≠ 0) (X : Nat → Fin n) {i k : Nat} (h : i < k) : evl (cof X i k) (X i) k = 0 ↔ ∃ j, j < k ∧ j ≠ i ∧ X j = X i := by
  rw [cof_evls X _ h]
  constructor
  · intro e
    refine Classical.byContradiction fun hn => pr_ne hz h1 _ k (fun j hj => ?_) e
    by_cases c : j = i
    · rw [if_pos c]; exact h1
    · rw [if_neg c]
      exact fun e => hn ⟨j, hj, c, by grind⟩
  · rintro ⟨j, hj, hne, e⟩
    exact pr_zero _ (j := j) (by rw [if_neg hne, e]; grind) k hj
/-- The polynomial through points: shares c. -/
def thr (X c : Nat → Fin n) (k : Nat) : Nat → Nat → Fin n
  | 0, _ => 0
  | i + 1, t => thr X c k i t + c i * cof X i k t
theorem thr_supp (X c : Nat → Fin n) (k : Nat) : ∀ i, i ≤ k → ∀ t, k ≤ t → thr X c k i t = 0
  | 0, _, _, _ => rfl
  | i + 1, h, t, ht => by
    show thr X c k i t + c i * cof X i k t = 0
    rw [thr_supp X c k i (by omega) t ht, cof_supps X h t ht]; grind
theorem evl_lin (P Q : Nat → Fin n) (a y : Fin n) : ∀ N, evl (fun t => P t + a * Q t) y N = evl P y N + a * evl Q y N
  | 0 => by show (0 : Fin n) = 0 + a * 0; grind
  | N + 1 => by
    show evl (fun t => P t + a * Q t) y N + (P N + a * Q N) * fp y N = evl P y N + P N * fp y N + a * (evl Q y N + Q N * fp y N)
    rw [evl_lin P Q a y N]; grind
theorem thr_at (X c : Nat → Fin n) (k j : Nat) (hj : j < k) : ∀ i, i ≤ k → evl (thr X c k i) (X j) k = if j < i then c j * evl (cof X j k) (X j) k else 0
  | 0, _ => by
    rw [if_neg (by omega)]
    exact fs_zero _ _ (fun t _ => by show (0 : Fin n) * _ = 0; grind)
  | i + 1, h => by
    show evl (fun t => thr X c k i t + c i * cof X i k t) (X j) k = _
    rw [evl_lin, thr_at X c k j hj i (by omega)]
    by_cases e : j = i
    · subst e
      rw [if_neg (by omega), if_pos (by omega)]; grind
    · rw [cof_other X h hj e]
      by_cases c1 : j < i
      · rw [if_pos c1, if_pos (by omega)]; grind
      · rw [if_neg c1, if_neg (by omega)]; grind
end
/-- The program's product is that product. -/
theorem zrs_zr (s : Nat) (xs : Nat → Nat) : ∀ k t, fz s (zrs s xs k t) = zr (fun i => fz s (xs i)) k t
  | 0, t => by
    show fz s (if t = 0 then 1 else 0) = if t = 0 then 1 else 0
    by_cases h : t = 0
    · rw [if_pos h, if_pos h, fz_one]
    · rw [if_neg h, if_neg h, fz_zero]
  | k + 1, t => by
    have ih := zrs_zr s xs k
    show fz s (zst s (subP s 0 (xs k)) (zrs s xs k) k 0 t) = mX (fz s (xs k)) (zr (fun i => fz s (xs i)) k) t
    have hl : fz s (subP s 0 (xs k)) = 0 - fz s (xs k) := by rw [fz_sub, fz_zero]
    unfold zst
    match t with
    | 0 =>
      rw [mX_zero, if_neg (by omega), if_pos rfl, if_neg (by omega), fz_mul, hl, ih 0]
      grind
    | t + 1 =>
      rw [mX_succ]
      by_cases h1 : k + 1 < t + 1
      · rw [if_pos (Or.inr h1), ih (t + 1), zr_supp _ k (t + 1) (by omega), zr_supp _ k t (by omega)]
        grind
      · rw [if_neg (by omega), if_neg (by omega), fz_add, Nat.add_sub_cancel, ih t]
        by_cases h2 : t + 1 = k + 1
        · rw [if_pos h2, ih (t + 1), zr_supp _ k (t + 1) (by omega)]
          grind
        · rw [if_neg h2, fz_mul, hl, ih (t + 1)]
          grind

end Go.Proofs.YtfahhohhpjlhnaaDoor
