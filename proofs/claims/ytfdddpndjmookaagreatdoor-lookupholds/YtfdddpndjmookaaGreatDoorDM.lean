/- Polynomials' values at the powers of a root of unity, by halves. No walk. -/
import Derived.Test.YtfdddpndjmookaaGreatDoorBE
namespace Go.Proofs.YtfdddpndjmookaaGreatDoor

section
variable {n : Nat} [NeZero n]
/-- x to the power e. -/
def fp (x : Fin n) : Nat → Fin n
  | 0 => 1
  | e + 1 => fp x e * x
theorem fp_add (x : Fin n) (a : Nat) : ∀ b, fp x (a + b) = fp x a * fp x b
  | 0 => by show fp x a = fp x a * 1; grind
  | b + 1 => by
    show fp x (a + b) * x = fp x a * (fp x b * x)
    rw [fp_add x a b]; grind
theorem fp_one (e : Nat) : fp (1 : Fin n) e = 1 := by
  induction e with
  | zero => rfl
  | succ e ih => show fp 1 e * 1 = (1 : Fin n); rw [ih]; grind
theorem fp_mul (x : Fin n) (a : Nat) : ∀ b, fp x (a * b) = fp (fp x a) b
  | 0 => rfl
  | b + 1 => by
    rw [Nat.mul_succ, fp_add, fp_mul x a b]; rfl
theorem fp_prod (x y : Fin n) : ∀ e, fp (x * y) e = fp x e * fp y e
  | 0 => by show (1 : Fin n) = 1 * 1; grind
  | e + 1 => by
    show fp (x * y) e * (x * y) = fp x e * x * (fp y e * y)
    rw [fp_prod x y e]; grind
/-- A polynomial's value at x: m coefficients, the least power first. -/
def pf (x : Fin n) : Nat → (Nat → Fin n) → Fin n
  | 0, _ => 0
  | m + 1, f => pf x m (fun j => f (j + 1)) * x + f 0
theorem pf_congr (x : Fin n) : ∀ (m : Nat) {f g : Nat → Fin n}, (∀ i, i < m → f i = g i) → pf x m f = pf x m g
  | 0, _, _, _ => rfl
  | m + 1, f, g, h => by
    show pf x m (fun j => f (j + 1)) * x + f 0 = pf x m (fun j => g (j + 1)) * x + g 0
    rw [pf_congr x m (fun i hi => h (i + 1) (by omega)), h 0 (by omega)]
theorem pf_split (x : Fin n) : ∀ (m : Nat) (f : Nat → Fin n), pf x (2 * m) f = pf (x * x) m (fun j => f (2 * j)) + x * pf (x * x) m (fun j => f (2 * j + 1))
  | 0, _ => by show (0 : Fin n) = 0 + x * 0; grind
  | m + 1, f => by
    show pf x (2 * m + 1) (fun j => f (j + 1)) * x + f 0 = (pf (x * x) m (fun j => f (2 * (j + 1))) * (x * x) + f (2 * 0)) + x * (pf (x * x) m (fun j => f (2 * (j + 1) + 1)) * (x * x) + f (2 * 0 + 1))
    show (pf x (2 * m) (fun j => f (j + 1 + 1)) * x + f (0 + 1)) * x + f 0 = _
    rw [pf_split x m (fun j => f (j + 1 + 1))]
    have e1 : (fun j => f (2 * (j + 1))) = (fun j => f (2 * j + 1 + 1)) := by funext j; rfl
    have e2 : (fun j => f (2 * (j + 1) + 1)) = (fun j => f (2 * j + 1 + 1 + 1)) := by funext j; rfl
    rw [e1, e2]
    grind
/-- With noughts behind it a polynomial has the same value. -/
theorem pf_pad (x : Fin n) : ∀ (m d : Nat) (f : Nat → Fin n), (∀ i, m ≤ i → f i = 0) → pf x (m + d) f = pf x m f
  | 0, 0, _, _ => rfl
  | 0, d + 1, f, h => by
    rw [show 0 + (d + 1) = (0 + d) + 1 by omega]
    show pf x (0 + d) (fun j => f (j + 1)) * x + f 0 = 0
    rw [pf_pad x 0 d _ (fun i hi => h (i + 1) (by omega)), h 0 (by omega)]
    show (0 : Fin n) * x + 0 = 0
    grind
  | m + 1, d, f, h => by
    rw [show m + 1 + d = (m + d) + 1 by omega]
    show pf x (m + d) (fun j => f (j + 1)) * x + f 0 = pf x m (fun j => f (j + 1)) * x + f 0
    rw [pf_pad x m d _ (fun i hi => h (i + 1) (by omega))]
/-- Coefficients times powers: the value elsewhere. -/
theorem pf_scale (x s : Fin n) : ∀ (m : Nat) (f : Nat → Fin n) (a : Fin n), pf x m (fun i => f i * (a * fp s i)) = a * pf (s * x) m f
  | 0, _, a => by show (0 : Fin n) = a * 0; grind
  | m + 1, f, a => by
    show pf x m (fun i => f (i + 1) * (a * fp s (i + 1))) * x + f 0 * (a * 1) = a * (pf (s * x) m (fun j => f (j + 1)) * (s * x) + f 0)
    have e : (fun i => f (i + 1) * (a * fp s (i + 1))) = (fun i => f (i + 1) * ((a * s) * fp s i)) := by
      funext i
      show f (i + 1) * (a * (fp s i * s)) = _
      grind
    rw [e, pf_scale x s m (fun i => f (i + 1)) (a * s)]
    grind
end

/-- The b bits of m backwards. -/
def rv : Nat → Nat → Nat
  | 0, _ => 0
  | b + 1, m => m % 2 * 2 ^ b + rv b (m / 2)
theorem rv_even (b m : Nat) : rv (b + 1) (2 * m) = rv b m := by
  show 2 * m % 2 * 2 ^ b + rv b (2 * m / 2) = rv b m
  rw [show 2 * m % 2 = 0 by omega, show 2 * m / 2 = m by omega, Nat.zero_mul, Nat.zero_add]
theorem rv_odd (b m : Nat) : rv (b + 1) (2 * m + 1) = 2 ^ b + rv b m := by
  show (2 * m + 1) % 2 * 2 ^ b + rv b ((2 * m + 1) / 2) = _
  rw [show (2 * m + 1) % 2 = 1 by omega, show (2 * m + 1) / 2 = m by omega, Nat.one_mul]
theorem rv_lt : ∀ (b m : Nat), rv b m < 2 ^ b
  | 0, _ => Nat.one_pos
  | b + 1, m => by
    have h := rv_lt b (m / 2)
    show m % 2 * 2 ^ b + rv b (m / 2) < 2 ^ (b + 1)
    have h2 : m % 2 * 2 ^ b ≤ 1 * 2 ^ b := Nat.mul_le_mul_right _ (by omega)
    rw [Nat.pow_succ]; omega
section
variable {n : Nat} [NeZero n]
/-- What stands at place j of piece m when pieces have 2^t places, of 2^k coefficients A. -/
def stg (w : Fin n) (k t : Nat) (A : Nat → Fin n) (m j : Nat) : Fin n := pf (fp w (j * 2 ^ (k - t))) (2 ^ t) (fun i => A (rv (k - t) m + i * 2 ^ (k - t)))
theorem stg_zero (w : Fin n) (k : Nat) (A : Nat → Fin n) (m : Nat) : stg w k 0 A m 0 = A (rv k m) := by
  unfold stg
  show (0 : Fin n) * _ + A (rv (k - 0) m + 0 * 2 ^ (k - 0)) = _
  rw [Nat.sub_zero, Nat.zero_mul, Nat.add_zero]
  grind
theorem stg_last (w : Fin n) (k : Nat) (A : Nat → Fin n) (j : Nat) : stg w k k A 0 j = pf (fp w j) (2 ^ k) A := by
  unfold stg
  rw [Nat.sub_self, Nat.pow_zero, Nat.mul_one]
  refine pf_congr _ _ (fun i _ => ?_)
  show A (0 + i * 1) = A i
  rw [Nat.zero_add, Nat.mul_one]
theorem stg_parts (x : Fin n) (b t m : Nat) (A : Nat → Fin n) (y : Fin n) (hx : y = x * x) : pf x (2 ^ (t + 1)) (fun i => A (rv b m + i * 2 ^ b)) = pf y (2 ^ t) (fun i => A (rv (b + 1) (2 * m) + i * 2 ^ (b + 1))) + x * pf y (2 ^ t) (fun i => A (rv (b + 1) (2 * m + 1) + i * 2 ^ (b + 1))) := by
  rw [Nat.pow_succ, Nat.mul_comm (2 ^ t) 2, pf_split, hx]
  have e1 : (fun j => A (rv b m + 2 * j * 2 ^ b)) = (fun i => A (rv (b + 1) (2 * m) + i * 2 ^ (b + 1))) := by
    funext j
    rw [rv_even, Nat.pow_succ, show 2 * j * 2 ^ b = j * (2 ^ b * 2) by rw [Nat.mul_comm 2 j, Nat.mul_assoc, Nat.mul_comm 2]]
  have e2 : (fun j => A (rv b m + (2 * j + 1) * 2 ^ b)) = (fun i => A (rv (b + 1) (2 * m + 1) + i * 2 ^ (b + 1))) := by
    funext j
    rw [rv_odd, Nat.pow_succ, show (2 * j + 1) * 2 ^ b = j * (2 ^ b * 2) + 2 ^ b by rw [Nat.add_mul, Nat.one_mul, Nat.mul_comm 2 j, Nat.mul_assoc, Nat.mul_comm 2], show rv b m + (j * (2 ^ b * 2) + 2 ^ b) = 2 ^ b + rv b m + j * (2 ^ b * 2) by omega]
  rw [e1, e2]
theorem stg_low (w : Fin n) (b t m j : Nat) (A : Nat → Fin n) : stg w (t + 1 + b) (t + 1) A m j = stg w (t + 1 + b) t A (2 * m) j + fp w (j * 2 ^ b) * stg w (t + 1 + b) t A (2 * m + 1) j := by
  unfold stg
  rw [show t + 1 + b - (t + 1) = b by omega, show t + 1 + b - t = b + 1 by omega]
  refine stg_parts _ b t m A _ ?_
  rw [← fp_add, Nat.pow_succ, show j * (2 ^ b * 2) = j * 2 ^ b + j * 2 ^ b by rw [← Nat.mul_assoc]; omega]
theorem stg_high (w : Fin n) (b t m j : Nat) (A : Nat → Fin n) (hw : fp w (2 ^ (t + b)) = 0 - 1) : stg w (t + 1 + b) (t + 1) A m (2 ^ t + j) = stg w (t + 1 + b) t A (2 * m) j - fp w (j * 2 ^ b) * stg w (t + 1 + b) t A (2 * m + 1) j := by
  unfold stg
  rw [show t + 1 + b - (t + 1) = b by omega, show t + 1 + b - t = b + 1 by omega]
  have ex : fp w ((2 ^ t + j) * 2 ^ b) = (0 - 1) * fp w (j * 2 ^ b) := by
    rw [Nat.add_mul, ← Nat.pow_add, fp_add, hw]
  rw [stg_parts (fp w ((2 ^ t + j) * 2 ^ b)) b t m A (fp w (j * 2 ^ (b + 1))) ?_, ex]
  · grind
  · rw [ex, Nat.pow_succ, show j * (2 ^ b * 2) = j * 2 ^ b + j * 2 ^ b by rw [← Nat.mul_assoc]; omega, fp_add]
    grind
end
end Go.Proofs.YtfdddpndjmookaaGreatDoor

/- Sums of powers, roots of unity, Lagrange's polynomials. No walk. -/
namespace Go.Proofs.YtfdddpndjmookaaGreatDoor

section
variable {n : Nat} [NeZero n]
/-- The sum of the first m. -/
def fs (f : Nat → Fin n) : Nat → Fin n
  | 0 => 0
  | m + 1 => fs f m + f m
theorem fs_congr {f g : Nat → Fin n} : ∀ m, (∀ i, i < m → f i = g i) → fs f m = fs g m
  | 0, _ => rfl
  | m + 1, h => by show fs f m + f m = fs g m + g m; rw [fs_congr m (fun i hi => h i (by omega)), h m (by omega)]
theorem fs_add (f g : Nat → Fin n) : ∀ m, fs (fun i => f i + g i) m = fs f m + fs g m
  | 0 => by show (0 : Fin n) = 0 + 0; grind
  | m + 1 => by show fs (fun i => f i + g i) m + (f m + g m) = fs f m + f m + (fs g m + g m); rw [fs_add f g m]; grind
theorem fs_mul (a : Fin n) (f : Nat → Fin n) : ∀ m, fs (fun i => f i * a) m = fs f m * a
  | 0 => by show (0 : Fin n) = 0 * a; grind
  | m + 1 => by show fs (fun i => f i * a) m + f m * a = (fs f m + f m) * a; rw [fs_mul a f m]; grind
theorem fs_front (f : Nat → Fin n) : ∀ m, fs f (m + 1) = f 0 + fs (fun i => f (i + 1)) m
  | 0 => by show (0 : Fin n) + f 0 = f 0 + 0; grind
  | m + 1 => by show fs f (m + 1) + f (m + 1) = f 0 + (fs (fun i => f (i + 1)) m + f (m + 1)); rw [fs_front f m]; grind
theorem fs_zero (f : Nat → Fin n) : ∀ m, (∀ i, i < m → f i = 0) → fs f m = 0
  | 0, _ => rfl
  | m + 1, h => by show fs f m + f m = 0; rw [fs_zero f m (fun i hi => h i (by omega)), h m (by omega)]; grind
theorem fs_pick (f : Nat → Fin n) (j : Nat) : ∀ m, j < m → (∀ i, i < m → i ≠ j → f i = 0) → fs f m = f j
  | 0, h, _ => by omega
  | m + 1, h, hz => by
    show fs f m + f m = f j
    by_cases e : m = j
    · subst e
      rw [fs_zero f m (fun i hi => hz i (by omega) (by omega))]; grind
    · rw [fs_pick f j m (by omega) (fun i hi => hz i (by omega)), hz m (by omega) e]; grind
theorem fs_swap (f : Nat → Nat → Fin n) (m : Nat) : ∀ l, fs (fun i => fs (fun j => f i j) m) l = fs (fun j => fs (fun i => f i j) l) m
  | 0 => by
    show (0 : Fin n) = _
    exact (fs_zero _ m (fun i _ => rfl)).symm
  | l + 1 => by
    show fs (fun i => fs (fun j => f i j) m) l + fs (fun j => f l j) m = fs (fun j => fs (fun i => f i j) l + f l j) m
    rw [fs_swap f m l, ← fs_add]
/-- A polynomial's value is a sum. -/
theorem pf_sum (x : Fin n) : ∀ (m : Nat) (f : Nat → Fin n), pf x m f = fs (fun i => f i * fp x i) m
  | 0, _ => rfl
  | m + 1, f => by
    rw [fs_front]
    show pf x m (fun j => f (j + 1)) * x + f 0 = f 0 * 1 + fs (fun i => f (i + 1) * (fp x i * x)) m
    rw [pf_sum x m (fun j => f (j + 1)), fs_congr (f := fun i => f (i + 1) * (fp x i * x)) (g := fun i => f (i + 1) * fp x i * x) m (fun i _ => by grind), fs_mul]
    grind
/-- The sum of the powers. -/
theorem geo (z : Fin n) : ∀ m, fs (fp z) m * (z - 1) = fp z m - 1
  | 0 => by show (0 : Fin n) * (z - 1) = 1 - 1; grind
  | m + 1 => by
    show (fs (fp z) m + fp z m) * (z - 1) = fp z m * z - 1
    have := geo z m
    grind
/-- The product of 1 + y^(2^r), r below k. -/
def pw2 (y : Fin n) : Nat → Fin n
  | 0 => 1
  | k + 1 => pw2 y k * (fp y (2 ^ k) + 1)
theorem geo2 (y : Fin n) : ∀ k, pw2 y k = fs (fp y) (2 ^ k)
  | 0 => by show (1 : Fin n) = 0 + 1; grind
  | k + 1 => by
    show pw2 y k * (fp y (2 ^ k) + 1) = _
    rw [geo2 y k, Nat.pow_succ, Nat.mul_two]
    have h : ∀ m, fs (fp y) (2 ^ k + m) = fs (fp y) (2 ^ k) + fp y (2 ^ k) * fs (fp y) m := by
      intro m
      induction m with
      | zero => show fs (fp y) (2 ^ k) = fs (fp y) (2 ^ k) + fp y (2 ^ k) * 0; grind
      | succ m ih =>
        show fs (fp y) (2 ^ k + m) + fp y (2 ^ k + m) = fs (fp y) (2 ^ k) + fp y (2 ^ k) * (fs (fp y) m + fp y m)
        rw [ih, fp_add]; grind
    rw [h]; grind
/-- The number m as an element. -/
def fn : Nat → Fin n
  | 0 => 0
  | m + 1 => fn m + 1
theorem fs_ones : ∀ m, fs (fun _ => (1 : Fin n)) m = fn m
  | 0 => rfl
  | m + 1 => by show fs _ m + 1 = fn m + 1; rw [fs_ones m]
theorem fn_two (m : Nat) : (fn (m + m) : Fin n) = fn m + fn m := by
  have h : ∀ a, (fn (m + a) : Fin n) = fn m + fn a := by
    intro a
    induction a with
    | zero => show (fn m : Fin n) = fn m + 0; grind
    | succ a ih => show (fn (m + a) : Fin n) + 1 = fn m + (fn a + 1); rw [ih]; grind
  exact h m
end

section
variable {n : Nat} [NeZero n] {w : Fin n}
/-- w is a root of unity of the order 2^k. -/
def Uni (w : Fin n) (k : Nat) : Prop := (∀ a b : Fin n, a * b = 0 → a = 0 ∨ b = 0) ∧ (0 - 1 : Fin n) ≠ 1 ∧ ((k = 0 ∧ w = 1) ∨ (0 < k ∧ fp w (2 ^ (k - 1)) = 0 - 1))
theorem Uni.all {k : Nat} (h : Uni w k) : fp w (2 ^ k) = 1 := by
  obtain ⟨_, _, ⟨rfl, rfl⟩ | ⟨h0, h1⟩⟩ := h
  · exact fp_one _
  · obtain ⟨j, rfl⟩ : ∃ j, k = j + 1 := ⟨k - 1, by omega⟩
    rw [Nat.add_sub_cancel] at h1
    rw [Nat.pow_succ, Nat.mul_two, fp_add, h1]; grind
theorem Uni.sq {k : Nat} (h : Uni w (k + 1)) : Uni (w * w) k := by
  have hw : ∀ e, fp (w * w) e = fp w (2 * e) := fun e => by
    rw [Nat.two_mul, fp_add, fp_prod]
  refine ⟨h.1, h.2.1, ?_⟩
  obtain ⟨_, _, ⟨h0, _⟩ | ⟨_, h1⟩⟩ := h
  · omega
  · rw [Nat.add_sub_cancel] at h1
    cases k with
    | zero =>
      refine Or.inl ⟨rfl, ?_⟩
      have : w = 0 - 1 := by
        have e : fp w (2 ^ 0) = 1 * w := rfl
        rw [e] at h1; grind
      rw [this]; grind
    | succ k =>
      refine Or.inr ⟨by omega, ?_⟩
      rw [hw, Nat.add_sub_cancel, Nat.mul_comm, ← Nat.pow_succ]
      exact h1
/-- What to the power 2^k is 1 is a power of w. -/
theorem uni_roots : ∀ (k : Nat) (w : Fin n), Uni w k → ∀ x : Fin n, fp x (2 ^ k) = 1 → ∃ a, a < 2 ^ k ∧ x = fp w a
  | 0, w, _, x, hx => ⟨0, by decide, by
      have e : fp x (2 ^ 0) = 1 * x := rfl
      show x = 1
      rw [e] at hx; grind⟩
  | k + 1, w, h, x, hx => by
    have hz := h.1
    have hx2 : fp x (2 ^ k) * fp x (2 ^ k) = 1 := by rw [← fp_add, ← Nat.mul_two, ← Nat.pow_succ]; exact hx
    have hw1 : fp w (2 ^ k) = 0 - 1 := by
      rcases h.2.2 with ⟨h0, _⟩ | ⟨_, h1⟩
      · omega
      · rwa [Nat.add_sub_cancel] at h1
    have hww : ∀ e, fp (w * w) e = fp w (2 * e) := fun e => by rw [Nat.two_mul, fp_add, fp_prod]
    have key : ∀ y : Fin n, fp y (2 ^ k) = 1 → ∃ a, a < 2 ^ k ∧ y = fp w (2 * a) := fun y hy => by
      obtain ⟨a, ha, e⟩ := uni_roots k (w * w) h.sq y hy
      exact ⟨a, ha, by rw [e, hww]⟩
    have h2 : 2 ^ (k + 1) = 2 ^ k + 2 ^ k := by rw [Nat.pow_succ]; omega
    rcases hz (fp x (2 ^ k) - 1) (fp x (2 ^ k) + 1) (by grind) with h1 | h1
    · obtain ⟨a, ha, e⟩ := key x (by grind)
      exact ⟨2 * a, by omega, e⟩
    · have hxm : fp x (2 ^ k) = 0 - 1 := by grind
      have hwi : w * fp w (2 ^ (k + 1) - 1) = 1 := by
        have e : fp w (2 ^ (k + 1)) = 1 := h.all
        have p : 0 < 2 ^ (k + 1) := Nat.two_pow_pos _
        obtain ⟨q, hq⟩ : ∃ q, 2 ^ (k + 1) = q + 1 := ⟨2 ^ (k + 1) - 1, by omega⟩
        rw [hq] at e ⊢
        rw [Nat.add_sub_cancel]
        have e' : fp w q * w = 1 := e
        grind
      obtain ⟨v, hv⟩ : ∃ v, v = fp w (2 ^ (k + 1) - 1) := ⟨_, rfl⟩
      rw [← hv] at hwi
      have hvk : fp v (2 ^ k) = 0 - 1 := by
        have e : fp (w * v) (2 ^ k) = 1 := by rw [hwi, fp_one]
        rw [fp_prod, hw1] at e
        grind
      obtain ⟨a, ha, e⟩ := key (x * v) (by rw [fp_prod, hxm, hvk]; grind)
      refine ⟨2 * a + 1, by omega, ?_⟩
      show x = fp w (2 * a) * w
      rw [← e]
      grind
theorem Uni.prim : ∀ {k : Nat} {w : Fin n}, Uni w k → ∀ d, 0 < d → d < 2 ^ k → fp w d ≠ 1
  | 0, _, _, d, h0, hd => by have : 2 ^ 0 = 1 := rfl; omega
  | k + 1, w, h, d, h0, hd => by
    have hww : ∀ e, fp (w * w) e = fp w (2 * e) := fun e => by rw [Nat.two_mul, fp_add, fp_prod]
    have hw1 : fp w (2 ^ k) = 0 - 1 := by
      rcases h.2.2 with ⟨h0, _⟩ | ⟨_, h1⟩
      · omega
      · rwa [Nat.add_sub_cancel] at h1
    intro e1
    by_cases hp : d % 2 = 0
    · obtain ⟨a, rfl⟩ : ∃ a, d = 2 * a := ⟨d / 2, by omega⟩
      exact h.sq.prim a (by omega) (by rw [Nat.pow_succ] at hd; omega) (by rw [hww]; exact e1)
    · obtain ⟨a, rfl⟩ : ∃ a, d = 2 * a + 1 := ⟨d / 2, by omega⟩
      have e2 : fp (fp w (2 * a + 1)) (2 ^ k) = 1 := by rw [e1, fp_one]
      have hall : fp w (2 ^ (k + 1)) = 1 := h.all
      rw [← fp_mul, show (2 * a + 1) * 2 ^ k = 2 ^ (k + 1) * a + 2 ^ k by rw [Nat.add_mul, Nat.one_mul, Nat.pow_succ, Nat.mul_comm 2 a, Nat.mul_assoc, Nat.mul_comm a, Nat.mul_comm 2], fp_add, fp_mul, hall, fp_one, hw1] at e2
      exact h.2.1 (by grind)
/-- The sum of the powers of a power of w: nothing, but for the power 0. -/
theorem Uni.sums {k : Nat} (h : Uni w k) (d : Nat) : fs (fp (fp w d)) (2 ^ k) = if d % 2 ^ k = 0 then fn (2 ^ k) else 0 := by
  have hall := h.all
  have hd : fp w d = fp w (d % 2 ^ k) := by
    have e := Nat.div_add_mod d (2 ^ k)
    rw [← e, fp_add, fp_mul, hall, fp_one]
    rw [Nat.mul_add_mod, Nat.mod_mod]
    grind
  split
  · rename_i h0
    rw [hd, h0]
    show fs (fp (1 : Fin n)) (2 ^ k) = _
    rw [fs_congr (g := fun _ => 1) _ (fun i _ => fp_one i), fs_ones]
  · rename_i h0
    have hne : fp w d ≠ 1 := by
      rw [hd]
      exact h.prim _ (by omega) (Nat.mod_lt _ (Nat.two_pow_pos _))
    have hg := geo (fp w d) (2 ^ k)
    rw [← fp_mul, Nat.mul_comm, fp_mul, hall, fp_one] at hg
    rcases h.1 _ _ (show fs (fp (fp w d)) (2 ^ k) * (fp w d - 1) = 0 by rw [hg]; grind) with h1 | h1
    · exact h1
    · exact absurd (by grind) hne
/-- The values of values: a coefficient so many times. -/
theorem Uni.back {k : Nat} (h : Uni w k) (c : Nat → Fin n) (s : Fin n) (j : Nat) (hj : j < 2 ^ k) : pf (fp w ((2 ^ k - j) % 2 ^ k)) (2 ^ k) (fun i => pf (s * fp w i) (2 ^ k) c) = fn (2 ^ k) * (c j * fp s j) := by
  have hall := h.all
  have hm : ∀ e, fp w (e % 2 ^ k) = fp w e := fun e => by
    have q := Nat.div_add_mod e (2 ^ k)
    have : fp w e = fp w (2 ^ k * (e / 2 ^ k) + e % 2 ^ k) := by rw [q]
    rw [this, fp_add, fp_mul, hall, fp_one]; grind
  rw [pf_sum, hm]
  rw [fs_congr (g := fun i => fs (fun l => c l * fp s l * fp (fp w (l + (2 ^ k - j))) i) (2 ^ k)) _ (fun i _ => ?_)]
  · rw [fs_swap (fun i l => c l * fp s l * fp (fp w (l + (2 ^ k - j))) i)]
    rw [fs_congr (g := fun l => (if (l + (2 ^ k - j)) % 2 ^ k = 0 then fn (2 ^ k) else 0) * (c l * fp s l)) _ (fun l _ => ?_)]
    · rw [fs_pick _ j _ hj (fun l hl hne => ?_)]
      · rw [if_pos (by rw [show j + (2 ^ k - j) = 2 ^ k by omega, Nat.mod_self])]
      · rw [if_neg ?_]
        · grind
        · intro h0
          by_cases hlt : l < j
          · rw [Nat.mod_eq_of_lt (by omega)] at h0; omega
          · rw [show l + (2 ^ k - j) = l - j + 2 ^ k by omega, Nat.add_mod_right, Nat.mod_eq_of_lt (by omega)] at h0; omega
    · rw [fs_congr (g := fun i => fp (fp w (l + (2 ^ k - j))) i * (c l * fp s l)) _ (fun i _ => by grind), fs_mul, h.sums]
  · rw [pf_sum, ← fs_mul]
    refine fs_congr _ (fun l _ => ?_)
    rw [fp_prod, fp_add, fp_prod, ← fp_mul w i l, ← fp_mul w l i, Nat.mul_comm i l]
    grind
end
section
variable {n : Nat} [NeZero n]
/-- The product of the first m. -/
def fq (f : Nat → Fin n) : Nat → Fin n
  | 0 => 1
  | m + 1 => fq f m * f m
theorem fq_congr {f g : Nat → Fin n} : ∀ m, (∀ i, i < m → f i = g i) → fq f m = fq g m
  | 0, _ => rfl
  | m + 1, h => by show fq f m * f m = fq g m * g m; rw [fq_congr m (fun i hi => h i (by omega)), h m (by omega)]
theorem fq_mul (f g : Nat → Fin n) : ∀ m, fq (fun i => f i * g i) m = fq f m * fq g m
  | 0 => by show (1 : Fin n) = 1 * 1; grind
  | m + 1 => by show fq (fun i => f i * g i) m * (f m * g m) = fq f m * f m * (fq g m * g m); rw [fq_mul f g m]; grind
theorem fq_app (f : Nat → Fin n) (a : Nat) : ∀ b, fq f (a + b) = fq f a * fq (fun i => f (a + i)) b
  | 0 => by show fq f a = fq f a * 1; grind
  | b + 1 => by show fq f (a + b) * f (a + b) = fq f a * (fq (fun i => f (a + i)) b * f (a + b)); rw [fq_app f a b]; grind
/-- One factor is left out. -/
def but1 (i : Nat) (f : Nat → Fin n) (j : Nat) : Fin n := if j = i then 1 else f j
theorem fq_one (i : Nat) (a : Fin n) : ∀ m, i < m → fq (fun j => if j = i then a else 1) m = a
  | 0, h => by omega
  | m + 1, h => by
    show fq (fun j => if j = i then a else 1) m * (if m = i then a else 1) = a
    by_cases e : m = i
    · subst e
      rw [if_pos rfl, fq_congr (g := fun _ => 1) m (fun j hj => if_neg (by omega))]
      have : fq (fun _ => (1 : Fin n)) m = 1 := by
        clear h
        induction m with
        | zero => rfl
        | succ m ih => show fq _ m * 1 = (1 : Fin n); rw [ih]; grind
      rw [this]; grind
    · rw [if_neg e, fq_one i a m (by omega)]; grind
/-- The product over all points but one. -/
theorem lag_prod : ∀ (k : Nat) (w : Fin n), Uni w k → ∀ (x y : Fin n) (i : Nat), i < 2 ^ k → x = y * fp w i → fq (but1 i (fun j => x - fp w j)) (2 ^ k) = fp (fp w i) (2 ^ k - 1) * pw2 y k
  | 0, w, _, x, y, i, hi, _ => by
    have : i = 0 := by have : 2 ^ 0 = 1 := rfl; omega
    subst this
    show (1 : Fin n) * but1 0 _ 0 = 1 * 1
    rw [show but1 0 (fun j => x - fp w j) 0 = 1 from if_pos rfl]
  | k + 1, w, h, x, y, i, hi, hx => by
    have hw1 : fp w (2 ^ k) = 0 - 1 := by
      rcases h.2.2 with ⟨h0, _⟩ | ⟨_, h1⟩
      · omega
      · rwa [Nat.add_sub_cancel] at h1
    have hww : ∀ e, fp (w * w) e = fp w e * fp w e := fun e => fp_prod w w e
    have p2 := Nat.two_pow_pos k
    have e2 : 2 ^ (k + 1) = 2 ^ k + 2 ^ k := by rw [Nat.pow_succ]; omega
    obtain ⟨i', hi', hcase⟩ : ∃ i', i' < 2 ^ k ∧ (i = i' ∨ i = 2 ^ k + i') := by
      by_cases hl : i < 2 ^ k
      · exact ⟨i, hl, Or.inl rfl⟩
      · exact ⟨i - 2 ^ k, by omega, Or.inr (by omega)⟩
    have hpw : fp w i * fp w i = fp (w * w) i' := by
      rw [hww]
      rcases hcase with rfl | rfl
      · rfl
      · rw [fp_add, hw1]; grind
    have ih := lag_prod k (w * w) h.sq (x * x) (y * y) i' hi' (by rw [← hpw, hx]; grind)
    rw [e2, fq_app, ← fq_mul]
    have hstep : fq (fun j => but1 i (fun j => x - fp w j) j * but1 i (fun j => x - fp w j) (2 ^ k + j)) (2 ^ k) = fq (fun j => but1 i' (fun j => x * x - fp (w * w) j) j * (if j = i' then x + fp w i else 1)) (2 ^ k) := by
      refine fq_congr _ (fun j hj => ?_)
      have hj2 : fp w (2 ^ k + j) = 0 - fp w j := by rw [fp_add, hw1]; grind
      unfold but1
      rcases hcase with rfl | rfl
      · by_cases hji : j = i
        · subst hji
          rw [if_pos rfl, if_neg (by omega), if_pos rfl, if_pos rfl]; dsimp only; rw [hj2]; grind
        · rw [if_neg hji, if_neg (by omega), if_neg hji, if_neg hji]; dsimp only; rw [hj2, hww]; grind
      · by_cases hji : j = i'
        · subst hji
          rw [if_neg (by omega), if_pos rfl, if_pos rfl, if_pos rfl, hj2]; grind
        · rw [if_neg (by omega), if_neg (by omega), if_neg hji, if_neg hji]; dsimp only; rw [hj2, hww]; grind
    rw [hstep, fq_mul, ih, fq_one i' _ _ hi']
    have hy : pw2 y (k + 1) = (y + 1) * pw2 (y * y) k := by
      have gen : ∀ (k : Nat) (y : Fin n), pw2 y (k + 1) = (y + 1) * pw2 (y * y) k := by
        intro k
        induction k with
        | zero =>
          intro y
          show 1 * (fp y (2 ^ 0) + 1) = (y + 1) * 1
          have e : fp y (2 ^ 0) = 1 * y := rfl
          rw [e]; grind
        | succ k ih =>
          intro y
          show pw2 y (k + 1) * (fp y (2 ^ (k + 1)) + 1) = (y + 1) * (pw2 (y * y) k * (fp (y * y) (2 ^ k) + 1))
          rw [ih, fp_prod, Nat.pow_succ, Nat.mul_two, fp_add]; grind
      exact gen k y
    rw [hy, ← hpw]
    have hq : fp (fp w i) (2 ^ k + 2 ^ k - 1) = fp (fp w i * fp w i) (2 ^ k - 1) * fp w i := by
      obtain ⟨q, hq⟩ : ∃ q, 2 ^ k = q + 1 := ⟨2 ^ k - 1, by omega⟩
      rw [hq, show q + 1 + (q + 1) - 1 = q + q + 1 by omega, show q + 1 - 1 = q by omega, fp_prod]
      show fp (fp w i) (q + q) * fp w i = _
      rw [fp_add]
    rw [hq]
    obtain ⟨v, hv⟩ : ∃ v, v = fp w i := ⟨_, rfl⟩
    rw [← hv] at hx ⊢
    rw [hx]; grind
end
end Go.Proofs.YtfdddpndjmookaaGreatDoor

