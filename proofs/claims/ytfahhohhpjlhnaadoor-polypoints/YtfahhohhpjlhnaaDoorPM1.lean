/- Products of polynomials as sums; values; quotients. No walk. -/
import Derived.Test.YtfahhohhpjlhnaaDoorFZ
import Derived.Test.YtfahhohhpjlhnaaDoorDM
import Derived.Test.YtfahhohhpjlhnaaDoorPD1
namespace Go.Proofs.YtfahhohhpjlhnaaDoor

section
variable {n : Nat} [NeZero n]
theorem fs_pad (f : Nat → Fin n) (m : Nat) (h : ∀ i, m ≤ i → f i = 0) : ∀ d, fs f (m + d) = fs f m
  | 0 => rfl
  | d + 1 => by
    show fs f (m + d) + f (m + d) = fs f m
    rw [fs_pad f m h d, h _ (by omega)]
    grind
theorem fs_pads {f : Nat → Fin n} {m a : Nat} (h : ∀ i, m ≤ i → f i = 0) (ha : m ≤ a) : fs f a = fs f m := by
  obtain ⟨d, rfl⟩ : ∃ d, a = m + d := ⟨a - m, by omega⟩
  exact fs_pad f m h d
/-- The coefficient of X^t in the product, N coefficients of P taken. -/
def cvl (P Q : Nat → Fin n) (N t : Nat) : Fin n := fs (fun j => if j ≤ t then P j * Q (t - j) else 0) N
theorem cvl_congr {P P' Q Q' : Nat → Fin n} (h1 : ∀ t, P t = P' t) (h2 : ∀ t, Q t = Q' t) (N t : Nat) : cvl P Q N t = cvl P' Q' N t := by
  unfold cvl
  exact fs_congr N (fun j _ => by rw [h1, h2])
theorem cvl_add (P Q R : Nat → Fin n) (N t : Nat) : cvl P (fun i => Q i + R i) N t = cvl P Q N t + cvl P R N t := by
  unfold cvl
  rw [← fs_add]
  refine fs_congr N (fun j _ => ?_)
  by_cases h : j ≤ t
  · rw [if_pos h, if_pos h, if_pos h]; grind
  · rw [if_neg h, if_neg h, if_neg h]; grind
theorem cvl_add1 (P Q R : Nat → Fin n) (N t : Nat) : cvl (fun i => P i + Q i) R N t = cvl P R N t + cvl Q R N t := by
  unfold cvl
  rw [← fs_add]
  refine fs_congr N (fun j _ => ?_)
  by_cases h : j ≤ t
  · rw [if_pos h, if_pos h, if_pos h]; grind
  · rw [if_neg h, if_neg h, if_neg h]; grind
/-- The value at x. -/
def evl (P : Nat → Fin n) (x : Fin n) (N : Nat) : Fin n := fs (fun i => P i * fp x i) N
theorem fs_shift (h : Nat → Fin n) (j : Nat) : ∀ m, fs (fun t => if j ≤ t then h (t - j) else 0) (j + m) = fs h m
  | 0 => fs_zero _ _ (fun i hi => if_neg (by omega))
  | m + 1 => by
    show fs (fun t => if j ≤ t then h (t - j) else 0) (j + m) + (if j ≤ j + m then h (j + m - j) else 0) = fs h m + h m
    rw [fs_shift h j m, if_pos (by omega), show j + m - j = m by omega]
theorem fs_mull (a : Fin n) (f : Nat → Fin n) (m : Nat) : fs (fun i => a * f i) m = a * fs f m := by
  have e : fs (fun i => a * f i) m = fs (fun i => f i * a) m := fs_congr m (fun i _ => by grind)
  rw [e, fs_mul]
  grind
theorem evl_mul (P Q : Nat → Fin n) (x : Fin n) (a b N : Nat) (hP : ∀ i, a ≤ i → P i = 0) (hQ : ∀ i, b ≤ i → Q i = 0) (hN : a + b ≤ N) : evl (cvl P Q N) x N = evl P x N * evl Q x N := by
  unfold evl cvl
  have e1 : fs (fun i => fs (fun j => if j ≤ i then P j * Q (i - j) else 0) N * fp x i) N = fs (fun i => fs (fun j => (if j ≤ i then P j * Q (i - j) else 0) * fp x i) N) N := fs_congr N (fun i _ => (fs_mul (fp x i) _ N).symm)
  rw [e1, fs_swap]
  have e2 : fs (fun j => fs (fun i => (if j ≤ i then P j * Q (i - j) else 0) * fp x i) N) N = fs (fun j => (P j * fp x j) * fs (fun u => Q u * fp x u) N) N := fs_congr N (fun j hj => by
    by_cases c : a ≤ j
    · rw [hP j c]
      rw [fs_zero _ _ (fun i _ => by by_cases d : j ≤ i; rw [if_pos d]; grind; rw [if_neg d]; grind)]
      grind
    · have e3 : fs (fun i => (if j ≤ i then P j * Q (i - j) else 0) * fp x i) N = fs (fun t => if j ≤ t then (fun u => (P j * fp x j) * (Q u * fp x u)) (t - j) else 0) N := fs_congr N (fun i _ => by
        by_cases d : j ≤ i
        · rw [if_pos d, if_pos d, show fp x i = fp x j * fp x (i - j) by rw [← fp_add, show j + (i - j) = i by omega]]
          grind
        · rw [if_neg d, if_neg d]; grind)
      rw [e3]
      obtain ⟨m, rfl⟩ : ∃ m, N = j + m := ⟨N - j, by omega⟩
      rw [fs_shift (fun u => (P j * fp x j) * (Q u * fp x u)) j m, fs_mull]
      have z : ∀ i, b ≤ i → Q i * fp x i = 0 := fun i hi => by rw [hQ i hi]; grind
      rw [fs_pads z (by omega : b ≤ m), fs_pads z (by omega : b ≤ j + m)])
  rw [e2, fs_mul]
/-- The top coefficient of a product. -/
theorem cvl_top (D G : Nat → Fin n) (N d k : Nat) (hN : d < N) (hD : ∀ j, d < j → D j = 0) (hG : ∀ u, k < u → G u = 0) : cvl D G N (d + k) = D d * G k := by
  unfold cvl
  rw [fs_pick _ d N hN (fun i _ hi => ?_)]
  · rw [if_pos (by omega), show d + k - d = k by omega]
  · by_cases c : i ≤ d + k
    · rw [if_pos c]
      by_cases e : d < i
      · rw [hD i e]; grind
      · rw [hG (d + k - i) (by omega)]; grind
    · rw [if_neg c]
/-- What times G has no coefficient from k on is nought. -/
theorem cvl_unique (hz : ∀ a b : Fin n, a * b = 0 → a = 0 ∨ b = 0) (D G : Nat → Fin n) (N k : Nat) (hG : ∀ u, k < u → G u = 0) (hk : G k ≠ 0) (hR : ∀ t, k ≤ t → cvl D G N t = 0) : ∀ a, a ≤ N → (∀ j, a ≤ j → D j = 0) → ∀ j, D j = 0
  | 0, _, h => fun j => h j (Nat.zero_le _)
  | a + 1, ha, h => by
    have h1 := cvl_top D G N a k (by omega) (fun j hj => h j hj) hG
    rw [hR (a + k) (by omega)] at h1
    have h2 : D a = 0 := by
      rcases hz _ _ h1.symm with h | h
      · exact h
      · exact absurd h hk
    exact cvl_unique hz D G N k hG hk hR a (by omega) (fun j hj => by
      by_cases e : j = a
      · rw [e]; exact h2
      · exact h j (by omega))
end
theorem fq_zd (s : Nat) (a b : Fq s) (h : a * b = 0) : a = 0 ∨ b = 0 := by
  by_cases ha : a = 0
  · exact Or.inl ha
  · by_cases hb : b = 0
    · exact Or.inr hb
    · exact absurd h (fin_mul_ne s a b ha hb)
/-- A list as a polynomial. -/
def Pl (s n : Nat) (f : Nat → Nat) (t : Nat) : Fq s := if t < n then fz s (f t) else 0
theorem prd_cvl (s : Nat) (f g : Nat → Nat) (m : Nat) : ∀ i t, fz s (prd (addP s) (mulP s) f g m i t) = cvl (fun j => fz s (f j)) (Pl s m g) i t
  | 0, _ => rfl
  | i + 1, t => by
    show fz s (if i ≤ t ∧ t < i + m then addP s (prd (addP s) (mulP s) f g m i t) (mulP s (f i) (g (t - i))) else prd (addP s) (mulP s) f g m i t) = cvl (fun j => fz s (f j)) (Pl s m g) i t + (if i ≤ t then fz s (f i) * Pl s m g (t - i) else 0)
    rw [← prd_cvl s f g m i t]
    unfold Pl
    by_cases c : i ≤ t
    · by_cases d : t < i + m
      · rw [if_pos ⟨c, d⟩, if_pos c, if_pos (by omega), fz_add, fz_mul]
      · rw [if_neg (fun h => d h.2), if_pos c, if_neg (by omega)]; grind
    · rw [if_neg (fun h => c h.1), if_neg c]; grind
theorem cvl_take (s n N : Nat) (f : Nat → Nat) (G : Nat → Fq s) (h : n ≤ N) (t : Nat) : cvl (fun j => fz s (f j)) G n t = cvl (Pl s n f) G N t := by
  unfold cvl
  rw [fs_pads (f := fun j => if j ≤ t then Pl s n f j * G (t - j) else 0) (m := n) (fun i hi => by
    by_cases c : i ≤ t
    · rw [if_pos c]; unfold Pl; rw [if_neg (by omega)]; grind
    · rw [if_neg c]) h]
  refine fs_congr n (fun j hj => ?_)
  unfold Pl
  rw [if_pos hj]
/-- What is divided is the quotient times the divisor and the rest. -/
theorem drs_sum (s : Nat) (f g : Nat → Nat) (k sh Q : Nat) : ∀ d, d ≤ Q → ∀ t, fz s (f t) = fz s (drs s f g k sh Q d t) + fs (fun j => if Q - d ≤ j then (if j ≤ t then fz s (dqt s f g k sh Q j) * Pl s k g (t - j) else 0) else 0) Q
  | 0, _, t => by
    rw [fs_zero _ _ (fun i hi => if_neg (by omega))]
    show fz s (f t) = fz s (f t) + 0
    grind
  | d + 1, hd, t => by
    have ih := drs_sum s f g k sh Q d (by omega) t
    obtain ⟨i, ei⟩ : ∃ i, i = Q - (d + 1) := ⟨_, rfl⟩
    have e1 : fs (fun j => if Q - (d + 1) ≤ j then (if j ≤ t then fz s (dqt s f g k sh Q j) * Pl s k g (t - j) else 0) else 0) Q = fs (fun j => if Q - d ≤ j then (if j ≤ t then fz s (dqt s f g k sh Q j) * Pl s k g (t - j) else 0) else 0) Q + (if i ≤ t then fz s (dqt s f g k sh Q i) * Pl s k g (t - i) else 0) := by
      have e2 : (if i ≤ t then fz s (dqt s f g k sh Q i) * Pl s k g (t - i) else 0) = fs (fun j => if j = i then (if i ≤ t then fz s (dqt s f g k sh Q i) * Pl s k g (t - i) else 0) else 0) Q := by
        rw [fs_pick _ i Q (by omega) (fun j _ hj => if_neg hj), if_pos rfl]
      rw [e2, ← fs_add]
      refine fs_congr Q (fun j hj => ?_)
      by_cases c : j = i
      · rw [if_pos (show Q - (d + 1) ≤ j by omega), if_neg (show ¬ Q - d ≤ j by omega), if_pos c, c]; grind
      · rw [if_neg c]
        by_cases e : Q - d ≤ j
        · rw [if_pos (show Q - (d + 1) ≤ j by omega), if_pos e]; grind
        · rw [if_neg (show ¬ Q - (d + 1) ≤ j by omega), if_neg e]; grind
    have e3 : fz s (drs s f g k sh Q (d + 1) t) = fz s (drs s f g k sh Q d t) - (if i ≤ t then fz s (dqt s f g k sh Q i) * Pl s k g (t - i) else 0) := by
      show fz s (if Q - (d + 1) ≤ t ∧ t < Q - (d + 1) + k then addP s (drs s f g k sh Q d t) (mulP s (subP s 0 (mulP s (drs s f g k sh Q d (Q - (d + 1) + (k - 1))) sh)) (g (t - (Q - (d + 1))))) else drs s f g k sh Q d t) = _
      rw [← ei]
      have eq : dqt s f g k sh Q i = mulP s (drs s f g k sh Q d (i + (k - 1))) sh := by unfold dqt; rw [show Q - (i + 1) = d by omega]
      unfold Pl
      by_cases c : i ≤ t
      · by_cases e : t < i + k
        · rw [if_pos ⟨c, e⟩, if_pos c, if_pos (by omega), eq, fz_add, fz_mul, fz_sub, fz_zero]; grind
        · rw [if_neg (fun h => e h.2), if_pos c, if_neg (by omega)]; grind
      · rw [if_neg (fun h => c h.1), if_neg c]; grind
    rw [ih, e1, e3]
    grind
/-- The rest has no coefficient from the divisor's last one on. -/
theorem drs_low (s : Nat) (f g : Nat → Nat) (k sh Q : Nat) (hk : 0 < k) (hsh : fz s sh * fz s (g (k - 1)) = 1) : ∀ d, d ≤ Q → ∀ t, Q - d + (k - 1) ≤ t → t < Q + (k - 1) → fz s (drs s f g k sh Q d t) = 0
  | 0, _, t, h1, h2 => by omega
  | d + 1, hd, t, h1, h2 => by
    obtain ⟨i, ei⟩ : ∃ i, i = Q - (d + 1) := ⟨_, rfl⟩
    show fz s (if Q - (d + 1) ≤ t ∧ t < Q - (d + 1) + k then addP s (drs s f g k sh Q d t) (mulP s (subP s 0 (mulP s (drs s f g k sh Q d (Q - (d + 1) + (k - 1))) sh)) (g (t - (Q - (d + 1))))) else drs s f g k sh Q d t) = 0
    rw [← ei] at h1 ⊢
    by_cases c : t = i + (k - 1)
    · rw [if_pos (by omega), fz_add, fz_mul, fz_sub, fz_mul, fz_zero, c, show i + (k - 1) - i = k - 1 by omega]
      grind
    · rw [if_neg (by omega)]
      exact drs_low s f g k sh Q hk hsh d (by omega) t (by omega) h2
end Go.Proofs.YtfahhohhpjlhnaaDoor
