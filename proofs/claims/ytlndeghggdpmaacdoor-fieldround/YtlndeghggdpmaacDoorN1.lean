/- Plain arithmetic of square roots modulo a prime: repeated squares, the two roots of 1, what both ways of taking a root keep. No program is named here. -/
import Derived.Test.YtlndeghggdpmaacDoorH3
namespace Go.Proofs.YtlndeghggdpmaacDoor

/-- a squared k times. -/
def sqs (m a k : Nat) : Nat := powM m a (2 ^ k)
theorem sqs_lt (m a k : Nat) (h : 0 < m) : sqs m a k < m := powM_lt _ _ _ h
theorem sqs_zero (m a : Nat) (h : a < m) : sqs m a 0 = a := by unfold sqs powM; rw [Nat.pow_zero, Nat.pow_one, Nat.mod_eq_of_lt h]
theorem sqs_succ (m a k : Nat) : sqs m a (k + 1) = sqs m a k * sqs m a k % m := by
  unfold sqs; rw [powM_two, Nat.pow_succ, Nat.mul_comm]
theorem powM_pow (m a j k : Nat) : powM m (powM m a j) k = powM m a (j * k) := by
  unfold powM; rw [← Nat.pow_mod, ← Nat.pow_mul]
theorem powM_mul (m a b k : Nat) : powM m (a * b % m) k = powM m a k * powM m b k % m := by
  unfold powM; rw [← Nat.pow_mod, ← Nat.mul_mod, Nat.mul_pow]
theorem powM_add (m a j k : Nat) : powM m a j * powM m a k % m = powM m a (j + k) := by
  unfold powM; rw [← Nat.mul_mod, ← Nat.pow_add]
theorem sqs_head (m a k : Nat) : sqs m a (k + 1) = sqs m (a * a % m) k := by
  unfold sqs; rw [powM_mul, powM_two, Nat.pow_succ, Nat.mul_comm]
theorem sqs_mul (m a b k : Nat) : sqs m (a * b % m) k = sqs m a k * sqs m b k % m := powM_mul _ _ _ _
theorem sqs_sqs (m a j k : Nat) : sqs m (sqs m a j) k = sqs m a (j + k) := by
  unfold sqs; rw [powM_pow, ← Nat.pow_add]
theorem sqs_pow (m a n k : Nat) : sqs m (powM m a n) k = powM m a (n * 2 ^ k) := by unfold sqs; rw [powM_pow]
theorem sqs_one (m k : Nat) (h : 1 < m) : sqs m 1 k = 1 := by unfold sqs powM; rw [Nat.one_pow, Nat.mod_eq_of_lt h]
theorem neg_sq (m : Nat) (h : 1 < m) : (m - 1) * (m - 1) % m = 1 := by
  have e : (m - 1) * (m - 1) = 1 + m * (m - 2) := by
    obtain ⟨n, rfl⟩ : ∃ n, m = n + 2 := ⟨m - 2, by omega⟩
    show (n + 1) * (n + 1) = 1 + (n + 2) * n
    rw [Nat.add_mul, Nat.mul_add, Nat.add_mul]
    omega
  rw [e, Nat.add_mul_mod_self_left, Nat.mod_eq_of_lt h]
/-- Two elements with the same square are the same, or make the modulus together. -/
theorem same_square {m x y : Nat} (hp : IsPrime m) (hx : x < m) (hy : y < m) (h : x * x % m = y * y % m) : x = y ∨ x + y = m ∨ (x = 0 ∧ y = 0) := by
  have key : ∀ x y : Nat, x ≤ y → x < m → y < m → x * x % m = y * y % m → x = y ∨ x + y = m ∨ (x = 0 ∧ y = 0) := by
    intro x y hle hx hy h
    have hd := same_rest (Nat.mul_le_mul hle hle) h
    have e : y * y - x * x = (y + x) * (y - x) := by
      obtain ⟨d, rfl⟩ := Nat.exists_eq_add_of_le hle
      rw [show x + d - x = d from by omega, Nat.add_mul x d, Nat.mul_add, Nat.mul_add, Nat.add_mul, Nat.add_mul, Nat.mul_comm d x]
      omega
    rw [e] at hd
    rcases hp.dvd_mul hd with h1 | h1
    · rcases Nat.eq_zero_or_pos (y + x) with h0 | h0
      · right; right; omega
      · obtain ⟨c, hc⟩ := h1
        have hc1 : c = 1 := by
          rcases Nat.lt_or_ge c 2 with h2 | h2
          · rcases Nat.eq_zero_or_pos c with h3 | h3
            · subst h3; omega
            · omega
          · have := Nat.mul_le_mul_left m h2
            omega
        subst hc1
        right; left; omega
    · rcases Nat.eq_zero_or_pos (y - x) with h0 | h0
      · left; omega
      · have := Nat.le_of_dvd h0 h1
        omega
  rcases Nat.le_total x y with hle | hle
  · exact key x y hle hx hy h
  · rcases key y x hle hy hx h.symm with h1 | h1 | h1
    · exact Or.inl h1.symm
    · exact Or.inr (Or.inl (by omega))
    · exact Or.inr (Or.inr ⟨h1.2, h1.1⟩)
theorem root_one {m y : Nat} (hp : IsPrime m) (hy : y < m) (h : y * y % m = 1) : y = 1 ∨ y = m - 1 := by
  have h2 := hp.1
  rcases same_square hp hy (show 1 < m by omega) (by rw [h, Nat.one_mul, Nat.mod_eq_of_lt (by omega)]) with h1 | h1 | h1
  · exact Or.inl h1
  · exact Or.inr (by omega)
  · omega
theorem even_same {m x y : Nat} (hp : IsPrime m) (hod : m % 2 = 1) (hx : x < m) (hy : y < m) (ex : x % 2 = 0) (ey : y % 2 = 0) (h : x * x % m = y * y % m) : x = y := by
  rcases same_square hp hx hy h with h1 | h1 | h1
  · exact h1
  · omega
  · omega
/-- The even one of an element and its opposite. -/
def evenR (m x : Nat) : Nat := if x % 2 = 0 then x else m - x
theorem evenR_sq {m x : Nat} (hx : x < m) : evenR m x * evenR m x % m = x * x % m := by
  unfold evenR
  split
  · rfl
  · obtain ⟨d, hd⟩ : ∃ d, m = x + d := ⟨m - x, by omega⟩
    subst hd
    rw [show x + d - x = d from by omega]
    have e : d * d + (x + d) * x = x * x + (x + d) * d := by rw [Nat.add_mul, Nat.add_mul, Nat.mul_comm d x]; omega
    have h := congrArg (· % (x + d)) e
    simpa [Nat.add_mul_mod_self_left] using h
theorem evenR_even {m x : Nat} (hod : m % 2 = 1) (hx : x < m) : evenR m x % 2 = 0 ∧ (x ≠ 0 → evenR m x < m) := by
  unfold evenR
  split
  · exact ⟨by assumption, fun _ => hx⟩
  · exact ⟨by omega, fun h => by omega⟩
theorem mul_assoc_mod (m a b c : Nat) : a * b % m * c % m = a * (b * c % m) % m := by
  rw [Nat.mod_mul_mod, Nat.mul_mod_mod, Nat.mul_assoc]
theorem mul_sq (m a b : Nat) : (a * b % m) * (a * b % m) % m = (a * a % m) * (b * b % m) % m := by
  rw [← Nat.mul_mod, ← Nat.mul_mod]
  congr 1
  rw [Nat.mul_assoc, Nat.mul_assoc, Nat.mul_left_comm b a b]
theorem mul_lt_mod (m a b : Nat) (h : 0 < m) : a * b % m < m := Nat.mod_lt _ h

/-- What the reference's loop keeps ahead of turn i. -/
def RInv (m a i x b z : Nat) : Prop := x < m ∧ b < m ∧ z < m ∧ x * x % m = a * b % m ∧ sqs m b i = 1 ∧ sqs m z i = m - 1
theorem RInv.step1 {m a i x b z : Nat} (hp : IsPrime m) (h : RInv m a (i + 1) x b z) (ht : sqs m b i = 1) : RInv m a i x b (z * z % m) := by
  obtain ⟨h1, h2, h3, h4, h5, h6⟩ := h
  have h0 : 0 < m := by have := hp.1; omega
  exact ⟨h1, h2, mul_lt_mod _ _ _ h0, h4, ht, by rw [← sqs_head]; exact h6⟩
theorem RInv.step2 {m a i x b z : Nat} (hp : IsPrime m) (h : RInv m a (i + 1) x b z) (ht : sqs m b i ≠ 1) : RInv m a i (x * z % m) (b * (z * z % m) % m) (z * z % m) := by
  obtain ⟨h1, h2, h3, h4, h5, h6⟩ := h
  have h2p := hp.1
  have h0 : 0 < m := by omega
  have hm1 : sqs m b i = m - 1 := by
    rcases root_one hp (sqs_lt m b i h0) (by rw [← sqs_succ]; exact h5) with h | h
    · exact absurd h ht
    · exact h
  refine ⟨mul_lt_mod _ _ _ h0, mul_lt_mod _ _ _ h0, mul_lt_mod _ _ _ h0, ?_, ?_, by rw [← sqs_head]; exact h6⟩
  · rw [mul_sq, h4, mul_assoc_mod]
  · rw [sqs_mul, ← sqs_head, hm1, h6, neg_sq m (by omega)]
theorem RInv.fin {m a x b z : Nat} (h : RInv m a 0 x b z) (ha : a < m) : x * x % m = a := by
  obtain ⟨h1, h2, h3, h4, h5, h6⟩ := h
  rw [sqs_zero m b h2] at h5
  subst h5
  rw [h4, Nat.mul_one, Nat.mod_eq_of_lt ha]

/-- What the program's loop keeps. -/
def PInv (m x o S root left step turns : Nat) : Prop :=
  root < m ∧ left < m ∧ step < m ∧ 1 ≤ turns ∧ turns ≤ S ∧ root * root % m = x * left % m ∧ sqs m step (turns - 1) = m - 1 ∧ ((turns = S ∧ left = powM m x o) ∨ sqs m left (turns - 1) = 1)
theorem PInv.fin {m x o S root step turns : Nat} (h : PInv m x o S root 1 step turns) (hx : x < m) : root * root % m = x := by
  obtain ⟨h1, h2, h3, h4, h5, h6, h7, h8⟩ := h
  rw [h6, Nat.mul_one, Nat.mod_eq_of_lt hx]
theorem PInv.none {m x o S root left step turns : Nat} (h : PInv m x o S root left step turns) (hn : ∀ j, j < turns → sqs m left j ≠ 1) : powM m x (o * 2 ^ (S - 1)) ≠ 1 := by
  obtain ⟨h1, h2, h3, h4, h5, h6, h7, h8⟩ := h
  rcases h8 with ⟨rfl, rfl⟩ | h8
  · have := hn (turns - 1) (by omega)
    rw [sqs_pow] at this
    exact this
  · exact absurd h8 (hn (turns - 1) (by omega))
theorem PInv.step {m x o S root left step turns k : Nat} (hp : IsPrime m) (h : PInv m x o S root left step turns) (hk : k < turns) (h1k : sqs m left k = 1) (hl : left ≠ 1) (hn : ∀ j, j < k → sqs m left j ≠ 1) :
    PInv m x o S (root * sqs m step (turns - k - 1) % m) (left * (sqs m step (turns - k - 1) * sqs m step (turns - k - 1) % m) % m) (sqs m step (turns - k - 1) * sqs m step (turns - k - 1) % m) k := by
  obtain ⟨h1, h2, h3, h4, h5, h6, h7, h8⟩ := h
  have h2p := hp.1
  have h0 : 0 < m := by omega
  have hk1 : 1 ≤ k := by
    rcases Nat.eq_zero_or_pos k with h | h
    · subst h; rw [sqs_zero m left h2] at h1k; exact absurd h1k hl
    · exact h
  have es : sqs m (sqs m step (turns - k - 1) * sqs m step (turns - k - 1) % m) (k - 1) = m - 1 := by
    rw [← sqs_head, sqs_sqs, show turns - k - 1 + (k - 1 + 1) = turns - 1 from by omega]
    exact h7
  have el : sqs m left (k - 1) = m - 1 := by
    rcases root_one hp (sqs_lt m left (k - 1) h0) (by rw [← sqs_succ, show k - 1 + 1 = k from by omega]; exact h1k) with h | h
    · exact absurd h (hn (k - 1) (by omega))
    · exact h
  refine ⟨mul_lt_mod _ _ _ h0, mul_lt_mod _ _ _ h0, mul_lt_mod _ _ _ h0, hk1, by omega, ?_, es, Or.inr ?_⟩
  · rw [mul_sq, h6, mul_assoc_mod]
  · rw [sqs_mul, es, el, neg_sq m (by omega)]

end Go.Proofs.YtlndeghggdpmaacDoor
