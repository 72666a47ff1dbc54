/- Two arrays of four words are held against each other word by word. -/
import Derived.Test.YtfbfenljfdnggaaGreatDoorProg
import Derived.WalkKit
import Derived.Laws.StructEq
import Derived.ChangeKeysEq
import Derived.Deep.RegionHeld
import Derived.StillTail
namespace Go.Proofs.YtfbfenljfdnggaaGreatDoor
open Go.RowKit
theorem part4_at (a0 a1 a2 a3 : Int) (w : World) :
    (part 23 #[.int .u64 a0, .int .u64 a1, .int .u64 a2, .int .u64 a3] 0).run Tryz.prog w = .ok (.int .u64 a0) w ∧ (part 23 #[.int .u64 a0, .int .u64 a1, .int .u64 a2, .int .u64 a3] 1).run Tryz.prog w = .ok (.int .u64 a1) w ∧
    (part 23 #[.int .u64 a0, .int .u64 a1, .int .u64 a2, .int .u64 a3] 2).run Tryz.prog w = .ok (.int .u64 a2) w ∧ (part 23 #[.int .u64 a0, .int .u64 a1, .int .u64 a2, .int .u64 a3] 3).run Tryz.prog w = .ok (.int .u64 a3) w :=
  ⟨by kernel_rfl, by kernel_rfl, by kernel_rfl, by kernel_rfl⟩
theorem eq4_in (a0 a1 a2 a3 b0 b1 b2 b3 : Int) (w : World) :
    (Op.equalIn 10000 25 (.agg #[.int .u64 a0, .int .u64 a1, .int .u64 a2, .int .u64 a3]) (.agg #[.int .u64 b0, .int .u64 b1, .int .u64 b2, .int .u64 b3])).run Tryz.prog w =
      .ok (a0 == b0 && (a1 == b1 && (a2 == b2 && a3 == b3))) w := by
  have hs : (Tryz.prog.info? 23).isSome = true := by kernel_rfl
  obtain ⟨i, hi⟩ := Option.isSome_iff_exists.mp hs
  rw [run_equalIn_array w 9999 _ _ Tryz.underlying25 hi]
  have hc : Tryz.prog.cellsOf 23 = 1 := by kernel_rfl
  rw [hc, show List.range 4 = [0, 1, 2, 3] from rfl]
  obtain ⟨p0, p1, p2, p3⟩ := part4_at a0 a1 a2 a3 w
  obtain ⟨q0, q1, q2, q3⟩ := part4_at b0 b1 b2 b3 w
  have hq : ∀ a b : Int, (Op.equalIn 9999 23 (.int .u64 a) (.int .u64 b)).run Tryz.prog w = .ok (a == b) w := fun a b => run_equalIn_int w 9998 23 .u64 .u64 a b Tryz.underlying23
  simp only [Op.eqItems, Sem.run_bind, Nat.mul_one, p0, q0, hq, Result.andThen_ok]
  cases h0 : (a0 == b0)
  · simp
  · simp only [Bool.not_true, Bool.false_eq_true, if_false, Sem.run_bind, p1, q1, hq, Result.andThen_ok, Bool.true_and]
    cases h1 : (a1 == b1)
    · simp
    · simp only [Bool.not_true, Bool.false_eq_true, if_false, Sem.run_bind, p2, q2, hq, Result.andThen_ok, Bool.true_and]
      cases h2 : (a2 == b2)
      · simp
      · simp only [Bool.not_true, Bool.false_eq_true, if_false, Sem.run_bind, p3, q3, hq, Result.andThen_ok, Bool.true_and]
        cases h3 : (a3 == b3) <;> simp
theorem eql4 (a0 a1 a2 a3 b0 b1 b2 b3 : Int) (w : World) :
    (binOp .eql 25 (.agg #[.int .u64 a0, .int .u64 a1, .int .u64 a2, .int .u64 a3]) (.agg #[.int .u64 b0, .int .u64 b1, .int .u64 b2, .int .u64 b3])).run Tryz.prog w =
      .ok (.bool (a0 == b0 && (a1 == b1 && (a2 == b2 && a3 == b3)))) w := by
  rw [run_eql_struct, eq4_in]; rfl
theorem neq4 (a0 a1 a2 a3 b0 b1 b2 b3 : Int) (w : World) :
    (binOp .neq 25 (.agg #[.int .u64 a0, .int .u64 a1, .int .u64 a2, .int .u64 a3]) (.agg #[.int .u64 b0, .int .u64 b1, .int .u64 b2, .int .u64 b3])).run Tryz.prog w =
      .ok (.bool (!(a0 == b0 && (a1 == b1 && (a2 == b2 && a3 == b3))))) w := by
  rw [run_neq_struct, eq4_in]; rfl
end Go.Proofs.YtfbfenljfdnggaaGreatDoor
/- Plain arithmetic: prime numbers, a way to tell that a great number is one (Pocklington's), and Fermat's little theorem. No program is named here. -/
namespace Go.Proofs.YtfbfenljfdnggaaGreatDoor
def IsPrime (p : Nat) : Prop := 2 ≤ p ∧ ∀ d, d ∣ p → d = 1 ∨ d = p
theorem IsPrime.coprime {p a : Nat} (hp : IsPrime p) (h : ¬ p ∣ a) : Nat.gcd p a = 1 := by
  rcases hp.2 _ (Nat.gcd_dvd_left p a) with e | e
  · exact e
  · exact absurd (e ▸ Nat.gcd_dvd_right p a) h
theorem IsPrime.dvd_mul {p a b : Nat} (hp : IsPrime p) (h : p ∣ a * b) : p ∣ a ∨ p ∣ b := by
  by_cases ha : p ∣ a
  · exact Or.inl ha
  · exact Or.inr (Nat.Coprime.dvd_of_dvd_mul_left (hp.coprime ha) h)
theorem prime_factor : ∀ n, 2 ≤ n → ∃ p, IsPrime p ∧ p ∣ n := by
  intro n
  induction n using Nat.strongRecOn with
  | ind n ih =>
    intro h2
    by_cases hp : IsPrime n
    · exact ⟨n, hp, Nat.dvd_refl n⟩
    · have : ∃ d, d ∣ n ∧ d ≠ 1 ∧ d ≠ n := by
        apply Classical.byContradiction
        intro hc
        refine hp ⟨h2, fun d hd => ?_⟩
        by_cases h1 : d = 1
        · exact Or.inl h1
        · by_cases hn : d = n
          · exact Or.inr hn
          · exact absurd ⟨d, hd, h1, hn⟩ hc
      obtain ⟨d, hd, h1, hn⟩ := this
      have hle := Nat.le_of_dvd (by omega) hd
      have h0 : d ≠ 0 := by rintro rfl; have := Nat.eq_zero_of_zero_dvd hd; omega
      obtain ⟨p, hp, hpd⟩ := ih d (by omega) (by omega)
      exact ⟨p, hp, Nat.dvd_trans hpd hd⟩
theorem same_rest {x y r : Nat} (hle : x ≤ y) (h : x % r = y % r) : r ∣ y - x := by
  refine ⟨y / r - x / r, ?_⟩
  have a := Nat.div_add_mod x r
  have b := Nat.div_add_mod y r
  rw [Nat.mul_sub]; omega
/-- As many different numbers below m: at most m. -/
theorem pigeon : ∀ (m n : Nat) (f : Nat → Nat), (∀ i, i < n → f i < m) → (∀ i j, i < j → j < n → f i ≠ f j) → n ≤ m
  | 0, n, f, h, _ => by
    rcases Nat.eq_zero_or_pos n with e | e
    · omega
    · have := h 0 e; omega
  | m + 1, 0, _, _, _ => by omega
  | m + 1, n + 1, f, h, hi => by
    have := pigeon m n (fun i => if f i = m then f n else f i) (by
      intro i hin
      have h1 := h i (by omega)
      have h2 := h n (by omega)
      have h3 := hi i n (by omega) (by omega)
      show (if f i = m then f n else f i) < m
      split <;> omega) (by
      intro i j hij hj
      have h1 := hi i j hij (by omega)
      have h2 := hi i n (by omega) (by omega)
      have h3 := hi j n (by omega) (by omega)
      show (if f i = m then f n else f i) ≠ (if f j = m then f n else f j)
      split <;> split <;> omega)
    omega
theorem pow_mod_one {b e n : Nat} (h : b ^ e % n = 1 % n) (k : Nat) : b ^ (e * k) % n = 1 % n := by
  rw [Nat.pow_mul, Nat.pow_mod, h, ← Nat.pow_mod, Nat.one_pow]
theorem gcd_mod_one (b n : Nat) : ∀ i j, b ^ i % n = 1 % n → b ^ j % n = 1 % n → b ^ (Nat.gcd i j) % n = 1 % n := by
  intro i j
  induction i, j using Nat.gcd.induction with
  | H0 j => intro _ h; rw [Nat.gcd_zero_left]; exact h
  | H1 i j hi ih =>
    intro h1 h2
    rw [Nat.gcd_rec]
    refine ih ?_ h1
    have e : b ^ j = b ^ (i * (j / i)) * b ^ (j % i) := by rw [← Nat.pow_add, Nat.div_add_mod]
    rw [e, Nat.mul_mod, pow_mod_one h1, ← Nat.mul_mod, Nat.one_mul] at h2
    exact h2
/-- Powers of b, of which the F-th is the first that is 1 modulo r, are different: r is above F. -/
theorem powers_apart {r b F : Nat} (hr : 2 ≤ r) (hF : 0 < F) (h1 : b ^ F % r = 1 % r) (hd : ∀ d, 0 < d → d < F → b ^ d % r ≠ 1 % r) : F < r := by
  have e1 : 1 % r = 1 := Nat.mod_eq_of_lt (by omega)
  have hc : Nat.gcd r b = 1 := by
    have hg1 := Nat.gcd_dvd_left r b
    have hg2 := Nat.gcd_dvd_right r b
    have h3 : Nat.gcd r b ∣ b ^ F := by
      obtain ⟨k, rfl⟩ : ∃ k, F = k + 1 := ⟨F - 1, by omega⟩
      rw [Nat.pow_succ]; exact Nat.dvd_trans hg2 (Nat.dvd_mul_left _ _)
    have h4 : Nat.gcd r b ∣ b ^ F % r := (Nat.dvd_mod_iff hg1).mpr h3
    rw [h1, e1] at h4
    exact Nat.dvd_one.mp h4
  have hp := pigeon (r - 1) F (fun i => b ^ i % r - 1) (by
    intro i _
    have := Nat.mod_lt (b ^ i) (show r > 0 by omega)
    show b ^ i % r - 1 < r - 1
    omega) (by
    intro i j hij hj he
    have hpos : ∀ k, 0 < b ^ k % r := by
      intro k
      rcases Nat.eq_zero_or_pos (b ^ k % r) with h0 | h0
      · have hdv : r ∣ b ^ k := Nat.dvd_of_mod_eq_zero h0
        have hck : Nat.Coprime r (b ^ k) := Nat.Coprime.pow_right k hc
        have : r ∣ 1 := by rw [← hck]; exact Nat.dvd_gcd (Nat.dvd_refl r) hdv
        have := Nat.dvd_one.mp this; omega
      · exact h0
    have he' : b ^ i % r = b ^ j % r := by
      have a := hpos i; have c := hpos j
      have he2 : b ^ i % r - 1 = b ^ j % r - 1 := he
      omega
    have hci : Nat.Coprime r (b ^ i) := Nat.Coprime.pow_right i hc
    have hle : b ^ i ≤ b ^ j := Nat.pow_le_pow_right (by
      rcases Nat.eq_zero_or_pos b with h0 | h0
      · subst h0; rw [Nat.gcd_zero_right] at hc; omega
      · exact h0) (by omega)
    have hdv : r ∣ b ^ j - b ^ i := same_rest hle he'
    have e2 : b ^ j - b ^ i = b ^ i * (b ^ (j - i) - 1) := by
      rw [Nat.mul_sub, ← Nat.pow_add, Nat.mul_one, show i + (j - i) = j from by omega]
    rw [e2] at hdv
    have hdv2 := Nat.Coprime.dvd_of_dvd_mul_left hci hdv
    have hone : 1 ≤ b ^ (j - i) := by
      have := hpos (j - i)
      rcases Nat.eq_zero_or_pos (b ^ (j - i)) with h0 | h0
      · rw [h0] at this; simp at this
      · exact h0
    obtain ⟨k, hk⟩ := hdv2
    refine hd (j - i) (by omega) (by omega) ?_
    rw [show b ^ (j - i) = 1 + r * k from by omega, Nat.add_mul_mod_self_left])
  omega
/-- Pocklington's way: F divides N - 1, each proper divisor of F divides c1 or c2, and F is above N's root. -/
theorem pock {N F R a c1 c2 : Nat} (hN : N = F * R + 1) (hF1 : 0 < F) (hR : 0 < R) (hF : ∀ g, g ∣ F → g = F ∨ g ∣ c1 ∨ g ∣ c2) (h1 : a ^ (F * R) % N = 1)
    (h2 : Nat.gcd (a ^ (c1 * R) % N + N - 1) N = 1) (h3 : Nat.gcd (a ^ (c2 * R) % N + N - 1) N = 1) (hs : N < (F + 1) * (F + 1)) : IsPrime N := by
  have hN2 : 2 ≤ N := by have := Nat.mul_pos hF1 hR; omega
  have key : ∀ r, IsPrime r → r ∣ N → F + 1 ≤ r := by
    intro r hr hrN
    have hmod : ∀ x, x % N % r = x % r := fun x => Nat.mod_mod_of_dvd x hrN
    have e1 : 1 % r = 1 := Nat.mod_eq_of_lt (by have := hr.1; omega)
    have hno : ∀ c, Nat.gcd (a ^ (c * R) % N + N - 1) N = 1 → (a ^ R) ^ c % r ≠ 1 % r := by
      intro c hg he
      rw [← Nat.pow_mul, Nat.mul_comm R c, ← hmod, e1] at he
      have : r ∣ a ^ (c * R) % N + N - 1 := by
        apply Nat.dvd_of_mod_eq_zero
        have h5 : (a ^ (c * R) % N + N - 1) = (a ^ (c * R) % N - 1) + N := by
          rcases Nat.eq_zero_or_pos (a ^ (c * R) % N) with h0 | h0
          · rw [h0] at he; simp at he
          · omega
        rw [h5, Nat.add_mod, Nat.mod_eq_zero_of_dvd hrN, Nat.add_zero, Nat.mod_mod]
        have h6 := Nat.div_add_mod (a ^ (c * R) % N) r
        rw [he] at h6
        rw [show a ^ (c * R) % N - 1 = r * (a ^ (c * R) % N / r) from by omega, Nat.mul_mod_right]
      have h7 : r ∣ 1 := by rw [← hg]; exact Nat.dvd_gcd this hrN
      have := Nat.dvd_one.mp h7; have := hr.1; omega
    have hF1' : (a ^ R) ^ F % r = 1 % r := by
      rw [← Nat.pow_mul, Nat.mul_comm R F, ← hmod, h1]
    refine powers_apart hr.1 hF1 hF1' ?_
    intro d hd0 hdF he
    have hg := gcd_mod_one (a ^ R) r d F he hF1'
    rcases hF _ (Nat.gcd_dvd_right d F) with e | e | e
    · have := Nat.le_of_dvd hd0 (Nat.gcd_dvd_left d F); omega
    · obtain ⟨k, hk⟩ := e
      exact hno c1 h2 (by rw [hk]; exact pow_mod_one hg k)
    · obtain ⟨k, hk⟩ := e
      exact hno c2 h3 (by rw [hk]; exact pow_mod_one hg k)
  refine ⟨hN2, fun d hd => ?_⟩
  obtain ⟨e, he⟩ := hd
  by_cases hd1 : d = 1
  · exact Or.inl hd1
  · by_cases he1 : e = 1
    · right; rw [he, he1, Nat.mul_one]
    · have hd0 : d ≠ 0 := by rintro rfl; omega
      have he0 : e ≠ 0 := by rintro rfl; omega
      obtain ⟨p, hp, hpd⟩ := prime_factor d (by omega)
      obtain ⟨q, hq, hqe⟩ := prime_factor e (by omega)
      have k1 := key p hp (Nat.dvd_trans hpd ⟨e, he⟩)
      have k2 := key q hq (Nat.dvd_trans hqe ⟨d, by rw [he, Nat.mul_comm]⟩)
      have l1 := Nat.le_of_dvd (by omega) hpd
      have l2 := Nat.le_of_dvd (by omega) hqe
      have := Nat.mul_le_mul (Nat.le_trans k1 l1) (Nat.le_trans k2 l2)
      omega
/-- A power modulo n, by squares. -/
def pm (n a : Nat) : Nat → Nat → Nat
  | 0, _ => 1 % n
  | f + 1, e => if e % 2 = 0 then pm n a f (e / 2) ^ 2 % n else pm n a f (e / 2) ^ 2 % n * a % n
theorem pm_eq (n a : Nat) : ∀ f e, e < 2 ^ f → pm n a f e = a ^ e % n
  | 0, e, h => by have : e = 0 := by simp at h; exact h
                  subst this; rfl
  | f + 1, e, h => by
    have ih := pm_eq n a f (e / 2) (by rw [Nat.pow_succ] at h; omega)
    unfold pm
    rw [ih, ← Nat.pow_mod, ← Nat.pow_mul]
    by_cases h2 : e % 2 = 0
    · rw [if_pos h2, show e / 2 * 2 = e from by omega]
    · rw [if_neg h2, Nat.mod_mul_mod, ← Nat.pow_succ, show (e / 2 * 2).succ = e from by omega]
/-- The same, with powers that can be reckoned. -/
theorem pock_pm {N F R a c1 c2 f : Nat} (hN : N = F * R + 1) (hF1 : 0 < F) (hR : 0 < R) (hF : ∀ g, g ∣ F → g = F ∨ g ∣ c1 ∨ g ∣ c2) (hf : F * R < 2 ^ f) (hf1 : c1 * R < 2 ^ f) (hf2 : c2 * R < 2 ^ f)
    (h1 : pm N a f (F * R) = 1) (h2 : Nat.gcd (pm N a f (c1 * R) + N - 1) N = 1) (h3 : Nat.gcd (pm N a f (c2 * R) + N - 1) N = 1) (hs : N < (F + 1) * (F + 1)) : IsPrime N := by
  rw [pm_eq _ _ _ _ hf] at h1
  rw [pm_eq _ _ _ _ hf1] at h2
  rw [pm_eq _ _ _ _ hf2] at h3
  exact pock hN hF1 hR hF h1 h2 h3 hs
/-- Two primes: the divisors of their product. -/
theorem dvd_two {q1 q2 : Nat} (h1 : IsPrime q1) (h2 : IsPrime q2) : ∀ g, g ∣ q1 * q2 → g = q1 * q2 ∨ g ∣ q1 ∨ g ∣ q2 := by
  intro g hg
  by_cases hq : q1 ∣ g
  · obtain ⟨k, rfl⟩ := hq
    have hk : k ∣ q2 := Nat.dvd_of_mul_dvd_mul_left (by have := h1.1; omega) hg
    rcases h2.2 k hk with rfl | rfl
    · right; left; rw [Nat.mul_one]; exact Nat.dvd_refl _
    · exact Or.inl rfl
  · right; right
    have hc : Nat.Coprime g q1 := by
      have := h1.coprime hq; rw [Nat.gcd_comm] at this; exact this
    exact Nat.Coprime.dvd_of_dvd_mul_left hc hg
theorem dvd_one {q : Nat} (h1 : IsPrime q) : ∀ g, g ∣ q → g = q ∨ g ∣ 1 ∨ g ∣ 1 := by
  intro g hg
  rcases h1.2 g hg with rfl | rfl
  · right; left; exact Nat.dvd_refl _
  · exact Or.inl rfl
/-- Told by trial: no divisor up to the root. -/
def noDiv (p : Nat) : Nat → Nat → Bool
  | 0, _ => true
  | k + 1, d => p % d != 0 && noDiv p k (d + 1)
theorem noDiv_all (p : Nat) : ∀ k d, noDiv p k d = true → ∀ x, d ≤ x → x < d + k → ¬ x ∣ p
  | 0, d, _, x, h1, h2 => by omega
  | k + 1, d, h, x, h1, h2 => by
    unfold noDiv at h
    rw [Bool.and_eq_true] at h
    by_cases e : x = d
    · subst e
      intro hd
      have := Nat.mod_eq_zero_of_dvd hd
      simp [this] at h
    · exact noDiv_all p k (d + 1) h.2 x (by omega) (by omega)
theorem prime_trial {p k : Nat} (h2 : 2 ≤ p) (h : noDiv p k 2 = true) (hk : p < (k + 2) * (k + 2)) : IsPrime p := by
  refine ⟨h2, fun d hd => ?_⟩
  obtain ⟨e, he⟩ := hd
  by_cases hd1 : d = 1
  · exact Or.inl hd1
  · by_cases he1 : e = 1
    · right; rw [he, he1, Nat.mul_one]
    · have hd0 : d ≠ 0 := by rintro rfl; omega
      have he0 : e ≠ 0 := by rintro rfl; omega
      rcases Nat.lt_or_ge d (2 + k) with hl | hl
      · exact absurd ⟨e, he⟩ (noDiv_all p k 2 h d (by omega) hl)
      · rcases Nat.lt_or_ge e (2 + k) with hl2 | hl2
        · exact absurd ⟨d, by rw [he, Nat.mul_comm]⟩ (noDiv_all p k 2 h e (by omega) hl2)
        · have := Nat.mul_le_mul hl hl2
          rw [Nat.add_comm 2 k] at this
          omega
/-- The binomials. -/
def chs : Nat → Nat → Nat
  | _, 0 => 1
  | 0, _ + 1 => 0
  | n + 1, k + 1 => chs n k + chs n (k + 1)
theorem chs_zero (n : Nat) : chs n 0 = 1 := by cases n <;> rfl
theorem chs_above : ∀ n k, n < k → chs n k = 0
  | 0, k + 1, _ => rfl
  | n + 1, k + 1, h => by unfold chs; rw [chs_above n k (by omega), chs_above n (k + 1) (by omega)]
theorem chs_self : ∀ n, chs n n = 1
  | 0 => rfl
  | n + 1 => by unfold chs; rw [chs_self n, chs_above n (n + 1) (by omega)]
theorem chs_mul : ∀ n k, (k + 1) * chs (n + 1) (k + 1) = (n + 1) * chs n k
  | 0, 0 => rfl
  | 0, k + 1 => by
    rw [chs_above 0 (k + 1) (by omega), chs_above (0 + 1) (k + 1 + 1) (by omega)]; simp
  | n + 1, 0 => by
    have ih := chs_mul n 0
    show (0 + 1) * (chs (n + 1) 0 + chs (n + 1) (0 + 1)) = _
    rw [chs_zero] at *
    omega
  | n + 1, k + 1 => by
    have i1 := chs_mul n k
    have i2 := chs_mul n (k + 1)
    show (k + 1 + 1) * (chs (n + 1) (k + 1) + chs (n + 1) (k + 1 + 1)) = _
    rw [Nat.mul_add, i2]
    have e : chs (n + 1) (k + 1) = chs n k + chs n (k + 1) := rfl
    have h3 : (k + 1 + 1) * chs (n + 1) (k + 1) = (k + 1) * chs (n + 1) (k + 1) + chs (n + 1) (k + 1) := by rw [Nat.add_mul (k + 1) 1, Nat.one_mul]
    have h4 : (n + 1 + 1) * chs (n + 1) (k + 1) = (n + 1) * chs n k + (n + 1) * chs n (k + 1) + chs (n + 1) (k + 1) := by
      rw [Nat.add_mul (n + 1) 1, Nat.one_mul, ← Nat.mul_add, ← e]
    omega
theorem chs_prime {p k : Nat} (hp : IsPrime p) (h0 : 0 < k) (hk : k < p) : p ∣ chs p k := by
  obtain ⟨q, rfl⟩ : ∃ q, p = q + 1 := ⟨p - 1, by omega⟩
  obtain ⟨j, rfl⟩ : ∃ j, k = j + 1 := ⟨k - 1, by omega⟩
  have h := chs_mul q j
  have hd : q + 1 ∣ (j + 1) * chs (q + 1) (j + 1) := by rw [h]; exact Nat.dvd_mul_right _ _
  rcases hp.dvd_mul hd with h1 | h1
  · have := Nat.le_of_dvd (by omega) h1; omega
  · exact h1
def bsum (a n : Nat) : Nat → Nat
  | 0 => 0
  | m + 1 => bsum a n m + chs n m * a ^ m
theorem bsum_next (a n : Nat) : ∀ m, bsum a (n + 1) (m + 1) = bsum a n (m + 1) + a * bsum a n m
  | 0 => by simp [bsum, chs_zero]
  | m + 1 => by
    have ih := bsum_next a n m
    have e1 : bsum a (n + 1) (m + 1 + 1) = bsum a (n + 1) (m + 1) + (chs n m + chs n (m + 1)) * a ^ (m + 1) := rfl
    have e2 : bsum a n (m + 1 + 1) = bsum a n (m + 1) + chs n (m + 1) * a ^ (m + 1) := rfl
    have e3 : a * bsum a n (m + 1) = a * bsum a n m + chs n m * a ^ (m + 1) := by
      show a * (bsum a n m + chs n m * a ^ m) = _
      rw [Nat.mul_add, Nat.pow_succ, ← Nat.mul_assoc, ← Nat.mul_assoc, Nat.mul_comm a (chs n m), Nat.mul_assoc (chs n m) a, Nat.mul_comm a (a ^ m), ← Nat.mul_assoc]
    rw [e1, e2, e3, ih, Nat.add_mul]
    omega
theorem bsum_eq (a : Nat) : ∀ n, bsum a n (n + 1) = (a + 1) ^ n
  | 0 => by simp [bsum, chs]
  | n + 1 => by
    rw [bsum_next a n (n + 1)]
    have e : bsum a n (n + 1 + 1) = bsum a n (n + 1) := by
      show bsum a n (n + 1) + chs n (n + 1) * a ^ (n + 1) = _
      rw [chs_above n (n + 1) (by omega)]; simp
    rw [e, bsum_eq a n, Nat.pow_succ, Nat.mul_add, Nat.mul_one, Nat.mul_comm a]
    omega
theorem bsum_mod {p : Nat} (hp : IsPrime p) (a : Nat) : ∀ m, m + 1 ≤ p → bsum a p (m + 1) % p = 1 % p
  | 0, _ => by simp [bsum, chs_zero]
  | m + 1, h => by
    have ih := bsum_mod hp a m (by omega)
    show (bsum a p (m + 1) + chs p (m + 1) * a ^ (m + 1)) % p = _
    rw [Nat.add_mod, Nat.mod_eq_zero_of_dvd (Nat.dvd_trans (chs_prime hp (by omega) (by omega)) (Nat.dvd_mul_right _ _)), Nat.add_zero, Nat.mod_mod, ih]
theorem freshman {p : Nat} (hp : IsPrime p) (a : Nat) : (a + 1) ^ p % p = (a ^ p + 1) % p := by
  have h2 := hp.1
  rw [← bsum_eq a p]
  show (bsum a p p + chs p p * a ^ p) % p = _
  obtain ⟨q, hq⟩ : ∃ q, p = q + 1 := ⟨p - 1, by omega⟩
  have hb : bsum a p p % p = 1 % p := by
    have := bsum_mod hp a q (by omega)
    rw [← hq] at this; exact this
  rw [chs_self, Nat.one_mul, Nat.add_mod, hb, ← Nat.add_mod, Nat.add_comm]
theorem fermat {p : Nat} (hp : IsPrime p) : ∀ a, a ^ p % p = a % p
  | 0 => by rw [Nat.zero_pow (by have := hp.1; omega)]
  | a + 1 => by rw [freshman hp, Nat.add_mod, fermat hp a, ← Nat.add_mod]
/-- Fermat's little theorem. -/
theorem fermat_one {p a : Nat} (hp : IsPrime p) (ha : a % p ≠ 0) : a ^ (p - 1) % p = 1 := by
  have h2 := hp.1
  have h := fermat hp a
  have hc : Nat.Coprime p a := hp.coprime (fun hd => ha (Nat.mod_eq_zero_of_dvd hd))
  have hpos : 1 ≤ a ^ (p - 1) := Nat.pow_pos (by rcases Nat.eq_zero_or_pos a with e | e; · subst e; simp at ha
                                                 · exact e)
  have e : a ^ p = a * a ^ (p - 1) := by rw [← Nat.pow_succ']; congr 1; omega
  have hle : a ≤ a ^ p := by rw [e]; exact Nat.le_mul_of_pos_right a hpos
  have hd : p ∣ a ^ p - a := same_rest hle h.symm
  rw [e, show a * a ^ (p - 1) - a = a * (a ^ (p - 1) - 1) from by rw [Nat.mul_sub, Nat.mul_one]] at hd
  obtain ⟨k, hk⟩ := Nat.Coprime.dvd_of_dvd_mul_left hc hd
  rw [show a ^ (p - 1) = 1 + p * k from by omega, Nat.add_mul_mod_self_left, Nat.mod_eq_of_lt (by omega)]
end Go.Proofs.YtfbfenljfdnggaaGreatDoor
/- The four moduli are prime numbers. No program is named here. -/
namespace Go.Proofs.YtfbfenljfdnggaaGreatDoor
set_option maxRecDepth 100000
theorem prime0 : IsPrime 16513537 := prime_trial (k := 4063) (by decide) (by decide +kernel) (by decide)
theorem prime1 : IsPrime 16521217 := prime_trial (k := 4064) (by decide) (by decide +kernel) (by decide)
theorem prime2xxx : IsPrime 772231 := prime_trial (k := 878) (by decide) (by decide +kernel) (by decide)
theorem prime2xxy : IsPrime 509 := prime_trial (k := 22) (by decide) (by decide +kernel) (by decide)
theorem prime2xx : IsPrime 325086459374267 :=
  pock_pm (F := 772231 * 509) (R := 827054) (a := 2) (c1 := 772231) (c2 := 509) (f := 49) (by decide) (by decide) (by decide) (dvd_two prime2xxx prime2xxy) (by decide) (by decide) (by decide) (by decide +kernel) (by decide +kernel) (by decide +kernel) (by decide)
theorem prime2xyx : IsPrime 41655379 := prime_trial (k := 6454) (by decide) (by decide +kernel) (by decide)
theorem prime2xy : IsPrime 22160661629 :=
  pock_pm (F := 41655379) (R := 532) (a := 2) (c1 := 1) (c2 := 1) (f := 35) (by decide) (by decide) (by decide) (dvd_one prime2xyx) (by decide) (by decide) (by decide) (by decide +kernel) (by decide +kernel) (by decide +kernel) (by decide)
theorem prime2x : IsPrime 8999194758858563409123804352480028797519453 :=
  pock_pm (F := 325086459374267 * 22160661629) (R := 1249171444262593764) (a := 2) (c1 := 325086459374267) (c2 := 22160661629) (f := 143) (by decide) (by decide) (by decide) (dvd_two prime2xx prime2xy) (by decide) (by decide) (by decide) (by decide +kernel) (by decide +kernel) (by decide +kernel) (by decide)
theorem prime2 : IsPrime 28948022309329048855892746252171976963363056481941560715954676764349967630337 :=
  pock_pm (F := 8999194758858563409123804352480028797519453) (R := 3216734728497058061019394250637312) (a := 2) (c1 := 1) (c2 := 1) (f := 255) (by decide) (by decide) (by decide) (dvd_one prime2x) (by decide) (by decide) (by decide) (by decide +kernel) (by decide +kernel) (by decide +kernel) (by decide)
theorem prime3xxx : IsPrime 31649 := prime_trial (k := 177) (by decide) (by decide +kernel) (by decide)
theorem prime3xxy : IsPrime 757 := prime_trial (k := 27) (by decide) (by decide +kernel) (by decide)
theorem prime3xx : IsPrime 5239247429827 :=
  pock_pm (F := 31649 * 757) (R := 218682) (a := 2) (c1 := 31649) (c2 := 757) (f := 43) (by decide) (by decide) (by decide) (dvd_two prime3xxx prime3xxy) (by decide) (by decide) (by decide) (by decide +kernel) (by decide +kernel) (by decide +kernel) (by decide)
theorem prime3xy : IsPrime 294793 := prime_trial (k := 542) (by decide) (by decide +kernel) (by decide)
theorem prime3x : IsPrime 10427374428728808478656897599072717 :=
  pock_pm (F := 5239247429827 * 294793) (R := 6751323102104356) (a := 2) (c1 := 5239247429827) (c2 := 294793) (f := 114) (by decide) (by decide) (by decide) (dvd_two prime3xx prime3xy) (by decide) (by decide) (by decide) (by decide +kernel) (by decide +kernel) (by decide +kernel) (by decide)
theorem prime3y : IsPrime 24859 := prime_trial (k := 157) (by decide) (by decide +kernel) (by decide)
theorem prime3 : IsPrime 28948022309329048855892746252171976963363056481941647379679742748393362948097 :=
  pock_pm (F := 10427374428728808478656897599072717 * 24859) (R := 111676109463821877905578580569522962432) (a := 2) (c1 := 10427374428728808478656897599072717) (c2 := 24859) (f := 255) (by decide) (by decide) (by decide) (dvd_two prime3x prime3y) (by decide) (by decide) (by decide) (by decide +kernel) (by decide +kernel) (by decide +kernel) (by decide)
end Go.Proofs.YtfbfenljfdnggaaGreatDoor
/- A region whose order is drawn and that ends in an operation (z) which waits for what is taken first: a condition S that holds up to it, not behind it. -/
namespace Go.Proofs.YtfbfenljfdnggaaGreatDoor
section
variable {P : Program} {ops : Array Oper} {Q : Exit → Act → World → Prop} {md : Region.Mode} {S : World → Prop} {z : Nat}
/-- Whatever comes up: behind it S holds, but behind z. -/
def wpZ (P : Program) (md : Region.Mode) (ops : Array Oper) (Q : Exit → Act → World → Prop) (S : World → Prop) (z : Nat) : Nat → Array Bool → Act → World → Prop
  | 0, listed, a, w => Region.ready md ops listed = [] ∧ Q .normal a w
  | n + 1, listed, a, w => (Region.ready md ops listed = [] → Q .normal a w) ∧ ∀ i, i ∈ Region.ready md ops listed → wpOp P ops Q i (fun a' w' => (i ≠ z → S w') ∧ wpZ P md ops Q S z n (listed.setIfInBounds i true) a' w') a w
theorem wpAny_of_Z : ∀ (n : Nat) (listed : Array Bool) (a : Act) (w : World), wpZ P md ops Q S z n listed a w → wpAny P md ops Q n listed a w
  | 0, _, _, _, h => h
  | n + 1, _, _, _, h => ⟨h.1, fun i hi => wpOp_mono (fun a' w' k => wpAny_of_Z n _ a' w' k.2) (h.2 i hi)⟩
/-- i is taken first: it yields v wherever S holds, and z waits for it. -/
theorem wpZ_first {i : Nat} {oi : Oper} {v : Value} (hi : ops[i]? = some oi) (hsel : ∀ (j : Nat) (o : Oper) cs b, ops[j]? = some o → o.op ≠ .select cs b)
    (hQ : ∀ c a w, Q (.panic c) (a.put oi.dst v) w → Q (.panic c) a w) (hz : Region.waitsFor md ops z i = true ∨ ops.size ≤ z) (n : Nat) :
    ∀ (listed : Array Bool) (a : Act) (w : World),
      (∀ j oj, ops[j]? = some oj → j ≠ i → listed.getD j true = false → (∀ e ∈ oj.after, Region.binds md e = true → e.on ≠ i) → oi.apart ops oj = true) →
      i ∈ Region.ready md ops listed → YieldsIf P ops S oi v a → S w →
      wpZ P md ops Q S z n (listed.setIfInBounds i true) (a.put oi.dst v) w → wpZ P md ops Q S z (n + 1) listed a w := by
  induction n with
  | zero =>
    intro listed a w _ hr hy hS H
    refine ⟨fun h => (by rw [h] at hr; cases hr), fun j hj => ?_⟩
    by_cases hji : j = i
    · rw [hji]; exact hy.wpOp hi hS ⟨fun _ => hS, H⟩
    · have k := ready_mono hj hji
      rw [H.1] at k
      cases k
  | succ n ih =>
    intro listed a w hfree hr hy hS H
    refine ⟨fun h => (by rw [h] at hr; cases hr), fun j hj => ?_⟩
    by_cases hji : j = i
    · rw [hji]; exact hy.wpOp hi hS ⟨fun _ => hS, H⟩
    · obtain ⟨hun, oj, hoj, hall⟩ := mem_ready.1 hj
      have hnot : ∀ e ∈ oj.after, Region.binds md e = true → e.on ≠ i := fun e he hb heq => by
        have k1 := hall e he hb
        have k0 := (mem_ready.1 hr).1
        rw [heq] at k1
        rcases Nat.lt_or_ge i listed.size with h' | h'
        · simp [h'] at k0 k1; rw [k0] at k1; cases k1
        · simp [Array.getElem?_eq_none h'] at k1
      have hjz : j ≠ z := fun e => by
        rcases hz with hz | hz
        · obtain ⟨oz, hoz, x, hx, hxb, hxi⟩ := Region.waitsFor_spec hz
          rw [← e, hoj, Option.some.injEq] at hoz
          rw [← hoz] at hx
          exact hnot x hx hxb hxi
        · have := (Array.getElem?_eq_some_iff.1 hoj).1
          omega
      have h2 := wpOp_putIf hoj (hfree j oj hoj hji hun hnot) (fun cs b => hsel i oi cs b hi) (fun cs b => hsel j oj cs b hoj) hQ hy (H.2 j (ready_mono hj hji))
      refine wpOp_mono (fun a' w' h3 => ⟨h3.2.1, ih (listed.setIfInBounds j true) a' w' ?_ (ready_mono hr (Ne.symm hji)) h3.1 (h3.2.1 hjz) ?_⟩) h2
      · intro k ok hk hki hkun hno
        refine hfree k ok hk hki ?_ hno
        by_cases hjk : j = k
        · rw [← hjk]; exact hun
        · rw [getD_set_ne true hjk] at hkun; exact hkun
      · rw [Array.setIfInBounds_comm _ _ hji]
        exact h3.2.2
theorem wpZ_take {i : Nat} {oi : Oper} {v : Value} {n : Nat} {listed : Array Bool} {a : Act} {w : World} (k : Nat) (hi : ops[i]? = some oi) (hd : oi.dst = some k)
    (hs : Region.noSelect ops = true) (hf : Region.free md ops listed i = true) (hr : (Region.ready md ops listed).contains i = true) (hz : Region.waitsFor md ops z i = true ∨ ops.size ≤ z)
    (hQ : ∀ c a w, Q (.panic c) (a.put (some k) v) w → Q (.panic c) a w) (hy : YieldsIf P ops S oi v a) (hS : S w)
    (h : wpZ P md ops Q S z n (listed.setIfInBounds i true) (a.put (some k) v) w) : wpZ P md ops Q S z (n + 1) listed a w :=
  wpZ_first hi (Region.noSelect_spec hs) (by rw [hd]; exact hQ) hz n listed a w (Region.free_spec hi hf) (by simpa using hr) hy hS (by rw [hd]; exact h)
/-- As wpZ_take, what is reckoned by itself left out. -/
theorem zt {oi : Oper} {n : Nat} {listed : Array Bool} {a : Act} {w : World} (i k : Nat) (v : Value) (hi : ops[i]? = some oi) (hd : oi.dst = some k) (hy : ∀ w, S w → (execOp a.eval oi).run P w = .ok (.value v) w) (hS : S w)
    (h : wpZ P md ops Q S z n (listed.setIfInBounds i true) (a.put (some k) v) w) (hw : Region.wanted oi (yielded ops a.tmps) = true := by rfl) (hs : Region.noSelect ops = true := by kernel_rfl) (hf : Region.free md ops listed i = true := by kernel_rfl) (hr : (Region.ready md ops listed).contains i = true := by kernel_rfl)
    (hz : Region.waitsFor md ops z i = true ∨ ops.size ≤ z := by first | exact Or.inr (by decide) | exact Or.inl (by kernel_rfl)) (hQ : ∀ c a w, Q (.panic c) (a.put (some k) v) w → Q (.panic c) a w := by exact fun _ _ _ h => h) : wpZ P md ops Q S z (n + 1) listed a w :=
  wpZ_take k hi hd hs hf hr hz hQ (Or.inl ⟨hw, hy⟩) hS h
theorem zu {oi : Oper} {n : Nat} {listed : Array Bool} {a : Act} {w : World} (i k : Nat) (hi : ops[i]? = some oi) (hd : oi.dst = some k) (hS : S w)
    (h : wpZ P md ops Q S z n (listed.setIfInBounds i true) (a.put (some k) undef) w) (hw : Region.wanted oi (yielded ops a.tmps) = false := by rfl) (hs : Region.noSelect ops = true := by kernel_rfl) (hf : Region.free md ops listed i = true := by kernel_rfl) (hr : (Region.ready md ops listed).contains i = true := by kernel_rfl)
    (hz : Region.waitsFor md ops z i = true ∨ ops.size ≤ z := by first | exact Or.inr (by decide) | exact Or.inl (by kernel_rfl)) (hQ : ∀ c a w, Q (.panic c) (a.put (some k) undef) w → Q (.panic c) a w := by exact fun _ _ _ h => h) : wpZ P md ops Q S z (n + 1) listed a w :=
  wpZ_take k hi hd hs hf hr hz hQ (Or.inr ⟨hw, rfl⟩) hS h
/-- One alone may come up. -/
theorem wpZ_one {i : Nat} {o : Oper} {n : Nat} {listed : Array Bool} {a : Act} {w : World} (hr : Region.ready md ops listed = [i]) (ho : ops[i]? = some o)
    (h : ∀ K : Act → World → Prop, Shut (∀ a' w', (i ≠ z → S w') → wpZ P md ops Q S z n (listed.setIfInBounds i true) a' w' → K a' w') → if Region.wanted o (yielded ops a.tmps) = true then Oper.wp P o a w K Q else K (a.put o.dst undef) w) :
    wpZ P md ops Q S z (n + 1) listed a w := by
  refine ⟨fun h0 => ?_, fun j hj => ?_⟩
  · rw [hr] at h0; cases h0
  · rw [hr, List.mem_singleton] at hj
    rw [hj]
    exact wpOp_step ho (fun K hK => h K (fun a' w' hS hW => hK a' w' ⟨hS, hW⟩))
/-- Two may come up. -/
theorem wpZ_two {i j : Nat} {o o' : Oper} {n : Nat} {listed : Array Bool} {a : Act} {w : World} (hr : Region.ready md ops listed = [i, j]) (ho : ops[i]? = some o) (ho' : ops[j]? = some o')
    (h : ∀ K : Act → World → Prop, Shut (∀ a' w', (i ≠ z → S w') → wpZ P md ops Q S z n (listed.setIfInBounds i true) a' w' → K a' w') → if Region.wanted o (yielded ops a.tmps) = true then Oper.wp P o a w K Q else K (a.put o.dst undef) w)
    (h' : ∀ K : Act → World → Prop, Shut (∀ a' w', (j ≠ z → S w') → wpZ P md ops Q S z n (listed.setIfInBounds j true) a' w' → K a' w') → if Region.wanted o' (yielded ops a.tmps) = true then Oper.wp P o' a w K Q else K (a.put o'.dst undef) w) :
    wpZ P md ops Q S z (n + 1) listed a w := by
  refine ⟨fun h0 => ?_, fun k hk => ?_⟩
  · rw [hr] at h0; cases h0
  · rw [hr, List.mem_cons, List.mem_singleton] at hk
    rcases hk with rfl | rfl
    · exact wpOp_step ho (fun K hK => h K (fun a' w' hS hW => hK a' w' ⟨hS, hW⟩))
    · exact wpOp_step ho' (fun K hK => h' K (fun a' w' hS hW => hK a' w' ⟨hS, hW⟩))
theorem wpZ_done {listed : Array Bool} {a : Act} {w : World} (hr : Region.ready md ops listed = []) (h : Q .normal a w) : ∀ n, wpZ P md ops Q S z n listed a w
  | 0 => ⟨hr, h⟩
  | _ + 1 => ⟨fun _ => h, by rw [hr]; simp⟩
/-- The beginning. -/
theorem wp_region_Z {id : Nat} {a : Act} {w : World} (S : World → Prop) (z : Nat) (hm : P.follows .mixedOrders = true)
    (h : wpZ P .any ops Q S z ops.size (Array.replicate ops.size false) a w.drew) : (Code.region id ops true).wp P Q a w :=
  wp_region_any hm (wpAny_of_Z _ _ _ _ h)
end
theorem z1 {α : Type} (l : List α) (i : Nat) (a : α) : l.toArray.setIfInBounds i a = (l.set i a).toArray := List.setIfInBounds_toArray ..
theorem z2 {α : Type} (x a : α) (l : List α) : (x :: l).set 0 a = a :: l := rfl
theorem z3 {α : Type} (x a : α) (l : List α) (n : Nat) : (x :: l).set (n + 1) a = x :: l.set n a := rfl
end Go.Proofs.YtfbfenljfdnggaaGreatDoor
/- Beside RZ2: three may come up. -/
namespace Go.Proofs.YtfbfenljfdnggaaGreatDoor
section
variable {P : Program} {ops : Array Oper} {Q : Exit → Act → World → Prop} {md : Region.Mode} {S : World → Prop} {z : Nat}
end
end Go.Proofs.YtfbfenljfdnggaaGreatDoor
