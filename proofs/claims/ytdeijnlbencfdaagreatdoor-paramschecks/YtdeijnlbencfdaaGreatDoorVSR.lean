/- field.shiftDown by any number of bits below 64; field.unityRoot, field.Root. -/
import Derived.Test.YtdeijnlbencfdaaGreatDoorVFD
import Derived.Deep.RegionWith
namespace Go.Proofs.YtdeijnlbencfdaaGreatDoor
open Go.RowKit
theorem limb_down (X n i : Nat) (hn : n < 64) : (limb i X / 2 ^ n) ||| (limb (i + 1) X * 2 ^ (64 - n) % 18446744073709551616) = limb i (X / 2 ^ n) := by
 apply Nat.eq_of_testBit_eq
 intro t
 rw [Nat.testBit_or, Nat.testBit_div_two_pow, limb_test, limb_test, show (18446744073709551616 : Nat) = 2 ^ 64 from by decide, Nat.testBit_mod_two_pow, Nat.testBit_mul_two_pow, limb_test, Nat.testBit_div_two_pow]
 by_cases h1 : t < 64
 ·by_cases h2 : t + n < 64
  ·have h3 : ¬ 64 - n ≤ t := by omega
   simp [h1, h2, h3]
   congr 1; omega
  ·have h3 : 64 - n ≤ t := by omega
   simp [h1, h2, h3, show t - (64 - n) < 64 from by omega]
   congr 1; omega
 ·simp [h1, show ¬ t + n < 64 from by omega]
theorem limb4_zero (X : Nat) (hX : X < 115792089237316195423570985008687907853269984665640564039457584007913129639936) : limb 4 X = 0 := by
 unfold limb; rw [show (18446744073709551616 : Nat) ^ 4 = 115792089237316195423570985008687907853269984665640564039457584007913129639936 from by decide, Nat.div_eq_of_lt hX]
theorem modN_5 (s : Nat) : 5 < modN s := by
 match s with
 | 0 => decide
 | 1 => decide
 | 2 => show 5 < 28948022309329048855892746252171976963363056481941560715954676764349967630337; decide
 | _ + 3 => show 5 < 28948022309329048855892746252171976963363056481941647379679742748393362948097; decide
theorem adicN_le (s : Nat) : adicN s ≤ 32 := by
 match s with
 | 0 => decide
 | 1 => decide
 | _ + 2 => exact Nat.le_refl _
end Go.Proofs.YtdeijnlbencfdaaGreatDoor
/- Plain arithmetic of square roots modulo a prime: repeated squares, the two roots of 1, what both ways of taking a root keep. No program is named here. -/
namespace Go.Proofs.YtdeijnlbencfdaaGreatDoor
/-- a squared k times. -/
def sqs (m a k : Nat) : Nat := powM m a (2 ^ k)
theorem sqs_lt (m a k : Nat) (h : 0 < m) : sqs m a k < m := powM_lt _ _ _ h
theorem sqs_zero (m a : Nat) (h : a < m) : sqs m a 0 = a := by unfold sqs powM; rw [Nat.pow_zero, Nat.pow_one, Nat.mod_eq_of_lt h]
theorem sqs_succ (m a k : Nat) : sqs m a (k + 1) = sqs m a k * sqs m a k % m := by
 unfold sqs; rw [powM_two, Nat.pow_succ, Nat.mul_comm]
theorem powM_pow (m a j k : Nat) : powM m (powM m a j) k = powM m a (j * k) := by
 unfold powM; rw [← Nat.pow_mod, ← Nat.pow_mul]
theorem powM_mul (m a b k : Nat) : powM m (a * b % m) k = powM m a k * powM m b k % m := by
 unfold powM; rw [← Nat.pow_mod, ← Nat.mul_mod, Nat.mul_pow]
theorem powM_add (m a j k : Nat) : powM m a j * powM m a k % m = powM m a (j + k) := by
 unfold powM; rw [← Nat.mul_mod, ← Nat.pow_add]
theorem sqs_head (m a k : Nat) : sqs m a (k + 1) = sqs m (a * a % m) k := by
 unfold sqs; rw [powM_mul, powM_two, Nat.pow_succ, Nat.mul_comm]
theorem sqs_mul (m a b k : Nat) : sqs m (a * b % m) k = sqs m a k * sqs m b k % m := powM_mul _ _ _ _
theorem sqs_pow (m a n k : Nat) : sqs m (powM m a n) k = powM m a (n * 2 ^ k) := by unfold sqs; rw [powM_pow]
theorem neg_sq (m : Nat) (h : 1 < m) : (m - 1) * (m - 1) % m = 1 := by
 have e : (m - 1) * (m - 1) = 1 + m * (m - 2) := by
  obtain ⟨n, rfl⟩ : ∃ n, m = n + 2 := ⟨m - 2, by omega⟩
  show (n + 1) * (n + 1) = 1 + (n + 2) * n
  rw [Nat.add_mul, Nat.mul_add, Nat.add_mul]
  omega
 rw [e, Nat.add_mul_mod_self_left, Nat.mod_eq_of_lt h]
/-- Two elements with the same square are the same, or make the modulus together. -/
theorem same_square {m x y : Nat} (hp : IsPrime m) (hx : x < m) (hy : y < m) (h : x * x % m = y * y % m) : x = y ∨ x + y = m ∨ (x = 0 ∧ y = 0) := by
 have key : ∀ x y : Nat, x ≤ y → x < m → y < m → x * x % m = y * y % m → x = y ∨ x + y = m ∨ (x = 0 ∧ y = 0) := by
  intro x y hle hx hy h
  have hd := same_rest (Nat.mul_le_mul hle hle) h
  have e : y * y - x * x = (y + x) * (y - x) := by
   obtain ⟨d, rfl⟩ := Nat.exists_eq_add_of_le hle
   rw [show x + d - x = d from by omega, Nat.add_mul x d, Nat.mul_add, Nat.mul_add, Nat.add_mul, Nat.add_mul, Nat.mul_comm d x]
   omega
  rw [e] at hd
  rcases hp.dvd_mul hd with h1 | h1
  ·rcases Nat.eq_zero_or_pos (y + x) with h0 | h0
   ·right; right; omega
   ·obtain ⟨c, hc⟩ := h1
    have hc1 : c = 1 := by
     rcases Nat.lt_or_ge c 2 with h2 | h2
     ·rcases Nat.eq_zero_or_pos c with h3 | h3
      ·subst h3; omega
      ·omega
     ·have := Nat.mul_le_mul_left m h2
      omega
    subst hc1
    right; left; omega
  ·rcases Nat.eq_zero_or_pos (y - x) with h0 | h0
   ·left; omega
   ·have := Nat.le_of_dvd h0 h1
    omega
 rcases Nat.le_total x y with hle | hle
 ·exact key x y hle hx hy h
 ·rcases key y x hle hy hx h.symm with h1 | h1 | h1
  ·exact Or.inl h1.symm
  ·exact Or.inr (Or.inl (by omega))
  ·exact Or.inr (Or.inr ⟨h1.2, h1.1⟩)
theorem root_one {m y : Nat} (hp : IsPrime m) (hy : y < m) (h : y * y % m = 1) : y = 1 ∨ y = m - 1 := by
 have h2 := hp.1
 rcases same_square hp hy (show 1 < m by omega) (by rw [h, Nat.one_mul, Nat.mod_eq_of_lt (by omega)]) with h1 | h1 | h1
 ·exact Or.inl h1
 ·exact Or.inr (by omega)
 ·omega
/-- The even one of an element and its opposite. -/
def evenR (m x : Nat) : Nat := if x % 2 = 0 then x else m - x
theorem evenR_sq {m x : Nat} (hx : x < m) : evenR m x * evenR m x % m = x * x % m := by
 unfold evenR
 split
 ·rfl
 ·obtain ⟨d, hd⟩ : ∃ d, m = x + d := ⟨m - x, by omega⟩
  subst hd
  rw [show x + d - x = d from by omega]
  have e : d * d + (x + d) * x = x * x + (x + d) * d := by rw [Nat.add_mul, Nat.add_mul, Nat.mul_comm d x]; omega
  have h := congrArg (· % (x + d)) e
  simpa [Nat.add_mul_mod_self_left] using h
theorem evenR_even {m x : Nat} (hod : m % 2 = 1) (hx : x < m) : evenR m x % 2 = 0 ∧ (x ≠ 0 → evenR m x < m) := by
 unfold evenR
 split
 ·exact ⟨by assumption, fun _ => hx⟩
 ·exact ⟨by omega, fun h => by omega⟩
theorem mul_assoc_mod (m a b c : Nat) : a * b % m * c % m = a * (b * c % m) % m := by
 rw [Nat.mod_mul_mod, Nat.mul_mod_mod, Nat.mul_assoc]
theorem mul_sq (m a b : Nat) : (a * b % m) * (a * b % m) % m = (a * a % m) * (b * b % m) % m := by
 rw [← Nat.mul_mod, ← Nat.mul_mod]
 congr 1
 rw [Nat.mul_assoc, Nat.mul_assoc, Nat.mul_left_comm b a b]
theorem mul_lt_mod (m a b : Nat) (h : 0 < m) : a * b % m < m := Nat.mod_lt _ h
/-- What the reference's loop keeps ahead of turn i. -/
def RInv (m a i x b z : Nat) : Prop := x < m ∧ b < m ∧ z < m ∧ x * x % m = a * b % m ∧ sqs m b i = 1 ∧ sqs m z i = m - 1
theorem RInv.step1 {m a i x b z : Nat} (hp : IsPrime m) (h : RInv m a (i + 1) x b z) (ht : sqs m b i = 1) : RInv m a i x b (z * z % m) := by
 obtain ⟨h1, h2, h3, h4, h5, h6⟩ := h
 have h0 : 0 < m := by have := hp.1; omega
 exact ⟨h1, h2, mul_lt_mod _ _ _ h0, h4, ht, by rw [← sqs_head]; exact h6⟩
theorem RInv.step2 {m a i x b z : Nat} (hp : IsPrime m) (h : RInv m a (i + 1) x b z) (ht : sqs m b i ≠ 1) : RInv m a i (x * z % m) (b * (z * z % m) % m) (z * z % m) := by
 obtain ⟨h1, h2, h3, h4, h5, h6⟩ := h
 have h2p := hp.1
 have h0 : 0 < m := by omega
 have hm1 : sqs m b i = m - 1 := by
  rcases root_one hp (sqs_lt m b i h0) (by rw [← sqs_succ]; exact h5) with h | h
  ·exact absurd h ht
  ·exact h
 refine ⟨mul_lt_mod _ _ _ h0, mul_lt_mod _ _ _ h0, mul_lt_mod _ _ _ h0, ?_, ?_, by rw [← sqs_head]; exact h6⟩
 ·rw [mul_sq, h4, mul_assoc_mod]
 ·rw [sqs_mul, ← sqs_head, hm1, h6, neg_sq m (by omega)]
theorem RInv.fin {m a x b z : Nat} (h : RInv m a 0 x b z) (ha : a < m) : x * x % m = a := by
 obtain ⟨h1, h2, h3, h4, h5, h6⟩ := h
 rw [sqs_zero m b h2] at h5
 subst h5
 rw [h4, Nat.mul_one, Nat.mod_eq_of_lt ha]
/-- What the program's loop keeps. -/
def PInv (m x o S root left step turns : Nat) : Prop :=
 root < m ∧ left < m ∧ step < m ∧ 1 ≤ turns ∧ turns ≤ S ∧ root * root % m = x * left % m ∧ sqs m step (turns - 1) = m - 1 ∧ ((turns = S ∧ left = powM m x o) ∨ sqs m left (turns - 1) = 1)
theorem PInv.fin {m x o S root step turns : Nat} (h : PInv m x o S root 1 step turns) (hx : x < m) : root * root % m = x := by
 obtain ⟨h1, h2, h3, h4, h5, h6, h7, h8⟩ := h
 rw [h6, Nat.mul_one, Nat.mod_eq_of_lt hx]
end Go.Proofs.YtdeijnlbencfdaaGreatDoor
/- What field.squared and field.orderLog do. -/
namespace Go.Proofs.YtdeijnlbencfdaaGreatDoor
open Go.RowKit
end Go.Proofs.YtdeijnlbencfdaaGreatDoor
/- What field.squareRoot does. -/
namespace Go.Proofs.YtdeijnlbencfdaaGreatDoor
open Go.RowKit
/-- The modulus less 1 is an odd number times 2^S, and 5 to the power (m - 1) / 2 is the opposite of 1. -/
def OddPart (m h S : Nat) : Prop := m - 1 = (2 * h + 1) * 2 ^ S ∧ 1 ≤ S ∧ S ≤ 32 ∧ powM m 5 ((2 * h + 1) * 2 ^ (S - 1)) = m - 1
theorem OddPart.down {m h S : Nat} (hm : 1 < m) (H : OddPart m h S) : m / 2 ^ (S + 1) = h ∧ (m - 1) / 2 ^ S = 2 * h + 1 := by
 obtain ⟨h1, h2, h3, _⟩ := H
 constructor
 ·have e : m = h * 2 ^ (S + 1) + (2 ^ S + 1) := by
   rw [Nat.add_mul, Nat.one_mul] at h1
   rw [Nat.pow_succ, ← Nat.mul_assoc, Nat.mul_right_comm, Nat.mul_comm h 2]
   omega
  have hp : 2 ≤ 2 ^ S := by
   have := Nat.pow_le_pow_right (show 0 < 2 by decide) h2
   simpa using this
  have hlt : 2 ^ S + 1 < 2 ^ (S + 1) := by rw [Nat.pow_succ]; omega
  rw [e, Nat.mul_comm h, Nat.mul_add_div (Nat.two_pow_pos _), Nat.div_eq_of_lt hlt, Nat.add_zero]
 ·rw [h1, Nat.mul_div_cancel _ (Nat.two_pow_pos _)]
theorem PInv.start {m x h S : Nat} (hm : 1 < m) (H : OddPart m h S) :
  PInv m x (2 * h + 1) S (powM m x h * x % m) (powM m x h * x % m * powM m x h % m) (powM m 5 (2 * h + 1)) S := by
 obtain ⟨h1, h2, h3, h4⟩ := H
 have h0 : 0 < m := by omega
 have e1 : powM m x h * x % m = powM m x (h + 1) := powM_more m x h
 have e2 : powM m x h * x % m * powM m x h % m = powM m x (2 * h + 1) := by rw [e1, powM_add]; congr 1; omega
 refine ⟨mul_lt_mod _ _ _ h0, mul_lt_mod _ _ _ h0, powM_lt _ _ _ h0, h2, Nat.le_refl _, ?_, ?_, Or.inl ⟨rfl, e2⟩⟩
 ·rw [e2, e1, powM_two, Nat.mul_comm x, powM_more]
  rfl
 ·rw [sqs_pow]; exact h4
end Go.Proofs.YtdeijnlbencfdaaGreatDoor

/- What field.Sqrt does. -/
namespace Go.Proofs.YtdeijnlbencfdaaGreatDoor
open Go.RowKit
section
variable {W w1 : World} {n1 n2 k : Nat} {f g : Nat → Nat} {v : Value}
end
theorem odd_any (p h S T : Nat) (hS : 1 ≤ S) (hS2 : S ≤ 32) (hT : 2 ^ (S - 1) = T) (hT2 : 2 ^ S = 2 * T) (h1 : p - 1 = (2 * h + 1) * (2 * T)) (h2 : pm p 5 256 ((p - 1) / 2) = p - 1 ∧ (p - 1) / 2 < 2 ^ 256) : OddPart p h S := by
 refine ⟨by rw [hT2]; exact h1, hS, hS2, ?_⟩
 have e : (2 * h + 1) * 2 ^ (S - 1) = (p - 1) / 2 := by
  rw [hT, h1, Nat.mul_left_comm, Nat.mul_div_cancel_left _ (by decide)]
 rw [e]
 have h3 := pm_eq p 5 256 ((p - 1) / 2) h2.2
 rw [h2.1] at h3
 exact h3.symm
def oddH : Nat → Nat
 | 0 => 16126
 | 1 => 4033
 | 2 => 3369993333393829974333376885877453834209946971612698481878577354870
 | _ => 3369993333393829974333376885877453834209946971612708570864021632400
theorem oddH_ok (s : Nat) : OddPart (modN s) (oddH s) (adicN s) := by
 match s with
 | 0 => exact odd_any 16513537 16126 9 256 (by decide) (by decide) (by decide) (by decide) (by decide) (by decide +kernel)
 | 1 => exact odd_any 16521217 4033 11 1024 (by decide) (by decide) (by decide) (by decide) (by decide) (by decide +kernel)
 | 2 => exact odd_any 28948022309329048855892746252171976963363056481941560715954676764349967630337 3369993333393829974333376885877453834209946971612698481878577354870 32 2147483648 (by decide) (by decide) (by decide) (by decide) (by decide) (by decide +kernel)
 | _ + 3 => exact odd_any 28948022309329048855892746252171976963363056481941647379679742748393362948097 3369993333393829974333376885877453834209946971612708570864021632400 32 2147483648 (by decide) (by decide) (by decide) (by decide) (by decide) (by decide +kernel)
end Go.Proofs.YtdeijnlbencfdaaGreatDoor

