/- Plain arithmetic: a number below 2^256 as four words of 64 bits, sums, differences and products word by word. No program is named here. -/
import Derived.WalkKit
import Derived.WalkSpells
import Derived.WalkLawsBesides
import Derived.ProofKit
import Derived.Test.YtfbfenljfdnggaaGreatDoorProg
import Derived.Laws.Externs
import Derived.LoopN
import Derived.Lib.Mul64
import Derived.Laws.Bits64b
namespace Go.Proofs.YtfbfenljfdnggaaGreatDoor
def limb (i n : Nat) : Nat := n / 18446744073709551616 ^ i % 18446744073709551616
def add256 (a b : Nat) : Nat := (a + b) % 115792089237316195423570985008687907853269984665640564039457584007913129639936
def over256 (a b : Nat) : Bool := decide (115792089237316195423570985008687907853269984665640564039457584007913129639936 ≤ a + b)
def sub256 (a b : Nat) : Nat := (a + 115792089237316195423570985008687907853269984665640564039457584007913129639936 - b) % 115792089237316195423570985008687907853269984665640564039457584007913129639936
def below256 (a b : Nat) : Bool := decide (a < b)
def lo256 (n : Nat) : Nat := n % 115792089237316195423570985008687907853269984665640564039457584007913129639936
def hi256 (n : Nat) : Nat := n / 115792089237316195423570985008687907853269984665640564039457584007913129639936
theorem limb0 (n : Nat) : limb 0 n = n % 18446744073709551616 := by simp [limb]
theorem limb1 (n : Nat) : limb 1 n = n / 18446744073709551616 % 18446744073709551616 := by simp [limb]
theorem limb2 (n : Nat) : limb 2 n = n / 340282366920938463463374607431768211456 % 18446744073709551616 := by simp [limb]
theorem limb3 (n : Nat) : limb 3 n = n / 6277101735386680763835789423207666416102355444464034512896 % 18446744073709551616 := by simp [limb]
theorem limb_lt (i n : Nat) : limb i n < 18446744073709551616 := Nat.mod_lt _ (by decide)
theorem limb_ge4 (i n : Nat) (hi : 4 ≤ i) (h : n < 115792089237316195423570985008687907853269984665640564039457584007913129639936) : limb i n = 0 := by
  unfold limb
  have e : 18446744073709551616 ^ 4 ≤ 18446744073709551616 ^ i := Nat.pow_le_pow_right (by decide) hi
  have e4 : (18446744073709551616 : Nat) ^ 4 = 115792089237316195423570985008687907853269984665640564039457584007913129639936 := by decide
  rw [e4] at e
  rw [Nat.div_eq_of_lt (by omega)]
theorem limbs_of (a b c d : Nat) (ha : a < 18446744073709551616) (hb : b < 18446744073709551616) (hc : c < 18446744073709551616) (hd : d < 18446744073709551616) (n : Nat)
    (h : n = a + 18446744073709551616 * b + 340282366920938463463374607431768211456 * c + 6277101735386680763835789423207666416102355444464034512896 * d) :
    a = limb 0 n ∧ b = limb 1 n ∧ c = limb 2 n ∧ d = limb 3 n ∧ n < 115792089237316195423570985008687907853269984665640564039457584007913129639936 := by
  rw [limb0, limb1, limb2, limb3]; omega
theorem limbs_sum (n : Nat) (h : n < 115792089237316195423570985008687907853269984665640564039457584007913129639936) : n = limb 0 n + 18446744073709551616 * limb 1 n + 340282366920938463463374607431768211456 * limb 2 n + 6277101735386680763835789423207666416102355444464034512896 * limb 3 n := by
  rw [limb0, limb1, limb2, limb3]; omega
theorem limbs_inj (m n : Nat) (hm : m < 115792089237316195423570985008687907853269984665640564039457584007913129639936) (hn : n < 115792089237316195423570985008687907853269984665640564039457584007913129639936) (h0 : limb 0 m = limb 0 n) (h1 : limb 1 m = limb 1 n) (h2 : limb 2 m = limb 2 n) (h3 : limb 3 m = limb 3 n) : m = n := by
  rw [limbs_sum m hm, limbs_sum n hn, h0, h1, h2, h3]
theorem add256_lt (a b : Nat) : add256 a b < 115792089237316195423570985008687907853269984665640564039457584007913129639936 := Nat.mod_lt _ (by decide)
theorem sub256_lt (a b : Nat) : sub256 a b < 115792089237316195423570985008687907853269984665640564039457584007913129639936 := Nat.mod_lt _ (by decide)
theorem lo256_lt (n : Nat) : lo256 n < 115792089237316195423570985008687907853269984665640564039457584007913129639936 := Nat.mod_lt _ (by decide)
theorem split256 (n : Nat) : n = lo256 n + 115792089237316195423570985008687907853269984665640564039457584007913129639936 * hi256 n := by unfold lo256 hi256; omega
theorem dm64 (x : Nat) : x % 18446744073709551616 + 18446744073709551616 * (x / 18446744073709551616) = x := Nat.mod_add_div x _
theorem key_add (A a0 a1 a2 a3 B b0 b1 b2 b3 s0 s1 s2 s3 c1 c2 c3 c4 : Nat) (hA : A = a0 + 18446744073709551616 * a1 + 340282366920938463463374607431768211456 * a2 + 6277101735386680763835789423207666416102355444464034512896 * a3)
    (hB : B = b0 + 18446744073709551616 * b1 + 340282366920938463463374607431768211456 * b2 + 6277101735386680763835789423207666416102355444464034512896 * b3) (e0 : s0 + 18446744073709551616 * c1 = a0 + b0) (e1 : s1 + 18446744073709551616 * c2 = a1 + b1 + c1)
    (e2 : s2 + 18446744073709551616 * c3 = a2 + b2 + c2) (e3 : s3 + 18446744073709551616 * c4 = a3 + b3 + c3) :
    A + B = s0 + 18446744073709551616 * s1 + 340282366920938463463374607431768211456 * s2 + 6277101735386680763835789423207666416102355444464034512896 * s3 + 115792089237316195423570985008687907853269984665640564039457584007913129639936 * c4 := by omega
theorem split_of (n m c : Nat) (hm : m < 115792089237316195423570985008687907853269984665640564039457584007913129639936) (h : n = m + 115792089237316195423570985008687907853269984665640564039457584007913129639936 * c) : n % 115792089237316195423570985008687907853269984665640564039457584007913129639936 = m ∧ n / 115792089237316195423570985008687907853269984665640564039457584007913129639936 = c := by omega
/-- The words of a sum, and what is carried out of it. -/
theorem add_limbs (A B : Nat) (hA : A < 115792089237316195423570985008687907853269984665640564039457584007913129639936) (hB : B < 115792089237316195423570985008687907853269984665640564039457584007913129639936) : ∃ c1 c2 c3 c4 : Nat,
    (limb 0 A + limb 0 B + 0) % 18446744073709551616 = limb 0 (add256 A B) ∧ (limb 0 A + limb 0 B + 0) / 18446744073709551616 = c1 ∧ c1 ≤ 1 ∧
    (limb 1 A + limb 1 B + c1) % 18446744073709551616 = limb 1 (add256 A B) ∧ (limb 1 A + limb 1 B + c1) / 18446744073709551616 = c2 ∧ c2 ≤ 1 ∧
    (limb 2 A + limb 2 B + c2) % 18446744073709551616 = limb 2 (add256 A B) ∧ (limb 2 A + limb 2 B + c2) / 18446744073709551616 = c3 ∧ c3 ≤ 1 ∧
    (limb 3 A + limb 3 B + c3) % 18446744073709551616 = limb 3 (add256 A B) ∧ (limb 3 A + limb 3 B + c3) / 18446744073709551616 = c4 ∧ c4 ≤ 1 ∧
    c4 = (A + B) / 115792089237316195423570985008687907853269984665640564039457584007913129639936 := by
  have l0 := limb_lt 0 A; have l1 := limb_lt 1 A; have l2 := limb_lt 2 A; have l3 := limb_lt 3 A
  have m0 := limb_lt 0 B; have m1 := limb_lt 1 B; have m2 := limb_lt 2 B; have m3 := limb_lt 3 B
  obtain ⟨c1, hc1⟩ : ∃ c, c = (limb 0 A + limb 0 B + 0) / 18446744073709551616 := ⟨_, rfl⟩
  obtain ⟨c2, hc2⟩ : ∃ c, c = (limb 1 A + limb 1 B + c1) / 18446744073709551616 := ⟨_, rfl⟩
  obtain ⟨c3, hc3⟩ : ∃ c, c = (limb 2 A + limb 2 B + c2) / 18446744073709551616 := ⟨_, rfl⟩
  obtain ⟨c4, hc4⟩ : ∃ c, c = (limb 3 A + limb 3 B + c3) / 18446744073709551616 := ⟨_, rfl⟩
  have b1 : c1 ≤ 1 := by clear hc2 hc3 hc4; omega
  have b2 : c2 ≤ 1 := by clear hc1 hc3 hc4; omega
  have b3 : c3 ≤ 1 := by clear hc1 hc2 hc4; omega
  have b4 : c4 ≤ 1 := by clear hc1 hc2 hc3; omega
  have d1 := dm64 (limb 0 A + limb 0 B + 0); rw [← hc1] at d1
  have d2 := dm64 (limb 1 A + limb 1 B + c1); rw [← hc2] at d2
  have d3 := dm64 (limb 2 A + limb 2 B + c2); rw [← hc3] at d3
  have d4 := dm64 (limb 3 A + limb 3 B + c3); rw [← hc4] at d4
  have key := key_add A _ _ _ _ B _ _ _ _ _ _ _ _ c1 c2 c3 c4 (limbs_sum A hA) (limbs_sum B hB) d1 d2 d3 d4
  have hm : ∀ x : Nat, x % 18446744073709551616 < 18446744073709551616 := fun x => Nat.mod_lt _ (by decide)
  have g := limbs_of _ _ _ _ (hm (limb 0 A + limb 0 B + 0)) (hm (limb 1 A + limb 1 B + c1)) (hm (limb 2 A + limb 2 B + c2)) (hm (limb 3 A + limb 3 B + c3)) _ rfl
  have s := split_of _ _ c4 g.2.2.2.2 key
  have ea : add256 A B = _ := s.1
  rw [ea]
  exact ⟨c1, c2, c3, c4, g.1, hc1.symm, b1, g.2.1, hc2.symm, b2, g.2.2.1, hc3.symm, b3, g.2.2.2.1, hc4.symm, b4, s.2.symm⟩
theorem key_sub (A a0 a1 a2 a3 B b0 b1 b2 b3 s0 s1 s2 s3 c1 c2 c3 c4 : Nat) (hA : A = a0 + 18446744073709551616 * a1 + 340282366920938463463374607431768211456 * a2 + 6277101735386680763835789423207666416102355444464034512896 * a3)
    (hB : B = b0 + 18446744073709551616 * b1 + 340282366920938463463374607431768211456 * b2 + 6277101735386680763835789423207666416102355444464034512896 * b3) (e0 : a0 + 18446744073709551616 * c1 = s0 + b0) (e1 : a1 + 18446744073709551616 * c2 = s1 + b1 + c1)
    (e2 : a2 + 18446744073709551616 * c3 = s2 + b2 + c2) (e3 : a3 + 18446744073709551616 * c4 = s3 + b3 + c3) :
    A + 115792089237316195423570985008687907853269984665640564039457584007913129639936 * c4 = s0 + 18446744073709551616 * s1 + 340282366920938463463374607431768211456 * s2 + 6277101735386680763835789423207666416102355444464034512896 * s3 + B := by omega
theorem sub_step (x y b : Nat) (hx : x < 18446744073709551616) (hy : y < 18446744073709551616) (hb : b ≤ 1) :
    x + 18446744073709551616 * (if x < y + b then 1 else 0) = (x + 18446744073709551616 - y - b) % 18446744073709551616 + y + b ∧ (if x < y + b then 1 else 0) ≤ 1 ∧ (x + 18446744073709551616 - y - b) % 18446744073709551616 < 18446744073709551616 := by
  split <;> omega
theorem sub_fin (A B d c : Nat) (hA : A < 115792089237316195423570985008687907853269984665640564039457584007913129639936) (hB : B < 115792089237316195423570985008687907853269984665640564039457584007913129639936) (hc : c ≤ 1) (hd : d < 115792089237316195423570985008687907853269984665640564039457584007913129639936) (h : A + 115792089237316195423570985008687907853269984665640564039457584007913129639936 * c = d + B) :
    d = sub256 A B ∧ (c = 1 ↔ A < B) := by unfold sub256; omega
/-- The words of a difference, and what is borrowed. -/
theorem sub_limbs (A B : Nat) (hA : A < 115792089237316195423570985008687907853269984665640564039457584007913129639936) (hB : B < 115792089237316195423570985008687907853269984665640564039457584007913129639936) : ∃ c1 c2 c3 c4 : Nat,
    (limb 0 A + 18446744073709551616 - limb 0 B - 0) % 18446744073709551616 = limb 0 (sub256 A B) ∧ (if limb 0 A < limb 0 B + 0 then 1 else 0) = c1 ∧ c1 ≤ 1 ∧
    (limb 1 A + 18446744073709551616 - limb 1 B - c1) % 18446744073709551616 = limb 1 (sub256 A B) ∧ (if limb 1 A < limb 1 B + c1 then 1 else 0) = c2 ∧ c2 ≤ 1 ∧
    (limb 2 A + 18446744073709551616 - limb 2 B - c2) % 18446744073709551616 = limb 2 (sub256 A B) ∧ (if limb 2 A < limb 2 B + c2 then 1 else 0) = c3 ∧ c3 ≤ 1 ∧
    (limb 3 A + 18446744073709551616 - limb 3 B - c3) % 18446744073709551616 = limb 3 (sub256 A B) ∧ (if limb 3 A < limb 3 B + c3 then 1 else 0) = c4 ∧ c4 ≤ 1 ∧
    (c4 = 1 ↔ A < B) := by
  obtain ⟨c1, hc1⟩ : ∃ c : Nat, c = (if limb 0 A < limb 0 B + 0 then 1 else 0) := ⟨_, rfl⟩
  have t1 := sub_step (limb 0 A) (limb 0 B) 0 (limb_lt _ _) (limb_lt _ _) (by decide); rw [← hc1] at t1
  obtain ⟨c2, hc2⟩ : ∃ c : Nat, c = (if limb 1 A < limb 1 B + c1 then 1 else 0) := ⟨_, rfl⟩
  have t2 := sub_step (limb 1 A) (limb 1 B) c1 (limb_lt _ _) (limb_lt _ _) t1.2.1; rw [← hc2] at t2
  obtain ⟨c3, hc3⟩ : ∃ c : Nat, c = (if limb 2 A < limb 2 B + c2 then 1 else 0) := ⟨_, rfl⟩
  have t3 := sub_step (limb 2 A) (limb 2 B) c2 (limb_lt _ _) (limb_lt _ _) t2.2.1; rw [← hc3] at t3
  obtain ⟨c4, hc4⟩ : ∃ c : Nat, c = (if limb 3 A < limb 3 B + c3 then 1 else 0) := ⟨_, rfl⟩
  have t4 := sub_step (limb 3 A) (limb 3 B) c3 (limb_lt _ _) (limb_lt _ _) t3.2.1; rw [← hc4] at t4
  have key := key_sub A _ _ _ _ B _ _ _ _ _ _ _ _ c1 c2 c3 c4 (limbs_sum A hA) (limbs_sum B hB) t1.1 t2.1 t3.1 t4.1
  have g := limbs_of _ _ _ _ t1.2.2 t2.2.2 t3.2.2 t4.2.2 _ rfl
  have s := sub_fin A B _ c4 hA hB t4.2.1 g.2.2.2.2 key
  rw [← s.1]
  exact ⟨c1, c2, c3, c4, g.1, hc1.symm, t1.2.1, g.2.1, hc2.symm, t2.2.1, g.2.2.1, hc3.symm, t3.2.1, g.2.2.2.1, hc4.symm, t4.2.1, s.2⟩
/-- The words of a number times a word, and the word above them. -/
theorem key_mul (a0 a1 a2 a3 w l0 l1 l2 l3 h0 h1 h2 h3 s0 s1 s2 s3 o0 o1 o2 o3 c1 c2 c3 c4 : Nat)
    (e0 : l0 + 18446744073709551616 * h0 = a0 * w) (e1 : l1 + 18446744073709551616 * h1 = a1 * w) (e2 : l2 + 18446744073709551616 * h2 = a2 * w) (e3 : l3 + 18446744073709551616 * h3 = a3 * w)
    (t0 : s0 + 18446744073709551616 * o0 = l0) (t1 : s1 + 18446744073709551616 * o1 = l1 + c1) (t2 : s2 + 18446744073709551616 * o2 = l2 + c2) (t3 : s3 + 18446744073709551616 * o3 = l3 + c3)
    (k1 : c1 = h0 + o0) (k2 : c2 = h1 + o1) (k3 : c3 = h2 + o2) (k4 : c4 = h3 + o3) :
    (a0 + 18446744073709551616 * a1 + 340282366920938463463374607431768211456 * a2 + 6277101735386680763835789423207666416102355444464034512896 * a3) * w = s0 + 18446744073709551616 * s1 + 340282366920938463463374607431768211456 * s2 + 6277101735386680763835789423207666416102355444464034512896 * s3 + 115792089237316195423570985008687907853269984665640564039457584007913129639936 * c4 := by
  rw [Nat.add_mul, Nat.add_mul, Nat.add_mul, Nat.mul_assoc, Nat.mul_assoc, Nat.mul_assoc, ← e0, ← e1, ← e2, ← e3]
  omega
def mulHi (x y : Nat) : Nat := x * y / 18446744073709551616
def mulLo (x y : Nat) : Nat := x * y % 18446744073709551616
theorem mulHi_le (x y : Nat) (hx : x < 18446744073709551616) (hy : y < 18446744073709551616) : mulHi x y ≤ 18446744073709551616 - 2 := by
  have h : x * y ≤ (18446744073709551616 - 1) * (18446744073709551616 - 1) := Nat.mul_le_mul (by omega) (by omega)
  unfold mulHi; omega
theorem mulLoHi (x y : Nat) : mulLo x y + 18446744073709551616 * mulHi x y = x * y := Nat.mod_add_div _ _
theorem mulLo_lt (x y : Nat) : mulLo x y < 18446744073709551616 := Nat.mod_lt _ (by decide)
/-- The words of a number times a word, and the word above them. -/
theorem mulWord_limbs (A v : Nat) (hA : A < 115792089237316195423570985008687907853269984665640564039457584007913129639936) (hv : v < 18446744073709551616) : ∃ o0 o1 o2 o3 c1 c2 c3 c4 : Nat,
    (mulLo (limb 0 A) v + 0 + 0) % 18446744073709551616 = limb 0 (lo256 (A * v)) ∧ (mulLo (limb 0 A) v + 0 + 0) / 18446744073709551616 = o0 ∧ mulHi (limb 0 A) v + o0 = c1 ∧ c1 < 18446744073709551616 ∧
    (mulLo (limb 1 A) v + c1 + 0) % 18446744073709551616 = limb 1 (lo256 (A * v)) ∧ (mulLo (limb 1 A) v + c1 + 0) / 18446744073709551616 = o1 ∧ mulHi (limb 1 A) v + o1 = c2 ∧ c2 < 18446744073709551616 ∧
    (mulLo (limb 2 A) v + c2 + 0) % 18446744073709551616 = limb 2 (lo256 (A * v)) ∧ (mulLo (limb 2 A) v + c2 + 0) / 18446744073709551616 = o2 ∧ mulHi (limb 2 A) v + o2 = c3 ∧ c3 < 18446744073709551616 ∧
    (mulLo (limb 3 A) v + c3 + 0) % 18446744073709551616 = limb 3 (lo256 (A * v)) ∧ (mulLo (limb 3 A) v + c3 + 0) / 18446744073709551616 = o3 ∧ mulHi (limb 3 A) v + o3 = c4 ∧ c4 < 18446744073709551616 ∧
    c4 = hi256 (A * v) := by
  obtain ⟨o0, h0⟩ : ∃ o, o = (mulLo (limb 0 A) v + 0 + 0) / 18446744073709551616 := ⟨_, rfl⟩
  have b0 : mulHi (limb 0 A) v + o0 < 18446744073709551616 := by
    have := mulHi_le (limb 0 A) v (limb_lt _ _) hv; have := mulLo_lt (limb 0 A) v; omega
  obtain ⟨c1, k1⟩ : ∃ c, c = mulHi (limb 0 A) v + o0 := ⟨_, rfl⟩
  obtain ⟨o1, h1⟩ : ∃ o, o = (mulLo (limb 1 A) v + c1 + 0) / 18446744073709551616 := ⟨_, rfl⟩
  have b1 : mulHi (limb 1 A) v + o1 < 18446744073709551616 := by
    have := mulHi_le (limb 1 A) v (limb_lt _ _) hv; have := mulLo_lt (limb 1 A) v; rw [← k1] at b0; clear h0 k1; omega
  obtain ⟨c2, k2⟩ : ∃ c, c = mulHi (limb 1 A) v + o1 := ⟨_, rfl⟩
  obtain ⟨o2, h2⟩ : ∃ o, o = (mulLo (limb 2 A) v + c2 + 0) / 18446744073709551616 := ⟨_, rfl⟩
  have b2 : mulHi (limb 2 A) v + o2 < 18446744073709551616 := by
    have := mulHi_le (limb 2 A) v (limb_lt _ _) hv; have := mulLo_lt (limb 2 A) v; rw [← k2] at b1; clear h0 k1 h1 k2; omega
  obtain ⟨c3, k3⟩ : ∃ c, c = mulHi (limb 2 A) v + o2 := ⟨_, rfl⟩
  obtain ⟨o3, h3⟩ : ∃ o, o = (mulLo (limb 3 A) v + c3 + 0) / 18446744073709551616 := ⟨_, rfl⟩
  have b3 : mulHi (limb 3 A) v + o3 < 18446744073709551616 := by
    have := mulHi_le (limb 3 A) v (limb_lt _ _) hv; have := mulLo_lt (limb 3 A) v; rw [← k3] at b2; clear h0 k1 h1 k2 h2 k3; omega
  obtain ⟨c4, k4⟩ : ∃ c, c = mulHi (limb 3 A) v + o3 := ⟨_, rfl⟩
  rw [← k1] at b0; rw [← k2] at b1; rw [← k3] at b2; rw [← k4] at b3
  have d0 := dm64 (mulLo (limb 0 A) v + 0 + 0); rw [← h0] at d0
  have d1 := dm64 (mulLo (limb 1 A) v + c1 + 0); rw [← h1] at d1
  have d2 := dm64 (mulLo (limb 2 A) v + c2 + 0); rw [← h2] at d2
  have d3 := dm64 (mulLo (limb 3 A) v + c3 + 0); rw [← h3] at d3
  have key := key_mul (limb 0 A) (limb 1 A) (limb 2 A) (limb 3 A) v _ _ _ _ _ _ _ _ _ _ _ _ o0 o1 o2 o3 c1 c2 c3 c4 (mulLoHi _ _) (mulLoHi _ _) (mulLoHi _ _) (mulLoHi _ _) d0 d1 d2 d3 k1 k2 k3 k4
  rw [← limbs_sum A hA] at key
  have hm : ∀ x : Nat, x % 18446744073709551616 < 18446744073709551616 := fun x => Nat.mod_lt _ (by decide)
  have g := limbs_of _ _ _ _ (hm (mulLo (limb 0 A) v + 0 + 0)) (hm (mulLo (limb 1 A) v + c1 + 0)) (hm (mulLo (limb 2 A) v + c2 + 0)) (hm (mulLo (limb 3 A) v + c3 + 0)) _ rfl
  have s := split_of _ _ c4 g.2.2.2.2 key
  have ea : lo256 (A * v) = _ := s.1
  rw [ea]
  exact ⟨o0, o1, o2, o3, c1, c2, c3, c4, g.1, h0.symm, k1.symm, b0, g.2.1, h1.symm, k2.symm, b1, g.2.2.1, h2.symm, k3.symm, b2, g.2.2.2.1, h3.symm, k4.symm, b3, s.2.symm⟩
def lowSum (L : Nat → Nat) : Nat → Nat
  | 0 => 0
  | k + 1 => lowSum L k + 18446744073709551616 ^ k * L k
theorem lowSum_congr (L L' : Nat → Nat) : ∀ k, (∀ i, i < k → L i = L' i) → lowSum L k = lowSum L' k
  | 0, _ => rfl
  | k + 1, h => by rw [lowSum, lowSum, lowSum_congr L L' k (fun i hi => h i (by omega)), h k (by omega)]
/-- What holds after k words of b: the words done, and what stands above them. -/
def MulInv (A B k : Nat) (L : Nat → Nat) (H : Nat) : Prop := (∀ i, i < k → L i < 18446744073709551616) ∧ lowSum L k + 18446744073709551616 ^ k * H = A * (B % 18446744073709551616 ^ k)
theorem mulInv_zero (A B : Nat) : MulInv A B 0 (fun _ => 0) 0 := ⟨fun i hi => by omega, by simp [lowSum, Nat.mod_one]⟩
theorem mulInv_step (A B k : Nat) (L : Nat → Nat) (H l H' : Nat) (h : MulInv A B k L H) (hl : l < 18446744073709551616) (e : H + A * limb k B = l + 18446744073709551616 * H') :
    MulInv A B (k + 1) (fun i => if i = k then l else L i) H' := by
  refine ⟨fun i hi => ?_, ?_⟩
  · by_cases hik : i = k
    · simp [hik, hl]
    · simp [hik]; exact h.1 i (by omega)
  · have e1 : lowSum (fun i => if i = k then l else L i) (k + 1) = lowSum L k + 18446744073709551616 ^ k * l := by
      rw [lowSum, lowSum_congr _ L k (fun i hi => by simp [show i ≠ k by omega])]; simp
    have e2 : B % 18446744073709551616 ^ (k + 1) = B % 18446744073709551616 ^ k + 18446744073709551616 ^ k * limb k B := by
      rw [Nat.mod_pow_succ]; rfl
    have e3 := h.2
    rw [e1, e2, Nat.mul_add, ← e3, Nat.pow_succ, Nat.mul_assoc, Nat.add_assoc, Nat.add_assoc, ← Nat.mul_add, ← e, Nat.mul_add]
    rw [Nat.mul_left_comm A]
theorem mulInv_end (A B : Nat) (hB : B < 115792089237316195423570985008687907853269984665640564039457584007913129639936) (L : Nat → Nat) (H : Nat) (h : MulInv A B 4 L H) :
    (∀ i, i < 4 → L i = limb i (lo256 (A * B))) ∧ H = hi256 (A * B) := by
  have e4 : (18446744073709551616 : Nat) ^ 4 = 115792089237316195423570985008687907853269984665640564039457584007913129639936 := by decide
  have e3 : (18446744073709551616 : Nat) ^ 3 = 6277101735386680763835789423207666416102355444464034512896 := by decide
  have e2 : (18446744073709551616 : Nat) ^ 2 = 340282366920938463463374607431768211456 := by decide
  have h2 := h.2
  rw [e4, Nat.mod_eq_of_lt hB] at h2
  simp only [lowSum, e3, e2, Nat.pow_one, Nat.pow_zero, Nat.one_mul, Nat.zero_add] at h2
  have g := limbs_of _ _ _ _ (h.1 0 (by decide)) (h.1 1 (by decide)) (h.1 2 (by decide)) (h.1 3 (by decide)) _ rfl
  have s := split_of (A * B) _ H g.2.2.2.2 h2.symm
  have ea : lo256 (A * B) = _ := s.1
  rw [ea]
  refine ⟨?_, s.2.symm⟩
  intro i hi
  have hi4 : i = 0 ∨ i = 1 ∨ i = 2 ∨ i = 3 := by omega
  rcases hi4 with rfl | rfl | rfl | rfl
  · exact g.1
  · exact g.2.1
  · exact g.2.2.1
  · exact g.2.2.2.1
end Go.Proofs.YtfbfenljfdnggaaGreatDoor
/- Small facts about worlds: a block that holds an array of four words, and what becomes of it under the walk's steps. No program is named here. -/
namespace Go.Proofs.YtfbfenljfdnggaaGreatDoor
open Go.RowKit
/-- Block b is an array of four words, f 0 to f 3. -/
def Blk (w : World) (t : TypeId) (b : Nat) (f : Nat → Nat) : Prop :=
  w.heap[b]? = some (.cells #[.int .u64 ((f 0 : Nat) : Int), .int .u64 ((f 1 : Nat) : Int), .int .u64 ((f 2 : Nat) : Int), .int .u64 ((f 3 : Nat) : Int)] t)
theorem Blk.lt {w : World} {t : TypeId} {b : Nat} {f : Nat → Nat} (h : Blk w t b f) : b < w.heap.size := by
  rcases Nat.lt_or_ge b w.heap.size with hl | hl
  · exact hl
  · unfold Blk at h; rw [Array.getElem?_eq_none hl] at h; cases h
theorem Blk.cell {w : World} {t : TypeId} {b : Nat} {f : Nat → Nat} (h : Blk w t b f) : ∀ i, i < 4 → w.cell? ⟨b, i, none⟩ = some (.int .u64 ((f i : Nat) : Int)) := by
  intro i hi
  unfold Blk at h
  have hi4 : i = 0 ∨ i = 1 ∨ i = 2 ∨ i = 3 := by omega
  rcases hi4 with rfl | rfl | rfl | rfl <;> simp [World.cell?, h]
theorem Blk.frozen {w : World} {t : TypeId} {b : Nat} {f : Nat → Nat} (h : Blk w t b f) : ∀ o, w.frozen? ⟨b, o, none⟩ = false := by
  intro o
  unfold Blk at h
  simp [World.frozen?, h]
theorem Blk.below {w w' : World} {t : TypeId} {b n : Nat} {f : Nat → Nat} (h : Blk w t b f) (hb : Below n w w') (hn : b < n) : Blk w' t b f := by
  unfold Blk at *; rw [hb.block b hn]; exact h
theorem Blk.belowAll {w w' : World} {t : TypeId} {b : Nat} {f : Nat → Nat} (h : Blk w t b f) (hb : Below w.heap.size w w') : Blk w' t b f := h.below hb h.lt
theorem Blk.drew {w : World} {t : TypeId} {b : Nat} {f : Nat → Nat} (h : Blk w t b f) : Blk w.drew t b f := h
theorem Blk.alloc {w : World} {t : TypeId} {b : Nat} {f : Nat → Nat} (h : Blk w t b f) (o : Obj) : Blk (w.alloc o) t b f := by
  unfold Blk at *; rw [Below.heap_alloc w o b (Blk.lt h)]; exact h
theorem Blk.new (w : World) (t : TypeId) (f : Nat → Nat) : Blk (w.alloc (.cells #[.int .u64 ((f 0 : Nat) : Int), .int .u64 ((f 1 : Nat) : Int), .int .u64 ((f 2 : Nat) : Int), .int .u64 ((f 3 : Nat) : Int)] t)) t w.heap.size f := by
  unfold Blk; show (w.heap.push _)[w.heap.size]? = _; simp
theorem Blk.newAt (w : World) (t : TypeId) (n : Nat) (f : Nat → Nat) (hn : n = w.heap.size) : Blk (w.alloc (.cells #[.int .u64 ((f 0 : Nat) : Int), .int .u64 ((f 1 : Nat) : Int), .int .u64 ((f 2 : Nat) : Int), .int .u64 ((f 3 : Nat) : Int)] t)) t n f := by
  subst hn; exact Blk.new w t f
theorem Blk.other {w : World} {t : TypeId} {b : Nat} {f : Nat → Nat} (h : Blk w t b f) {a : Addr} (ha : b ≠ a.block) (v : Value) : Blk (w.setCell a v) t b f := by
  unfold Blk at *; rw [Below.heap_setCell w a v b ha]; exact h
theorem Blk.congr {w : World} {t : TypeId} {b : Nat} {f g : Nat → Nat} (h : Blk w t b f) (hg : ∀ i, i < 4 → g i = f i) : Blk w t b g := by
  unfold Blk at *; rw [hg 0 (by decide), hg 1 (by decide), hg 2 (by decide), hg 3 (by decide)]; exact h
theorem Blk.set {w : World} {t : TypeId} {b : Nat} {f : Nat → Nat} (h : Blk w t b f) (k : Nat) (hk : k < 4) (v : Nat) : Blk (w.setCell ⟨b, k, none⟩ (.int .u64 ((v : Nat) : Int))) t b (fun i => if i = k then v else f i) := by
  unfold Blk at *
  have e : (w.setCell ⟨b, k, none⟩ (.int .u64 ((v : Nat) : Int))).heap[b]? = some (.cells (#[.int .u64 ((f 0 : Nat) : Int), .int .u64 ((f 1 : Nat) : Int), .int .u64 ((f 2 : Nat) : Int), .int .u64 ((f 3 : Nat) : Int)].setIfInBounds k (.int .u64 ((v : Nat) : Int))) t) := by
    simp [World.setCell, Array.getElem?_modify, h]
  rw [e]
  have hk4 : k = 0 ∨ k = 1 ∨ k = 2 ∨ k = 3 := by omega
  rcases hk4 with rfl | rfl | rfl | rfl <;> simp
theorem Blk.set4 {w : World} {t : TypeId} {b : Nat} {f : Nat → Nat} (h : Blk w t b f) (g : Nat → Nat) :
    Blk ((((w.setCell ⟨b, 0, none⟩ (.int .u64 ((g 0 : Nat) : Int))).setCell ⟨b, 1, none⟩ (.int .u64 ((g 1 : Nat) : Int))).setCell ⟨b, 2, none⟩ (.int .u64 ((g 2 : Nat) : Int))).setCell ⟨b, 3, none⟩ (.int .u64 ((g 3 : Nat) : Int))) t b g := by
  refine ((((h.set 0 (by decide) (g 0)).set 1 (by decide) (g 1)).set 2 (by decide) (g 2)).set 3 (by decide) (g 3)).congr ?_
  intro i hi
  have hi4 : i = 0 ∨ i = 1 ∨ i = 2 ∨ i = 3 := by omega
  rcases hi4 with rfl | rfl | rfl | rfl <;> rfl
theorem bcell {W w1 : World} (hb : Below W.heap.size W w1) : (∀ b o, b < W.heap.size → w1.cell? ⟨b, o, none⟩ = W.cell? ⟨b, o, none⟩) ∧ (∀ b o, b < W.heap.size → w1.frozen? ⟨b, o, none⟩ = W.frozen? ⟨b, o, none⟩) :=
  ⟨fun b o h => hb.cell (p := ⟨b, o, none⟩) h, fun b o h => hb.frozen (p := ⟨b, o, none⟩) h⟩
theorem acell {w : World} {n : Nat} (hn : n ≤ w.heap.size) : (∀ ob b o, b < n → (w.alloc ob).cell? ⟨b, o, none⟩ = w.cell? ⟨b, o, none⟩) ∧ (∀ ob b o, b < n → (w.alloc ob).frozen? ⟨b, o, none⟩ = w.frozen? ⟨b, o, none⟩) :=
  ⟨fun ob b o h => (((Below.refl w.heap.size w).alloc (Nat.le_refl _) ob).cell (p := ⟨b, o, none⟩) (Nat.lt_of_lt_of_le h hn)), fun ob b o h => (((Below.refl w.heap.size w).alloc (Nat.le_refl _) ob).frozen (p := ⟨b, o, none⟩) (Nat.lt_of_lt_of_le h hn))⟩
/-- The same of cells alone, as a region that draws its order wants it. -/
theorem cells_below {W w1 : World} {b : Nat} {f : Nat → Nat} (hb : Below W.heap.size W w1) (h : ∀ i, i < 4 → W.cell? ⟨b, i, none⟩ = some (.int .u64 ((f i : Nat) : Int))) :
    ∀ i, i < 4 → w1.cell? ⟨b, i, none⟩ = some (.int .u64 ((f i : Nat) : Int)) := by
  intro i hi
  have hlt : b < W.heap.size := World.block_lt_of_cell? W ⟨b, 0, none⟩ (h 0 (by decide))
  rw [hb.cell (p := ⟨b, i, none⟩) hlt]
  exact h i hi
theorem cells_alloc {W : World} {b : Nat} {f : Nat → Nat} (o : Obj) (h : ∀ i, i < 4 → W.cell? ⟨b, i, none⟩ = some (.int .u64 ((f i : Nat) : Int))) :
    ∀ i, i < 4 → (W.alloc o).cell? ⟨b, i, none⟩ = some (.int .u64 ((f i : Nat) : Int)) :=
  cells_below ((Below.refl _ _).alloc (Nat.le_refl _) o) h
theorem cells_far {W : World} {b : Nat} {f : Nat → Nat} {p : Addr} (v : Value) (hp : p.block ≠ b) (h : ∀ i, i < 4 → W.cell? ⟨b, i, none⟩ = some (.int .u64 ((f i : Nat) : Int))) :
    ∀ i, i < 4 → (W.setCell p v).cell? ⟨b, i, none⟩ = some (.int .u64 ((f i : Nat) : Int)) := by
  intro i hi
  rw [World.cell?_setCell_other W p ⟨b, i, none⟩ v (fun e => hp (by rw [e]))]
  exact h i hi
theorem cells_far4 {W : World} {b r : Nat} {f : Nat → Nat} (v0 v1 v2 v3 : Value) (hp : r ≠ b) (h : ∀ i, i < 4 → W.cell? ⟨b, i, none⟩ = some (.int .u64 ((f i : Nat) : Int))) :
    ∀ i, i < 4 → ((((W.setCell ⟨r, 0, none⟩ v0).setCell ⟨r, 1, none⟩ v1).setCell ⟨r, 2, none⟩ v2).setCell ⟨r, 3, none⟩ v3).cell? ⟨b, i, none⟩ = some (.int .u64 ((f i : Nat) : Int)) :=
  cells_far v3 hp (cells_far v2 hp (cells_far v1 hp (cells_far v0 hp h)))
/-- Block b is an array of n words, f 0 and on. -/
def BlkN (w : World) (t : TypeId) (b n : Nat) (f : Nat → Nat) : Prop :=
  ∃ c : Array Value, w.heap[b]? = some (.cells c t) ∧ c.size = n ∧ ∀ i, i < n → c[i]? = some (.int .u64 ((f i : Nat) : Int))
section
variable {w w' : World} {t : TypeId} {b n : Nat} {f g : Nat → Nat}
theorem BlkN.lt (h : BlkN w t b n f) : b < w.heap.size := by
  obtain ⟨c, hc, _⟩ := h
  rcases Nat.lt_or_ge b w.heap.size with hl | hl
  · exact hl
  · rw [Array.getElem?_eq_none hl] at hc; cases hc
theorem BlkN.cell (h : BlkN w t b n f) : ∀ i, i < n → w.cell? ⟨b, i, none⟩ = some (.int .u64 ((f i : Nat) : Int)) := by
  obtain ⟨c, hc, hs, hf⟩ := h
  intro i hi
  simp [World.cell?, hc, hf i hi]
theorem BlkN.frozen (h : BlkN w t b n f) : ∀ o, w.frozen? ⟨b, o, none⟩ = false := by
  obtain ⟨c, hc, _⟩ := h
  intro o
  simp [World.frozen?, hc]
theorem BlkN.below {m : Nat} (h : BlkN w t b n f) (hb : Below m w w') (hm : b < m) : BlkN w' t b n f := by
  obtain ⟨c, hc, hs⟩ := h
  exact ⟨c, by rw [hb.block b hm]; exact hc, hs⟩
theorem BlkN.belowAll (h : BlkN w t b n f) (hb : Below w.heap.size w w') : BlkN w' t b n f := h.below hb h.lt
theorem BlkN.drew (h : BlkN w t b n f) : BlkN w.drew t b n f := h
theorem BlkN.alloc (h : BlkN w t b n f) (o : Obj) : BlkN (w.alloc o) t b n f := h.below ((Below.refl _ _).alloc (Nat.le_refl _) o) h.lt
theorem BlkN.newAt (w : World) (t : TypeId) (b n : Nat) (f : Nat → Nat) (c : Array Value) (hb : b = w.heap.size) (hs : c.size = n) (hf : ∀ i, i < n → c[i]? = some (.int .u64 ((f i : Nat) : Int))) : BlkN (w.alloc (.cells c t)) t b n f :=
  ⟨c, by subst hb; show (w.heap.push _)[w.heap.size]? = _; simp, hs, hf⟩
theorem BlkN.other (h : BlkN w t b n f) {a : Addr} (ha : b ≠ a.block) (v : Value) : BlkN (w.setCell a v) t b n f := by
  obtain ⟨c, hc, hs⟩ := h
  exact ⟨c, by rw [Below.heap_setCell w a v b ha]; exact hc, hs⟩
theorem BlkN.congr (h : BlkN w t b n f) (hg : ∀ i, i < n → g i = f i) : BlkN w t b n g := by
  obtain ⟨c, hc, hs, hf⟩ := h
  exact ⟨c, hc, hs, fun i hi => by rw [hf i hi, hg i hi]⟩
theorem BlkN.set (h : BlkN w t b n f) (k : Nat) (hk : k < n) (v : Nat) : BlkN (w.setCell ⟨b, k, none⟩ (.int .u64 ((v : Nat) : Int))) t b n (fun i => if i = k then v else f i) := by
  obtain ⟨c, hc, hs, hf⟩ := h
  refine ⟨c.setIfInBounds k (.int .u64 ((v : Nat) : Int)), ?_, by simp [hs], ?_⟩
  · simp [World.setCell, Array.getElem?_modify, hc]
  · intro i hi
    by_cases e : i = k
    · subst e; simp [hs, hi]
    · simp [e, Ne.symm (fun h => e h), hf i hi]
end
end Go.Proofs.YtfbfenljfdnggaaGreatDoor
/- Small facts with which a statement's walk goes from call to call: nothing that was there is changed, and what lies in a variable is still there. -/
namespace Go.Proofs.YtfbfenljfdnggaaGreatDoor
open Go.RowKit
section
variable {w W w' : World}
theorem bAlloc (h : Below w.heap.size w W) (o : Obj) : Below w.heap.size w (W.alloc o) := h.alloc h.size o
theorem bStep (h : Below w.heap.size w W) (hb : Below W.heap.size W w') : Below w.heap.size w w' := h.trans (hb.mono h.size)
theorem bSet4 (h : Below w.heap.size w W) {r : Nat} (hr : w.heap.size ≤ r) (v0 v1 v2 v3 : Value) :
    Below w.heap.size w ((((W.setCell ⟨r, 0, none⟩ v0).setCell ⟨r, 1, none⟩ v1).setCell ⟨r, 2, none⟩ v2).setCell ⟨r, 3, none⟩ v3) :=
  (((h.setCell hr _).setCell hr _).setCell hr _).setCell hr _
theorem Blk.other4 {t : TypeId} {b r : Nat} {f : Nat → Nat} (h : Blk W t b f) (hr : b ≠ r) (v0 v1 v2 v3 : Value) :
    Blk ((((W.setCell ⟨r, 0, none⟩ v0).setCell ⟨r, 1, none⟩ v1).setCell ⟨r, 2, none⟩ v2).setCell ⟨r, 3, none⟩ v3) t b f :=
  (((h.other hr _).other hr _).other hr _).other hr _
theorem acell2 {w : World} : (∀ o1 o2 b o, b < w.heap.size → ((w.alloc o1).alloc o2).cell? ⟨b, o, none⟩ = w.cell? ⟨b, o, none⟩) ∧ (∀ o1 o2 b o, b < w.heap.size → ((w.alloc o1).alloc o2).frozen? ⟨b, o, none⟩ = w.frozen? ⟨b, o, none⟩) := by
  have hb : ∀ o1 o2, Below w.heap.size w ((w.alloc o1).alloc o2) := fun o1 o2 => ((Below.refl _ _).alloc (Nat.le_refl _) _).alloc (by simp) _
  exact ⟨fun o1 o2 b o h => (hb o1 o2).cell (p := ⟨b, o, none⟩) h, fun o1 o2 b o h => (hb o1 o2).frozen (p := ⟨b, o, none⟩) h⟩
end
end Go.Proofs.YtfbfenljfdnggaaGreatDoor
/- Bounds of a word out of its being well formed, and back. -/
namespace Go.Proofs.YtfbfenljfdnggaaGreatDoor
theorem u64_ends : IntKind.u64.min = 0 ∧ IntKind.u64.max = 18446744073709551615 := by decide
theorem bounds_u64' {x : Int} (h : (Lit.int .u64 x).wf = true) : 0 ≤ x ∧ x ≤ 18446744073709551615 := by
  simp only [Lit.wf, u64_ends.1, u64_ends.2, Bool.and_eq_true, decide_eq_true_eq] at h
  exact h
theorem wf_limb (n : Nat) (h : n < 18446744073709551616) : (Lit.int .u64 (n : Int)).wf = true := by
  simp only [Lit.wf, u64_ends.1, u64_ends.2, Bool.and_eq_true, decide_eq_true_eq]
  omega
end Go.Proofs.YtfbfenljfdnggaaGreatDoor

/- What math/bits.Add64 and Sub64 answer, and what word.Add, word.Sub and word.Less do. -/
namespace Go.Proofs.YtfbfenljfdnggaaGreatDoor
open Go.RowKit
theorem add64_run (x y c : Nat) (hc : c ≤ 1) (w : World) :
    (callFunc 153 #[.int .u64 x, .int .u64 y, .int .u64 c]).run Tryz.prog w =
      .ok (.value (.tuple #[.int .u64 (((x + y + c) % 18446744073709551616 : Nat) : Int), .int .u64 (((x + y + c) / 18446744073709551616 : Nat) : Int)])) w := by
  rw [run_callFunc_extern Tryz.func153 (by kernel_rfl) (by kernel_rfl) (by kernel_rfl) (e := add64Entry) (by kernel_rfl), run_add64 x y c (by omega) (by omega) (by omega) (by omega)]
  simp only [Result.andThen]
  congr 5 <;> omega
def sub64Row : Array Value → Sem Value := (Extern.MathBitsCarry.rows[1]'(by decide)).2
theorem sub64_raw (x y b : Nat) (hb : b ≤ 1) (w : World) :
    (sub64Row #[.int .u64 x, .int .u64 y, .int .u64 b]).run Tryz.prog w =
      .ok (.tuple #[.int .u64 (((x + 18446744073709551616 - y - b) % 18446744073709551616 : Nat) : Int), .int .u64 ((if x < y + b then 1 else 0 : Nat) : Int)]) w := by
  have : b = 0 ∨ b = 1 := by omega
  rcases this with rfl | rfl <;> rfl
theorem sub64_run (x y c : Nat) (hc : c ≤ 1) (w : World) :
    (callFunc 172 #[.int .u64 x, .int .u64 y, .int .u64 c]).run Tryz.prog w =
      .ok (.value (.tuple #[.int .u64 (((x + 18446744073709551616 - y - c) % 18446744073709551616 : Nat) : Int), .int .u64 ((if x < y + c then 1 else 0 : Nat) : Int)])) w := by
  rw [run_callFunc_extern Tryz.func172 (by kernel_rfl) (by kernel_rfl) (by kernel_rfl) (e := sub64Row) (by kernel_rfl), sub64_raw x y c hc]
  rfl
set_option maxHeartbeats 1000000 in
theorem add_walk (a0 a1 a2 a3 b0 b1 b2 b3 s0 s1 s2 s3 c1 c2 c3 c4 : Nat) (w : World)
    (e0 : ∀ w, (callFunc 153 #[.int .u64 a0, .int .u64 b0, .int .u64 0]).run Tryz.prog w = .ok (.value (.tuple #[.int .u64 s0, .int .u64 c1])) w)
    (e1 : ∀ w, (callFunc 153 #[.int .u64 a1, .int .u64 b1, .int .u64 c1]).run Tryz.prog w = .ok (.value (.tuple #[.int .u64 s1, .int .u64 c2])) w)
    (e2 : ∀ w, (callFunc 153 #[.int .u64 a2, .int .u64 b2, .int .u64 c2]).run Tryz.prog w = .ok (.value (.tuple #[.int .u64 s2, .int .u64 c3])) w)
    (e3 : ∀ w, (callFunc 153 #[.int .u64 a3, .int .u64 b3, .int .u64 c3]).run Tryz.prog w = .ok (.value (.tuple #[.int .u64 s3, .int .u64 c4])) w) :
    Calls Tryz.prog 191 #[.agg #[.int .u64 a0, .int .u64 a1, .int .u64 a2, .int .u64 a3], .agg #[.int .u64 b0, .int .u64 b1, .int .u64 b2, .int .u64 b3]] w fun e w' =>
      e = .returned (.tuple #[.agg #[.int .u64 s0, .int .u64 s1, .int .u64 s2, .int .u64 s3], .bool ((c4 : Int) != 0)]) ∧ Below w.heap.size w w' := by
  go_enter Tryz.func191, Tryz.ntmps191
  go_wp2
  refine wp_loop_rounds 5 ?_
  iterate 4 (rw [rounds_succ]; go_wp2; go_region; go_wp2)
  rw [rounds_succ]
  go_wp2
  refine bodyPost_ret (v := .tuple #[.agg #[.int .u64 s0, .int .u64 s1, .int .u64 s2, .int .u64 s3], .bool ((c4 : Int) != 0)]) (by simp [results, Tryz.results191, go_sem]) rfl ⟨rfl, ?_⟩
  repeat (first | with_reducible exact Below.refl _ _ | with_reducible refine Below.drew ?_ | with_reducible refine Below.alloc ?_ (by first | omega | (simp; omega) | simp) _)
set_option maxHeartbeats 1000000 in
theorem sub_walk (a0 a1 a2 a3 b0 b1 b2 b3 s0 s1 s2 s3 c1 c2 c3 c4 : Nat) (w : World)
    (e0 : ∀ w, (callFunc 172 #[.int .u64 a0, .int .u64 b0, .int .u64 0]).run Tryz.prog w = .ok (.value (.tuple #[.int .u64 s0, .int .u64 c1])) w)
    (e1 : ∀ w, (callFunc 172 #[.int .u64 a1, .int .u64 b1, .int .u64 c1]).run Tryz.prog w = .ok (.value (.tuple #[.int .u64 s1, .int .u64 c2])) w)
    (e2 : ∀ w, (callFunc 172 #[.int .u64 a2, .int .u64 b2, .int .u64 c2]).run Tryz.prog w = .ok (.value (.tuple #[.int .u64 s2, .int .u64 c3])) w)
    (e3 : ∀ w, (callFunc 172 #[.int .u64 a3, .int .u64 b3, .int .u64 c3]).run Tryz.prog w = .ok (.value (.tuple #[.int .u64 s3, .int .u64 c4])) w) :
    Calls Tryz.prog 190 #[.agg #[.int .u64 a0, .int .u64 a1, .int .u64 a2, .int .u64 a3], .agg #[.int .u64 b0, .int .u64 b1, .int .u64 b2, .int .u64 b3]] w fun e w' =>
      e = .returned (.tuple #[.agg #[.int .u64 s0, .int .u64 s1, .int .u64 s2, .int .u64 s3], .bool ((c4 : Int) != 0)]) ∧ Below w.heap.size w w' := by
  go_enter Tryz.func190, Tryz.ntmps190
  go_wp2
  refine wp_loop_rounds 5 ?_
  iterate 4 (rw [rounds_succ]; go_wp2; go_region; go_wp2)
  rw [rounds_succ]
  go_wp2
  refine bodyPost_ret (v := .tuple #[.agg #[.int .u64 s0, .int .u64 s1, .int .u64 s2, .int .u64 s3], .bool ((c4 : Int) != 0)]) (by simp [results, Tryz.results190, go_sem]) rfl ⟨rfl, ?_⟩
  repeat (first | with_reducible exact Below.refl _ _ | with_reducible refine Below.drew ?_ | with_reducible refine Below.alloc ?_ (by first | omega | (simp; omega) | simp) _)
theorem run_pair_eq {f : Nat} {args : Array Value} {a b a' b' : Nat} (ha : a = a') (hb : b = b')
    (h : ∀ w, (callFunc f args).run Tryz.prog w = .ok (.value (.tuple #[.int .u64 a, .int .u64 b])) w) :
    ∀ w, (callFunc f args).run Tryz.prog w = .ok (.value (.tuple #[.int .u64 a', .int .u64 b'])) w := by
  subst ha; subst hb; exact h
/-- word.Add: the sum's lowest 256 bits, and whether it is 2^256 or more; nothing that was there is changed. -/
theorem add_any (A B : Nat) (hA : A < 115792089237316195423570985008687907853269984665640564039457584007913129639936) (hB : B < 115792089237316195423570985008687907853269984665640564039457584007913129639936) (w : World) :
    Calls Tryz.prog 191 #[.agg #[.int .u64 ((limb 0 (A) : Nat) : Int), .int .u64 ((limb 1 (A) : Nat) : Int), .int .u64 ((limb 2 (A) : Nat) : Int), .int .u64 ((limb 3 (A) : Nat) : Int)], .agg #[.int .u64 ((limb 0 (B) : Nat) : Int), .int .u64 ((limb 1 (B) : Nat) : Int), .int .u64 ((limb 2 (B) : Nat) : Int), .int .u64 ((limb 3 (B) : Nat) : Int)]] w fun e w' => e = .returned (.tuple #[.agg #[.int .u64 ((limb 0 (add256 A B) : Nat) : Int), .int .u64 ((limb 1 (add256 A B) : Nat) : Int), .int .u64 ((limb 2 (add256 A B) : Nat) : Int), .int .u64 ((limb 3 (add256 A B) : Nat) : Int)], .bool (over256 A B)]) ∧ Below w.heap.size w w' := by
  obtain ⟨c1, c2, c3, c4, p0, q0, r0, p1, q1, r1, p2, q2, r2, p3, q3, r3, hc⟩ := add_limbs A B hA hB
  have ho : over256 A B = ((c4 : Int) != 0) := by
    unfold over256; rw [Bool.eq_iff_iff]; simp only [decide_eq_true_eq, bne_iff_ne]; omega
  rw [ho]
  exact add_walk _ _ _ _ _ _ _ _ _ _ _ _ c1 c2 c3 c4 w (run_pair_eq p0 q0 fun w => add64_run _ _ 0 (by decide) w) (run_pair_eq p1 q1 fun w => add64_run _ _ _ r0 w)
    (run_pair_eq p2 q2 fun w => add64_run _ _ _ r1 w) (run_pair_eq p3 q3 fun w => add64_run _ _ _ r2 w)
/-- word.Sub: the difference modulo 2^256, and whether it is below 0. -/
theorem sub_any (A B : Nat) (hA : A < 115792089237316195423570985008687907853269984665640564039457584007913129639936) (hB : B < 115792089237316195423570985008687907853269984665640564039457584007913129639936) (w : World) :
    Calls Tryz.prog 190 #[.agg #[.int .u64 ((limb 0 (A) : Nat) : Int), .int .u64 ((limb 1 (A) : Nat) : Int), .int .u64 ((limb 2 (A) : Nat) : Int), .int .u64 ((limb 3 (A) : Nat) : Int)], .agg #[.int .u64 ((limb 0 (B) : Nat) : Int), .int .u64 ((limb 1 (B) : Nat) : Int), .int .u64 ((limb 2 (B) : Nat) : Int), .int .u64 ((limb 3 (B) : Nat) : Int)]] w fun e w' => e = .returned (.tuple #[.agg #[.int .u64 ((limb 0 (sub256 A B) : Nat) : Int), .int .u64 ((limb 1 (sub256 A B) : Nat) : Int), .int .u64 ((limb 2 (sub256 A B) : Nat) : Int), .int .u64 ((limb 3 (sub256 A B) : Nat) : Int)], .bool (below256 A B)]) ∧ Below w.heap.size w w' := by
  obtain ⟨c1, c2, c3, c4, p0, q0, r0, p1, q1, r1, p2, q2, r2, p3, q3, r3, hc⟩ := sub_limbs A B hA hB
  have ho : below256 A B = ((c4 : Int) != 0) := by
    unfold below256; rw [Bool.eq_iff_iff]; simp only [decide_eq_true_eq, bne_iff_ne]; omega
  rw [ho]
  exact sub_walk _ _ _ _ _ _ _ _ _ _ _ _ c1 c2 c3 c4 w (run_pair_eq p0 q0 fun w => sub64_run _ _ 0 (by decide) w) (run_pair_eq p1 q1 fun w => sub64_run _ _ _ r0 w)
    (run_pair_eq p2 q2 fun w => sub64_run _ _ _ r1 w) (run_pair_eq p3 q3 fun w => sub64_run _ _ _ r2 w)
end Go.Proofs.YtfbfenljfdnggaaGreatDoor
/- What math/bits.Mul64 answers, and what word.mulWord and word.Mul do. -/
namespace Go.Proofs.YtfbfenljfdnggaaGreatDoor
open Go.RowKit Go.Lib
theorem maskN (a : Nat) (ha : a < 18446744073709551616) : bits .and .u64 (a : Int) 4294967295 = ((a % 4294967296 : Nat) : Int) := by
  have h := bits_and_u64_nat a 4294967295 ha (by omega)
  have e : a &&& 4294967295 = a % 4294967296 := Nat.and_two_pow_sub_one_eq_mod a 32
  rw [e] at h
  exact h
theorem divN (a : Nat) : (a : Int) / 4294967296 = ((a / 4294967296 : Nat) : Int) := by omega
theorem mulN (a b : Nat) : (a : Int) * (b : Int) = ((a * b : Nat) : Int) := (Int.natCast_mul a b).symm
theorem addN (a b : Nat) : (a : Int) + (b : Int) = ((a + b : Nat) : Int) := (Int.natCast_add a b).symm
theorem wrapN (a : Nat) (ha : a < 18446744073709551616) : IntKind.u64.wrap (a : Int) = (a : Int) := by rw [IntKind.wrap_u64]; omega
theorem wrapM (a : Nat) : IntKind.u64.wrap (a : Int) = ((a % 18446744073709551616 : Nat) : Int) := by rw [IntKind.wrap_u64]; omega
set_option maxHeartbeats 1000000 in
/-- math/bits.Mul64: the product's upper and lower word. -/
theorem mul64_any (x y : Nat) (hx : x < 18446744073709551616) (hy : y < 18446744073709551616) (w : World) :
    Calls Tryz.prog 207 #[.int .u64 x, .int .u64 y] w fun e w' => e = .returned (.tuple #[.int .u64 ((mulHi x y : Nat) : Int), .int .u64 ((mulLo x y : Nat) : Int)]) ∧ w' = w := by
  unfold mulHi mulLo
  obtain ⟨bd, bt, bw, hhi⟩ := Lib.mul64_hi x y hx hy
  have ba := Lib.half_mul_le (a := x / 4294967296) (b := y / 4294967296) (by omega) (by omega)
  have bb := Lib.half_mul_le (a := x / 4294967296) (b := y % 4294967296) (by omega) (by omega)
  have bc := Lib.half_mul_le (a := x % 4294967296) (b := y / 4294967296) (by omega) (by omega)
  have ba' : x / 4294967296 * (y / 4294967296) < 18446744073709551616 := by omega
  have bb' : x / 4294967296 * (y % 4294967296) < 18446744073709551616 := by omega
  have bc' : x % 4294967296 * (y / 4294967296) < 18446744073709551616 := by omega
  have bh1 : x / 4294967296 * (y / 4294967296) + (x / 4294967296 * (y % 4294967296) + x % 4294967296 * (y % 4294967296) / 4294967296) / 4294967296 < 18446744073709551616 := by omega
  have bh : x / 4294967296 * (y / 4294967296) + (x / 4294967296 * (y % 4294967296) + x % 4294967296 * (y % 4294967296) / 4294967296) / 4294967296 + ((x / 4294967296 * (y % 4294967296) + x % 4294967296 * (y % 4294967296) / 4294967296) % 4294967296 + x % 4294967296 * (y / 4294967296)) / 4294967296 < 18446744073709551616 := by omega
  go_enter Tryz.func207, Tryz.ntmps207
  go_wp2
  simp only [maskN x hx, maskN y hy, divN, mulN, addN, wrapN _ bd, wrapN _ bb', wrapN _ bt, maskN _ bt, wrapN _ bc', wrapN _ bw, wrapN _ ba', wrapN _ bh1, wrapN _ bh, wrapM (x * y)]
  rw [hhi]
  go_ret2
  exact ⟨rfl, rfl⟩
set_option maxHeartbeats 2000000 in
theorem mulWord_walk (a0 a1 a2 a3 v h0 h1 h2 h3 l0 l1 l2 l3 s0 s1 s2 s3 o0 o1 o2 o3 c1 c2 c3 c4 : Nat) (w : World)
    (m0 : ∀ w, Calls Tryz.prog 207 #[.int .u64 a0, .int .u64 v] w fun e w' => e = .returned (.tuple #[.int .u64 h0, .int .u64 l0]) ∧ w' = w)
    (m1 : ∀ w, Calls Tryz.prog 207 #[.int .u64 a1, .int .u64 v] w fun e w' => e = .returned (.tuple #[.int .u64 h1, .int .u64 l1]) ∧ w' = w)
    (m2 : ∀ w, Calls Tryz.prog 207 #[.int .u64 a2, .int .u64 v] w fun e w' => e = .returned (.tuple #[.int .u64 h2, .int .u64 l2]) ∧ w' = w)
    (m3 : ∀ w, Calls Tryz.prog 207 #[.int .u64 a3, .int .u64 v] w fun e w' => e = .returned (.tuple #[.int .u64 h3, .int .u64 l3]) ∧ w' = w)
    (e0 : ∀ w, (callFunc 153 #[.int .u64 l0, .int .u64 0, .int .u64 0]).run Tryz.prog w = .ok (.value (.tuple #[.int .u64 s0, .int .u64 o0])) w)
    (e1 : ∀ w, (callFunc 153 #[.int .u64 l1, .int .u64 c1, .int .u64 0]).run Tryz.prog w = .ok (.value (.tuple #[.int .u64 s1, .int .u64 o1])) w)
    (e2 : ∀ w, (callFunc 153 #[.int .u64 l2, .int .u64 c2, .int .u64 0]).run Tryz.prog w = .ok (.value (.tuple #[.int .u64 s2, .int .u64 o2])) w)
    (e3 : ∀ w, (callFunc 153 #[.int .u64 l3, .int .u64 c3, .int .u64 0]).run Tryz.prog w = .ok (.value (.tuple #[.int .u64 s3, .int .u64 o3])) w)
    (k1 : IntKind.u64.wrap ((h0 : Int) + (o0 : Int)) = (c1 : Int)) (k2 : IntKind.u64.wrap ((h1 : Int) + (o1 : Int)) = (c2 : Int)) (k3 : IntKind.u64.wrap ((h2 : Int) + (o2 : Int)) = (c3 : Int)) (k4 : IntKind.u64.wrap ((h3 : Int) + (o3 : Int)) = (c4 : Int)) :
    Calls Tryz.prog 188 #[.agg #[.int .u64 a0, .int .u64 a1, .int .u64 a2, .int .u64 a3], .int .u64 v] w fun e w' =>
      e = .returned (.tuple #[.agg #[.int .u64 s0, .int .u64 s1, .int .u64 s2, .int .u64 s3], .int .u64 c4]) ∧ Below w.heap.size w w' := by
  have M0 := (show Hid _ from m0); have M1 := (show Hid _ from m1); have M2 := (show Hid _ from m2); have M3 := (show Hid _ from m3)
  clear m0 m1 m2 m3
  go_enter Tryz.func188, Tryz.ntmps188
  go_wp2
  refine wp_loop_rounds 5 ?_
  rw [rounds_succ]
  go_wp2_with fail
  refine (M0.out _).mono ?_
  rintro e w' ⟨rfl, rfl⟩
  go_wp2
  rw [rounds_succ]
  go_wp2_with fail
  refine (M1.out _).mono ?_
  rintro e w' ⟨rfl, rfl⟩
  go_wp2
  rw [rounds_succ]
  go_wp2_with fail
  refine (M2.out _).mono ?_
  rintro e w' ⟨rfl, rfl⟩
  go_wp2
  rw [rounds_succ]
  go_wp2_with fail
  refine (M3.out _).mono ?_
  rintro e w' ⟨rfl, rfl⟩
  go_wp2
  rw [rounds_succ]
  go_wp2
  refine bodyPost_ret (v := .tuple #[.agg #[.int .u64 s0, .int .u64 s1, .int .u64 s2, .int .u64 s3], .int .u64 c4]) (by simp [results, Tryz.results188, go_sem]) rfl ⟨rfl, ?_⟩
  repeat (first | with_reducible exact Below.refl _ _ | with_reducible refine Below.drew ?_ | with_reducible refine Below.alloc ?_ (by first | omega | (simp; omega) | simp) _)
theorem wrap_sum (a b c : Nat) (h : a + b = c) (hc : c < 18446744073709551616) : IntKind.u64.wrap ((a : Int) + (b : Int)) = (c : Int) := by
  rw [IntKind.wrap_u64]; omega
/-- word.mulWord: a number times a word: the lowest 256 bits, and the word above them. -/
theorem mulWord_any (A v : Nat) (hA : A < 115792089237316195423570985008687907853269984665640564039457584007913129639936) (hv : v < 18446744073709551616) (w : World) :
    Calls Tryz.prog 188 #[.agg #[.int .u64 ((limb 0 (A) : Nat) : Int), .int .u64 ((limb 1 (A) : Nat) : Int), .int .u64 ((limb 2 (A) : Nat) : Int), .int .u64 ((limb 3 (A) : Nat) : Int)], .int .u64 (v : Int)] w fun e w' => e = .returned (.tuple #[.agg #[.int .u64 ((limb 0 (lo256 (A * v)) : Nat) : Int), .int .u64 ((limb 1 (lo256 (A * v)) : Nat) : Int), .int .u64 ((limb 2 (lo256 (A * v)) : Nat) : Int), .int .u64 ((limb 3 (lo256 (A * v)) : Nat) : Int)], .int .u64 ((hi256 (A * v) : Nat) : Int)]) ∧ Below w.heap.size w w' := by
  obtain ⟨o0, o1, o2, o3, c1, c2, c3, c4, p0, q0, k1, b0, p1, q1, k2, b1, p2, q2, k3, b2, p3, q3, k4, b3, hc⟩ := mulWord_limbs A v hA hv
  rw [← hc]
  exact mulWord_walk _ _ _ _ v _ _ _ _ _ _ _ _ _ _ _ _ o0 o1 o2 o3 c1 c2 c3 c4 w (fun w => mul64_any _ v (limb_lt _ _) hv w) (fun w => mul64_any _ v (limb_lt _ _) hv w) (fun w => mul64_any _ v (limb_lt _ _) hv w) (fun w => mul64_any _ v (limb_lt _ _) hv w)
    (run_pair_eq p0 q0 fun w => add64_run _ 0 0 (by decide) w) (run_pair_eq p1 q1 fun w => add64_run _ _ 0 (by decide) w) (run_pair_eq p2 q2 fun w => add64_run _ _ 0 (by decide) w) (run_pair_eq p3 q3 fun w => add64_run _ _ 0 (by decide) w)
    (wrap_sum _ _ _ k1 b0) (wrap_sum _ _ _ k2 b1) (wrap_sum _ _ _ k3 b2) (wrap_sum _ _ _ k4 b3)
end Go.Proofs.YtfbfenljfdnggaaGreatDoor

