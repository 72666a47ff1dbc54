import Derived.WalkKit
import Derived.WalkSpells
import Derived.WalkLawsBesides
import Derived.ProofKit
namespace Go.Proofs.YtdeijnlbencfdaaGreatDoor
def limb (i n : Nat) : Nat := n / 18446744073709551616 ^ i % 18446744073709551616
def add256 (a b : Nat) : Nat := (a + b) % 115792089237316195423570985008687907853269984665640564039457584007913129639936
def over256 (a b : Nat) : Bool := decide (115792089237316195423570985008687907853269984665640564039457584007913129639936 ≤ a + b)
def sub256 (a b : Nat) : Nat := (a + 115792089237316195423570985008687907853269984665640564039457584007913129639936 - b) % 115792089237316195423570985008687907853269984665640564039457584007913129639936
def below256 (a b : Nat) : Bool := decide (a < b)
def lo256 (n : Nat) : Nat := n % 115792089237316195423570985008687907853269984665640564039457584007913129639936
def hi256 (n : Nat) : Nat := n / 115792089237316195423570985008687907853269984665640564039457584007913129639936
theorem limb0 (n : Nat) : limb 0 n = n % 18446744073709551616 := by simp [limb]
theorem limb1 (n : Nat) : limb 1 n = n / 18446744073709551616 % 18446744073709551616 := by simp [limb]
theorem limb2 (n : Nat) : limb 2 n = n / 340282366920938463463374607431768211456 % 18446744073709551616 := by simp [limb]
theorem limb3 (n : Nat) : limb 3 n = n / 6277101735386680763835789423207666416102355444464034512896 % 18446744073709551616 := by simp [limb]
theorem limb_lt (i n : Nat) : limb i n < 18446744073709551616 := Nat.mod_lt _ (by decide)
theorem limb_ge4 (i n : Nat) (hi : 4 ≤ i) (h : n < 115792089237316195423570985008687907853269984665640564039457584007913129639936) : limb i n = 0 := by
 unfold limb
 have e : 18446744073709551616 ^ 4 ≤ 18446744073709551616 ^ i := Nat.pow_le_pow_right (by decide) hi
 have e4 : (18446744073709551616 : Nat) ^ 4 = 115792089237316195423570985008687907853269984665640564039457584007913129639936 := by decide
 rw [e4] at e
 rw [Nat.div_eq_of_lt (by omega)]
theorem limbs_of (a b c d : Nat) (ha : a < 18446744073709551616) (hb : b < 18446744073709551616) (hc : c < 18446744073709551616) (hd : d < 18446744073709551616) (n : Nat)
  (h : n = a + 18446744073709551616 * b + 340282366920938463463374607431768211456 * c + 6277101735386680763835789423207666416102355444464034512896 * d) :
  a = limb 0 n ∧ b = limb 1 n ∧ c = limb 2 n ∧ d = limb 3 n ∧ n < 115792089237316195423570985008687907853269984665640564039457584007913129639936 := by
 rw [limb0, limb1, limb2, limb3]; omega
theorem limbs_sum (n : Nat) (h : n < 115792089237316195423570985008687907853269984665640564039457584007913129639936) : n = limb 0 n + 18446744073709551616 * limb 1 n + 340282366920938463463374607431768211456 * limb 2 n + 6277101735386680763835789423207666416102355444464034512896 * limb 3 n := by
 rw [limb0, limb1, limb2, limb3]; omega
theorem limbs_inj (m n : Nat) (hm : m < 115792089237316195423570985008687907853269984665640564039457584007913129639936) (hn : n < 115792089237316195423570985008687907853269984665640564039457584007913129639936) (h0 : limb 0 m = limb 0 n) (h1 : limb 1 m = limb 1 n) (h2 : limb 2 m = limb 2 n) (h3 : limb 3 m = limb 3 n) : m = n := by
 rw [limbs_sum m hm, limbs_sum n hn, h0, h1, h2, h3]
theorem add256_lt (a b : Nat) : add256 a b < 115792089237316195423570985008687907853269984665640564039457584007913129639936 := Nat.mod_lt _ (by decide)
theorem sub256_lt (a b : Nat) : sub256 a b < 115792089237316195423570985008687907853269984665640564039457584007913129639936 := Nat.mod_lt _ (by decide)
theorem lo256_lt (n : Nat) : lo256 n < 115792089237316195423570985008687907853269984665640564039457584007913129639936 := Nat.mod_lt _ (by decide)
theorem split256 (n : Nat) : n = lo256 n + 115792089237316195423570985008687907853269984665640564039457584007913129639936 * hi256 n := by unfold lo256 hi256; omega
theorem dm64 (x : Nat) : x % 18446744073709551616 + 18446744073709551616 * (x / 18446744073709551616) = x := Nat.mod_add_div x _
theorem key_add (A a0 a1 a2 a3 B b0 b1 b2 b3 s0 s1 s2 s3 c1 c2 c3 c4 : Nat) (hA : A = a0 + 18446744073709551616 * a1 + 340282366920938463463374607431768211456 * a2 + 6277101735386680763835789423207666416102355444464034512896 * a3)
  (hB : B = b0 + 18446744073709551616 * b1 + 340282366920938463463374607431768211456 * b2 + 6277101735386680763835789423207666416102355444464034512896 * b3) (e0 : s0 + 18446744073709551616 * c1 = a0 + b0) (e1 : s1 + 18446744073709551616 * c2 = a1 + b1 + c1)
  (e2 : s2 + 18446744073709551616 * c3 = a2 + b2 + c2) (e3 : s3 + 18446744073709551616 * c4 = a3 + b3 + c3) :
  A + B = s0 + 18446744073709551616 * s1 + 340282366920938463463374607431768211456 * s2 + 6277101735386680763835789423207666416102355444464034512896 * s3 + 115792089237316195423570985008687907853269984665640564039457584007913129639936 * c4 := by omega
theorem split_of (n m c : Nat) (hm : m < 115792089237316195423570985008687907853269984665640564039457584007913129639936) (h : n = m + 115792089237316195423570985008687907853269984665640564039457584007913129639936 * c) : n % 115792089237316195423570985008687907853269984665640564039457584007913129639936 = m ∧ n / 115792089237316195423570985008687907853269984665640564039457584007913129639936 = c := by omega
theorem add_limbs (A B : Nat) (hA : A < 115792089237316195423570985008687907853269984665640564039457584007913129639936) (hB : B < 115792089237316195423570985008687907853269984665640564039457584007913129639936) : ∃ c1 c2 c3 c4 : Nat,
  (limb 0 A + limb 0 B + 0) % 18446744073709551616 = limb 0 (add256 A B) ∧ (limb 0 A + limb 0 B + 0) / 18446744073709551616 = c1 ∧ c1 ≤ 1 ∧
  (limb 1 A + limb 1 B + c1) % 18446744073709551616 = limb 1 (add256 A B) ∧ (limb 1 A + limb 1 B + c1) / 18446744073709551616 = c2 ∧ c2 ≤ 1 ∧
  (limb 2 A + limb 2 B + c2) % 18446744073709551616 = limb 2 (add256 A B) ∧ (limb 2 A + limb 2 B + c2) / 18446744073709551616 = c3 ∧ c3 ≤ 1 ∧
  (limb 3 A + limb 3 B + c3) % 18446744073709551616 = limb 3 (add256 A B) ∧ (limb 3 A + limb 3 B + c3) / 18446744073709551616 = c4 ∧ c4 ≤ 1 ∧
  c4 = (A + B) / 115792089237316195423570985008687907853269984665640564039457584007913129639936 := by
 have l0 := limb_lt 0 A; have l1 := limb_lt 1 A; have l2 := limb_lt 2 A; have l3 := limb_lt 3 A
 have m0 := limb_lt 0 B; have m1 := limb_lt 1 B; have m2 := limb_lt 2 B; have m3 := limb_lt 3 B
 obtain ⟨c1, hc1⟩ : ∃ c, c = (limb 0 A + limb 0 B + 0) / 18446744073709551616 := ⟨_, rfl⟩
 obtain ⟨c2, hc2⟩ : ∃ c, c = (limb 1 A + limb 1 B + c1) / 18446744073709551616 := ⟨_, rfl⟩
 obtain ⟨c3, hc3⟩ : ∃ c, c = (limb 2 A + limb 2 B + c2) / 18446744073709551616 := ⟨_, rfl⟩
 obtain ⟨c4, hc4⟩ : ∃ c, c = (limb 3 A + limb 3 B + c3) / 18446744073709551616 := ⟨_, rfl⟩
 have b1 : c1 ≤ 1 := by clear hc2 hc3 hc4; omega
 have b2 : c2 ≤ 1 := by clear hc1 hc3 hc4; omega
 have b3 : c3 ≤ 1 := by clear hc1 hc2 hc4; omega
 have b4 : c4 ≤ 1 := by clear hc1 hc2 hc3; omega
 have d1 := dm64 (limb 0 A + limb 0 B + 0); rw [← hc1] at d1
 have d2 := dm64 (limb 1 A + limb 1 B + c1); rw [← hc2] at d2
 have d3 := dm64 (limb 2 A + limb 2 B + c2); rw [← hc3] at d3
 have d4 := dm64 (limb 3 A + limb 3 B + c3); rw [← hc4] at d4
 have key := key_add A _ _ _ _ B _ _ _ _ _ _ _ _ c1 c2 c3 c4 (limbs_sum A hA) (limbs_sum B hB) d1 d2 d3 d4
 have hm : ∀ x : Nat, x % 18446744073709551616 < 18446744073709551616 := fun x => Nat.mod_lt _ (by decide)
 have g := limbs_of _ _ _ _ (hm (limb 0 A + limb 0 B + 0)) (hm (limb 1 A + limb 1 B + c1)) (hm (limb 2 A + limb 2 B + c2)) (hm (limb 3 A + limb 3 B + c3)) _ rfl
 have s := split_of _ _ c4 g.2.2.2.2 key
 have ea : add256 A B = _ := s.1
 rw [ea]
 exact ⟨c1, c2, c3, c4, g.1, hc1.symm, b1, g.2.1, hc2.symm, b2, g.2.2.1, hc3.symm, b3, g.2.2.2.1, hc4.symm, b4, s.2.symm⟩
theorem key_sub (A a0 a1 a2 a3 B b0 b1 b2 b3 s0 s1 s2 s3 c1 c2 c3 c4 : Nat) (hA : A = a0 + 18446744073709551616 * a1 + 340282366920938463463374607431768211456 * a2 + 6277101735386680763835789423207666416102355444464034512896 * a3)
  (hB : B = b0 + 18446744073709551616 * b1 + 340282366920938463463374607431768211456 * b2 + 6277101735386680763835789423207666416102355444464034512896 * b3) (e0 : a0 + 18446744073709551616 * c1 = s0 + b0) (e1 : a1 + 18446744073709551616 * c2 = s1 + b1 + c1)
  (e2 : a2 + 18446744073709551616 * c3 = s2 + b2 + c2) (e3 : a3 + 18446744073709551616 * c4 = s3 + b3 + c3) :
  A + 115792089237316195423570985008687907853269984665640564039457584007913129639936 * c4 = s0 + 18446744073709551616 * s1 + 340282366920938463463374607431768211456 * s2 + 6277101735386680763835789423207666416102355444464034512896 * s3 + B := by omega
theorem sub_step (x y b : Nat) (hx : x < 18446744073709551616) (hy : y < 18446744073709551616) (hb : b ≤ 1) :
  x + 18446744073709551616 * (if x < y + b then 1 else 0) = (x + 18446744073709551616 - y - b) % 18446744073709551616 + y + b ∧ (if x < y + b then 1 else 0) ≤ 1 ∧ (x + 18446744073709551616 - y - b) % 18446744073709551616 < 18446744073709551616 := by
 split <;> omega
theorem sub_fin (A B d c : Nat) (hA : A < 115792089237316195423570985008687907853269984665640564039457584007913129639936) (hB : B < 115792089237316195423570985008687907853269984665640564039457584007913129639936) (hc : c ≤ 1) (hd : d < 115792089237316195423570985008687907853269984665640564039457584007913129639936) (h : A + 115792089237316195423570985008687907853269984665640564039457584007913129639936 * c = d + B) :
  d = sub256 A B ∧ (c = 1 ↔ A < B) := by unfold sub256; omega
theorem sub_limbs (A B : Nat) (hA : A < 115792089237316195423570985008687907853269984665640564039457584007913129639936) (hB : B < 115792089237316195423570985008687907853269984665640564039457584007913129639936) : ∃ c1 c2 c3 c4 : Nat,
  (limb 0 A + 18446744073709551616 - limb 0 B - 0) % 18446744073709551616 = limb 0 (sub256 A B) ∧ (if limb 0 A < limb 0 B + 0 then 1 else 0) = c1 ∧ c1 ≤ 1 ∧
  (limb 1 A + 18446744073709551616 - limb 1 B - c1) % 18446744073709551616 = limb 1 (sub256 A B) ∧ (if limb 1 A < limb 1 B + c1 then 1 else 0) = c2 ∧ c2 ≤ 1 ∧
  (limb 2 A + 18446744073709551616 - limb 2 B - c2) % 18446744073709551616 = limb 2 (sub256 A B) ∧ (if limb 2 A < limb 2 B + c2 then 1 else 0) = c3 ∧ c3 ≤ 1 ∧
  (limb 3 A + 18446744073709551616 - limb 3 B - c3) % 18446744073709551616 = limb 3 (sub256 A B) ∧ (if limb 3 A < limb 3 B + c3 then 1 else 0) = c4 ∧ c4 ≤ 1 ∧
  (c4 = 1 ↔ A < B) := by
 obtain ⟨c1, hc1⟩ : ∃ c : Nat, c = (if limb 0 A < limb 0 B + 0 then 1 else 0) := ⟨_, rfl⟩
 have t1 := sub_step (limb 0 A) (limb 0 B) 0 (limb_lt _ _) (limb_lt _ _) (by decide); rw [← hc1] at t1
 obtain ⟨c2, hc2⟩ : ∃ c : Nat, c = (if limb 1 A < limb 1 B + c1 then 1 else 0) := ⟨_, rfl⟩
 have t2 := sub_step (limb 1 A) (limb 1 B) c1 (limb_lt _ _) (limb_lt _ _) t1.2.1; rw [← hc2] at t2
 obtain ⟨c3, hc3⟩ : ∃ c : Nat, c = (if limb 2 A < limb 2 B + c2 then 1 else 0) := ⟨_, rfl⟩
 have t3 := sub_step (limb 2 A) (limb 2 B) c2 (limb_lt _ _) (limb_lt _ _) t2.2.1; rw [← hc3] at t3
 obtain ⟨c4, hc4⟩ : ∃ c : Nat, c = (if limb 3 A < limb 3 B + c3 then 1 else 0) := ⟨_, rfl⟩
 have t4 := sub_step (limb 3 A) (limb 3 B) c3 (limb_lt _ _) (limb_lt _ _) t3.2.1; rw [← hc4] at t4
 have key := key_sub A _ _ _ _ B _ _ _ _ _ _ _ _ c1 c2 c3 c4 (limbs_sum A hA) (limbs_sum B hB) t1.1 t2.1 t3.1 t4.1
 have g := limbs_of _ _ _ _ t1.2.2 t2.2.2 t3.2.2 t4.2.2 _ rfl
 have s := sub_fin A B _ c4 hA hB t4.2.1 g.2.2.2.2 key
 rw [← s.1]
 exact ⟨c1, c2, c3, c4, g.1, hc1.symm, t1.2.1, g.2.1, hc2.symm, t2.2.1, g.2.2.1, hc3.symm, t3.2.1, g.2.2.2.1, hc4.symm, t4.2.1, s.2⟩
theorem key_mul (a0 a1 a2 a3 w l0 l1 l2 l3 h0 h1 h2 h3 s0 s1 s2 s3 o0 o1 o2 o3 c1 c2 c3 c4 : Nat)
  (e0 : l0 + 18446744073709551616 * h0 = a0 * w) (e1 : l1 + 18446744073709551616 * h1 = a1 * w) (e2 : l2 + 18446744073709551616 * h2 = a2 * w) (e3 : l3 + 18446744073709551616 * h3 = a3 * w)
  (t0 : s0 + 18446744073709551616 * o0 = l0) (t1 : s1 + 18446744073709551616 * o1 = l1 + c1) (t2 : s2 + 18446744073709551616 * o2 = l2 + c2) (t3 : s3 + 18446744073709551616 * o3 = l3 + c3)
  (k1 : c1 = h0 + o0) (k2 : c2 = h1 + o1) (k3 : c3 = h2 + o2) (k4 : c4 = h3 + o3) :
  (a0 + 18446744073709551616 * a1 + 340282366920938463463374607431768211456 * a2 + 6277101735386680763835789423207666416102355444464034512896 * a3) * w = s0 + 18446744073709551616 * s1 + 340282366920938463463374607431768211456 * s2 + 6277101735386680763835789423207666416102355444464034512896 * s3 + 115792089237316195423570985008687907853269984665640564039457584007913129639936 * c4 := by
 rw [Nat.add_mul, Nat.add_mul, Nat.add_mul, Nat.mul_assoc, Nat.mul_assoc, Nat.mul_assoc, ← e0, ← e1, ← e2, ← e3]
 omega
def mulHi (x y : Nat) : Nat := x * y / 18446744073709551616
def mulLo (x y : Nat) : Nat := x * y % 18446744073709551616
theorem mulHi_le (x y : Nat) (hx : x < 18446744073709551616) (hy : y < 18446744073709551616) : mulHi x y ≤ 18446744073709551616 - 2 := by
 have h : x * y ≤ (18446744073709551616 - 1) * (18446744073709551616 - 1) := Nat.mul_le_mul (by omega) (by omega)
 unfold mulHi; omega
theorem mulLoHi (x y : Nat) : mulLo x y + 18446744073709551616 * mulHi x y = x * y := Nat.mod_add_div _ _
theorem mulLo_lt (x y : Nat) : mulLo x y < 18446744073709551616 := Nat.mod_lt _ (by decide)
theorem mulWord_limbs (A v : Nat) (hA : A < 115792089237316195423570985008687907853269984665640564039457584007913129639936) (hv : v < 18446744073709551616) : ∃ o0 o1 o2 o3 c1 c2 c3 c4 : Nat,
  (mulLo (limb 0 A) v + 0 + 0) % 18446744073709551616 = limb 0 (lo256 (A * v)) ∧ (mulLo (limb 0 A) v + 0 + 0) / 18446744073709551616 = o0 ∧ mulHi (limb 0 A) v + o0 = c1 ∧ c1 < 18446744073709551616 ∧
  (mulLo (limb 1 A) v + c1 + 0) % 18446744073709551616 = limb 1 (lo256 (A * v)) ∧ (mulLo (limb 1 A) v + c1 + 0) / 18446744073709551616 = o1 ∧ mulHi (limb 1 A) v + o1 = c2 ∧ c2 < 18446744073709551616 ∧
  (mulLo (limb 2 A) v + c2 + 0) % 18446744073709551616 = limb 2 (lo256 (A * v)) ∧ (mulLo (limb 2 A) v + c2 + 0) / 18446744073709551616 = o2 ∧ mulHi (limb 2 A) v + o2 = c3 ∧ c3 < 18446744073709551616 ∧
  (mulLo (limb 3 A) v + c3 + 0) % 18446744073709551616 = limb 3 (lo256 (A * v)) ∧ (mulLo (limb 3 A) v + c3 + 0) / 18446744073709551616 = o3 ∧ mulHi (limb 3 A) v + o3 = c4 ∧ c4 < 18446744073709551616 ∧
  c4 = hi256 (A * v) := by
 obtain ⟨o0, h0⟩ : ∃ o, o = (mulLo (limb 0 A) v + 0 + 0) / 18446744073709551616 := ⟨_, rfl⟩
 have b0 : mulHi (limb 0 A) v + o0 < 18446744073709551616 := by
  have := mulHi_le (limb 0 A) v (limb_lt _ _) hv; have := mulLo_lt (limb 0 A) v; omega
 obtain ⟨c1, k1⟩ : ∃ c, c = mulHi (limb 0 A) v + o0 := ⟨_, rfl⟩
 obtain ⟨o1, h1⟩ : ∃ o, o = (mulLo (limb 1 A) v + c1 + 0) / 18446744073709551616 := ⟨_, rfl⟩
 have b1 : mulHi (limb 1 A) v + o1 < 18446744073709551616 := by
  have := mulHi_le (limb 1 A) v (limb_lt _ _) hv; have := mulLo_lt (limb 1 A) v; rw [← k1] at b0; clear h0 k1; omega
 obtain ⟨c2, k2⟩ : ∃ c, c = mulHi (limb 1 A) v + o1 := ⟨_, rfl⟩
 obtain ⟨o2, h2⟩ : ∃ o, o = (mulLo (limb 2 A) v + c2 + 0) / 18446744073709551616 := ⟨_, rfl⟩
 have b2 : mulHi (limb 2 A) v + o2 < 18446744073709551616 := by
  have := mulHi_le (limb 2 A) v (limb_lt _ _) hv; have := mulLo_lt (limb 2 A) v; rw [← k2] at b1; clear h0 k1 h1 k2; omega
 obtain ⟨c3, k3⟩ : ∃ c, c = mulHi (limb 2 A) v + o2 := ⟨_, rfl⟩
 obtain ⟨o3, h3⟩ : ∃ o, o = (mulLo (limb 3 A) v + c3 + 0) / 18446744073709551616 := ⟨_, rfl⟩
 have b3 : mulHi (limb 3 A) v + o3 < 18446744073709551616 := by
  have := mulHi_le (limb 3 A) v (limb_lt _ _) hv; have := mulLo_lt (limb 3 A) v; rw [← k3] at b2; clear h0 k1 h1 k2 h2 k3; omega
 obtain ⟨c4, k4⟩ : ∃ c, c = mulHi (limb 3 A) v + o3 := ⟨_, rfl⟩
 rw [← k1] at b0; rw [← k2] at b1; rw [← k3] at b2; rw [← k4] at b3
 have d0 := dm64 (mulLo (limb 0 A) v + 0 + 0); rw [← h0] at d0
 have d1 := dm64 (mulLo (limb 1 A) v + c1 + 0); rw [← h1] at d1
 have d2 := dm64 (mulLo (limb 2 A) v + c2 + 0); rw [← h2] at d2
 have d3 := dm64 (mulLo (limb 3 A) v + c3 + 0); rw [← h3] at d3
 have key := key_mul (limb 0 A) (limb 1 A) (limb 2 A) (limb 3 A) v _ _ _ _ _ _ _ _ _ _ _ _ o0 o1 o2 o3 c1 c2 c3 c4 (mulLoHi _ _) (mulLoHi _ _) (mulLoHi _ _) (mulLoHi _ _) d0 d1 d2 d3 k1 k2 k3 k4
 rw [← limbs_sum A hA] at key
 have hm : ∀ x : Nat, x % 18446744073709551616 < 18446744073709551616 := fun x => Nat.mod_lt _ (by decide)
 have g := limbs_of _ _ _ _ (hm (mulLo (limb 0 A) v + 0 + 0)) (hm (mulLo (limb 1 A) v + c1 + 0)) (hm (mulLo (limb 2 A) v + c2 + 0)) (hm (mulLo (limb 3 A) v + c3 + 0)) _ rfl
 have s := split_of _ _ c4 g.2.2.2.2 key
 have ea : lo256 (A * v) = _ := s.1
 rw [ea]
 exact ⟨o0, o1, o2, o3, c1, c2, c3, c4, g.1, h0.symm, k1.symm, b0, g.2.1, h1.symm, k2.symm, b1, g.2.2.1, h2.symm, k3.symm, b2, g.2.2.2.1, h3.symm, k4.symm, b3, s.2.symm⟩
def lowSum (L : Nat → Nat) : Nat → Nat
 | 0 => 0
 | k + 1 => lowSum L k + 18446744073709551616 ^ k * L k
theorem lowSum_congr (L L' : Nat → Nat) : ∀ k, (∀ i, i < k → L i = L' i) → lowSum L k = lowSum L' k
 | 0, _ => rfl
 | k + 1, h => by rw [lowSum, lowSum, lowSum_congr L L' k (fun i hi => h i (by omega)), h k (by omega)]
def MulInv (A B k : Nat) (L : Nat → Nat) (H : Nat) : Prop := (∀ i, i < k → L i < 18446744073709551616) ∧ lowSum L k + 18446744073709551616 ^ k * H = A * (B % 18446744073709551616 ^ k)
theorem mulInv_zero (A B : Nat) : MulInv A B 0 (fun _ => 0) 0 := ⟨fun i hi => by omega, by simp [lowSum, Nat.mod_one]⟩
theorem mulInv_step (A B k : Nat) (L : Nat → Nat) (H l H' : Nat) (h : MulInv A B k L H) (hl : l < 18446744073709551616) (e : H + A * limb k B = l + 18446744073709551616 * H') :
  MulInv A B (k + 1) (fun i => if i = k then l else L i) H' := by
 refine ⟨fun i hi => ?_, ?_⟩
 ·by_cases hik : i = k
  ·simp [hik, hl]
  ·simp [hik]; exact h.1 i (by omega)
 ·have e1 : lowSum (fun i => if i = k then l else L i) (k + 1) = lowSum L k + 18446744073709551616 ^ k * l := by
   rw [lowSum, lowSum_congr _ L k (fun i hi => by simp [show i ≠ k by omega])]; simp
  have e2 : B % 18446744073709551616 ^ (k + 1) = B % 18446744073709551616 ^ k + 18446744073709551616 ^ k * limb k B := by
   rw [Nat.mod_pow_succ]; rfl
  have e3 := h.2
  rw [e1, e2, Nat.mul_add, ← e3, Nat.pow_succ, Nat.mul_assoc, Nat.add_assoc, Nat.add_assoc, ← Nat.mul_add, ← e, Nat.mul_add]
  rw [Nat.mul_left_comm A]
theorem mulInv_end (A B : Nat) (hB : B < 115792089237316195423570985008687907853269984665640564039457584007913129639936) (L : Nat → Nat) (H : Nat) (h : MulInv A B 4 L H) :
  (∀ i, i < 4 → L i = limb i (lo256 (A * B))) ∧ H = hi256 (A * B) := by
 have e4 : (18446744073709551616 : Nat) ^ 4 = 115792089237316195423570985008687907853269984665640564039457584007913129639936 := by decide
 have e3 : (18446744073709551616 : Nat) ^ 3 = 6277101735386680763835789423207666416102355444464034512896 := by decide
 have e2 : (18446744073709551616 : Nat) ^ 2 = 340282366920938463463374607431768211456 := by decide
 have h2 := h.2
 rw [e4, Nat.mod_eq_of_lt hB] at h2
 simp only [lowSum, e3, e2, Nat.pow_one, Nat.pow_zero, Nat.one_mul, Nat.zero_add] at h2
 have g := limbs_of _ _ _ _ (h.1 0 (by decide)) (h.1 1 (by decide)) (h.1 2 (by decide)) (h.1 3 (by decide)) _ rfl
 have s := split_of (A * B) _ H g.2.2.2.2 h2.symm
 have ea : lo256 (A * B) = _ := s.1
 rw [ea]
 refine ⟨?_, s.2.symm⟩
 intro i hi
 have hi4 : i = 0 ∨ i = 1 ∨ i = 2 ∨ i = 3 := by omega
 rcases hi4 with rfl | rfl | rfl | rfl
 ·exact g.1
 ·exact g.2.1
 ·exact g.2.2.1
 ·exact g.2.2.2.1
end Go.Proofs.YtdeijnlbencfdaaGreatDoor
namespace Go.Proofs.YtdeijnlbencfdaaGreatDoor
open Go.RowKit
def Blk (w : World) (t : TypeId) (b : Nat) (f : Nat → Nat) : Prop :=
 w.heap[b]? = some (.cells #[.int .u64 ((f 0 : Nat) : Int), .int .u64 ((f 1 : Nat) : Int), .int .u64 ((f 2 : Nat) : Int), .int .u64 ((f 3 : Nat) : Int)] t)
theorem Blk.lt {w : World} {t : TypeId} {b : Nat} {f : Nat → Nat} (h : Blk w t b f) : b < w.heap.size := by
 rcases Nat.lt_or_ge b w.heap.size with hl | hl
 ·exact hl
 ·unfold Blk at h; rw [Array.getElem?_eq_none hl] at h; cases h
theorem Blk.cell {w : World} {t : TypeId} {b : Nat} {f : Nat → Nat} (h : Blk w t b f) : ∀ i, i < 4 → w.cell? ⟨b, i, none⟩ = some (.int .u64 ((f i : Nat) : Int)) := by
 intro i hi
 unfold Blk at h
 have hi4 : i = 0 ∨ i = 1 ∨ i = 2 ∨ i = 3 := by omega
 rcases hi4 with rfl | rfl | rfl | rfl <;> simp [World.cell?, h]
theorem Blk.frozen {w : World} {t : TypeId} {b : Nat} {f : Nat → Nat} (h : Blk w t b f) : ∀ o, w.frozen? ⟨b, o, none⟩ = false := by
 intro o
 unfold Blk at h
 simp [World.frozen?, h]
theorem Blk.below {w w' : World} {t : TypeId} {b n : Nat} {f : Nat → Nat} (h : Blk w t b f) (hb : Below n w w') (hn : b < n) : Blk w' t b f := by
 unfold Blk at *; rw [hb.block b hn]; exact h
theorem Blk.belowAll {w w' : World} {t : TypeId} {b : Nat} {f : Nat → Nat} (h : Blk w t b f) (hb : Below w.heap.size w w') : Blk w' t b f := h.below hb h.lt
theorem Blk.drew {w : World} {t : TypeId} {b : Nat} {f : Nat → Nat} (h : Blk w t b f) : Blk w.drew t b f := h
theorem Blk.alloc {w : World} {t : TypeId} {b : Nat} {f : Nat → Nat} (h : Blk w t b f) (o : Obj) : Blk (w.alloc o) t b f := by
 unfold Blk at *; rw [Below.heap_alloc w o b (Blk.lt h)]; exact h
theorem Blk.new (w : World) (t : TypeId) (f : Nat → Nat) : Blk (w.alloc (.cells #[.int .u64 ((f 0 : Nat) : Int), .int .u64 ((f 1 : Nat) : Int), .int .u64 ((f 2 : Nat) : Int), .int .u64 ((f 3 : Nat) : Int)] t)) t w.heap.size f := by
 unfold Blk; show (w.heap.push _)[w.heap.size]? = _; simp
theorem Blk.newAt (w : World) (t : TypeId) (n : Nat) (f : Nat → Nat) (hn : n = w.heap.size) : Blk (w.alloc (.cells #[.int .u64 ((f 0 : Nat) : Int), .int .u64 ((f 1 : Nat) : Int), .int .u64 ((f 2 : Nat) : Int), .int .u64 ((f 3 : Nat) : Int)] t)) t n f := by
 subst hn; exact Blk.new w t f
theorem Blk.other {w : World} {t : TypeId} {b : Nat} {f : Nat → Nat} (h : Blk w t b f) {a : Addr} (ha : b ≠ a.block) (v : Value) : Blk (w.setCell a v) t b f := by
 unfold Blk at *; rw [Below.heap_setCell w a v b ha]; exact h
theorem Blk.congr {w : World} {t : TypeId} {b : Nat} {f g : Nat → Nat} (h : Blk w t b f) (hg : ∀ i, i < 4 → g i = f i) : Blk w t b g := by
 unfold Blk at *; rw [hg 0 (by decide), hg 1 (by decide), hg 2 (by decide), hg 3 (by decide)]; exact h
theorem Blk.set {w : World} {t : TypeId} {b : Nat} {f : Nat → Nat} (h : Blk w t b f) (k : Nat) (hk : k < 4) (v : Nat) : Blk (w.setCell ⟨b, k, none⟩ (.int .u64 ((v : Nat) : Int))) t b (fun i => if i = k then v else f i) := by
 unfold Blk at *
 have e : (w.setCell ⟨b, k, none⟩ (.int .u64 ((v : Nat) : Int))).heap[b]? = some (.cells (#[.int .u64 ((f 0 : Nat) : Int), .int .u64 ((f 1 : Nat) : Int), .int .u64 ((f 2 : Nat) : Int), .int .u64 ((f 3 : Nat) : Int)].setIfInBounds k (.int .u64 ((v : Nat) : Int))) t) := by
  simp [World.setCell, Array.getElem?_modify, h]
 rw [e]
 have hk4 : k = 0 ∨ k = 1 ∨ k = 2 ∨ k = 3 := by omega
 rcases hk4 with rfl | rfl | rfl | rfl <;> simp
theorem Blk.set4 {w : World} {t : TypeId} {b : Nat} {f : Nat → Nat} (h : Blk w t b f) (g : Nat → Nat) :
  Blk ((((w.setCell ⟨b, 0, none⟩ (.int .u64 ((g 0 : Nat) : Int))).setCell ⟨b, 1, none⟩ (.int .u64 ((g 1 : Nat) : Int))).setCell ⟨b, 2, none⟩ (.int .u64 ((g 2 : Nat) : Int))).setCell ⟨b, 3, none⟩ (.int .u64 ((g 3 : Nat) : Int))) t b g := by
 refine ((((h.set 0 (by decide) (g 0)).set 1 (by decide) (g 1)).set 2 (by decide) (g 2)).set 3 (by decide) (g 3)).congr ?_
 intro i hi
 have hi4 : i = 0 ∨ i = 1 ∨ i = 2 ∨ i = 3 := by omega
 rcases hi4 with rfl | rfl | rfl | rfl <;> rfl
theorem bcell {W w1 : World} (hb : Below W.heap.size W w1) : (∀ b o, b < W.heap.size → w1.cell? ⟨b, o, none⟩ = W.cell? ⟨b, o, none⟩) ∧ (∀ b o, b < W.heap.size → w1.frozen? ⟨b, o, none⟩ = W.frozen? ⟨b, o, none⟩) :=
 ⟨fun b o h => hb.cell (p := ⟨b, o, none⟩) h, fun b o h => hb.frozen (p := ⟨b, o, none⟩) h⟩
theorem acell {w : World} {n : Nat} (hn : n ≤ w.heap.size) : (∀ ob b o, b < n → (w.alloc ob).cell? ⟨b, o, none⟩ = w.cell? ⟨b, o, none⟩) ∧ (∀ ob b o, b < n → (w.alloc ob).frozen? ⟨b, o, none⟩ = w.frozen? ⟨b, o, none⟩) :=
 ⟨fun ob b o h => (((Below.refl w.heap.size w).alloc (Nat.le_refl _) ob).cell (p := ⟨b, o, none⟩) (Nat.lt_of_lt_of_le h hn)), fun ob b o h => (((Below.refl w.heap.size w).alloc (Nat.le_refl _) ob).frozen (p := ⟨b, o, none⟩) (Nat.lt_of_lt_of_le h hn))⟩
theorem cells_below {W w1 : World} {b : Nat} {f : Nat → Nat} (hb : Below W.heap.size W w1) (h : ∀ i, i < 4 → W.cell? ⟨b, i, none⟩ = some (.int .u64 ((f i : Nat) : Int))) :
  ∀ i, i < 4 → w1.cell? ⟨b, i, none⟩ = some (.int .u64 ((f i : Nat) : Int)) := by
 intro i hi
 have hlt : b < W.heap.size := World.block_lt_of_cell? W ⟨b, 0, none⟩ (h 0 (by decide))
 rw [hb.cell (p := ⟨b, i, none⟩) hlt]
 exact h i hi
theorem cells_alloc {W : World} {b : Nat} {f : Nat → Nat} (o : Obj) (h : ∀ i, i < 4 → W.cell? ⟨b, i, none⟩ = some (.int .u64 ((f i : Nat) : Int))) :
  ∀ i, i < 4 → (W.alloc o).cell? ⟨b, i, none⟩ = some (.int .u64 ((f i : Nat) : Int)) :=
 cells_below ((Below.refl _ _).alloc (Nat.le_refl _) o) h
theorem cells_far {W : World} {b : Nat} {f : Nat → Nat} {p : Addr} (v : Value) (hp : p.block ≠ b) (h : ∀ i, i < 4 → W.cell? ⟨b, i, none⟩ = some (.int .u64 ((f i : Nat) : Int))) :
  ∀ i, i < 4 → (W.setCell p v).cell? ⟨b, i, none⟩ = some (.int .u64 ((f i : Nat) : Int)) := by
 intro i hi
 rw [World.cell?_setCell_other W p ⟨b, i, none⟩ v (fun e => hp (by rw [e]))]
 exact h i hi
theorem cells_far4 {W : World} {b r : Nat} {f : Nat → Nat} (v0 v1 v2 v3 : Value) (hp : r ≠ b) (h : ∀ i, i < 4 → W.cell? ⟨b, i, none⟩ = some (.int .u64 ((f i : Nat) : Int))) :
  ∀ i, i < 4 → ((((W.setCell ⟨r, 0, none⟩ v0).setCell ⟨r, 1, none⟩ v1).setCell ⟨r, 2, none⟩ v2).setCell ⟨r, 3, none⟩ v3).cell? ⟨b, i, none⟩ = some (.int .u64 ((f i : Nat) : Int)) :=
 cells_far v3 hp (cells_far v2 hp (cells_far v1 hp (cells_far v0 hp h)))
def BlkN (w : World) (t : TypeId) (b n : Nat) (f : Nat → Nat) : Prop :=
 ∃ c : Array Value, w.heap[b]? = some (.cells c t) ∧ c.size = n ∧ ∀ i, i < n → c[i]? = some (.int .u64 ((f i : Nat) : Int))
section
variable {w w' : World} {t : TypeId} {b n : Nat} {f g : Nat → Nat}
theorem BlkN.lt (h : BlkN w t b n f) : b < w.heap.size := by
 obtain ⟨c, hc, _⟩ := h
 rcases Nat.lt_or_ge b w.heap.size with hl | hl
 ·exact hl
 ·rw [Array.getElem?_eq_none hl] at hc; cases hc
theorem BlkN.cell (h : BlkN w t b n f) : ∀ i, i < n → w.cell? ⟨b, i, none⟩ = some (.int .u64 ((f i : Nat) : Int)) := by
 obtain ⟨c, hc, hs, hf⟩ := h
 intro i hi
 simp [World.cell?, hc, hf i hi]
theorem BlkN.frozen (h : BlkN w t b n f) : ∀ o, w.frozen? ⟨b, o, none⟩ = false := by
 obtain ⟨c, hc, _⟩ := h
 intro o
 simp [World.frozen?, hc]
theorem BlkN.below {m : Nat} (h : BlkN w t b n f) (hb : Below m w w') (hm : b < m) : BlkN w' t b n f := by
 obtain ⟨c, hc, hs⟩ := h
 exact ⟨c, by rw [hb.block b hm]; exact hc, hs⟩
theorem BlkN.belowAll (h : BlkN w t b n f) (hb : Below w.heap.size w w') : BlkN w' t b n f := h.below hb h.lt
theorem BlkN.drew (h : BlkN w t b n f) : BlkN w.drew t b n f := h
theorem BlkN.alloc (h : BlkN w t b n f) (o : Obj) : BlkN (w.alloc o) t b n f := h.below ((Below.refl _ _).alloc (Nat.le_refl _) o) h.lt
theorem BlkN.newAt (w : World) (t : TypeId) (b n : Nat) (f : Nat → Nat) (c : Array Value) (hb : b = w.heap.size) (hs : c.size = n) (hf : ∀ i, i < n → c[i]? = some (.int .u64 ((f i : Nat) : Int))) : BlkN (w.alloc (.cells c t)) t b n f :=
 ⟨c, by subst hb; show (w.heap.push _)[w.heap.size]? = _; simp, hs, hf⟩
theorem BlkN.other (h : BlkN w t b n f) {a : Addr} (ha : b ≠ a.block) (v : Value) : BlkN (w.setCell a v) t b n f := by
 obtain ⟨c, hc, hs⟩ := h
 exact ⟨c, by rw [Below.heap_setCell w a v b ha]; exact hc, hs⟩
theorem BlkN.congr (h : BlkN w t b n f) (hg : ∀ i, i < n → g i = f i) : BlkN w t b n g := by
 obtain ⟨c, hc, hs, hf⟩ := h
 exact ⟨c, hc, hs, fun i hi => by rw [hf i hi, hg i hi]⟩
theorem BlkN.set (h : BlkN w t b n f) (k : Nat) (hk : k < n) (v : Nat) : BlkN (w.setCell ⟨b, k, none⟩ (.int .u64 ((v : Nat) : Int))) t b n (fun i => if i = k then v else f i) := by
 obtain ⟨c, hc, hs, hf⟩ := h
 refine ⟨c.setIfInBounds k (.int .u64 ((v : Nat) : Int)), ?_, by simp [hs], ?_⟩
 ·simp [World.setCell, Array.getElem?_modify, hc]
 ·intro i hi
  by_cases e : i = k
  ·subst e; simp [hs, hi]
  ·simp [e, Ne.symm (fun h => e h), hf i hi]
end
end Go.Proofs.YtdeijnlbencfdaaGreatDoor
namespace Go.Proofs.YtdeijnlbencfdaaGreatDoor
open Go.RowKit
section
variable {w W w' : World}
theorem bAlloc (h : Below w.heap.size w W) (o : Obj) : Below w.heap.size w (W.alloc o) := h.alloc h.size o
theorem bStep (h : Below w.heap.size w W) (hb : Below W.heap.size W w') : Below w.heap.size w w' := h.trans (hb.mono h.size)
theorem bSet4 (h : Below w.heap.size w W) {r : Nat} (hr : w.heap.size ≤ r) (v0 v1 v2 v3 : Value) :
  Below w.heap.size w ((((W.setCell ⟨r, 0, none⟩ v0).setCell ⟨r, 1, none⟩ v1).setCell ⟨r, 2, none⟩ v2).setCell ⟨r, 3, none⟩ v3) :=
 (((h.setCell hr _).setCell hr _).setCell hr _).setCell hr _
theorem Blk.other4 {t : TypeId} {b r : Nat} {f : Nat → Nat} (h : Blk W t b f) (hr : b ≠ r) (v0 v1 v2 v3 : Value) :
  Blk ((((W.setCell ⟨r, 0, none⟩ v0).setCell ⟨r, 1, none⟩ v1).setCell ⟨r, 2, none⟩ v2).setCell ⟨r, 3, none⟩ v3) t b f :=
 (((h.other hr _).other hr _).other hr _).other hr _
theorem acell2 {w : World} : (∀ o1 o2 b o, b < w.heap.size → ((w.alloc o1).alloc o2).cell? ⟨b, o, none⟩ = w.cell? ⟨b, o, none⟩) ∧ (∀ o1 o2 b o, b < w.heap.size → ((w.alloc o1).alloc o2).frozen? ⟨b, o, none⟩ = w.frozen? ⟨b, o, none⟩) := by
 have hb : ∀ o1 o2, Below w.heap.size w ((w.alloc o1).alloc o2) := fun o1 o2 => ((Below.refl _ _).alloc (Nat.le_refl _) _).alloc (by simp) _
 exact ⟨fun o1 o2 b o h => (hb o1 o2).cell (p := ⟨b, o, none⟩) h, fun o1 o2 b o h => (hb o1 o2).frozen (p := ⟨b, o, none⟩) h⟩
end
end Go.Proofs.YtdeijnlbencfdaaGreatDoor
namespace Go.Proofs.YtdeijnlbencfdaaGreatDoor
theorem u64_ends : IntKind.u64.min = 0 ∧ IntKind.u64.max = 18446744073709551615 := by decide
theorem bounds_u64' {x : Int} (h : (Lit.int .u64 x).wf = true) : 0 ≤ x ∧ x ≤ 18446744073709551615 := by
 simp only [Lit.wf, u64_ends.1, u64_ends.2, Bool.and_eq_true, decide_eq_true_eq] at h
 exact h
theorem wf_limb (n : Nat) (h : n < 18446744073709551616) : (Lit.int .u64 (n : Int)).wf = true := by
 simp only [Lit.wf, u64_ends.1, u64_ends.2, Bool.and_eq_true, decide_eq_true_eq]
 omega
end Go.Proofs.YtdeijnlbencfdaaGreatDoor
namespace Go.Proofs.YtdeijnlbencfdaaGreatDoor
theorem half_id (U V Y Y1 Y0 a b : Nat) (hY : Y = Y1 * 4294967296 + Y0) (hinv : a * Y1 + b = U) : U * 4294967296 + V + a * Y0 = a * Y + (b * 4294967296 + V) := by
 subst hY; subst hinv
 rw [Nat.mul_add, Nat.add_mul, ← Nat.mul_assoc]
 omega
theorem half_lt (U V Y : Nat) (hU : U < Y) (hV : V < 4294967296) : (U * 4294967296 + V) / Y < 4294967296 := by
 have hY : 0 < Y := by omega
 rw [Nat.div_lt_iff_lt_mul hY]
 have : (U + 1) * 4294967296 ≤ Y * 4294967296 := Nat.mul_le_mul_right _ hU
 rw [Nat.mul_comm 4294967296 Y]
 omega
def HalfInv (U V Y Y1 a b : Nat) : Prop := a * Y1 + b = U ∧ (U * 4294967296 + V) / Y ≤ a ∧ b < 4294967296
theorem half_start (U V Y Y1 Y0 : Nat) (hY : Y = Y1 * 4294967296 + Y0) (h1 : 0 < Y1) (h1' : Y1 < 4294967296) (hV : V < 4294967296) : HalfInv U V Y Y1 (U / Y1) (U % Y1) := by
 refine ⟨by rw [Nat.mul_comm]; exact Nat.div_add_mod U Y1, ?_, by have := Nat.mod_lt U h1; omega⟩
 have hYp : 0 < Y := by omega
 rw [Nat.le_div_iff_mul_le h1]
 have e1 : (U * 4294967296 + V) / Y * Y ≤ U * 4294967296 + V := Nat.div_mul_le_self _ _
 obtain ⟨q, hq⟩ : ∃ q, q = (U * 4294967296 + V) / Y := ⟨_, rfl⟩
 rw [← hq] at e1 ⊢
 have e2 : q * (Y1 * 4294967296) ≤ q * Y := Nat.mul_le_mul_left _ (by omega)
 rw [← Nat.mul_assoc] at e2
 clear hq
 omega
theorem half_done (U V Y Y1 Y0 a b : Nat) (hY : Y = Y1 * 4294967296 + Y0) (hYp : 0 < Y) (h : HalfInv U V Y Y1 a b) (ht : a * Y0 ≤ 4294967296 * b + V) : a = (U * 4294967296 + V) / Y := by
 have k := half_id U V Y Y1 Y0 a b hY h.1
 refine Nat.le_antisymm ?_ h.2.1
 rw [Nat.le_div_iff_mul_le hYp]
 rw [Nat.mul_comm b 4294967296] at k
 omega
theorem half_more (U V Y Y1 Y0 a b : Nat) (hY : Y = Y1 * 4294967296 + Y0) (hU : U < Y) (hV : V < 4294967296) (h : HalfInv U V Y Y1 a b) (ht : 4294967296 ≤ a ∨ 4294967296 * b + V < a * Y0) :
  1 ≤ a ∧ (a - 1) * Y1 + (b + Y1) = U ∧ (U * 4294967296 + V) / Y ≤ a - 1 := by
 have hYp : 0 < Y := by omega
 have hlt : (U * 4294967296 + V) / Y < a := by
  rcases ht with ht | ht
  ·have := half_lt U V Y hU hV; omega
  ·have k := half_id U V Y Y1 Y0 a b hY h.1
   rw [Nat.div_lt_iff_lt_mul hYp]
   rw [Nat.mul_comm b 4294967296] at k
   omega
 have hpos : 1 ≤ a := Nat.lt_of_le_of_lt (Nat.zero_le _) hlt
 refine ⟨hpos, ?_, Nat.le_sub_one_of_lt hlt⟩
 have e : a * Y1 = (a - 1) * Y1 + Y1 := by
  conv => lhs; rw [show a = (a - 1) + 1 from by omega, Nat.add_mul, Nat.one_mul]
 have := h.1
 omega
theorem half_break (U V Y Y1 Y0 a b : Nat) (hY : Y = Y1 * 4294967296 + Y0) (h0 : Y0 < 4294967296) (hU : U < Y) (hinv : a * Y1 + b = U) (hq : (U * 4294967296 + V) / Y ≤ a) (hb : 4294967296 ≤ b) : a = (U * 4294967296 + V) / Y := by
 have hYp : 0 < Y := by omega
 have ha : a < 4294967296 := by
  have h1 : a * Y1 < Y1 * 4294967296 := by omega
  rw [Nat.mul_comm Y1] at h1
  exact Nat.lt_of_mul_lt_mul_right h1
 have k := half_id U V Y Y1 Y0 a b hY hinv
 have hp : a * Y0 ≤ 4294967296 * 4294967296 := Nat.mul_le_mul (by omega) (by omega)
 have hbH : 4294967296 * 4294967296 ≤ b * 4294967296 := Nat.mul_le_mul_right _ hb
 refine Nat.le_antisymm ?_ hq
 rw [Nat.le_div_iff_mul_le hYp]
 omega
theorem join_lin (U V1 V0 Y q1 r1 q0 r0 : Nat) (e1 : Y * q1 + r1 = U * 4294967296 + V1) (e2 : Y * q0 + r0 = r1 * 4294967296 + V0) : U * 18446744073709551616 + (V1 * 4294967296 + V0) = (q1 * 4294967296 + q0) * Y + r0 := by
 rw [Nat.add_mul, Nat.mul_right_comm, Nat.mul_comm q1 Y, Nat.mul_comm q0 Y]
 omega
theorem join_uniq (N Y q r : Nat) (hr : r < Y) (h : N = q * Y + r) : q = N / Y ∧ r = N % Y := by
 subst h
 refine ⟨?_, ?_⟩
 ·rw [Nat.add_comm, Nat.add_mul_div_right _ _ (by omega), Nat.div_eq_of_lt hr]; omega
 ·rw [Nat.add_comm, Nat.add_mul_mod_self_right, Nat.mod_eq_of_lt hr]
theorem div_join (U V1 V0 Y : Nat) (hY : 0 < Y) :
  (U * 4294967296 + V1) / Y * 4294967296 + (((U * 4294967296 + V1) % Y) * 4294967296 + V0) / Y = (U * 18446744073709551616 + (V1 * 4294967296 + V0)) / Y ∧ (((U * 4294967296 + V1) % Y) * 4294967296 + V0) % Y = (U * 18446744073709551616 + (V1 * 4294967296 + V0)) % Y :=
 join_uniq _ Y _ _ (Nat.mod_lt _ hY) (join_lin U V1 V0 Y _ _ _ _ (Nat.div_add_mod _ Y) (Nat.div_add_mod _ Y))
theorem div_shift (N y s : Nat) : N * 2 ^ s / (y * 2 ^ s) = N / y ∧ N * 2 ^ s % (y * 2 ^ s) / 2 ^ s = N % y := by
 have hp : 0 < 2 ^ s := Nat.two_pow_pos s
 refine ⟨Nat.mul_div_mul_right _ _ hp, ?_⟩
 rw [Nat.mul_mod_mul_right, Nat.mul_div_cancel _ hp]
theorem div_norm (h l s : Nat) (hs : s ≤ 64) (hl : l < 18446744073709551616) : (h * 2 ^ s + l / 2 ^ (64 - s)) * 18446744073709551616 + l * 2 ^ s % 18446744073709551616 = (h * 18446744073709551616 + l) * 2 ^ s ∧ l / 2 ^ (64 - s) < 2 ^ s := by
 have eQ : (18446744073709551616 : Nat) = 2 ^ (64 - s) * 2 ^ s := by rw [← Nat.pow_add, show 64 - s + s = 64 from by omega]
 have hp : 0 < 2 ^ s := Nat.two_pow_pos s
 have hp' : 0 < 2 ^ (64 - s) := Nat.two_pow_pos _
 have e1 : l * 2 ^ s / 18446744073709551616 = l / 2 ^ (64 - s) := by rw [eQ]; exact Nat.mul_div_mul_right _ _ hp
 have e2 := Nat.div_add_mod (l * 2 ^ s) 18446744073709551616
 rw [e1] at e2
 refine ⟨?_, ?_⟩
 ·rw [Nat.add_mul, Nat.add_mul, Nat.mul_right_comm]
  omega
 ·rw [Nat.div_lt_iff_lt_mul hp', Nat.mul_comm, ← eQ]; exact hl
theorem mul_le_right (a b c : Nat) (h : a ≤ b) : a * c ≤ b * c := Nat.mul_le_mul_right c h
theorem mul_lt_right (a b c : Nat) (h : a < b) (hc : 0 < c) : a * c < b * c := Nat.mul_lt_mul_of_pos_right h hc
theorem norm_lt' (N y p U V : Nat) (e : U * 18446744073709551616 + V = N * p) (h1 : N < y * 18446744073709551616) (hp : 0 < p) : U < y * p := by
 have h2 : N * p < y * 18446744073709551616 * p := mul_lt_right N (y * 18446744073709551616) p h1 hp
 rw [Nat.mul_right_comm, ← e] at h2
 generalize y * p = z at *
 omega
theorem norm_lt (h l y s U V : Nat) (e : U * 18446744073709551616 + V = (h * 18446744073709551616 + l) * 2 ^ s) (hh : h < y) (hl : l < 18446744073709551616) : U < y * 2 ^ s :=
 norm_lt' (h * 18446744073709551616 + l) y (2 ^ s) U V e (by have := mul_le_right (h + 1) y 18446744073709551616 hh; omega) (Nat.two_pow_pos s)
theorem norm_top (y L : Nat) (h1 : y < 2 ^ L) (h2 : 2 ^ (L - 1) ≤ y) (h3 : 1 ≤ L) (h4 : L ≤ 64) : y * 2 ^ (64 - L) < 18446744073709551616 ∧ 9223372036854775808 ≤ y * 2 ^ (64 - L) := by
 have a : y * 2 ^ (64 - L) < 2 ^ L * 2 ^ (64 - L) := Nat.mul_lt_mul_of_pos_right h1 (Nat.two_pow_pos _)
 have b : 2 ^ (L - 1) * 2 ^ (64 - L) ≤ y * 2 ^ (64 - L) := Nat.mul_le_mul_right _ h2
 rw [← Nat.pow_add] at a b
 rw [show L + (64 - L) = 64 from by omega] at a
 rw [show L - 1 + (64 - L) = 63 from by omega] at b
 exact ⟨a, b⟩
def HalfF (U V Y Y1 Y0 : Nat) : Prop := Y = Y1 * 4294967296 + Y0 ∧ Y0 < 4294967296 ∧ 0 < Y1 ∧ Y1 < 4294967296 ∧ U < Y ∧ V < 4294967296
theorem HalfF.lt {U V Y Y1 Y0 : Nat} (F : HalfF U V Y Y1 Y0) : Y < 18446744073709551616 ∧ 0 < Y := by
 obtain ⟨h1, h2, h3, h4, h5, h6⟩ := F; omega
theorem int_le {U V Y Y1 Y0 : Nat} (F : HalfF U V Y Y1 Y0) {A B : Int} (hA : 0 ≤ A) (hB : 0 ≤ B) (h : HalfInv U V Y Y1 A.toNat B.toNat) : A ≤ U ∧ B < 4294967296 := by
 obtain ⟨a, rfl⟩ := Int.eq_ofNat_of_zero_le hA
 obtain ⟨b, rfl⟩ := Int.eq_ofNat_of_zero_le hB
 simp only [Int.toNat_natCast] at h
 have h1 := h.1
 have h3 := h.2.2
 have : a * 1 ≤ a * Y1 := Nat.mul_le_mul_left _ F.2.2.1
 omega
theorem int_prod {U V Y Y1 Y0 : Nat} (F : HalfF U V Y Y1 Y0) {A : Int} (hA : 0 ≤ A) (hA1 : ¬ 4294967296 ≤ A) : 0 ≤ A * (Y0 : Int) ∧ A * (Y0 : Int) < 18446744073709551616 := by
 obtain ⟨a, rfl⟩ := Int.eq_ofNat_of_zero_le hA
 have h : a * Y0 ≤ 4294967295 * 4294967295 := Nat.mul_le_mul (by omega) (by have := F.2.1; omega)
 rw [← Int.natCast_mul]
 omega
theorem int_more {U V Y Y1 Y0 : Nat} (F : HalfF U V Y Y1 Y0) {A B : Int} (hA : 0 ≤ A) (hB : 0 ≤ B) (h : HalfInv U V Y Y1 A.toNat B.toNat) (ht : 4294967296 ≤ A ∨ 4294967296 * B + (V : Int) < A * (Y0 : Int)) :
  1 ≤ A ∧ (A - 1).toNat * Y1 + (B + (Y1 : Int)).toNat = U ∧ (U * 4294967296 + V) / Y ≤ (A - 1).toNat := by
 obtain ⟨a, rfl⟩ := Int.eq_ofNat_of_zero_le hA
 obtain ⟨b, rfl⟩ := Int.eq_ofNat_of_zero_le hB
 simp only [Int.toNat_natCast] at h
 have ht' : 4294967296 ≤ a ∨ 4294967296 * b + V < a * Y0 := by
  rcases ht with ht | ht
  ·left; omega
  ·right; rw [← Int.natCast_mul] at ht; omega
 have m := half_more U V Y Y1 Y0 a b F.1 F.2.2.2.2.1 F.2.2.2.2.2 h ht'
 have e1 : ((a : Int) - 1).toNat = a - 1 := by omega
 have e2 : ((b : Int) + (Y1 : Int)).toNat = b + Y1 := by omega
 rw [e1, e2]
 exact ⟨by omega, m.2⟩
theorem int_done {U V Y Y1 Y0 : Nat} (F : HalfF U V Y Y1 Y0) {A B : Int} (hA : 0 ≤ A) (hB : 0 ≤ B) (h : HalfInv U V Y Y1 A.toNat B.toNat) (ht : ¬ 4294967296 * B + (V : Int) < A * (Y0 : Int)) :
  A = (((U * 4294967296 + V) / Y : Nat) : Int) := by
 obtain ⟨a, rfl⟩ := Int.eq_ofNat_of_zero_le hA
 obtain ⟨b, rfl⟩ := Int.eq_ofNat_of_zero_le hB
 simp only [Int.toNat_natCast] at h
 rw [← Int.natCast_mul] at ht
 have := half_done U V Y Y1 Y0 a b F.1 F.lt.2 h (by omega)
 rw [← this]
theorem int_break {U V Y Y1 Y0 : Nat} (F : HalfF U V Y Y1 Y0) {A B : Int} (hA : 1 ≤ A) (h1 : (A - 1).toNat * Y1 + (B + (Y1 : Int)).toNat = U) (h2 : (U * 4294967296 + V) / Y ≤ (A - 1).toNat) (hb : 4294967296 ≤ B + (Y1 : Int)) :
  A - 1 = (((U * 4294967296 + V) / Y : Nat) : Int) := by
 have := half_break U V Y Y1 Y0 _ _ F.1 F.2.1 F.2.2.2.2.1 h1 h2 (by omega)
 rw [← this]; omega
end Go.Proofs.YtdeijnlbencfdaaGreatDoor
namespace Go.Proofs.YtdeijnlbencfdaaGreatDoor
def guessN (h l d : Nat) : Nat := if d ≤ h then 18446744073709551616 - 1 else (h * 18446744073709551616 + l) / d
theorem guessN_lt (h l d : Nat) (hl : l < 18446744073709551616) : guessN h l d < 18446744073709551616 := by
 unfold guessN
 split
 ·omega
 ·have hd : 0 < d := by omega
  rw [Nat.div_lt_iff_lt_mul hd]
  have := mul_le_right (h + 1) d 18446744073709551616 (by omega)
  rw [Nat.mul_comm 18446744073709551616 d]
  omega
theorem guess_ge (R v D : Nat) (hR : R < D) (hD : D < 115792089237316195423570985008687907853269984665640564039457584007913129639936) (hv : v < 18446744073709551616) : (R * 18446744073709551616 + v) / D ≤ guessN (limb 3 R) (limb 2 R) (limb 3 D) := by
 have hDp : 0 < D := by omega
 unfold guessN
 split
 ·have : (R * 18446744073709551616 + v) / D < 18446744073709551616 := by
   rw [Nat.div_lt_iff_lt_mul hDp]
   have := mul_le_right (R + 1) D 18446744073709551616 (by omega)
   rw [Nat.mul_comm 18446744073709551616 D]
   omega
  exact Nat.le_sub_one_of_lt this
 ·have h3 : 0 < limb 3 D := by omega
  rw [Nat.le_div_iff_mul_le h3]
  have e1 : (R * 18446744073709551616 + v) / D * D ≤ R * 18446744073709551616 + v := Nat.div_mul_le_self _ _
  obtain ⟨q, hq⟩ : ∃ q, q = (R * 18446744073709551616 + v) / D := ⟨_, rfl⟩
  rw [← hq] at e1 ⊢
  clear hq
  have hs := limbs_sum D hD
  have ht := limbs_sum R (by omega)
  have l0 := limb_lt 0 R; have l1 := limb_lt 1 R
  have e2 : q * (6277101735386680763835789423207666416102355444464034512896 * limb 3 D) ≤ q * D := Nat.mul_le_mul_left q (by omega)
  rw [Nat.mul_left_comm] at e2
  generalize q * limb 3 D = z at *
  generalize q * D = y at *
  generalize limb 0 R = a at *
  generalize limb 1 R = b at *
  generalize limb 2 R = c at *
  generalize limb 3 R = d at *
  clear hs
  omega
def NRInv (N D t T h : Nat) : Prop := T < 115792089237316195423570985008687907853269984665640564039457584007913129639936 ∧ h < 18446744073709551616 ∧ t < 18446744073709551616 ∧ T + 115792089237316195423570985008687907853269984665640564039457584007913129639936 * h + t * D = N % D + (if t = 0 then 0 else 115792089237316195423570985008687907853269984665640564039457584007913129639936 * 18446744073709551616)
theorem nr_zero {N D t T h : Nat} (hD : 0 < D) (hDM : D < 115792089237316195423570985008687907853269984665640564039457584007913129639936) (ht : t = 0) (i : NRInv N D t T h) : h = 0 ∧ T = N % D := by
 obtain ⟨i1, i2, i3, i4⟩ := i
 subst ht
 simp only [Nat.zero_mul, Nat.add_zero, if_true] at i4
 have := Nat.mod_lt N hD
 generalize N % D = r at *
 omega
theorem nr_more {N D t T h : Nat} (hDM : D < 115792089237316195423570985008687907853269984665640564039457584007913129639936) (ht : t ≠ 0) (i : NRInv N D t T h) : h ≠ 0 := by
 obtain ⟨i1, i2, i3, i4⟩ := i
 rw [if_neg ht] at i4
 have b : t * D ≤ (18446744073709551616 - 1) * D := mul_le_right t (18446744073709551616 - 1) D (by omega)
 generalize N % D = r at *
 generalize t * D = z at *
 omega
theorem nr_step {N D t T h : Nat} (hD : 0 < D) (hDM : D < 115792089237316195423570985008687907853269984665640564039457584007913129639936) (ht : t ≠ 0) (i : NRInv N D t T h) : NRInv N D (t - 1) (add256 T D) ((h + (if over256 T D then 1 else 0)) % 18446744073709551616) := by
 obtain ⟨i1, i2, i3, i4⟩ := i
 rw [if_neg ht] at i4
 have hm := Nat.mod_lt N hD
 have et : t * D = (t - 1) * D + D := by
  conv => lhs; rw [show t = (t - 1) + 1 from by omega, Nat.add_mul, Nat.one_mul]
 rw [et] at i4
 have hs : T + D = add256 T D + 115792089237316195423570985008687907853269984665640564039457584007913129639936 * (if over256 T D then 1 else 0) := by
  unfold add256 over256
  by_cases hc : 115792089237316195423570985008687907853269984665640564039457584007913129639936 ≤ T + D
  ·simp only [hc, decide_true, if_true]; omega
  ·simp only [hc, decide_false, Bool.false_eq_true, if_false]; omega
 have hc1 : (if over256 T D then 1 else 0) ≤ 1 := by split <;> omega
 have ha := add256_lt T D
 refine ⟨ha, Nat.mod_lt _ (by decide), by omega, ?_⟩
 generalize (if over256 T D then 1 else 0) = c at *
 generalize add256 T D = T' at *
 generalize N % D = r at *
 by_cases h1 : t - 1 = 0
 ·rw [if_pos h1]
  rw [h1] at i4 ⊢
  simp only [Nat.zero_mul, Nat.add_zero, Nat.zero_add] at i4 ⊢
  omega
 ·rw [if_neg h1]
  have hge : D ≤ (t - 1) * D := by
   have := mul_le_right 1 (t - 1) D (by omega)
   omega
  generalize (t - 1) * D = z at *
  omega
theorem nr_lin (N y r X r3 Pl Ph T c u : Nat) (hN : N = X + 115792089237316195423570985008687907853269984665640564039457584007913129639936 * r3) (e : y + r = N) (hP : y + u = Pl + 115792089237316195423570985008687907853269984665640564039457584007913129639936 * Ph) (hs : X + 115792089237316195423570985008687907853269984665640564039457584007913129639936 * c = T + Pl) : T + 115792089237316195423570985008687907853269984665640564039457584007913129639936 * r3 + u = r + 115792089237316195423570985008687907853269984665640564039457584007913129639936 * (Ph + c) := by omega
theorem nr_lin0 (T r r3 Ph c : Nat) (h : T + 115792089237316195423570985008687907853269984665640564039457584007913129639936 * r3 + 0 = r + 115792089237316195423570985008687907853269984665640564039457584007913129639936 * (Ph + c)) (hT : T < 115792089237316195423570985008687907853269984665640564039457584007913129639936) (hr : r < 115792089237316195423570985008687907853269984665640564039457584007913129639936) : r3 = Ph + c ∧ T = r := by omega
theorem nr_lin1 (D T r r3 Ph c u : Nat) (h : T + 115792089237316195423570985008687907853269984665640564039457584007913129639936 * r3 + u = r + 115792089237316195423570985008687907853269984665640564039457584007913129639936 * (Ph + c)) (hT : T < 115792089237316195423570985008687907853269984665640564039457584007913129639936) (hr : r < D) (hD : D < 115792089237316195423570985008687907853269984665640564039457584007913129639936) (hu : D ≤ u) (hu' : u ≤ (18446744073709551616 - 1) * D) : r3 < Ph + c ∧ Ph + c < r3 + 18446744073709551616 := by omega
theorem nr_fin (T r r3 k u m : Nat) (h : T + 115792089237316195423570985008687907853269984665640564039457584007913129639936 * r3 + u = r + 115792089237316195423570985008687907853269984665640564039457584007913129639936 * k) (hm : m + k = r3 + 18446744073709551616) : T + 115792089237316195423570985008687907853269984665640564039457584007913129639936 * m + u = r + 115792089237316195423570985008687907853269984665640564039457584007913129639936 * 18446744073709551616 := by omega
theorem nr_fin0 (T r : Nat) (h : T = r) : T + 115792089237316195423570985008687907853269984665640564039457584007913129639936 * 0 + 0 = r + 0 := by omega
theorem high_zero (r3 Ph c : Nat) (h : r3 = Ph + c) : (r3 + 18446744073709551616 - Ph + 18446744073709551616 - c) % 18446744073709551616 = 0 := by
 rw [show r3 + 18446744073709551616 - Ph + 18446744073709551616 - c = 18446744073709551616 + 18446744073709551616 from by omega]
theorem high_neg (r3 Ph c : Nat) (hr : Ph < 18446744073709551616) (h1 : r3 < Ph + c) (h2 : Ph + c < r3 + 18446744073709551616) (hc : c ≤ 1) : (r3 + 18446744073709551616 - Ph + 18446744073709551616 - c) % 18446744073709551616 = r3 + 18446744073709551616 - (Ph + c) := by
 rw [show r3 + 18446744073709551616 - Ph + 18446744073709551616 - c = r3 + 18446744073709551616 - (Ph + c) + 18446744073709551616 from by omega, Nat.add_mod_right]
 exact Nat.mod_eq_of_lt (by omega)
theorem sub_back (X Pl : Nat) (hX : X < 115792089237316195423570985008687907853269984665640564039457584007913129639936) (hPl : Pl < 115792089237316195423570985008687907853269984665640564039457584007913129639936) : X + 115792089237316195423570985008687907853269984665640564039457584007913129639936 * (if below256 X Pl then 1 else 0) = sub256 X Pl + Pl := by
 unfold sub256 below256
 by_cases hc : X < Pl
 ·simp only [hc, decide_true, if_true]; omega
 ·simp only [hc, decide_false, Bool.false_eq_true, if_false]; omega
theorem below_le (X Pl : Nat) : (if below256 X Pl then 1 else 0) ≤ 1 := by split <;> omega
theorem nr_start (N D g X r3 Pl Ph : Nat) (hD : 0 < D) (hDM : D < 115792089237316195423570985008687907853269984665640564039457584007913129639936) (hN : N = X + 115792089237316195423570985008687907853269984665640564039457584007913129639936 * r3) (hX : X < 115792089237316195423570985008687907853269984665640564039457584007913129639936) (hP : D * g = Pl + 115792089237316195423570985008687907853269984665640564039457584007913129639936 * Ph) (hPl : Pl < 115792089237316195423570985008687907853269984665640564039457584007913129639936) (hPh : Ph < 18446744073709551616) (hg : g < 18446744073709551616) (hq : N / D ≤ g) :
  NRInv N D (g - N / D) (sub256 X Pl) ((r3 + 18446744073709551616 - Ph + 18446744073709551616 - (if below256 X Pl then 1 else 0)) % 18446744073709551616) := by
 have hm := Nat.mod_lt N hD
 have e := Nat.div_add_mod N D
 obtain ⟨q, hqe⟩ : ∃ q, q = N / D := ⟨_, rfl⟩
 rw [← hqe] at e hq ⊢
 obtain ⟨t, hte⟩ : ∃ t, t = g - q := ⟨_, rfl⟩
 rw [← hte]
 have htg : t ≤ 18446744073709551616 - 1 := by omega
 have hb : t * D ≤ (18446744073709551616 - 1) * D := mul_le_right _ _ D htg
 have et : D * g = D * q + t * D := by
  rw [Nat.mul_comm t, ← Nat.mul_add]; congr 1; omega
 have hs := sub_back X Pl hX hPl
 have hc1 := below_le X Pl
 have ha := sub256_lt X Pl
 have key := nr_lin N (D * q) (N % D) X r3 Pl Ph (sub256 X Pl) (if below256 X Pl then 1 else 0) (t * D) hN e (et.symm.trans hP) hs
 refine ⟨ha, Nat.mod_lt _ (by decide), by omega, ?_⟩
 by_cases h0 : t = 0
 ·rw [if_pos h0]
  rw [h0] at key ⊢
  simp only [Nat.zero_mul] at key ⊢
  have k := nr_lin0 _ _ _ _ _ key ha (Nat.lt_trans hm hDM)
  rw [high_zero _ _ _ k.1]
  exact nr_fin0 _ _ k.2
 ·rw [if_neg h0]
  have hge : D ≤ t * D := by
   have := mul_le_right 1 t D (by omega)
   omega
  have k := nr_lin1 D _ _ _ _ _ _ key ha hm hDM hge hb
  rw [high_neg _ _ _ hPh k.1 k.2 hc1]
  exact nr_fin _ _ _ _ _ _ key (Nat.sub_add_cancel (Nat.le_of_lt k.2))
theorem shift_in (R v : Nat) (hR : R < 115792089237316195423570985008687907853269984665640564039457584007913129639936) (hv : v < 18446744073709551616) : ∃ X, X < 115792089237316195423570985008687907853269984665640564039457584007913129639936 ∧ R * 18446744073709551616 + v = X + 115792089237316195423570985008687907853269984665640564039457584007913129639936 * limb 3 R ∧ v = limb 0 X ∧ limb 0 R = limb 1 X ∧ limb 1 R = limb 2 X ∧ limb 2 R = limb 3 X := by
 have g := limbs_of v (limb 0 R) (limb 1 R) (limb 2 R) hv (limb_lt _ _) (limb_lt _ _) (limb_lt _ _) _ rfl
 have hs := limbs_sum R hR
 refine ⟨_, g.2.2.2.2, ?_, g.1, g.2.1, g.2.2.1, g.2.2.2.1⟩
 generalize limb 0 R = a at *
 generalize limb 1 R = b at *
 generalize limb 2 R = c at *
 generalize limb 3 R = d at *
 omega
end Go.Proofs.YtdeijnlbencfdaaGreatDoor
namespace Go.Proofs.YtdeijnlbencfdaaGreatDoor
def shW (L r i : Nat) : Nat := (limb i L * 2 ^ r % 18446744073709551616) ||| (if i = 0 then 0 else limb (i - 1) L / 2 ^ (64 - r))
def shF (L W r k j : Nat) : Nat := if W ≤ j ∧ j < W + k then shW L r (j - W) else 0
theorem pow64 (i : Nat) : (18446744073709551616 : Nat) ^ i = 2 ^ (64 * i) := by
 rw [Nat.pow_mul]
theorem hi_part (H r : Nat) (hr : r ≤ 64) : 2 ^ r * H % 18446744073709551616 = 2 ^ r * (H % 2 ^ (64 - r)) := by
 have eQ : (18446744073709551616 : Nat) = 2 ^ r * 2 ^ (64 - r) := by rw [← Nat.pow_add, show r + (64 - r) = 64 from by omega]
 rw [eQ, Nat.mul_mod_mul_left]
theorem mod_small (H r : Nat) (hr : r ≤ 64) : H % 18446744073709551616 % 2 ^ (64 - r) = H % 2 ^ (64 - r) := by
 have eQ : (18446744073709551616 : Nat) = 2 ^ (64 - r) * 2 ^ r := by rw [← Nat.pow_add, show 64 - r + r = 64 from by omega]
 rw [eQ]; exact Nat.mod_mul_right_mod _ _ _
theorem limb_shift (L r i : Nat) (hr : r ≤ 63) : limb i (L * 2 ^ r) = shW L r i := by
 unfold shW
 by_cases h0 : i = 0
 ·subst h0
  rw [if_pos rfl, Nat.or_zero, limb0, limb0, Nat.mod_mul_mod]
 ·rw [if_neg h0]
  have hp : 0 < 2 ^ r := Nat.two_pow_pos r
  have e1 : L * 2 ^ r / 18446744073709551616 ^ i = L / 18446744073709551616 ^ (i - 1) / 2 ^ (64 - r) := by
   rw [pow64, pow64, Nat.div_div_eq_div_mul, ← Nat.pow_add, show 64 * i = (64 * (i - 1) + (64 - r)) + r from by omega, Nat.pow_add 2 (64 * (i - 1) + (64 - r)) r]
   exact Nat.mul_div_mul_right _ _ hp
  have e2 : L / 18446744073709551616 ^ (i - 1) = limb (i - 1) L + 18446744073709551616 * (L / 18446744073709551616 ^ i) := by
   have : L / 18446744073709551616 ^ i = L / 18446744073709551616 ^ (i - 1) / 18446744073709551616 := by
    rw [Nat.div_div_eq_div_mul, ← Nat.pow_succ]; congr 2; omega
   rw [this]; unfold limb; exact (Nat.mod_add_div _ _).symm
  have e3 : (limb (i - 1) L + 18446744073709551616 * (L / 18446744073709551616 ^ i)) / 2 ^ (64 - r) = limb (i - 1) L / 2 ^ (64 - r) + 2 ^ r * (L / 18446744073709551616 ^ i) := by
   have eQ : (18446744073709551616 : Nat) = 2 ^ (64 - r) * 2 ^ r := by rw [← Nat.pow_add, show 64 - r + r = 64 from by omega]
   obtain ⟨l, hl⟩ : ∃ l, l = limb (i - 1) L := ⟨_, rfl⟩
   obtain ⟨H, hH⟩ : ∃ H, H = L / 18446744073709551616 ^ i := ⟨_, rfl⟩
   rw [← hl, ← hH, eQ, Nat.mul_assoc]
   exact Nat.add_mul_div_left _ _ (Nat.two_pow_pos _)
  have e4 : limb i (L * 2 ^ r) = (limb (i - 1) L / 2 ^ (64 - r) + 2 ^ r * (L / 18446744073709551616 ^ i)) % 18446744073709551616 := by
   show L * 2 ^ r / 18446744073709551616 ^ i % 18446744073709551616 = _
   rw [e1, e2, e3]
  have hE : limb (i - 1) L / 2 ^ (64 - r) < 2 ^ r := by
   rw [Nat.div_lt_iff_lt_mul (Nat.two_pow_pos _), ← Nat.pow_add, show r + (64 - r) = 64 from by omega]
   exact limb_lt _ _
  have e5 : limb i L * 2 ^ r % 18446744073709551616 = 2 ^ r * (L / 18446744073709551616 ^ i % 2 ^ (64 - r)) := by
   rw [Nat.mul_comm, hi_part _ _ (by omega)]
   show 2 ^ r * (L / 18446744073709551616 ^ i % 18446744073709551616 % 2 ^ (64 - r)) = _
   rw [mod_small _ _ (by omega)]
  rw [e4, e5, ← Nat.two_pow_add_eq_or_of_lt hE]
  have hH : L / 18446744073709551616 ^ i % 2 ^ (64 - r) < 2 ^ (64 - r) := Nat.mod_lt _ (Nat.two_pow_pos _)
  have hb := hi_part (L / 18446744073709551616 ^ i) r (by omega)
  obtain ⟨E, hEe⟩ : ∃ E, E = limb (i - 1) L / 2 ^ (64 - r) := ⟨_, rfl⟩
  obtain ⟨K, hK⟩ : ∃ K, K = L / 18446744073709551616 ^ i % 2 ^ (64 - r) := ⟨_, rfl⟩
  obtain ⟨Z, hZ⟩ : ∃ Z, Z = 2 ^ r * (L / 18446744073709551616 ^ i) := ⟨_, rfl⟩
  rw [← hEe] at hE ⊢
  rw [← hK] at hH hb ⊢
  rw [← hZ] at hb ⊢
  have hs : 2 ^ r * K + 2 ^ r ≤ 18446744073709551616 := by
   have := Nat.mul_le_mul_left (2 ^ r) (show K + 1 ≤ 2 ^ (64 - r) from hH)
   rw [← Nat.pow_add, show r + (64 - r) = 64 from by omega] at this
   exact this
  generalize 2 ^ r * K = y at *
  generalize 2 ^ r = p at *
  clear e1 e2 e3 e4 e5
  omega
theorem limb_up (N W j : Nat) : limb j (N * 18446744073709551616 ^ W) = if j < W then 0 else limb (j - W) N := by
 have hp : ∀ k, 0 < 18446744073709551616 ^ k := fun k => Nat.pow_pos (by decide)
 by_cases h : j < W
 ·rw [if_pos h]
  unfold limb
  have : N * 18446744073709551616 ^ W = (N * 18446744073709551616 ^ (W - j - 1) * 18446744073709551616) * 18446744073709551616 ^ j := by
   rw [Nat.mul_assoc, Nat.mul_assoc, ← Nat.pow_succ', ← Nat.pow_add]; congr 2; omega
  rw [this, Nat.mul_div_cancel _ (hp j), Nat.mul_mod_left]
 ·rw [if_neg h]
  unfold limb
  have : 18446744073709551616 ^ j = 18446744073709551616 ^ (j - W) * 18446744073709551616 ^ W := by rw [← Nat.pow_add]; congr 1; omega
  rw [this, Nat.mul_div_mul_right _ _ (hp W)]
theorem shF_limb (L n W : Nat) (hW : W = n / 64) (j : Nat) (hj : j < 12) (hW' : W ≤ 12) : shF L W (n % 64) (12 - W) j = limb j (L * 2 ^ n) := by
 have e : L * 2 ^ n = L * 2 ^ (n % 64) * 18446744073709551616 ^ W := by
  rw [Nat.mul_assoc, pow64, ← Nat.pow_add]; congr 2; omega
 rw [e, limb_up]
 unfold shF
 by_cases h : j < W
 ·rw [if_pos h, if_neg (by omega)]
 ·rw [if_neg h, if_pos (by omega), limb_shift _ _ _ (by omega)]
theorem shF_zero (L W r j : Nat) : shF L W r 0 j = 0 := by unfold shF; rw [if_neg (by omega)]
theorem shF_step (L W r k j : Nat) : shF L W r (k + 1) j = if j = k + W then shW L r k else shF L W r k j := by
 unfold shF
 by_cases h : j = k + W
 ·subst h; rw [if_pos (by omega), if_pos rfl]; congr 1; omega
 ·rw [if_neg h]
  by_cases h2 : W ≤ j ∧ j < W + k
  ·rw [if_pos h2, if_pos (by omega)]
  ·rw [if_neg h2, if_neg (by omega)]
theorem limb_join_lo (A B i : Nat) (hi : i < 4) : limb i (A + 115792089237316195423570985008687907853269984665640564039457584007913129639936 * B) = limb i A := by
 have h4 : i = 0 ∨ i = 1 ∨ i = 2 ∨ i = 3 := by omega
 rcases h4 with rfl | rfl | rfl | rfl
 ·rw [limb0, limb0]; omega
 ·rw [limb1, limb1]; omega
 ·rw [limb2, limb2]; omega
 ·rw [limb3, limb3]; omega
theorem limb_add4 (N i : Nat) : limb (i + 4) N = limb i (N / 115792089237316195423570985008687907853269984665640564039457584007913129639936) := by
 unfold limb
 rw [Nat.pow_add, show (18446744073709551616 : Nat) ^ 4 = 115792089237316195423570985008687907853269984665640564039457584007913129639936 from by decide, Nat.mul_comm, Nat.div_div_eq_div_mul]
theorem limb_join_hi (A B i : Nat) (hA : A < 115792089237316195423570985008687907853269984665640564039457584007913129639936) : limb (i + 4) (A + 115792089237316195423570985008687907853269984665640564039457584007913129639936 * B) = limb i B := by
 rw [limb_add4, Nat.add_mul_div_left _ _ (by decide), Nat.div_eq_of_lt hA, Nat.zero_add]
theorem limb_mod (N i : Nat) (hi : i < 4) : limb i N = limb i (N % 115792089237316195423570985008687907853269984665640564039457584007913129639936) := by
 have h4 : i = 0 ∨ i = 1 ∨ i = 2 ∨ i = 3 := by omega
 rcases h4 with rfl | rfl | rfl | rfl
 ·rw [limb0, limb0]; omega
 ·rw [limb1, limb1]; omega
 ·rw [limb2, limb2]; omega
 ·rw [limb3, limb3]; omega
end Go.Proofs.YtdeijnlbencfdaaGreatDoor
namespace Go.Proofs.YtdeijnlbencfdaaGreatDoor
def bitN (A i : Nat) : Nat := A / 2 ^ i % 2
theorem bitN_test (A i : Nat) : A.testBit i = decide (bitN A i = 1) := by
 unfold bitN; rw [Nat.testBit_eq_decide_div_mod_eq]
theorem limb_test (j X i : Nat) : (limb j X).testBit i = (decide (i < 64) && X.testBit (64 * j + i)) := by
 unfold limb
 rw [pow64, show (18446744073709551616 : Nat) = 2 ^ 64 from by decide, Nat.testBit_mod_two_pow, Nat.testBit_div_two_pow, Nat.add_comm]
end Go.Proofs.YtdeijnlbencfdaaGreatDoor
