/- What field.Inv and Neg do. -/
import Derived.Test.YteheloagjkengaaDoorF12
import Derived.Test.YteheloagjkengaaDoorBE
import Derived.Test.YteheloagjkengaaDoorBN
import Derived.Deep.CutBlock
import Derived.Deep.DeepCutAuto
import Derived.Laws.Bits64b
namespace Go.Proofs.YteheloagjkengaaDoor
open Go.RowKit

theorem modN_prime (s : Nat) : IsPrime (modN s) := by
  match s with
  | 0 => exact prime0
  | 1 => exact prime1
  | 2 => exact prime2
  | _ + 3 => exact prime3
theorem modN_odd (s : Nat) : modN s % 2 = 1 ∧ 1 < modN s := by
  match s with
  | 0 => decide
  | 1 => decide
  | 2 => exact ⟨by decide, by decide⟩
  | _ + 3 => exact ⟨by show 28948022309329048855892746252171976963363056481941647379679742748393362948097 % 2 = 1; decide, by show 1 < 28948022309329048855892746252171976963363056481941647379679742748393362948097; decide⟩
theorem prime_gcd (p x : Nat) (hp : IsPrime p) (h0 : x ≠ 0) (hx : x < p) : Nat.gcd x p = 1 := by
  rw [Nat.gcd_comm]
  exact hp.coprime (fun hd => by have := Nat.le_of_dvd (by omega) hd; omega)

set_option maxHeartbeats 2000000 in
/-- field.Add of a sort that there isn't. -/
theorem fAdd_out (s : Int) (a b : Nat) (hs : s < 0 ∨ 4 ≤ s) (w : World) :
    Calls Tryd.prog 27 #[.int .i64 s, .agg #[.int .u64 ((limb 0 (a) : Nat) : Int), .int .u64 ((limb 1 (a) : Nat) : Int), .int .u64 ((limb 2 (a) : Nat) : Int), .int .u64 ((limb 3 (a) : Nat) : Int)], .agg #[.int .u64 ((limb 0 (b) : Nat) : Int), .int .u64 ((limb 1 (b) : Nat) : Int), .int .u64 ((limb 2 (b) : Nat) : Int), .int .u64 ((limb 3 (b) : Nat) : Int)]] w fun e w' => e = .returned (.agg #[.int .u64 0, .int .u64 0, .int .u64 0, .int .u64 0]) ∧ Below w.heap.size w w' := by
  have HM := fun w => modulus_out s hs w
  clear hs
  go_enter Tryd.func27, Tryd.ntmps27
  go_wp2_with fail
  obtain ⟨w0, hw0⟩ : ∃ w0 : World, w0 = ((w.alloc (.cells #[.int .u64 ((limb 0 (a) : Nat) : Int), .int .u64 ((limb 1 (a) : Nat) : Int), .int .u64 ((limb 2 (a) : Nat) : Int), .int .u64 ((limb 3 (a) : Nat) : Int)] 25)).alloc (.cells #[.int .u64 ((limb 0 (b) : Nat) : Int), .int .u64 ((limb 1 (b) : Nat) : Int), .int .u64 ((limb 2 (b) : Nat) : Int), .int .u64 ((limb 3 (b) : Nat) : Int)] 25)).alloc (.cells #[.int .u64 0, .int .u64 0, .int .u64 0, .int .u64 0] 25) := ⟨_, rfl⟩
  have br0 : Blk w0 25 (w.heap.size + 1 + 1) (fun _ => 0) := by rw [hw0]; exact Blk.newAt _ _ _ (fun _ => 0) (by simp)
  have hb0 : Below w.heap.size w w0 := by
    rw [hw0]
    repeat (first | with_reducible exact Below.refl _ _ | with_reducible refine Below.alloc ?_ (by first | omega | (simp; omega) | simp) _)
  rw [← hw0]
  clear hw0
  refine (HM _).mono ?_
  rintro e w1 ⟨rfl, hb1⟩
  have br1 := br0.belowAll hb1
  have hbw1 := bStep hb0 hb1
  have cr := br1.cell; have fr := br1.frozen; have lr := br1.lt
  clear br0 hb0 hb1 HM
  go_wp2
  refine bodyPost_ret (v := .agg #[.int .u64 0, .int .u64 0, .int .u64 0, .int .u64 0]) (by simp [results, Tryd.results27, go_sem, cr, cell_old, lr]) rfl ⟨rfl, ?_⟩
  have hz1 := hbw1.size
  repeat (first | with_reducible exact hbw1 | with_reducible refine Below.setCell ?_ (by first | omega | (simp; omega) | simp) _ | with_reducible refine Below.alloc ?_ (by first | omega | (simp; omega) | simp) _)

end Go.Proofs.YteheloagjkengaaDoor

/- The laws of a field, as plain arithmetic; the statements' own first look (alive) of layer 2. -/
namespace Go.Proofs.YteheloagjkengaaDoor
open Go.RowKit

theorem mulP_comm (s a b : Nat) : mulP s b a = mulP s a b := by unfold mulP; rw [Nat.mul_comm]
theorem mulP_assoc (s a b c : Nat) : mulP s a (mulP s b c) = mulP s (mulP s a b) c := by
  unfold mulP; rw [Nat.mul_mod_mod, Nat.mod_mul_mod, Nat.mul_assoc]
theorem mulP_add (s a b c : Nat) : addP s (mulP s a b) (mulP s a c) = mulP s a (addP s b c) := by
  unfold mulP addP; rw [← Nat.add_mod, Nat.mul_mod_mod, Nat.mul_add]
theorem subP_back (s b c : Nat) : addP s b 0 = subP s (addP s b c) c := by
  have hp := modN_pos s
  have hc := Nat.mod_lt c hp
  have hd := Nat.div_add_mod c (modN s)
  unfold subP addP
  rw [Nat.mod_add_mod, Nat.add_zero, show b + c + (modN s - c % modN s) = b + modN s * (c / modN s + 1) from by rw [Nat.mul_add]; omega, Nat.add_mul_mod_self_left]
theorem negP_zero (s a : Nat) : addP s a (subP s 0 a) = 0 := by
  have hp := modN_pos s
  have hc := Nat.mod_lt a hp
  have hd := Nat.div_add_mod a (modN s)
  unfold addP subP
  rw [Nat.add_mod_mod, Nat.zero_add, show a + (modN s - a % modN s) = modN s * (a / modN s + 1) from by rw [Nat.mul_add]; omega, Nat.mul_mod_right]
theorem invP_one (s q a : Nat) (h : q * (a % modN s) % modN s = 1) : mulP s q a = 1 := by unfold mulP; rw [← Nat.mul_mod_mod]; exact h
theorem zeroP (s a : Nat) (h : a % modN s = 0) : addP s a 0 = 0 := by unfold addP; rw [Nat.add_zero]; exact h
theorem modN_lt (s : Nat) : modN s < 115792089237316195423570985008687907853269984665640564039457584007913129639936 := (modN_good s).lt.2.2
theorem eqlN (X n : Nat) (hX : X < 115792089237316195423570985008687907853269984665640564039457584007913129639936) (hn : n < 18446744073709551616) (w : World) : (binOp .eql 25 (.agg #[.int .u64 ((limb 0 (X) : Nat) : Int), .int .u64 ((limb 1 (X) : Nat) : Int), .int .u64 ((limb 2 (X) : Nat) : Int), .int .u64 ((limb 3 (X) : Nat) : Int)]) (.agg #[.int .u64 (n : Int), .int .u64 0, .int .u64 0, .int .u64 0])).run Tryd.prog w = .ok (.bool (decide (X = n))) w := by
  have h := eqlE X n hX (by omega) w
  rw [limb_small n 0 hn, limb_small n 1 hn, limb_small n 2 hn, limb_small n 3 hn, if_pos rfl, if_neg (by decide), if_neg (by decide), if_neg (by decide)] at h
  exact h
theorem neqZ (X : Nat) (hX : X < 115792089237316195423570985008687907853269984665640564039457584007913129639936) (w : World) : (binOp .neq 25 (.agg #[.int .u64 ((limb 0 (X) : Nat) : Int), .int .u64 ((limb 1 (X) : Nat) : Int), .int .u64 ((limb 2 (X) : Nat) : Int), .int .u64 ((limb 3 (X) : Nat) : Int)]) (.agg #[.int .u64 0, .int .u64 0, .int .u64 0, .int .u64 0])).run Tryd.prog w = .ok (.bool (!decide (X = 0))) w := by
  have h := neqE X 0 hX (by decide) w
  rw [limb_zero, limb_zero, limb_zero, limb_zero] at h
  exact h
theorem word_agg (n : Nat) (hn : n < 18446744073709551616) : (.agg #[.int .u64 ((limb 0 (n) : Nat) : Int), .int .u64 ((limb 1 (n) : Nat) : Int), .int .u64 ((limb 2 (n) : Nat) : Int), .int .u64 ((limb 3 (n) : Nat) : Int)] : Value) = .agg #[.int .u64 (n : Int), .int .u64 0, .int .u64 0, .int .u64 0] := by
  rw [limb_small n 0 hn, limb_small n 1 hn, limb_small n 2 hn, limb_small n 3 hn, if_pos rfl, if_neg (by decide), if_neg (by decide), if_neg (by decide)]
  rfl

theorem half_one (p h q : Nat) (hp : p + 1 = 2 * h) (hp0 : 0 < p) (lq : q < p) (hq : q * 2 % p = 1) : q = h := by
  have h1 := Nat.div_add_mod (q * 2) p
  rw [hq] at h1
  have hk : q * 2 / p < 2 := by rw [Nat.div_lt_iff_lt_mul hp0]; omega
  obtain ⟨k, ek⟩ : ∃ k, k = q * 2 / p := ⟨_, rfl⟩
  rw [← ek] at h1 hk
  have h2 : k = 0 ∨ k = 1 := by omega
  rcases h2 with rfl | rfl
  · omega
  · omega
theorem q_alive (q : Nat) (lq : q < 16513537) (hq : q * 2 % 16513537 = 1) : q = 8256769 := half_one 16513537 8256769 q (by decide) (by decide) lq hq
theorem add_alive (w : World) (hg : Glob w) : Calls Tryd.prog 27 #[.int .i64 0, .agg #[.int .u64 16513536, .int .u64 0, .int .u64 0, .int .u64 0], .agg #[.int .u64 2, .int .u64 0, .int .u64 0, .int .u64 0]] w fun e w' => e = .returned (.agg #[.int .u64 1, .int .u64 0, .int .u64 0, .int .u64 0]) ∧ Below w.heap.size w w' := by
  have h := fAdd_any 0 16513536 2 (by decide) (by decide) (by decide) w hg
  rw [show addP 0 16513536 2 = 1 from by decide, word_agg 2 (by decide), word_agg 16513536 (by decide), word_agg 1 (by decide)] at h
  exact h

end Go.Proofs.YteheloagjkengaaDoor

/- FieldLaws: the walk: for every sort, a, b and c the call returns true, where the package's variables read as the text lays them. -/
namespace Go.Proofs.YteheloagjkengaaDoor
open Go.RowKit

theorem fAdd_zero (s b : Nat) (hs : s < 4) (hb : b < 115792089237316195423570985008687907853269984665640564039457584007913129639936) (w : World) (hg : Glob w) :
    Calls Tryd.prog 27 #[.int .i64 (s : Int), .agg #[.int .u64 ((limb 0 (b) : Nat) : Int), .int .u64 ((limb 1 (b) : Nat) : Int), .int .u64 ((limb 2 (b) : Nat) : Int), .int .u64 ((limb 3 (b) : Nat) : Int)], .agg #[.int .u64 0, .int .u64 0, .int .u64 0, .int .u64 0]] w fun e w' => e = .returned (.agg #[.int .u64 ((limb 0 (addP s b 0) : Nat) : Int), .int .u64 ((limb 1 (addP s b 0) : Nat) : Int), .int .u64 ((limb 2 (addP s b 0) : Nat) : Int), .int .u64 ((limb 3 (addP s b 0) : Nat) : Int)]) ∧ Below w.heap.size w w' := by
  have h := fAdd_any s b 0 hs hb (by decide) w hg
  rw [limbz, limbz, limbz, limbz] at h
  exact h
theorem Glob.drew {w : World} (h : Glob w) : Glob w.drew := h

end Go.Proofs.YteheloagjkengaaDoor

/- Powers by squares and bits; word.Bit, field.bitLength. -/
namespace Go.Proofs.YteheloagjkengaaDoor
open Go.RowKit

/-- a to the power k by m. -/
def powM (m a k : Nat) : Nat := a ^ k % m
theorem powM_lt (m a k : Nat) (h : 0 < m) : powM m a k < m := Nat.mod_lt _ h
theorem powM_zero (m a : Nat) (h : 1 < m) : powM m a 0 = 1 := by unfold powM; rw [Nat.pow_zero, Nat.mod_eq_of_lt h]
theorem powM_two (m a k : Nat) : powM m a k * powM m a k % m = powM m a (2 * k) := by
  unfold powM; rw [← Nat.mul_mod, ← Nat.pow_add]; congr 2; omega
theorem powM_more (m a k : Nat) : powM m a k * a % m = powM m a (k + 1) := by
  unfold powM; rw [Nat.mod_mul_mod, Nat.pow_succ]
theorem powM_base (m a k : Nat) : powM m (a % m) k = powM m a k := by unfold powM; rw [← Nat.pow_mod]
theorem bit_halves (e k : Nat) : e / 2 ^ k = 2 * (e / 2 ^ (k + 1)) + bitN e k := by
  unfold bitN; rw [Nat.pow_succ, ← Nat.div_div_eq_div_mul]; omega
theorem bitN_01 (e k : Nat) : bitN e k = 0 ∨ bitN e k = 1 := by unfold bitN; omega
theorem powM_bit1 (m a e k : Nat) (h : bitN e k = 1) : powM m a (2 * (e / 2 ^ (k + 1))) * a % m = powM m a (e / 2 ^ k) := by
  rw [powM_more, bit_halves e k, h]
theorem powM_bit0 (m a e k : Nat) (h : bitN e k = 0) : powM m a (2 * (e / 2 ^ (k + 1))) = powM m a (e / 2 ^ k) := by
  have e1 := bit_halves e k
  rw [h, Nat.add_zero] at e1
  rw [e1]
theorem bit_limb (A k m : Nat) (hm : m < 64) : limb k A / 2 ^ m % 2 = bitN A (64 * k + m) := by
  have h := limb_test k A m
  rw [Nat.testBit_eq_decide_div_mod_eq, bitN_test] at h
  simp only [hm, decide_true, Bool.true_and, decide_eq_decide] at h
  have h1 := bitN_01 A (64 * k + m)
  omega
theorem bit_at (A i : Nat) : limb (i / 64) A / 2 ^ (i % 64) % 2 = bitN A i := by
  have h := bit_limb A (i / 64) (i % 64) (Nat.mod_lt _ (by decide))
  rw [show 64 * (i / 64) + i % 64 = i from by omega] at h
  exact h

theorem and_one (x r : Nat) (hx : x < 18446744073709551616) : bits BinOp.and IntKind.u64 ((x : Int) / 2 ^ r) 1 = ((x / 2 ^ r % 2 : Nat) : Int) := by
  have h1 : (x : Int) / 2 ^ r = ((x / 2 ^ r : Nat) : Int) := by simp
  have h2 : x / 2 ^ r < 18446744073709551616 := Nat.lt_of_le_of_lt (Nat.div_le_self _ _) hx
  have h := bits_and_u64_nat (x / 2 ^ r) 1 h2 (by decide)
  rw [h1]
  rw [Nat.and_one_is_mod] at h
  exact h
end Go.Proofs.YteheloagjkengaaDoor

/- What field.bitLength and field.power do. -/
namespace Go.Proofs.YteheloagjkengaaDoor
open Go.RowKit

theorem bitLen_under : ∀ x : Nat, x < 2 ^ 64 → x < 2 ^ Lib.bitLen x := by
  intro x
  induction x using Nat.strongRecOn with
  | _ x ih =>
    intro hx
    by_cases h0 : x = 0
    · subst h0; exact Nat.two_pow_pos _
    · rw [Lib.bitLen_half x h0 hx, Nat.add_comm, Nat.pow_succ]
      have h := ih (x / 2) (by omega) (by omega)
      omega
theorem bitLen_top2 (x : Nat) (hx : x < 18446744073709551616) : x < 2 ^ Lib.bitLen x ∧ Lib.bitLen x ≤ 64 := by
  refine ⟨?_, Lib.bitLen_le x 64 (by decide) (by simpa using hx)⟩
  exact bitLen_under x (by simpa using hx)
/-- How many bits a number has, as field.bitLength reckons it. -/
def lenN (A : Nat) : Nat := if limb 3 A ≠ 0 then 192 + Lib.bitLen (limb 3 A) else if limb 2 A ≠ 0 then 128 + Lib.bitLen (limb 2 A) else if limb 1 A ≠ 0 then 64 + Lib.bitLen (limb 1 A) else Lib.bitLen (limb 0 A)

theorem lenN_top (A : Nat) (hA : A < 115792089237316195423570985008687907853269984665640564039457584007913129639936) : A < 2 ^ lenN A ∧ lenN A ≤ 256 := by
  have hs := limbs_sum A hA
  have l0 := bitLen_top2 _ (limb_lt 0 A); have l1 := bitLen_top2 _ (limb_lt 1 A); have l2 := bitLen_top2 _ (limb_lt 2 A); have l3 := bitLen_top2 _ (limb_lt 3 A)
  have g0 := limb_lt 0 A; have g1 := limb_lt 1 A; have g2 := limb_lt 2 A
  unfold lenN
  generalize limb 0 A = a0 at *
  generalize limb 1 A = a1 at *
  generalize limb 2 A = a2 at *
  generalize limb 3 A = a3 at *
  generalize Lib.bitLen a0 = b0 at *
  generalize Lib.bitLen a1 = b1 at *
  generalize Lib.bitLen a2 = b2 at *
  generalize Lib.bitLen a3 = b3 at *
  by_cases h3 : a3 = 0
  · by_cases h2 : a2 = 0
    · by_cases h1 : a1 = 0
      · simp only [h1, h2, h3, ne_eq, not_true_eq_false, if_false]
        refine ⟨?_, by omega⟩
        have := l0.1
        omega
      · simp only [h1, h2, h3, ne_eq, not_true_eq_false, not_false_eq_true, if_true, if_false]
        refine ⟨?_, by omega⟩
        rw [Nat.pow_add]
        have := l1.1
        generalize 2 ^ b1 = p at *
        have e : (2 : Nat) ^ 64 = 18446744073709551616 := by decide
        rw [e]
        omega
    · simp only [h2, h3, ne_eq, not_true_eq_false, not_false_eq_true, if_true, if_false]
      refine ⟨?_, by omega⟩
      rw [Nat.pow_add]
      have := l2.1
      generalize 2 ^ b2 = p at *
      have e : (2 : Nat) ^ 128 = 340282366920938463463374607431768211456 := by decide
      rw [e]
      omega
  · simp only [h3, ne_eq, not_false_eq_true, if_true]
    refine ⟨?_, by omega⟩
    rw [Nat.pow_add]
    have := l3.1
    generalize 2 ^ b3 = p at *
    have e : (2 : Nat) ^ 192 = 6277101735386680763835789423207666416102355444464034512896 := by decide
    rw [e]
    omega

end Go.Proofs.YteheloagjkengaaDoor

/- What field.power and field.Exp do. -/
namespace Go.Proofs.YteheloagjkengaaDoor
open Go.RowKit

theorem out_sq (m x e L k : Nat) (hk : k < L) : powM m x (e / 2 ^ (L - k)) * powM m x (e / 2 ^ (L - k)) % m = powM m x (2 * (e / 2 ^ (L - 1 - k + 1))) := by
  rw [show L - 1 - k + 1 = L - k from by omega, powM_two]
theorem out_next1 (m x e L k : Nat) (hk : k < L) (h : bitN e (L - 1 - k) = 1) : powM m x (2 * (e / 2 ^ (L - 1 - k + 1))) * x % m = powM m x (e / 2 ^ (L - (k + 1))) := by
  rw [powM_bit1 m x e (L - 1 - k) h, show L - 1 - k = L - (k + 1) from by omega]
theorem out_next0 (m x e L k : Nat) (hk : k < L) (h : ¬ bitN e (L - 1 - k) = 1) : powM m x (2 * (e / 2 ^ (L - 1 - k + 1))) = powM m x (e / 2 ^ (L - (k + 1))) := by
  have := bitN_01 e (L - 1 - k)
  rw [powM_bit0 m x e (L - 1 - k) (by omega), show L - 1 - k = L - (k + 1) from by omega]

/-- a to the power e, in the field of a sort. -/
def expP (s a e : Nat) : Nat := powM (modN s) a e
theorem expP_lt (s a e : Nat) : expP s a e < modN s := powM_lt _ _ _ (modN_pos s)

end Go.Proofs.YteheloagjkengaaDoor

