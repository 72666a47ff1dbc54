import Derived.Test.YtdeijnlbencfdaaGreatDoorWF12
import Derived.Test.YtdeijnlbencfdaaGreatDoorWBE
import Derived.Test.YtdeijnlbencfdaaGreatDoorWXA
import Derived.Deep.CutBlock
import Derived.Deep.DeepCutAuto
import Derived.Laws.Bits64b
set_option maxHeartbeats 4000000
namespace Go.Proofs.YtdeijnlbencfdaaGreatDoor
open Go.RowKit
theorem modN_prime (s : Nat) : IsPrime (modN s) := by
 match s with
 | 0 => exact prime0
 | 1 => exact prime1
 | 2 => exact prime2
 | _ + 3 => exact prime3
theorem modN_odd (s : Nat) : modN s % 2 = 1 ∧ 1 < modN s := by
 match s with
 | 0 => decide
 | 1 => decide
 | 2 => exact ⟨by decide, by decide⟩
 | _ + 3 => exact ⟨by show 28948022309329048855892746252171976963363056481941647379679742748393362948097 % 2 = 1; decide, by show 1 < 28948022309329048855892746252171976963363056481941647379679742748393362948097; decide⟩
theorem prime_gcd (p x : Nat) (hp : IsPrime p) (h0 : x ≠ 0) (hx : x < p) : Nat.gcd x p = 1 := by
 rw [Nat.gcd_comm]
 exact hp.coprime (fun hd => by have := Nat.le_of_dvd (by omega) hd; omega)
theorem fInv_any (s a : Nat) (hs : s < 4) (ha : a < 115792089237316195423570985008687907853269984665640564039457584007913129639936) (w : World) (hg : Glob w) :
  Calls Tryz.prog 62 #[.int .i64 (s : Int), .agg #[.int .u64 (limb 0 a), .int .u64 (limb 1 a), .int .u64 (limb 2 a), .int .u64 (limb 3 a)]] w fun e w' => ((a % modN s = 0 ∧ e = .returned (.tuple #[.agg #[.int .u64 0, .int .u64 0, .int .u64 0, .int .u64 0], .int .i64 10])) ∨ (a % modN s ≠ 0 ∧ ∃ q, q < modN s ∧ q * (a % modN s) % modN s = 1 ∧ e = .returned (.tuple #[.agg #[.int .u64 (limb 0 q), .int .u64 (limb 1 q), .int .u64 (limb 2 q), .int .u64 (limb 3 q)], .int .i64 0]))) ∧ Below w.heap.size w w' := by
 have hgl := (modN_good s).lt
 have hod := modN_odd s
 have hpr := modN_prime s
 have HM := fun w hg => modulus_any s hs w hg
 obtain ⟨m, em⟩ : ∃ m, m = modN s := ⟨_, rfl⟩
 rw [← em] at hgl hod hpr HM ⊢
 clear em
 obtain ⟨h0, hm2, hm⟩ := hgl
 have lx := Nat.mod_lt a h0
 have EA := fun w => element_any m a h0 hm ha w
 obtain ⟨x, ex⟩ : ∃ x, x = a % m := ⟨_, rfl⟩
 rw [← ex] at lx EA ⊢
 clear ex
 have HP := (show Hid _ from hpr)
 clear hpr
 go_enter Tryz.func62, Tryz.ntmps62
 go_wp2_with fail
 obtain ⟨w0, hw0⟩ : ∃ w0 : World, w0 = (w.alloc (.cells #[.int .u64 (limb 0 a), .int .u64 (limb 1 a), .int .u64 (limb 2 a), .int .u64 (limb 3 a)] 25)).alloc (.cells #[.int .u64 0, .int .u64 0, .int .u64 0, .int .u64 0] 25) := ⟨_, rfl⟩
 have ba0 : Blk w0 25 w.heap.size (fun i => limb i a) := by rw [hw0]; exact (Blk.newAt _ _ _ (fun i => limb i a) (by simp)).alloc _
 have br0 : Blk w0 25 (w.heap.size + 1) (fun _ => 0) := by rw [hw0]; exact Blk.newAt _ _ _ (fun _ => 0) (by simp)
 have hg0 : Glob w0 := by rw [hw0]; exact (hg.alloc _).alloc _
 have hb0 : Below w.heap.size w w0 := by
  rw [hw0]
  repeat (first | with_reducible exact Below.refl _ _ | with_reducible refine Below.alloc ?_ (by first | omega | (simp; omega) | simp) _)
 rw [← hw0]
 clear hw0 hg
 refine (HM _ hg0).mono ?_
 rintro e w1 ⟨rfl, hb1⟩
 have ba1 := ba0.belowAll hb1; have br1 := br0.belowAll hb1; have hg1 := hg0.below hb1
 have hbw1 := bStep hb0 hb1
 clear ba0 br0 hb0 hb1 hg0 HM
 have ca := ba1.cell; have la := ba1.lt
 obtain ⟨hA, hG⟩ := acell (w := w1) (n := w1.heap.size) (Nat.le_refl _)
 go_wp2_with fail
 refine (EA _).mono ?_
 rintro e w2 ⟨rfl, hb2⟩
 have br2 := (br1.alloc _).belowAll hb2; have hg2 := (hg1.alloc _).below hb2
 have bm2 : Blk w2 61 w1.heap.size (fun i => limb i m) := (Blk.new w1 _ (fun i => limb i m)).belowAll hb2
 have hbw2 := bStep (bAlloc hbw1 _) hb2
 have hne : w.heap.size + 1 ≠ w1.heap.size := by have := br1.lt; omega
 clear ba1 br1 hbw1 hb2 hg1 EA ca la hA hG
 have hq0 := fun w => eqlS0 x (by omega) w
 have cr := br2.cell; have fr := br2.frozen; have lr := br2.lt; have lm := bm2.lt
 obtain ⟨hA, hG⟩ := acell (w := w2) (n := w2.heap.size) (Nat.le_refl _)
 by_cases hx0 : x = 0
 ·rw [show decide (x = 0) = true from by simp [hx0]] at hq0
  go_wp2
  refine bodyPost_ret (v := .tuple #[.agg #[.int .u64 0, .int .u64 0, .int .u64 0, .int .u64 0], .int .i64 10]) (by simp [results, Tryz.results62, go_sem, cr, cell_old, lr]) rfl ⟨Or.inl ⟨hx0, rfl⟩, ?_⟩
  have hz2 := hbw2.size
  repeat (first | with_reducible exact hbw2 | with_reducible refine Below.setCell ?_ (by first | omega | (simp; omega) | simp) _ | with_reducible refine Below.alloc ?_ (by first | omega | (simp; omega) | simp) _)
 ·rw [show decide (x = 0) = false from by simp [hx0]] at hq0
  have cm := bm2.cell
  have hgcd := prime_gcd m x HP.out hx0 lx
  have HX := (show Hid _ from hx0)
  clear hx0
  go_wp2_with fail
  refine (inverse_any m x hm2 hod.2 hod.1 lx hgcd _ (hg2.alloc _)).mono ?_
  rintro e w3 ⟨q, lq, hq, rfl, hb3⟩
  have br3 := (br2.alloc _).belowAll hb3
  have hbw3 := bStep (bAlloc hbw2 _) hb3
  have HQ := (show Hid _ from hq)
  clear br2 bm2 hbw2 hb3 hg2 cr fr lr lm cm hA hG hq0 hq hgcd
  go_wp2_with fail
  refine (toElem_any q _).mono ?_
  rintro e w4 ⟨rfl, hb4⟩
  have br4 := br3.belowAll hb4
  have hbw4 := bStep hbw3 hb4
  have cr := br4.cell; have fr := br4.frozen; have lr := br4.lt
  clear br3 hbw3 hb4
  go_wp2
  refine bodyPost_ret (v := .tuple #[.agg #[.int .u64 (limb 0 q), .int .u64 (limb 1 q), .int .u64 (limb 2 q), .int .u64 (limb 3 q)], .int .i64 0]) (by simp [results, Tryz.results62, go_sem, cr]) rfl ⟨Or.inr ⟨HX.out, q, lq, HQ.out, rfl⟩, ?_⟩
  repeat (first | with_reducible exact hbw4 | with_reducible refine Below.setCell ?_ (by first | omega | (simp; omega) | simp) _)
end Go.Proofs.YtdeijnlbencfdaaGreatDoor
namespace Go.Proofs.YtdeijnlbencfdaaGreatDoor
open Go.RowKit
theorem modN_lt (s : Nat) : modN s < 115792089237316195423570985008687907853269984665640564039457584007913129639936 := (modN_good s).lt.2.2
theorem eqlN (X n : Nat) (hX : X < 115792089237316195423570985008687907853269984665640564039457584007913129639936) (hn : n < 18446744073709551616) (w : World) : (binOp .eql 25 (.agg #[.int .u64 (limb 0 X), .int .u64 (limb 1 X), .int .u64 (limb 2 X), .int .u64 (limb 3 X)]) (.agg #[.int .u64 (n : Int), .int .u64 0, .int .u64 0, .int .u64 0])).run Tryz.prog w = .ok (.bool (decide (X = n))) w := by
 have h := eqlE X n hX (by omega) w
 rw [limb_small n 0 hn, limb_small n 1 hn, limb_small n 2 hn, limb_small n 3 hn, if_pos rfl, if_neg (by decide), if_neg (by decide), if_neg (by decide)] at h
 exact h
theorem neqZ (X : Nat) (hX : X < 115792089237316195423570985008687907853269984665640564039457584007913129639936) (w : World) : (binOp .neq 25 (.agg #[.int .u64 (limb 0 X), .int .u64 (limb 1 X), .int .u64 (limb 2 X), .int .u64 (limb 3 X)]) (.agg #[.int .u64 0, .int .u64 0, .int .u64 0, .int .u64 0])).run Tryz.prog w = .ok (.bool (!decide (X = 0))) w := by
 have h := neqE X 0 hX (by decide) w
 rw [limb_zero, limb_zero, limb_zero, limb_zero] at h
 exact h
theorem word_agg (n : Nat) (hn : n < 18446744073709551616) : (.agg #[.int .u64 (limb 0 n), .int .u64 (limb 1 n), .int .u64 (limb 2 n), .int .u64 (limb 3 n)] : Value) = .agg #[.int .u64 (n : Int), .int .u64 0, .int .u64 0, .int .u64 0] := by
 rw [limb_small n 0 hn, limb_small n 1 hn, limb_small n 2 hn, limb_small n 3 hn, if_pos rfl, if_neg (by decide), if_neg (by decide), if_neg (by decide)]
 rfl
end Go.Proofs.YtdeijnlbencfdaaGreatDoor
namespace Go.Proofs.YtdeijnlbencfdaaGreatDoor
open Go.RowKit
theorem fAdd_zero (s b : Nat) (hs : s < 4) (hb : b < 115792089237316195423570985008687907853269984665640564039457584007913129639936) (w : World) (hg : Glob w) :
  Calls Tryz.prog 16 #[.int .i64 (s : Int), .agg #[.int .u64 (limb 0 b), .int .u64 (limb 1 b), .int .u64 (limb 2 b), .int .u64 (limb 3 b)], .agg #[.int .u64 0, .int .u64 0, .int .u64 0, .int .u64 0]] w fun e w' => e = .returned (.agg #[.int .u64 (limb 0 (addP s b 0)), .int .u64 (limb 1 (addP s b 0)), .int .u64 (limb 2 (addP s b 0)), .int .u64 (limb 3 (addP s b 0))]) ∧ Below w.heap.size w w' := by
 have h := fAdd_any s b 0 hs hb (by decide) w hg
 rw [limbz, limbz, limbz, limbz] at h
 exact h
theorem Glob.drew {w : World} (h : Glob w) : Glob w.drew := h
end Go.Proofs.YtdeijnlbencfdaaGreatDoor
namespace Go.Proofs.YtdeijnlbencfdaaGreatDoor
open Go.RowKit
def powM (m a k : Nat) : Nat := a ^ k % m
theorem powM_lt (m a k : Nat) (h : 0 < m) : powM m a k < m := Nat.mod_lt _ h
theorem powM_zero (m a : Nat) (h : 1 < m) : powM m a 0 = 1 := by unfold powM; rw [Nat.pow_zero, Nat.mod_eq_of_lt h]
theorem powM_two (m a k : Nat) : powM m a k * powM m a k % m = powM m a (2 * k) := by
 unfold powM; rw [← Nat.mul_mod, ← Nat.pow_add]; congr 2; omega
theorem powM_more (m a k : Nat) : powM m a k * a % m = powM m a (k + 1) := by
 unfold powM; rw [Nat.mod_mul_mod, Nat.pow_succ]
theorem bit_halves (e k : Nat) : e / 2 ^ k = 2 * (e / 2 ^ (k + 1)) + bitN e k := by
 unfold bitN; rw [Nat.pow_succ, ← Nat.div_div_eq_div_mul]; omega
theorem bitN_01 (e k : Nat) : bitN e k = 0 ∨ bitN e k = 1 := by unfold bitN; omega
theorem bit_limb (A k m : Nat) (hm : m < 64) : limb k A / 2 ^ m % 2 = bitN A (64 * k + m) := by
 have h := limb_test k A m
 rw [Nat.testBit_eq_decide_div_mod_eq, bitN_test] at h
 simp only [hm, decide_true, Bool.true_and, decide_eq_decide] at h
 have h1 := bitN_01 A (64 * k + m)
 omega
theorem bit_at (A i : Nat) : limb (i / 64) A / 2 ^ (i % 64) % 2 = bitN A i := by
 have h := bit_limb A (i / 64) (i % 64) (Nat.mod_lt _ (by decide))
 rw [show 64 * (i / 64) + i % 64 = i from by omega] at h
 exact h
theorem bit_walk (A q r b : Nat) (i : Int) (h0 : 0 ≤ i) (h1 : i < 256) (hq : i / 64 = (q : Int)) (hr : i % 64 = (r : Int)) (q4 : q < 4) (_r6 : r < 64) (hb : bits BinOp.and IntKind.u64 (((limb q A : Nat) : Int) / 2 ^ r) 1 = (b : Int)) (w : World) :
  Calls Tryz.prog 71 #[.agg #[.int .u64 (limb 0 A), .int .u64 (limb 1 A), .int .u64 (limb 2 A), .int .u64 (limb 3 A)], .int .i64 i] w fun e w' => e = .returned (.bool ((b : Int) == 1)) ∧ Below w.heap.size w w' := by
 have hn : ¬ i < 0 := by omega
 have hn2 : ¬ 256 ≤ i := by omega
 obtain ⟨x, ex⟩ : ∃ x : Int, x = ((limb q A : Nat) : Int) := ⟨_, rfl⟩
 rw [← ex] at hb
 go_enter Tryz.func71, Tryz.ntmps71
 go_upto_region 1 with fail
 obtain ⟨w0, hw0⟩ : ∃ w0 : World, w0 = w.alloc (.cells #[.int .u64 (limb 0 A), .int .u64 (limb 1 A), .int .u64 (limb 2 A), .int .u64 (limb 3 A)] 25) := ⟨_, rfl⟩
 have ba0 : Blk w0 25 w.heap.size (fun i => limb i A) := by rw [hw0]; exact Blk.newAt _ _ _ (fun i => limb i A) (by simp)
 have hb0 : Below w.heap.size w w0 := by rw [hw0]; exact (Below.refl _ _).alloc (Nat.le_refl _) _
 rw [← hw0]
 have ca := ba0.cell q q4
 rw [← ex] at ca
 clear hw0 ba0 ex
 go_wp2
 go_ret
 exact ⟨rfl, hb0⟩
theorem and_one (x r : Nat) (hx : x < 18446744073709551616) : bits BinOp.and IntKind.u64 ((x : Int) / 2 ^ r) 1 = ((x / 2 ^ r % 2 : Nat) : Int) := by
 have h1 : (x : Int) / 2 ^ r = ((x / 2 ^ r : Nat) : Int) := by simp
 have h2 : x / 2 ^ r < 18446744073709551616 := Nat.lt_of_le_of_lt (Nat.div_le_self _ _) hx
 have h := bits_and_u64_nat (x / 2 ^ r) 1 h2 (by decide)
 rw [h1]
 rw [Nat.and_one_is_mod] at h
 exact h
theorem bit_any (A : Nat) (i : Int) (h0 : 0 ≤ i) (h1 : i < 256) (w : World) :
  Calls Tryz.prog 71 #[.agg #[.int .u64 (limb 0 A), .int .u64 (limb 1 A), .int .u64 (limb 2 A), .int .u64 (limb 3 A)], .int .i64 i] w fun e w' => e = .returned (.bool (decide (bitN A i.toNat = 1))) ∧ Below w.heap.size w w' := by
 obtain ⟨n, rfl⟩ := Int.eq_ofNat_of_zero_le h0
 have h := bit_walk A (n / 64) (n % 64) (limb (n / 64) A / 2 ^ (n % 64) % 2) n h0 h1 (by omega) (by omega) (by omega) (by omega) (and_one _ _ (limb_lt _ _)) w
 rw [bit_at A n] at h
 refine h.mono ?_
 rintro e w' ⟨rfl, hb⟩
 refine ⟨congrArg (fun b => Ending.returned (.bool b)) ?_, hb⟩
 rw [Int.toNat_natCast, Bool.eq_iff_iff]
 simp
 omega
end Go.Proofs.YtdeijnlbencfdaaGreatDoor
namespace Go.Proofs.YtdeijnlbencfdaaGreatDoor
def bN : Nat → Nat
 | 0 => 23
 | 1 => 21
 | _ => 5
theorem bN_lt (s : Nat) : 0 < bN s ∧ bN s < modN s := by
 match s with
 | 0 => decide
 | 1 => decide
 | 2 => decide
 | _ + 3 => exact (by decide : 0 < 5 ∧ 5 < 28948022309329048855892746252171976963363056481941647379679742748393362948097)
theorem third (s : Nat) : (modN s - 1) % 3 = 0 := by
 match s with
 | 0 => decide
 | 1 => decide
 | 2 => decide
 | _ + 3 => exact (by decide : (28948022309329048855892746252171976963363056481941647379679742748393362948097 - 1) % 3 = 0)
theorem pow_ne (m a e f : Nat) (he : e < 2 ^ f) (h : pm m a f e ≠ 1) : powM m a e ≠ 1 := by
 unfold powM; rw [← pm_eq m a f e he]; exact h
theorem pow_ne' {m a e : Nat} (m' a' e' f : Nat) (hm : m = m') (ha : a = a') (hx : e = e') (he : e' < 2 ^ f) (h : pm m' a' f e' ≠ 1) : powM m a e ≠ 1 := by
 subst hm ha hx; exact pow_ne _ _ _ f he h
set_option maxRecDepth 100000 in
theorem cube_pow (s : Nat) : powM (modN s) (modN s - bN s) ((modN s - 1) / 3) ≠ 1 := by
 match s with
 | 0 => exact pow_ne' 16513537 16513514 5504512 24 (by rfl) (by rfl) (by rfl) (by decide) (by decide +kernel)
 | 1 => exact pow_ne' 16521217 16521196 5507072 24 (by rfl) (by rfl) (by rfl) (by decide) (by decide +kernel)
 | 2 => exact pow_ne' 28948022309329048855892746252171976963363056481941560715954676764349967630337 28948022309329048855892746252171976963363056481941560715954676764349967630332 9649340769776349618630915417390658987787685493980520238651558921449989210112 255 (by rfl) (by rfl) (by rfl) (by decide) (by decide +kernel)
 | n + 3 => exact pow_ne' 28948022309329048855892746252171976963363056481941647379679742748393362948097 28948022309329048855892746252171976963363056481941647379679742748393362948092 9649340769776349618630915417390658987787685493980549126559914249464454316032 255 (by rfl) (by rfl) (Eq.trans (congrArg (fun m => (m - 1) / 3) (show modN (n + 3) = 28948022309329048855892746252171976963363056481941647379679742748393362948097 from rfl)) (by decide)) (by decide) (by decide +kernel)
theorem cube_none (s x : Nat) : (x * x * x + bN s) % modN s ≠ 0 := by
 intro h
 have hb := bN_lt s
 have hp := modN_prime s
 have h2 := hp.1
 obtain ⟨m, em⟩ : ∃ m, m = modN s := ⟨_, rfl⟩
 have hc := cube_pow s
 have h3 := third s
 rw [← em] at h hb hp h2 hc h3
 have hx : x * x * x % m = m - bN s := by
  have hl := Nat.mod_lt (x * x * x) (show 0 < m by omega)
  rw [Nat.add_mod, Nat.mod_eq_of_lt hb.2] at h
  generalize x * x * x % m = y at h hl ⊢
  rcases Nat.lt_or_ge (y + bN s) m with h1 | h1
  ·rw [Nat.mod_eq_of_lt h1] at h; omega
  ·rw [Nat.mod_eq_sub_mod h1, Nat.mod_eq_of_lt (by omega)] at h; omega
 have hx0 : x % m ≠ 0 := by
  intro h0
  rw [Nat.mul_assoc, ← Nat.mod_mul_mod, h0, Nat.zero_mul, Nat.zero_mod] at hx
  omega
 apply hc
 unfold powM
 rw [← hx, ← Nat.pow_mod, show x * x * x = x ^ 3 from by rw [Nat.pow_succ, Nat.pow_succ, Nat.pow_one], ← Nat.pow_mul, show 3 * ((m - 1) / 3) = m - 1 from by omega]
 exact fermat_one hp hx0
end Go.Proofs.YtdeijnlbencfdaaGreatDoor
namespace Go.Proofs.YtdeijnlbencfdaaGreatDoor
open Go.RowKit
theorem bitLen_under : ∀ x : Nat, x < 2 ^ 64 → x < 2 ^ Lib.bitLen x := by
 intro x
 induction x using Nat.strongRecOn with
 | _ x ih =>
  intro hx
  by_cases h0 : x = 0
  ·subst h0; exact Nat.two_pow_pos _
  ·rw [Lib.bitLen_half x h0 hx, Nat.add_comm, Nat.pow_succ]
   have h := ih (x / 2) (by omega) (by omega)
   omega
theorem bitLen_top2 (x : Nat) (hx : x < 18446744073709551616) : x < 2 ^ Lib.bitLen x ∧ Lib.bitLen x ≤ 64 := by
 refine ⟨?_, Lib.bitLen_le x 64 (by decide) (by simpa using hx)⟩
 exact bitLen_under x (by simpa using hx)
end Go.Proofs.YtdeijnlbencfdaaGreatDoor
namespace Go.Proofs.YtdeijnlbencfdaaGreatDoor
open Go.RowKit
def expP (s a e : Nat) : Nat := powM (modN s) a e
theorem expP_lt (s a e : Nat) : expP s a e < modN s := powM_lt _ _ _ (modN_pos s)
end Go.Proofs.YtdeijnlbencfdaaGreatDoor
