import Derived.Test.YtdeijnlbencfdaaGreatDoorWFD
import Derived.Deep.RegionWith
import Derived.Test.YtdeijnlbencfdaaGreatDoorWXF
set_option maxHeartbeats 16000000
namespace Go.Proofs.YtdeijnlbencfdaaGreatDoor
open Go.RowKit
theorem limb_down (X n i : Nat) (hn : n < 64) : (limb i X / 2 ^ n) ||| (limb (i + 1) X * 2 ^ (64 - n) % 18446744073709551616) = limb i (X / 2 ^ n) := by
 apply Nat.eq_of_testBit_eq
 intro t
 rw [Nat.testBit_or, Nat.testBit_div_two_pow, limb_test, limb_test, show (18446744073709551616 : Nat) = 2 ^ 64 from by decide, Nat.testBit_mod_two_pow, Nat.testBit_mul_two_pow, limb_test, Nat.testBit_div_two_pow]
 by_cases h1 : t < 64
 ·by_cases h2 : t + n < 64
  ·have h3 : ¬ 64 - n ≤ t := by omega
   simp [h1, h2, h3]
   congr 1; omega
  ·have h3 : 64 - n ≤ t := by omega
   simp [h1, h2, h3, show t - (64 - n) < 64 from by omega]
   congr 1; omega
 ·simp [h1, show ¬ t + n < 64 from by omega]
theorem limb4_zero (X : Nat) (hX : X < 115792089237316195423570985008687907853269984665640564039457584007913129639936) : limb 4 X = 0 := by
 unfold limb; rw [show (18446744073709551616 : Nat) ^ 4 = 115792089237316195423570985008687907853269984665640564039457584007913129639936 from by decide, Nat.div_eq_of_lt hX]
theorem modN_5 (s : Nat) : 5 < modN s := by
 match s with
 | 0 => decide
 | 1 => decide
 | 2 => show 5 < 28948022309329048855892746252171976963363056481941560715954676764349967630337; decide
 | _ + 3 => show 5 < 28948022309329048855892746252171976963363056481941647379679742748393362948097; decide
theorem adicN_le (s : Nat) : adicN s ≤ 32 := by
 match s with
 | 0 => decide
 | 1 => decide
 | _ + 2 => exact Nat.le_refl _
end Go.Proofs.YtdeijnlbencfdaaGreatDoor
namespace Go.Proofs.YtdeijnlbencfdaaGreatDoor
def sqs (m a k : Nat) : Nat := powM m a (2 ^ k)
theorem sqs_lt (m a k : Nat) (h : 0 < m) : sqs m a k < m := powM_lt _ _ _ h
theorem sqs_zero (m a : Nat) (h : a < m) : sqs m a 0 = a := by unfold sqs powM; rw [Nat.pow_zero, Nat.pow_one, Nat.mod_eq_of_lt h]
theorem sqs_succ (m a k : Nat) : sqs m a (k + 1) = sqs m a k * sqs m a k % m := by
 unfold sqs; rw [powM_two, Nat.pow_succ, Nat.mul_comm]
theorem powM_pow (m a j k : Nat) : powM m (powM m a j) k = powM m a (j * k) := by
 unfold powM; rw [← Nat.pow_mod, ← Nat.pow_mul]
theorem powM_mul (m a b k : Nat) : powM m (a * b % m) k = powM m a k * powM m b k % m := by
 unfold powM; rw [← Nat.pow_mod, ← Nat.mul_mod, Nat.mul_pow]
theorem powM_add (m a j k : Nat) : powM m a j * powM m a k % m = powM m a (j + k) := by
 unfold powM; rw [← Nat.mul_mod, ← Nat.pow_add]
theorem sqs_head (m a k : Nat) : sqs m a (k + 1) = sqs m (a * a % m) k := by
 unfold sqs; rw [powM_mul, powM_two, Nat.pow_succ, Nat.mul_comm]
theorem sqs_mul (m a b k : Nat) : sqs m (a * b % m) k = sqs m a k * sqs m b k % m := powM_mul _ _ _ _
theorem sqs_pow (m a n k : Nat) : sqs m (powM m a n) k = powM m a (n * 2 ^ k) := by unfold sqs; rw [powM_pow]
theorem neg_sq (m : Nat) (h : 1 < m) : (m - 1) * (m - 1) % m = 1 := by
 have e : (m - 1) * (m - 1) = 1 + m * (m - 2) := by
  obtain ⟨n, rfl⟩ : ∃ n, m = n + 2 := ⟨m - 2, by omega⟩
  show (n + 1) * (n + 1) = 1 + (n + 2) * n
  rw [Nat.add_mul, Nat.mul_add, Nat.add_mul]
  omega
 rw [e, Nat.add_mul_mod_self_left, Nat.mod_eq_of_lt h]
theorem same_square {m x y : Nat} (hp : IsPrime m) (hx : x < m) (hy : y < m) (h : x * x % m = y * y % m) : x = y ∨ x + y = m ∨ (x = 0 ∧ y = 0) := by
 have key : ∀ x y : Nat, x ≤ y → x < m → y < m → x * x % m = y * y % m → x = y ∨ x + y = m ∨ (x = 0 ∧ y = 0) := by
  intro x y hle hx hy h
  have hd := same_rest (Nat.mul_le_mul hle hle) h
  have e : y * y - x * x = (y + x) * (y - x) := by
   obtain ⟨d, rfl⟩ := Nat.exists_eq_add_of_le hle
   rw [show x + d - x = d from by omega, Nat.add_mul x d, Nat.mul_add, Nat.mul_add, Nat.add_mul, Nat.add_mul, Nat.mul_comm d x]
   omega
  rw [e] at hd
  rcases hp.dvd_mul hd with h1 | h1
  ·rcases Nat.eq_zero_or_pos (y + x) with h0 | h0
   ·right; right; omega
   ·obtain ⟨c, hc⟩ := h1
    have hc1 : c = 1 := by
     rcases Nat.lt_or_ge c 2 with h2 | h2
     ·rcases Nat.eq_zero_or_pos c with h3 | h3
      ·subst h3; omega
      ·omega
     ·have := Nat.mul_le_mul_left m h2
      omega
    subst hc1
    right; left; omega
  ·rcases Nat.eq_zero_or_pos (y - x) with h0 | h0
   ·left; omega
   ·have := Nat.le_of_dvd h0 h1
    omega
 rcases Nat.le_total x y with hle | hle
 ·exact key x y hle hx hy h
 ·rcases key y x hle hy hx h.symm with h1 | h1 | h1
  ·exact Or.inl h1.symm
  ·exact Or.inr (Or.inl (by omega))
  ·exact Or.inr (Or.inr ⟨h1.2, h1.1⟩)
theorem root_one {m y : Nat} (hp : IsPrime m) (hy : y < m) (h : y * y % m = 1) : y = 1 ∨ y = m - 1 := by
 have h2 := hp.1
 rcases same_square hp hy (show 1 < m by omega) (by rw [h, Nat.one_mul, Nat.mod_eq_of_lt (by omega)]) with h1 | h1 | h1
 ·exact Or.inl h1
 ·exact Or.inr (by omega)
 ·omega
def evenR (m x : Nat) : Nat := if x % 2 = 0 then x else m - x
theorem evenR_sq {m x : Nat} (hx : x < m) : evenR m x * evenR m x % m = x * x % m := by
 unfold evenR
 split
 ·rfl
 ·obtain ⟨d, hd⟩ : ∃ d, m = x + d := ⟨m - x, by omega⟩
  subst hd
  rw [show x + d - x = d from by omega]
  have e : d * d + (x + d) * x = x * x + (x + d) * d := by rw [Nat.add_mul, Nat.add_mul, Nat.mul_comm d x]; omega
  have h := congrArg (· % (x + d)) e
  simpa [Nat.add_mul_mod_self_left] using h
theorem evenR_even {m x : Nat} (hod : m % 2 = 1) (hx : x < m) : evenR m x % 2 = 0 ∧ (x ≠ 0 → evenR m x < m) := by
 unfold evenR
 split
 ·exact ⟨by assumption, fun _ => hx⟩
 ·exact ⟨by omega, fun h => by omega⟩
theorem mul_assoc_mod (m a b c : Nat) : a * b % m * c % m = a * (b * c % m) % m := by
 rw [Nat.mod_mul_mod, Nat.mul_mod_mod, Nat.mul_assoc]
theorem mul_sq (m a b : Nat) : (a * b % m) * (a * b % m) % m = (a * a % m) * (b * b % m) % m := by
 rw [← Nat.mul_mod, ← Nat.mul_mod]
 congr 1
 rw [Nat.mul_assoc, Nat.mul_assoc, Nat.mul_left_comm b a b]
theorem mul_lt_mod (m a b : Nat) (h : 0 < m) : a * b % m < m := Nat.mod_lt _ h
def RInv (m a i x b z : Nat) : Prop := x < m ∧ b < m ∧ z < m ∧ x * x % m = a * b % m ∧ sqs m b i = 1 ∧ sqs m z i = m - 1
theorem RInv.step1 {m a i x b z : Nat} (hp : IsPrime m) (h : RInv m a (i + 1) x b z) (ht : sqs m b i = 1) : RInv m a i x b (z * z % m) := by
 obtain ⟨h1, h2, h3, h4, h5, h6⟩ := h
 have h0 : 0 < m := by have := hp.1; omega
 exact ⟨h1, h2, mul_lt_mod _ _ _ h0, h4, ht, by rw [← sqs_head]; exact h6⟩
theorem RInv.step2 {m a i x b z : Nat} (hp : IsPrime m) (h : RInv m a (i + 1) x b z) (ht : sqs m b i ≠ 1) : RInv m a i (x * z % m) (b * (z * z % m) % m) (z * z % m) := by
 obtain ⟨h1, h2, h3, h4, h5, h6⟩ := h
 have h2p := hp.1
 have h0 : 0 < m := by omega
 have hm1 : sqs m b i = m - 1 := by
  rcases root_one hp (sqs_lt m b i h0) (by rw [← sqs_succ]; exact h5) with h | h
  ·exact absurd h ht
  ·exact h
 refine ⟨mul_lt_mod _ _ _ h0, mul_lt_mod _ _ _ h0, mul_lt_mod _ _ _ h0, ?_, ?_, by rw [← sqs_head]; exact h6⟩
 ·rw [mul_sq, h4, mul_assoc_mod]
 ·rw [sqs_mul, ← sqs_head, hm1, h6, neg_sq m (by omega)]
theorem RInv.fin {m a x b z : Nat} (h : RInv m a 0 x b z) (ha : a < m) : x * x % m = a := by
 obtain ⟨h1, h2, h3, h4, h5, h6⟩ := h
 rw [sqs_zero m b h2] at h5
 subst h5
 rw [h4, Nat.mul_one, Nat.mod_eq_of_lt ha]
def PInv (m x o S root left step turns : Nat) : Prop :=
 root < m ∧ left < m ∧ step < m ∧ 1 ≤ turns ∧ turns ≤ S ∧ root * root % m = x * left % m ∧ sqs m step (turns - 1) = m - 1 ∧ ((turns = S ∧ left = powM m x o) ∨ sqs m left (turns - 1) = 1)
theorem PInv.fin {m x o S root step turns : Nat} (h : PInv m x o S root 1 step turns) (hx : x < m) : root * root % m = x := by
 obtain ⟨h1, h2, h3, h4, h5, h6, h7, h8⟩ := h
 rw [h6, Nat.mul_one, Nat.mod_eq_of_lt hx]
end Go.Proofs.YtdeijnlbencfdaaGreatDoor
namespace Go.Proofs.YtdeijnlbencfdaaGreatDoor
open Go.RowKit
end Go.Proofs.YtdeijnlbencfdaaGreatDoor
namespace Go.Proofs.YtdeijnlbencfdaaGreatDoor
open Go.RowKit
def OddPart (m h S : Nat) : Prop := m - 1 = (2 * h + 1) * 2 ^ S ∧ 1 ≤ S ∧ S ≤ 32 ∧ powM m 5 ((2 * h + 1) * 2 ^ (S - 1)) = m - 1
theorem OddPart.down {m h S : Nat} (hm : 1 < m) (H : OddPart m h S) : m / 2 ^ (S + 1) = h ∧ (m - 1) / 2 ^ S = 2 * h + 1 := by
 obtain ⟨h1, h2, h3, _⟩ := H
 constructor
 ·have e : m = h * 2 ^ (S + 1) + (2 ^ S + 1) := by
   rw [Nat.add_mul, Nat.one_mul] at h1
   rw [Nat.pow_succ, ← Nat.mul_assoc, Nat.mul_right_comm, Nat.mul_comm h 2]
   omega
  have hp : 2 ≤ 2 ^ S := by
   have := Nat.pow_le_pow_right (show 0 < 2 by decide) h2
   simpa using this
  have hlt : 2 ^ S + 1 < 2 ^ (S + 1) := by rw [Nat.pow_succ]; omega
  rw [e, Nat.mul_comm h, Nat.mul_add_div (Nat.two_pow_pos _), Nat.div_eq_of_lt hlt, Nat.add_zero]
 ·rw [h1, Nat.mul_div_cancel _ (Nat.two_pow_pos _)]
theorem PInv.start {m x h S : Nat} (hm : 1 < m) (H : OddPart m h S) :
  PInv m x (2 * h + 1) S (powM m x h * x % m) (powM m x h * x % m * powM m x h % m) (powM m 5 (2 * h + 1)) S := by
 obtain ⟨h1, h2, h3, h4⟩ := H
 have h0 : 0 < m := by omega
 have e1 : powM m x h * x % m = powM m x (h + 1) := powM_more m x h
 have e2 : powM m x h * x % m * powM m x h % m = powM m x (2 * h + 1) := by rw [e1, powM_add]; congr 1; omega
 refine ⟨mul_lt_mod _ _ _ h0, mul_lt_mod _ _ _ h0, powM_lt _ _ _ h0, h2, Nat.le_refl _, ?_, ?_, Or.inl ⟨rfl, e2⟩⟩
 ·rw [e2, e1, powM_two, Nat.mul_comm x, powM_more]
  rfl
 ·rw [sqs_pow]; exact h4
end Go.Proofs.YtdeijnlbencfdaaGreatDoor
namespace Go.Proofs.YtdeijnlbencfdaaGreatDoor
open Go.RowKit
section
variable {W w1 : World} {n1 n2 k : Nat} {f g : Nat → Nat} {v : Value}
end
theorem odd_any (p h S T : Nat) (hS : 1 ≤ S) (hS2 : S ≤ 32) (hT : 2 ^ (S - 1) = T) (hT2 : 2 ^ S = 2 * T) (h1 : p - 1 = (2 * h + 1) * (2 * T)) (h2 : pm p 5 256 ((p - 1) / 2) = p - 1 ∧ (p - 1) / 2 < 2 ^ 256) : OddPart p h S := by
 refine ⟨by rw [hT2]; exact h1, hS, hS2, ?_⟩
 have e : (2 * h + 1) * 2 ^ (S - 1) = (p - 1) / 2 := by
  rw [hT, h1, Nat.mul_left_comm, Nat.mul_div_cancel_left _ (by decide)]
 rw [e]
 have h3 := pm_eq p 5 256 ((p - 1) / 2) h2.2
 rw [h2.1] at h3
 exact h3.symm
def oddH : Nat → Nat
 | 0 => 16126
 | 1 => 4033
 | 2 => 3369993333393829974333376885877453834209946971612698481878577354870
 | _ => 3369993333393829974333376885877453834209946971612708570864021632400
theorem oddH_ok (s : Nat) : OddPart (modN s) (oddH s) (adicN s) := by
 match s with
 | 0 => exact odd_any 16513537 16126 9 256 (by decide) (by decide) (by decide) (by decide) (by decide) (by decide +kernel)
 | 1 => exact odd_any 16521217 4033 11 1024 (by decide) (by decide) (by decide) (by decide) (by decide) (by decide +kernel)
 | 2 => exact odd_any 28948022309329048855892746252171976963363056481941560715954676764349967630337 3369993333393829974333376885877453834209946971612698481878577354870 32 2147483648 (by decide) (by decide) (by decide) (by decide) (by decide) (by decide +kernel)
 | _ + 3 => exact odd_any 28948022309329048855892746252171976963363056481941647379679742748393362948097 3369993333393829974333376885877453834209946971612708570864021632400 32 2147483648 (by decide) (by decide) (by decide) (by decide) (by decide) (by decide +kernel)
end Go.Proofs.YtdeijnlbencfdaaGreatDoor
namespace Go.Proofs.YtdeijnlbencfdaaGreatDoor
open Go.RowKit
theorem or1_run (x y : Nat) (hx : x < 18446744073709551616) : bits BinOp.or IntKind.u64 ((x / 2 : Nat) : Int) ((y * 9223372036854775808 % 18446744073709551616 : Nat) : Int) = (((x / 2 ^ 1) ||| (y * 2 ^ (64 - 1) % 18446744073709551616) : Nat) : Int) :=
 bits_or_u64_nat (x / 2) (y * 9223372036854775808 % 18446744073709551616) (by omega) (Nat.mod_lt _ (by decide))
theorem shl63_run (y : Nat) : IntKind.u64.wrap ((y : Int) * 9223372036854775808) = ((y * 9223372036854775808 % 18446744073709551616 : Nat) : Int) := by
 rw [IntKind.wrap_u64]; omega
set_option maxRecDepth 20000 in
theorem ref2Half_any (A : Nat) (hA : A < 115792089237316195423570985008687907853269984665640564039457584007913129639936) (w : World) :
  Calls Tryz.prog 78 #[.agg #[.int .u64 (limb 0 A), .int .u64 (limb 1 A), .int .u64 (limb 2 A), .int .u64 (limb 3 A)]] w fun e w' => e = .returned (.agg #[.int .u64 (limb 0 (A / 2)), .int .u64 (limb 1 (A / 2)), .int .u64 (limb 2 (A / 2)), .int .u64 (limb 3 (A / 2))]) ∧ Below w.heap.size w w' := by
 have H0 := or1_run (limb 0 A) (limb 1 A) (limb_lt _ _); have H1 := or1_run (limb 1 A) (limb 2 A) (limb_lt _ _); have H2 := or1_run (limb 2 A) (limb 3 A) (limb_lt _ _)
 rw [limb_down A 1 0 (by decide)] at H0
 rw [limb_down A 1 1 (by decide)] at H1
 rw [limb_down A 1 2 (by decide)] at H2
 have H3 := limb_down A 1 3 (by decide)
 rw [limb4_zero A hA, Nat.zero_mul, Nat.zero_mod, Nat.or_zero] at H3
 have S1 := shl63_run (limb 1 A); have S2 := shl63_run (limb 2 A); have S3 := shl63_run (limb 3 A)
 have D : ∀ x : Nat, (x : Int) / 2 = ((x / 2 : Nat) : Int) := fun x => by omega
 have D0 := D (limb 0 A); have D1 := D (limb 1 A); have D2 := D (limb 2 A)
 have D3 : ((limb 3 A : Nat) : Int) / 2 = ((limb 3 (A / 2 ^ 1) : Nat) : Int) := by rw [← H3]; exact D (limb 3 A)
 rw [Nat.pow_one] at H0 H1 H2 D3
 obtain ⟨B, eB⟩ : ∃ B, B = A / 2 := ⟨_, rfl⟩
 rw [← eB] at H0 H1 H2 D3 ⊢
 clear eB H3 D hA
 obtain ⟨s1, es1⟩ : ∃ s1, s1 = limb 1 A * 9223372036854775808 % 18446744073709551616 := ⟨_, rfl⟩
 rw [← es1] at H0 S1
 clear es1
 obtain ⟨s2, es2⟩ : ∃ s2, s2 = limb 2 A * 9223372036854775808 % 18446744073709551616 := ⟨_, rfl⟩
 rw [← es2] at H1 S2
 clear es2
 obtain ⟨s3, es3⟩ : ∃ s3, s3 = limb 3 A * 9223372036854775808 % 18446744073709551616 := ⟨_, rfl⟩
 rw [← es3] at H2 S3
 clear es3
 obtain ⟨d0, ed0⟩ : ∃ d0, d0 = limb 0 A / 2 := ⟨_, rfl⟩
 rw [← ed0] at H0 D0
 clear ed0
 obtain ⟨d1, ed1⟩ : ∃ d1, d1 = limb 1 A / 2 := ⟨_, rfl⟩
 rw [← ed1] at H1 D1
 clear ed1
 obtain ⟨d2, ed2⟩ : ∃ d2, d2 = limb 2 A / 2 := ⟨_, rfl⟩
 rw [← ed2] at H2 D2
 clear ed2
 go_enter Tryz.func78, Tryz.ntmps78
 go_wp2
 go_loopw [4] (fun i wr => ∃ k : Nat, i = .int .i64 (k : Int) ∧ k ≤ 4 ∧ Below w.heap.size w wr ∧ Blk wr 25 w.heap.size (fun i => limb i A) ∧ Blk wr 25 (w.heap.size + 1) (fun _ => 0) ∧ Blk wr 25 (w.heap.size + 1 + 1) (upTo B k)) (fun i _ => 4 - (intOf i).toNat)
 case atStart =>
  refine ⟨0, rfl, by decide, ?_, ((Blk.newAt _ _ _ (fun i => limb i A) rfl).alloc _).alloc _, (Blk.newAt _ _ _ (fun _ => 0) (by simp)).alloc _, (Blk.newAt _ _ _ (fun _ => 0) (by simp)).congr (fun i _ => rfl)⟩
  repeat (first | with_reducible exact Below.refl _ _ | with_reducible refine Below.alloc ?_ (by first | omega | (simp; omega) | simp) _)
 case round =>
  obtain ⟨k, rfl, hk, hbr, bA, bR, bO⟩ := hrel
  have h5 : k = 0 ∨ k = 1 ∨ k = 2 ∨ k = 3 ∨ k = 4 := by omega
  rcases h5 with rfl | rfl | rfl | rfl | rfl
  ·have cA : wr.cell? ⟨w.heap.size, 0, none⟩ = some (.int .u64 (limb 0 A)) := bA.cell 0 (by decide)
   have cB : wr.cell? ⟨w.heap.size, 1, none⟩ = some (.int .u64 (limb 1 A)) := bA.cell 1 (by decide)
   have cO := bO.cell 0 (by decide); have fO := bO.frozen
   go_wp2
   go_region
   go_wp2
   go_roundw
   case measure => simp [intOf]
   case rel =>
    refine ⟨1, rfl, by decide, ((hbr.setCell (by dsimp only; omega) _).setCell (by dsimp only; omega) _).drew, ((bA.other (by dsimp only; omega) _).other (by dsimp only; omega) _).drew, ((bR.other (by dsimp only; omega) _).other (by dsimp only; omega) _).drew, Blk.drew (((bO.set 0 (by decide) d0).set 0 (by decide) (limb 0 B)).congr ?_)⟩
    intro j _
    rw [upTo_step]
    by_cases hj : j = 0 <;> simp [hj]
  ·have cA : wr.cell? ⟨w.heap.size, 1, none⟩ = some (.int .u64 (limb 1 A)) := bA.cell 1 (by decide)
   have cB : wr.cell? ⟨w.heap.size, 2, none⟩ = some (.int .u64 (limb 2 A)) := bA.cell 2 (by decide)
   have cO := bO.cell 1 (by decide); have fO := bO.frozen
   go_wp2
   go_region
   go_wp2
   go_roundw
   case measure => simp [intOf]
   case rel =>
    refine ⟨2, rfl, by decide, ((hbr.setCell (by dsimp only; omega) _).setCell (by dsimp only; omega) _).drew, ((bA.other (by dsimp only; omega) _).other (by dsimp only; omega) _).drew, ((bR.other (by dsimp only; omega) _).other (by dsimp only; omega) _).drew, Blk.drew (((bO.set 1 (by decide) d1).set 1 (by decide) (limb 1 B)).congr ?_)⟩
    intro j _
    rw [upTo_step]
    by_cases hj : j = 1 <;> simp [hj]
  ·have cA : wr.cell? ⟨w.heap.size, 2, none⟩ = some (.int .u64 (limb 2 A)) := bA.cell 2 (by decide)
   have cB : wr.cell? ⟨w.heap.size, 3, none⟩ = some (.int .u64 (limb 3 A)) := bA.cell 3 (by decide)
   have cO := bO.cell 2 (by decide); have fO := bO.frozen
   go_wp2
   go_region
   go_wp2
   go_roundw
   case measure => simp [intOf]
   case rel =>
    refine ⟨3, rfl, by decide, ((hbr.setCell (by dsimp only; omega) _).setCell (by dsimp only; omega) _).drew, ((bA.other (by dsimp only; omega) _).other (by dsimp only; omega) _).drew, ((bR.other (by dsimp only; omega) _).other (by dsimp only; omega) _).drew, Blk.drew (((bO.set 2 (by decide) d2).set 2 (by decide) (limb 2 B)).congr ?_)⟩
    intro j _
    rw [upTo_step]
    by_cases hj : j = 2 <;> simp [hj]
  ·have cA : wr.cell? ⟨w.heap.size, 3, none⟩ = some (.int .u64 (limb 3 A)) := bA.cell 3 (by decide)
   have cO := bO.cell 3 (by decide); have fO := bO.frozen
   go_wp2
   go_roundw
   case measure => simp [intOf]
   case rel =>
    refine ⟨4, rfl, by decide, hbr.setCell (by dsimp only; omega) _, bA.other (by dsimp only; omega) _, bR.other (by dsimp only; omega) _, (bO.set 3 (by decide) (limb 3 B)).congr ?_⟩
    intro j _
    rw [upTo_step]
  ·have bF := bO.congr (g := fun i => limb i B) (fun i hi => by unfold upTo; rw [if_pos hi])
   have cO := bF.cell; have cr := bR.cell; have fr := bR.frozen
   clear bO
   go_wp2
   refine bodyPost_ret (v := .agg #[.int .u64 (limb 0 B), .int .u64 (limb 1 B), .int .u64 (limb 2 B), .int .u64 (limb 3 B)]) (by simp [results, Tryz.results78, go_sem, cr]) rfl ⟨rfl, ?_⟩
   repeat (first | with_reducible exact hbr | with_reducible refine Below.setCell ?_ (by first | omega | (simp; omega) | simp) _)
set_option maxRecDepth 20000 in
theorem ref2Halves_any (A n : Nat) (hA : A < 115792089237316195423570985008687907853269984665640564039457584007913129639936) (hn : n < 64) (w : World) :
  Calls Tryz.prog 80 #[.agg #[.int .u64 (limb 0 A), .int .u64 (limb 1 A), .int .u64 (limb 2 A), .int .u64 (limb 3 A)], .int .i64 (n : Int)] w fun e w' => e = .returned (.agg #[.int .u64 (limb 0 (A / 2 ^ n)), .int .u64 (limb 1 (A / 2 ^ n)), .int .u64 (limb 2 (A / 2 ^ n)), .int .u64 (limb 3 (A / 2 ^ n))]) ∧ Below w.heap.size w w' := by
 have HH := fun B (hB : B < 115792089237316195423570985008687907853269984665640564039457584007913129639936) w => ref2Half_any B hB w
 go_enter Tryz.func80, Tryz.ntmps80
 go_upto_region 1 with fail
 obtain ⟨w0, hw0⟩ : ∃ w0 : World, w0 = (w.alloc (.cells #[.int .u64 (limb 0 A), .int .u64 (limb 1 A), .int .u64 (limb 2 A), .int .u64 (limb 3 A)] 25)).alloc (.cells #[.int .u64 0, .int .u64 0, .int .u64 0, .int .u64 0] 25) := ⟨_, rfl⟩
 have ba0 : Blk w0 25 w.heap.size (fun i => limb i A) := by rw [hw0]; exact (Blk.newAt _ _ _ (fun i => limb i A) (by simp)).alloc _
 have br0 : Blk w0 25 (w.heap.size + 1) (fun _ => 0) := by rw [hw0]; exact Blk.newAt _ _ _ (fun _ => 0) (by simp)
 have hb0 : Below w.heap.size w w0 := by rw [hw0]; exact bAlloc ((Below.refl _ _).alloc (Nat.le_refl _) _) _
 rw [← hw0]
 clear hw0
 go_wp2
 go_loopw [5] (fun i wr => ∃ k : Nat, i = .int .i64 (k : Int) ∧ k ≤ n ∧ Below w.heap.size w wr ∧ Blk wr 25 w.heap.size (fun i => limb i (A / 2 ^ k)) ∧ Blk wr 25 (w.heap.size + 1) (fun _ => 0)) (fun i _ => n - (intOf i).toNat)
 case atStart =>
  refine ⟨0, rfl, by omega, hb0, ?_, br0⟩
  rw [Nat.pow_zero, Nat.div_one]
  exact ba0
 case round =>
  obtain ⟨k, rfl, hk, hbr, ba, br⟩ := hrel
  clear ba0 br0 hb0
  have lo : A / 2 ^ k < 115792089237316195423570985008687907853269984665640564039457584007913129639936 := Nat.lt_of_le_of_lt (Nat.div_le_self _ _) hA
  by_cases hlt : k < n
  ·have hki : (k : Int) < (n : Int) := by omega
   have H1 := fun w => HH _ lo w
   rw [Nat.div_div_eq_div_mul, ← Nat.pow_succ] at H1
   obtain ⟨o, eo⟩ : ∃ o, o = A / 2 ^ k := ⟨_, rfl⟩
   obtain ⟨q, eq⟩ : ∃ q, q = A / 2 ^ (k + 1) := ⟨_, rfl⟩
   rw [← eo] at ba H1
   rw [← eq] at H1
   have EQ := (show Hid _ from eq)
   clear eo eq lo HH
   have ca := ba.cell
   go_wp2_with fail
   refine (H1 _).mono ?_
   rintro r w2 ⟨rfl, hb2⟩
   have ba2 := ba.belowAll hb2; have br2 := br.belowAll hb2
   have hbw2 := bStep hbr hb2
   clear ba br hbr hb2 ca H1
   have ca := ba2.cell; have fa := ba2.frozen
   go_wp2
   go_roundw
   case measure => simp [intOf]; omega
   case rel =>
    refine ⟨k + 1, by go_num, by omega, bSet4 hbw2 (by omega) _ _ _ _, ?_, br2.other4 (by omega) _ _ _ _⟩
    rw [← EQ.out]
    exact ba2.set4 (fun i => limb i q)
  ·have hkn : k = n := by omega
   subst hkn
   clear hlt HH lo
   obtain ⟨o, eo⟩ : ∃ o, o = A / 2 ^ k := ⟨_, rfl⟩
   rw [← eo] at ba
   have EO := (show Hid _ from eo)
   clear eo
   have ca := ba.cell; have cr := br.cell; have fr := br.frozen
   go_wp2
   refine bodyPost_ret (v := .agg #[.int .u64 (limb 0 o), .int .u64 (limb 1 o), .int .u64 (limb 2 o), .int .u64 (limb 3 o)]) (by simp [results, Tryz.results80, go_sem, cr]) rfl ⟨by rw [EO.out], ?_⟩
   repeat (first | with_reducible exact hbr | with_reducible refine Below.setCell ?_ (by first | omega | (simp; omega) | simp) _)
end Go.Proofs.YtdeijnlbencfdaaGreatDoor
namespace Go.Proofs.YtdeijnlbencfdaaGreatDoor
open Go.RowKit
theorem halfOdd {m h S : Nat} (H : OddPart m h S) : (m - 1) / 2 = (2 * h + 1) * 2 ^ (S - 1) := by
 obtain ⟨h1, h2, _, _⟩ := H
 obtain ⟨n, rfl⟩ : ∃ n, S = n + 1 := ⟨S - 1, by omega⟩
 rw [h1, Nat.pow_succ, ← Nat.mul_assoc, Nat.mul_div_cancel _ (by decide)]
 rfl
theorem RInv.start {m x h S : Nat} (hm : 1 < m) (H : OddPart m h S) (hE : powM m x ((2 * h + 1) * 2 ^ (S - 1)) = 1) :
  RInv m x (S - 1) (powM m x (h + 1)) (powM m x (2 * h + 1)) (powM m 5 (2 * h + 1)) := by
 have h0 : 0 < m := by omega
 refine ⟨powM_lt _ _ _ h0, powM_lt _ _ _ h0, powM_lt _ _ _ h0, ?_, ?_, ?_⟩
 ·rw [powM_two, Nat.mul_comm x, powM_more]; congr 1
 ·rw [sqs_pow]; exact hE
 ·rw [sqs_pow]; exact H.2.2.2
theorem neg_evenR {m x : Nat} (hx : x < m) (h : x % 2 = 1) : (0 + (m - x % m)) % m = evenR m x := by
 unfold evenR
 rw [if_neg (by omega), Nat.mod_eq_of_lt hx, Nat.zero_add, Nat.mod_eq_of_lt (by omega)]
theorem trio_re {W : World} {n1 n2 n3 : Nat} {f1 f2 f3 : Nat → Nat} (o o' : Obj) (h1 : n1 < W.heap.size) (h2 : n2 < W.heap.size) (h3 : n3 < W.heap.size)
  (h : (∀ i, i < 4 → (W.alloc o).cell? ⟨n1, i, none⟩ = some (.int .u64 ((f1 i : Nat) : Int))) ∧ (∀ i, i < 4 → (W.alloc o).cell? ⟨n2, i, none⟩ = some (.int .u64 ((f2 i : Nat) : Int))) ∧ (∀ i, i < 4 → (W.alloc o).cell? ⟨n3, i, none⟩ = some (.int .u64 ((f3 i : Nat) : Int)))) :
  (∀ i, i < 4 → (W.alloc o').cell? ⟨n1, i, none⟩ = some (.int .u64 ((f1 i : Nat) : Int))) ∧ (∀ i, i < 4 → (W.alloc o').cell? ⟨n2, i, none⟩ = some (.int .u64 ((f2 i : Nat) : Int))) ∧ (∀ i, i < 4 → (W.alloc o').cell? ⟨n3, i, none⟩ = some (.int .u64 ((f3 i : Nat) : Int))) := by
 refine hold3 ((Below.refl _ _).alloc (Nat.le_refl _) o') ⟨fun i hi => ?_, fun i hi => ?_, fun i hi => ?_⟩
 ·rw [← (acell (w := W) (Nat.le_refl _)).1 o n1 i h1]; exact h.1 i hi
 ·rw [← (acell (w := W) (Nat.le_refl _)).1 o n2 i h2]; exact h.2.1 i hi
 ·rw [← (acell (w := W) (Nat.le_refl _)).1 o n3 i h3]; exact h.2.2 i hi
set_option maxRecDepth 20000 in
theorem ref2Sqrt_any (s a : Nat) (hs : s < 4) (ha : a < 115792089237316195423570985008687907853269984665640564039457584007913129639936) (w : World) :
  Calls Tryz.prog 42 #[.int .i64 (s : Int), .agg #[.int .u64 (limb 0 a), .int .u64 (limb 1 a), .int .u64 (limb 2 a), .int .u64 (limb 3 a)]] w fun e w' => ((∃ r, r < modN s ∧ r % 2 = 0 ∧ r * r % modN s = a % modN s ∧ e = .returned (.tuple #[.agg #[.int .u64 (limb 0 r), .int .u64 (limb 1 r), .int .u64 (limb 2 r), .int .u64 (limb 3 r)], .int .i64 0])) ∨ (a % modN s ≠ 0 ∧ powM (modN s) (a % modN s) ((2 * oddH s + 1) * 2 ^ (adicN s - 1)) ≠ 1 ∧ e = .returned (.tuple #[.agg #[.int .u64 0, .int .u64 0, .int .u64 0, .int .u64 0], .int .i64 22]))) ∧ Below w.heap.size w w' := by
 have hM := modN_lt s
 have hod := modN_odd s
 have H := oddH_ok s
 have hp := modN_prime s
 have h5 := modN_5 s
 have hS := adicN_le s
 have MO := fun w => ref2Modulus_any s hs w
 have AD := fun w => ref2Adicity_any s hs w
 have OA := fun w => ref2Of_any s a hs ha w
 have MU := fun x y (hx : x < 115792089237316195423570985008687907853269984665640564039457584007913129639936) (hy : y < 115792089237316195423570985008687907853269984665640564039457584007913129639936) w => ref2Mul_any s x y hs hx hy w
 have EX := fun x e (hx : x < 115792089237316195423570985008687907853269984665640564039457584007913129639936) (he : e < 115792089237316195423570985008687907853269984665640564039457584007913129639936) w => ref2Exp_any s x e hs hx he w
 have NG := fun x (hx : x < 115792089237316195423570985008687907853269984665640564039457584007913129639936) w => ref2Neg_any s x hs hx w
 have MN : ∀ w, Calls Tryz.prog 76 #[.agg #[.int .u64 (limb 0 (modN s)), .int .u64 (limb 1 (modN s)), .int .u64 (limb 2 (modN s)), .int .u64 (limb 3 (modN s))], .agg #[.int .u64 1, .int .u64 0, .int .u64 0, .int .u64 0]] w fun e w' => e = .returned (.agg #[.int .u64 (limb 0 (modN s - 1)), .int .u64 (limb 1 (modN s - 1)), .int .u64 (limb 2 (modN s - 1)), .int .u64 (limb 3 (modN s - 1))]) ∧ Below w.heap.size w w' := fun w => by
  have h := ref2Minus_any (modN s) 1 hM (by decide) w
  rw [sub256_ge (modN s) 1 hM (by omega), word_agg 1 (by decide)] at h
  exact h
 have H1 := fun w => ref2Half_any (modN s - 1) (by omega) w
 have HV := fun w => ref2Halves_any (modN s - 1) (adicN s) (by omega) (by omega) w
 rw [(H.down hod.2).2] at HV
 rw [halfOdd H] at H1
 have lodd : (2 * oddH s + 1) * 2 ^ (adicN s - 1) < 115792089237316195423570985008687907853269984665640564039457584007913129639936 := by rw [← halfOdd H]; omega
 have lo1 : 2 * oddH s + 1 < 115792089237316195423570985008687907853269984665640564039457584007913129639936 := by
  have := (H.down hod.2).2
  rw [← this]
  exact Nat.lt_of_le_of_lt (Nat.div_le_self _ _) (by omega)
 have lh : 2 * oddH s + 2 < 115792089237316195423570985008687907853269984665640564039457584007913129639936 := by
  have h1 := H.1
  have h2 := Nat.mul_le_mul_left (2 * oddH s + 1) (Nat.pow_le_pow_right (show 0 < 2 by decide) H.2.1)
  omega
 have PL : ∀ w, Calls Tryz.prog 81 #[.agg #[.int .u64 (limb 0 (2 * oddH s + 1)), .int .u64 (limb 1 (2 * oddH s + 1)), .int .u64 (limb 2 (2 * oddH s + 1)), .int .u64 (limb 3 (2 * oddH s + 1))], .agg #[.int .u64 (limb 0 1), .int .u64 (limb 1 1), .int .u64 (limb 2 1), .int .u64 (limb 3 1)]] w fun e w' => e = .returned (.agg #[.int .u64 (limb 0 (2 * oddH s + 2)), .int .u64 (limb 1 (2 * oddH s + 2)), .int .u64 (limb 2 (2 * oddH s + 2)), .int .u64 (limb 3 (2 * oddH s + 2))]) ∧ Below w.heap.size w w' := fun w => by
  have h := ref2Plus_any (2 * oddH s + 1) 1 lo1 (by decide) w
  rw [show add256 (2 * oddH s + 1) 1 = 2 * oddH s + 2 from Nat.mod_eq_of_lt (by omega)] at h
  exact h
 have H2 := fun w => ref2Half_any (2 * oddH s + 2) lh w
 rw [show (2 * oddH s + 2) / 2 = oddH s + 1 from by omega] at H2
 have E5 : ∀ w, Calls Tryz.prog 77 #[.int .i64 (s : Int), .agg #[.int .u64 5, .int .u64 0, .int .u64 0, .int .u64 0], .agg #[.int .u64 (limb 0 (2 * oddH s + 1)), .int .u64 (limb 1 (2 * oddH s + 1)), .int .u64 (limb 2 (2 * oddH s + 1)), .int .u64 (limb 3 (2 * oddH s + 1))]] w fun e w' => e = .returned (.agg #[.int .u64 (limb 0 (powM (modN s) 5 (2 * oddH s + 1))), .int .u64 (limb 1 (powM (modN s) 5 (2 * oddH s + 1))), .int .u64 (limb 2 (powM (modN s) 5 (2 * oddH s + 1))), .int .u64 (limb 3 (powM (modN s) 5 (2 * oddH s + 1)))]) ∧ Below w.heap.size w w' := fun w => by
  have h := EX 5 (2 * oddH s + 1) (by decide) lo1 w
  rw [word_agg 5 (by decide)] at h
  exact h
 have lx := Nat.mod_lt a (show 0 < modN s by omega)
 have RS := fun hE => RInv.start (x := a % modN s) hod.2 H hE
 have MU' : ∀ x y, x < modN s → y < modN s → ∀ w, Calls Tryz.prog 48 #[.int .i64 (s : Int), .agg #[.int .u64 (limb 0 x), .int .u64 (limb 1 x), .int .u64 (limb 2 x), .int .u64 (limb 3 x)], .agg #[.int .u64 (limb 0 y), .int .u64 (limb 1 y), .int .u64 (limb 2 y), .int .u64 (limb 3 y)]] w fun e w' => e = .returned (.agg #[.int .u64 (limb 0 (x * y % modN s)), .int .u64 (limb 1 (x * y % modN s)), .int .u64 (limb 2 (x * y % modN s)), .int .u64 (limb 3 (x * y % modN s))]) ∧ Below w.heap.size w w' := fun x y hx hy w => MU x y (by omega) (by omega) w
 have NG' : ∀ x, x < modN s → x % 2 = 1 → ∀ w, Calls Tryz.prog 74 #[.int .i64 (s : Int), .agg #[.int .u64 (limb 0 x), .int .u64 (limb 1 x), .int .u64 (limb 2 x), .int .u64 (limb 3 x)]] w fun e w' => e = .returned (.agg #[.int .u64 (limb 0 (evenR (modN s) x)), .int .u64 (limb 1 (evenR (modN s) x)), .int .u64 (limb 2 (evenR (modN s) x)), .int .u64 (limb 3 (evenR (modN s) x))]) ∧ Below w.heap.size w w' := fun x hx h1 w => by
  have h := NG x (by omega) w
  unfold subP at h
  rw [neg_evenR hx h1] at h
  exact h
 have X1 := fun w => EX (a % modN s) ((2 * oddH s + 1) * 2 ^ (adicN s - 1)) (by omega) lodd w
 have X2 := fun w => EX (a % modN s) (oddH s + 1) (by omega) (by omega) w
 have X3 := fun w => EX (a % modN s) (2 * oddH s + 1) (by omega) lo1 w
 unfold expP at X1 X2 X3
 have HS1 : Hid (1 ≤ adicN s) := H.2.1
 clear H lodd lo1 lh MU EX NG h5
 obtain ⟨hh, eh⟩ : ∃ hh, hh = oddH s := ⟨_, rfl⟩
 rw [← eh] at H1 PL H2 E5 RS X1 X2 X3 HV ⊢
 obtain ⟨S, eS⟩ : ∃ S, S = adicN s := ⟨_, rfl⟩
 rw [← eS] at hS AD H1 HV RS X1 HS1 ⊢
 obtain ⟨m, em⟩ : ∃ m, m = modN s := ⟨_, rfl⟩
 rw [← em] at hM hod hp MO OA MN H1 HV E5 lx RS MU' NG' X1 X2 X3 ⊢
 obtain ⟨x, ex⟩ : ∃ x, x = a % m := ⟨_, rfl⟩
 rw [← ex] at OA lx RS X1 X2 X3 ⊢
 obtain ⟨q, eq⟩ : ∃ q, q = (2 * hh + 1) * 2 ^ (S - 1) := ⟨_, rfl⟩
 rw [← eq] at H1 RS X1 ⊢
 obtain ⟨pe, epe⟩ : ∃ pe, pe = powM m x q := ⟨_, rfl⟩
 rw [← epe] at RS X1 ⊢
 obtain ⟨x0, ex0⟩ : ∃ x0, x0 = powM m x (hh + 1) := ⟨_, rfl⟩
 obtain ⟨b0, eb0⟩ : ∃ b0, b0 = powM m x (2 * hh + 1) := ⟨_, rfl⟩
 obtain ⟨z0, ez0⟩ : ∃ z0, z0 = powM m 5 (2 * hh + 1) := ⟨_, rfl⟩
 rw [← ex0] at RS X2
 rw [← eb0] at RS X3
 rw [← ez0] at RS E5
 have lpe : pe < m := by rw [epe]; exact powM_lt _ _ _ (by omega)
 have HRS : Unit → _ := fun _ => RS
 obtain ⟨o1, eo1⟩ : ∃ o1, o1 = 2 * hh + 1 := ⟨_, rfl⟩
 obtain ⟨o2, eo2⟩ : ∃ o2, o2 = 2 * hh + 2 := ⟨_, rfl⟩
 obtain ⟨o3, eo3⟩ : ∃ o3, o3 = hh + 1 := ⟨_, rfl⟩
 rw [← eo1] at HV PL E5 X3
 rw [← eo2] at PL H2
 rw [← eo3] at H2 X2
 obtain ⟨d, ed⟩ : ∃ d, d = m - 1 := ⟨_, rfl⟩
 rw [← ed] at MN H1 HV
 have HO := (show Hid _ from hod.1); have HP := (show Hid _ from hp)
 clear eh eS em ex eq epe ex0 eb0 ez0 eo1 eo2 eo3 ed hod hp RS hs
 have Q0 := fun w => eqlE x 0 (by omega) (by decide) w
 have Q1 := fun w => neqE pe 1 (by omega) (by decide) w
 go_enter Tryz.func42, Tryz.ntmps42
 go_wp2_with fail
 obtain ⟨w0, hw0⟩ : ∃ w0 : World, w0 = (w.alloc (.cells #[.int .u64 (limb 0 a), .int .u64 (limb 1 a), .int .u64 (limb 2 a), .int .u64 (limb 3 a)] 25)).alloc (.cells #[.int .u64 0, .int .u64 0, .int .u64 0, .int .u64 0] 25) := ⟨_, rfl⟩
 have ba0 : Blk w0 25 w.heap.size (fun i => limb i a) := by rw [hw0]; exact (Blk.newAt _ _ _ (fun i => limb i a) (by simp)).alloc _
 have br0 : Blk w0 25 (w.heap.size + 1) (fun _ => 0) := by rw [hw0]; exact Blk.newAt _ _ _ (fun _ => 0) (by simp)
 have hbw0 : Below w.heap.size w w0 := by rw [hw0]; exact bAlloc ((Below.refl _ _).alloc (Nat.le_refl _) _) _
 rw [← hw0]
 clear hw0
 refine (MO _).mono ?_
 rintro e w1 ⟨rfl, hb1⟩
 have ba1 := ba0.belowAll hb1; have br1 := br0.belowAll hb1
 have hbw1 := bStep hbw0 hb1
 clear ba0 br0 hbw0 hb1  MO
 obtain ⟨N6, eN6⟩ : ∃ N6, N6 = w1.heap.size := ⟨_, rfl⟩
 obtain ⟨w2, hw2⟩ : ∃ w2 : World, w2 = w1.alloc (.cells #[.int .u64 (limb 0 m), .int .u64 (limb 1 m), .int .u64 (limb 2 m), .int .u64 (limb 3 m)] 25) := ⟨_, rfl⟩
 have ba2 : Blk w2 25 w.heap.size (fun i => limb i a) := by rw [hw2]; exact ba1.alloc _
 have br2 : Blk w2 25 (w.heap.size + 1) (fun _ => 0) := by rw [hw2]; exact br1.alloc _
 have lN6 : (w.heap.size + 1) < N6 := by have := br1.lt; omega
 have bm2 : Blk w2 25 N6 (fun i => limb i m) := by rw [hw2]; exact Blk.newAt _ _ _ (fun i => limb i m) eN6
 have hbw2 : Below w.heap.size w w2 := by rw [hw2]; exact bAlloc hbw1 _
 go_upto_region 4 with fail
 rw [← hw2, ← eN6]
 clear hw2 eN6 ba1 br1 hbw1
 obtain ⟨N8, eN8⟩ : ∃ N8, N8 = w2.heap.size := ⟨_, rfl⟩
 obtain ⟨w3, hw3⟩ : ∃ w3 : World, w3 = w2.alloc (.cells #[.int .u64 0, .int .u64 0, .int .u64 0, .int .u64 0] 25) := ⟨_, rfl⟩
 have ba3 : Blk w3 25 w.heap.size (fun i => limb i a) := by rw [hw3]; exact ba2.alloc _
 have br3 : Blk w3 25 (w.heap.size + 1) (fun _ => 0) := by rw [hw3]; exact br2.alloc _
 have bm3 : Blk w3 25 N6 (fun i => limb i m) := by rw [hw3]; exact bm2.alloc _
 have lN8 : N6 < N8 := by have := bm2.lt; omega
 have bz3 : Blk w3 25 N8 (fun i => limb i 0) := by rw [hw3]; exact (Blk.newAt _ _ _ (fun _ => 0) eN8).congr (fun i _ => limbz i)
 have hbw3 : Below w.heap.size w w3 := by rw [hw3]; exact bAlloc hbw2 _
 go_upto_region 5 with fail
 rw [← hw3, ← eN8]
 clear hw3 eN8 ba2 br2 bm2 hbw2
 have ca := ba3.cell
 go_wp2_with fail
 refine (OA _).mono ?_
 rintro e w4 ⟨rfl, hb4⟩
 have ba4 := ba3.belowAll hb4; have br4 := br3.belowAll hb4; have bm4 := bm3.belowAll hb4; have bz4 := bz3.belowAll hb4
 have hbw4 := bStep hbw3 hb4
 clear ba3 br3 bm3 bz3 hbw3 hb4 ca OA
 have ct := ba4.cell; have ft := ba4.frozen
 go_upto_region 6 with fail
 obtain ⟨w5, hw5⟩ : ∃ w5 : World, w5 = (((w4.setCell ⟨w.heap.size, 0, none⟩ (.int .u64 (limb 0 x))).setCell ⟨w.heap.size, 1, none⟩ (.int .u64 (limb 1 x))).setCell ⟨w.heap.size, 2, none⟩ (.int .u64 (limb 2 x))).setCell ⟨w.heap.size, 3, none⟩ (.int .u64 (limb 3 x)) := ⟨_, rfl⟩
 have ba5 : Blk w5 25 w.heap.size (fun i => limb i x) := by rw [hw5]; exact ba4.set4 (fun i => limb i x)
 have br5 : Blk w5 25 (w.heap.size + 1) (fun _ => 0) := by rw [hw5]; exact br4.other4 (by omega) _ _ _ _
 have bm5 : Blk w5 25 N6 (fun i => limb i m) := by rw [hw5]; exact bm4.other4 (by omega) _ _ _ _
 have bz5 : Blk w5 25 N8 (fun i => limb i 0) := by rw [hw5]; exact bz4.other4 (by omega) _ _ _ _
 have hbw5 : Below w.heap.size w w5 := by rw [hw5]; exact bSet4 hbw4 (by omega) _ _ _ _
 rw [← hw5]
 clear hw5 ba4 br4 bm4 bz4 hbw4 ct ft
 have ca := ba5.cell; have cz := bz5.cell
 by_cases hx0 : x = 0
 ·rw [show decide (x = 0) = true from by simp [hx0]] at Q0
  have HZ : Hid ((0 : Nat) * 0 % m = x) := by show _ = _; rw [hx0]; simp
  clear hx0
  have cr := br5.cell; have fr := br5.frozen; have lr := br5.lt
  go_wp2
  refine bodyPost_ret (v := .tuple #[.agg #[.int .u64 (limb 0 0), .int .u64 (limb 1 0), .int .u64 (limb 2 0), .int .u64 (limb 3 0)], .int .i64 0]) (by simp [results, Tryz.results42, go_sem, cr]) rfl ⟨Or.inl ⟨0, by omega, by decide, HZ.out, rfl⟩, ?_⟩
  repeat (first | with_reducible exact hbw5 | with_reducible refine Below.setCell ?_ (by first | omega | (simp; omega) | simp) _)
 ·rw [show decide (x = 0) = false from by simp [hx0]] at Q0
  have HX0 := (show Hid _ from hx0)
  clear hx0
  go_upto_region 8 with fail
  clear ca cz Q0
  have cm := bm5.cell
  go_wp2_with fail
  refine (MN _).mono ?_
  rintro e w6 ⟨rfl, hb6⟩
  have ba6 := ba5.belowAll hb6; have br6 := br5.belowAll hb6; have bm6 := bm5.belowAll hb6; have bz6 := bz5.belowAll hb6
  have hbw6 := bStep hbw5 hb6
  clear ba5 br5 bm5 bz5 hbw5 hb6 cm MN
  obtain ⟨N9, eN9⟩ : ∃ N9, N9 = w6.heap.size := ⟨_, rfl⟩
  obtain ⟨w7, hw7⟩ : ∃ w7 : World, w7 = w6.alloc (.cells #[.int .u64 (limb 0 d), .int .u64 (limb 1 d), .int .u64 (limb 2 d), .int .u64 (limb 3 d)] 25) := ⟨_, rfl⟩
  have ba7 : Blk w7 25 w.heap.size (fun i => limb i x) := by rw [hw7]; exact ba6.alloc _
  have br7 : Blk w7 25 (w.heap.size + 1) (fun _ => 0) := by rw [hw7]; exact br6.alloc _
  have bm7 : Blk w7 25 N6 (fun i => limb i m) := by rw [hw7]; exact bm6.alloc _
  have bz7 : Blk w7 25 N8 (fun i => limb i 0) := by rw [hw7]; exact bz6.alloc _
  have lN9 : N8 < N9 := by have := bz6.lt; omega
  have bl7 : Blk w7 25 N9 (fun i => limb i d) := by rw [hw7]; exact Blk.newAt _ _ _ (fun i => limb i d) eN9
  have hbw7 : Below w.heap.size w w7 := by rw [hw7]; exact bAlloc hbw6 _
  go_upto_region 9 with fail
  rw [← hw7, ← eN9]
  clear hw7 eN9 ba6 br6 bm6 bz6 hbw6
  obtain ⟨N10, eN10⟩ : ∃ N10, N10 = w7.heap.size := ⟨_, rfl⟩
  obtain ⟨w8, hw8⟩ : ∃ w8 : World, w8 = w7.alloc (.cells #[.int .u64 1, .int .u64 0, .int .u64 0, .int .u64 0] 25) := ⟨_, rfl⟩
  have ba8 : Blk w8 25 w.heap.size (fun i => limb i x) := by rw [hw8]; exact ba7.alloc _
  have br8 : Blk w8 25 (w.heap.size + 1) (fun _ => 0) := by rw [hw8]; exact br7.alloc _
  have bm8 : Blk w8 25 N6 (fun i => limb i m) := by rw [hw8]; exact bm7.alloc _
  have bz8 : Blk w8 25 N8 (fun i => limb i 0) := by rw [hw8]; exact bz7.alloc _
  have bl8 : Blk w8 25 N9 (fun i => limb i d) := by rw [hw8]; exact bl7.alloc _
  have lN10 : N9 < N10 := by have := bl7.lt; omega
  have bo8 : Blk w8 25 N10 (fun i => limb i 1) := by rw [hw8]; exact (Blk.newAt _ _ _ (fun i => if i = 0 then 1 else 0) eN10).congr (fun i _ => limb_small 1 i (by decide))
  have hbw8 : Below w.heap.size w w8 := by rw [hw8]; exact bAlloc hbw7 _
  go_upto_region 10 with fail
  rw [← hw8, ← eN10]
  clear hw8 eN10 ba7 br7 bm7 bz7 bl7 hbw7
  by_cases hp1 : pe = 1
  ·rw [show decide (pe = 1) = true from by simp [hp1]] at Q1
   have HI0 : Hid (RInv m x (S - 1) x0 b0 z0) := HRS () hp1
   clear hp1 HRS
   go_wp2_with fail
   go_region_held3 (fun w' => (∀ i, i < 4 → w'.cell? ⟨w.heap.size, i, none⟩ = some (.int .u64 (limb i x))) ∧ (∀ i, i < 4 → w'.cell? ⟨N9, i, none⟩ = some (.int .u64 (limb i d))) ∧ (∀ i, i < 4 → w'.cell? ⟨N10, i, none⟩ = some (.int .u64 (limb i 1))))
    (first | with_reducible exact hold3 hbB (by with_reducible assumption) | with_reducible exact hold3 hbA (by with_reducible assumption) | with_reducible exact ⟨ba8.drew.cell, bl8.drew.cell, bo8.drew.cell⟩)
    (first | (go_at_call 78; with_reducible refine (H1 _).mono ?_; rintro e wA ⟨rfl, hbA⟩) | (go_at_call 77; with_reducible refine (X1 _).mono ?_; rintro e w9 ⟨rfl, hbB⟩) | fail)
   have ba9 := (ba8.drew.belowAll hbA).belowAll hbB; have br9 := (br8.drew.belowAll hbA).belowAll hbB; have bm9 := (bm8.drew.belowAll hbA).belowAll hbB; have bz9 := (bz8.drew.belowAll hbA).belowAll hbB; have bl9 := (bl8.drew.belowAll hbA).belowAll hbB; have bo9 := (bo8.drew.belowAll hbA).belowAll hbB
   have hbw9 := bStep (bStep hbw8.drew hbA) hbB
   clear ba8 br8 bm8 bz8 bl8 bo8 hbw8 hbA hbB H1 X1 Q1
   go_wp2_with fail
   refine (AD _).mono ?_
   rintro e w10 ⟨rfl, hb10⟩
   have ba10 := ba9.belowAll hb10; have br10 := br9.belowAll hb10; have bm10 := bm9.belowAll hb10; have bz10 := bz9.belowAll hb10; have bl10 := bl9.belowAll hb10; have bo10 := bo9.belowAll hb10
   have hbw10 := bStep hbw9 hb10
   clear ba9 br9 bm9 bz9 bl9 bo9 hbw9 hb10  AD
   have cl := bl10.cell
   go_wp2_with fail
   refine (HV _).mono ?_
   rintro e w11 ⟨rfl, hb11⟩
   have ba11 := ba10.belowAll hb11; have br11 := br10.belowAll hb11; have bm11 := bm10.belowAll hb11; have bz11 := bz10.belowAll hb11; have bl11 := bl10.belowAll hb11; have bo11 := bo10.belowAll hb11
   have hbw11 := bStep hbw10 hb11
   clear ba10 br10 bm10 bz10 bl10 bo10 hbw10 hb11 cl HV
   obtain ⟨N13, eN13⟩ : ∃ N13, N13 = w11.heap.size := ⟨_, rfl⟩
   obtain ⟨w12, hw12⟩ : ∃ w12 : World, w12 = w11.alloc (.cells #[.int .u64 (limb 0 o1), .int .u64 (limb 1 o1), .int .u64 (limb 2 o1), .int .u64 (limb 3 o1)] 25) := ⟨_, rfl⟩
   have ba12 : Blk w12 25 w.heap.size (fun i => limb i x) := by rw [hw12]; exact ba11.alloc _
   have br12 : Blk w12 25 (w.heap.size + 1) (fun _ => 0) := by rw [hw12]; exact br11.alloc _
   have bm12 : Blk w12 25 N6 (fun i => limb i m) := by rw [hw12]; exact bm11.alloc _
   have bz12 : Blk w12 25 N8 (fun i => limb i 0) := by rw [hw12]; exact bz11.alloc _
   have bl12 : Blk w12 25 N9 (fun i => limb i d) := by rw [hw12]; exact bl11.alloc _
   have bo12 : Blk w12 25 N10 (fun i => limb i 1) := by rw [hw12]; exact bo11.alloc _
   have lN13 : N10 < N13 := by have := bo11.lt; omega
   have bd12 : Blk w12 25 N13 (fun i => limb i o1) := by rw [hw12]; exact Blk.newAt _ _ _ (fun i => limb i o1) eN13
   have hbw12 : Below w.heap.size w w12 := by rw [hw12]; exact bAlloc hbw11 _
   go_upto_region 14 with fail
   rw [← hw12, ← eN13]
   clear hw12 eN13 ba11 br11 bm11 bz11 bl11 bo11 hbw11
   go_wp2_with fail
   go_cut [14] (fun pr wx => ∃ N : Nat, pr = .pointer (some ⟨N, 0, none⟩) ∧ w12.heap.size ≤ N ∧ Blk wx 25 N (fun i => limb i x0) ∧ Below w12.heap.size w12 wx)
   case first =>
    have la := ba12.lt; have ld := bd12.lt; have lo := bo12.lt
    clear MU' NG' HI0 HX0 HS1 hS E5 X3 HO HP lx lpe ha hM br12 bm12 bz12 bl12 hbw12 lN6 lN8 lN9 lN10 lN13
    go_region_held3 (fun w' => (∀ i, i < 4 → w'.cell? ⟨w.heap.size, i, none⟩ = some (.int .u64 (limb i x))) ∧ (∀ i, i < 4 → w'.cell? ⟨N13, i, none⟩ = some (.int .u64 (limb i o1))) ∧ (∀ i, i < 4 → w'.cell? ⟨N10, i, none⟩ = some (.int .u64 (limb i 1))))
     (first | with_reducible exact hold3 hbC (by with_reducible assumption) | with_reducible exact hold3 hbB (by with_reducible assumption) | with_reducible exact hold3 hbA (by with_reducible assumption) | with_reducible exact hold3 ((Below.refl _ _).alloc (Nat.le_refl _) _) (by with_reducible assumption) | with_reducible exact trio_re _ _ (by omega) (by omega) (by omega) (by with_reducible assumption) | with_reducible exact far3 _ _ _ _ (by omega) (by omega) (by omega) (by with_reducible assumption) | with_reducible exact ⟨ba12.drew.cell, bd12.drew.cell, bo12.drew.cell⟩ | with_reducible exact ⟨(ba12.alloc _).drew.cell, (bd12.alloc _).drew.cell, (bo12.alloc _).drew.cell⟩)
     (first | (go_at_call 81; with_reducible refine (PL _).mono ?_; rintro e wA ⟨rfl, hbA⟩; obtain ⟨hcA, hfA⟩ := bcell hbA; have hzA := hbA.size; (try simp at hzA)) | (go_at_call 78; with_reducible refine (H2 _).mono ?_; rintro e wB ⟨rfl, hbB⟩; obtain ⟨hcB, hfB⟩ := bcell hbB; have hzB := hbB.size; (try simp at hzB)) | (go_at_call 77; with_reducible refine (X2 _).mono ?_; rintro e wC ⟨rfl, hbC⟩; obtain ⟨hcC, hfC⟩ := bcell hbC; have hzC := hbC.size; (try simp at hzC); (try (have k2 : wA.heap.size < wB.heap.size := by omega)); (try (have k3 : w12.heap.size < wB.heap.size := by omega)); (try (have k4 : w12.heap.size < wA.heap.size := by omega))) | fail)
    all_goals (go_wp2_with fail; go_meet)
    ·refine ⟨_, rfl, by omega, Blk.new wC _ (fun i => limb i x0), ?_⟩
     exact bAlloc (bStep (bStep (bStep (Below.refl w12.heap.size w12).drew hbA) hbB) hbC) _
    ·refine ⟨_, rfl, by omega, ((Blk.new wB _ (fun _ => 0)).belowAll hbC).set4 (fun i => limb i x0), ?_⟩
     exact bSet4 (bStep (bAlloc (bStep (bStep (Below.refl w12.heap.size w12).drew hbA) hbB) _) hbC) (by omega) _ _ _ _
    ·refine ⟨_, rfl, by omega, (((Blk.new wA _ (fun _ => 0)).belowAll hbB).belowAll hbC).set4 (fun i => limb i x0), ?_⟩
     exact bSet4 (bStep (bStep (bAlloc (bStep (Below.refl w12.heap.size w12).drew hbA) _) hbB) hbC) (by omega) _ _ _ _
    ·refine ⟨_, rfl, by omega, ((((Blk.new w12 _ (fun _ => 0)).drew.belowAll hbA).belowAll hbB).belowAll hbC).set4 (fun i => limb i x0), ?_⟩
     exact bSet4 (bStep (bStep (bStep (bAlloc (Below.refl w12.heap.size w12) _).drew hbA) hbB) hbC) (by omega) _ _ _ _
   case rest =>
    obtain ⟨N14, rfl, hN14, bxc, hbx⟩ := hcut
    obtain ⟨w13, rfl⟩ : ∃ w13, w13 = wc := ⟨_, rfl⟩
    have bx13 := bxc; have lN14 : N13 < N14 := by have := bd12.lt; omega
    have ba13 := ba12.belowAll hbx; have br13 := br12.belowAll hbx; have bm13 := bm12.belowAll hbx; have bz13 := bz12.belowAll hbx; have bl13 := bl12.belowAll hbx; have bo13 := bo12.belowAll hbx; have bd13 := bd12.belowAll hbx
    have hbw13 := bStep hbw12 hbx
    clear bxc ba12 br12 bm12 bz12 bl12 bo12 bd12 hbw12 hbx hN14 PL H2 X2
    have ca := ba13.cell; have cd := bd13.cell
    go_wp2_with fail
    refine (X3 _).mono ?_
    rintro e w14 ⟨rfl, hb14⟩
    have ba14 := ba13.belowAll hb14; have br14 := br13.belowAll hb14; have bm14 := bm13.belowAll hb14; have bz14 := bz13.belowAll hb14; have bl14 := bl13.belowAll hb14; have bo14 := bo13.belowAll hb14; have bd14 := bd13.belowAll hb14; have bx14 := bx13.belowAll hb14
    have hbw14 := bStep hbw13 hb14
    clear ba13 br13 bm13 bz13 bl13 bo13 bd13 bx13 hbw13 hb14 ca cd X3
    obtain ⟨N15, eN15⟩ : ∃ N15, N15 = w14.heap.size := ⟨_, rfl⟩
    obtain ⟨w15, hw15⟩ : ∃ w15 : World, w15 = w14.alloc (.cells #[.int .u64 (limb 0 b0), .int .u64 (limb 1 b0), .int .u64 (limb 2 b0), .int .u64 (limb 3 b0)] 25) := ⟨_, rfl⟩
    have ba15 : Blk w15 25 w.heap.size (fun i => limb i x) := by rw [hw15]; exact ba14.alloc _
    have br15 : Blk w15 25 (w.heap.size + 1) (fun _ => 0) := by rw [hw15]; exact br14.alloc _
    have bm15 : Blk w15 25 N6 (fun i => limb i m) := by rw [hw15]; exact bm14.alloc _
    have bz15 : Blk w15 25 N8 (fun i => limb i 0) := by rw [hw15]; exact bz14.alloc _
    have bl15 : Blk w15 25 N9 (fun i => limb i d) := by rw [hw15]; exact bl14.alloc _
    have bo15 : Blk w15 25 N10 (fun i => limb i 1) := by rw [hw15]; exact bo14.alloc _
    have bd15 : Blk w15 25 N13 (fun i => limb i o1) := by rw [hw15]; exact bd14.alloc _
    have bx15 : Blk w15 25 N14 (fun i => limb i x0) := by rw [hw15]; exact bx14.alloc _
    have lN15 : N14 < N15 := by have := bx14.lt; omega
    have bb15 : Blk w15 25 N15 (fun i => limb i b0) := by rw [hw15]; exact Blk.newAt _ _ _ (fun i => limb i b0) eN15
    have hbw15 : Below w.heap.size w w15 := by rw [hw15]; exact bAlloc hbw14 _
    go_upto_region 16 with fail
    rw [← hw15, ← eN15]
    clear hw15 eN15 ba14 br14 bm14 bz14 bl14 bo14 bd14 bx14 hbw14
    have cd := bd15.cell
    go_wp2_with fail
    refine (E5 _).mono ?_
    rintro e w16 ⟨rfl, hb16⟩
    have ba16 := ba15.belowAll hb16; have br16 := br15.belowAll hb16; have bm16 := bm15.belowAll hb16; have bz16 := bz15.belowAll hb16; have bl16 := bl15.belowAll hb16; have bo16 := bo15.belowAll hb16; have bd16 := bd15.belowAll hb16; have bx16 := bx15.belowAll hb16; have bb16 := bb15.belowAll hb16
    have hbw16 := bStep hbw15 hb16
    clear ba15 br15 bm15 bz15 bl15 bo15 bd15 bx15 bb15 hbw15 hb16 cd E5
    obtain ⟨N16, eN16⟩ : ∃ N16, N16 = w16.heap.size := ⟨_, rfl⟩
    obtain ⟨w17, hw17⟩ : ∃ w17 : World, w17 = w16.alloc (.cells #[.int .u64 (limb 0 z0), .int .u64 (limb 1 z0), .int .u64 (limb 2 z0), .int .u64 (limb 3 z0)] 25) := ⟨_, rfl⟩
    have ba17 : Blk w17 25 w.heap.size (fun i => limb i x) := by rw [hw17]; exact ba16.alloc _
    have br17 : Blk w17 25 (w.heap.size + 1) (fun _ => 0) := by rw [hw17]; exact br16.alloc _
    have bm17 : Blk w17 25 N6 (fun i => limb i m) := by rw [hw17]; exact bm16.alloc _
    have bz17 : Blk w17 25 N8 (fun i => limb i 0) := by rw [hw17]; exact bz16.alloc _
    have bl17 : Blk w17 25 N9 (fun i => limb i d) := by rw [hw17]; exact bl16.alloc _
    have bo17 : Blk w17 25 N10 (fun i => limb i 1) := by rw [hw17]; exact bo16.alloc _
    have bd17 : Blk w17 25 N13 (fun i => limb i o1) := by rw [hw17]; exact bd16.alloc _
    have bx17 : Blk w17 25 N14 (fun i => limb i x0) := by rw [hw17]; exact bx16.alloc _
    have bb17 : Blk w17 25 N15 (fun i => limb i b0) := by rw [hw17]; exact bb16.alloc _
    have lN16 : N15 < N16 := by have := bb16.lt; omega
    have by17 : Blk w17 25 N16 (fun i => limb i z0) := by rw [hw17]; exact Blk.newAt _ _ _ (fun i => limb i z0) eN16
    have hbw17 : Below w.heap.size w w17 := by rw [hw17]; exact bAlloc hbw16 _
    go_upto_region 17 with fail
    rw [← hw17, ← eN16]
    clear hw17 eN16 ba16 br16 bm16 bz16 bl16 bo16 bd16 bx16 bb16 hbw16
    have hS1 := HS1.out
    have hSi : (S : Int) - 1 = ((S - 1 : Nat) : Int) := by omega
    obtain ⟨S1, eS1⟩ : ∃ S1, S1 = S - 1 := ⟨_, rfl⟩
    rw [← eS1] at hSi HI0
    have lS1 : S1 ≤ 32 := by omega
    clear eS1
    go_wp2
    go_loopw [17] (fun iv wr => ∃ n X B Zv : Nat, iv = .int .i64 (n : Int) ∧ n ≤ 32 ∧ Hid (RInv m x n X B Zv) ∧ Below w.heap.size w wr ∧ Blk wr 25 (w.heap.size + 1) (fun _ => 0) ∧ Blk wr 25 N10 (fun i => limb i 1) ∧ Blk wr 25 N14 (fun i => limb i X) ∧ Blk wr 25 N15 (fun i => limb i B) ∧ Blk wr 25 N16 (fun i => limb i Zv)) (fun iv _ => (intOf iv).toNat)
    case atStart => exact ⟨S1, x0, b0, z0, rfl, lS1, HI0, hbw17, br17, bo17, bx17, bb17, by17⟩
    case round =>
     obtain ⟨n, X, B, Zv, rfl, hn, hI, hbw20, br20, bo20, bx20, bb20, by20⟩ := hrel
     clear ba17 br17 bm17 bz17 bl17 bo17 bd17 bx17 bb17 by17 hbw17 HI0 hSi
     obtain ⟨w20, rfl⟩ : ∃ w20, w20 = wr := ⟨_, rfl⟩
     have lX := hI.out.1; have lB := hI.out.2.1; have lZ := hI.out.2.2.1
     by_cases hn0 : n = 0
     ·subst hn0
      have HF : Hid (X * X % m = x) := hI.out.fin lx
      have X0 : X ≠ 0 := by intro h; have h2 := HF.out; rw [h] at h2; simp at h2; exact HX0.out h2.symm
      have hl0 : limb 0 X % 2 = X % 2 := by rw [limb0]; omega
      have c0 : w20.cell? ⟨N14, 0, none⟩ = some (.int .u64 (limb 0 X)) := bx20.cell 0 (by decide)
      clear hI
      by_cases hev : X % 2 = 0
      ·have hb2 : (((limb 0 X : Nat) : Int) % 2) = 0 := by omega
       have HE := (show Hid _ from hev)
       clear hev hl0 X0
       have cx := bx20.cell
       have cr := br20.cell; have fr := br20.frozen; have lr := br20.lt
       go_wp2
       refine bodyPost_ret (v := .tuple #[.agg #[.int .u64 (limb 0 X), .int .u64 (limb 1 X), .int .u64 (limb 2 X), .int .u64 (limb 3 X)], .int .i64 0]) (by simp [results, Tryz.results42, go_sem, cr]) rfl ⟨Or.inl ⟨X, lX, HE.out, HF.out, rfl⟩, ?_⟩
       repeat (first | with_reducible exact hbw20 | with_reducible refine Below.setCell ?_ (by first | omega | (simp; omega) | simp) _)
      ·have hb2 : (((limb 0 X : Nat) : Int) % 2) = 1 := by omega
       have N1 := fun w => NG' X lX (by omega) w
       have HE : Hid (evenR m X % 2 = 0) := (evenR_even HO.out lX).1
       have HR : Hid (evenR m X * evenR m X % m = x) := by show _ = _; rw [evenR_sq lX]; exact HF.out
       have lE := (evenR_even HO.out lX).2 X0
       obtain ⟨u, eu⟩ : ∃ u, u = evenR m X := ⟨_, rfl⟩
       rw [← eu] at N1 HE HR lE
       clear eu hev hl0 X0 HF
       have cx := bx20.cell
       go_wp2_with fail
       refine (N1 _).mono ?_
       rintro e w21 ⟨rfl, hb21⟩
       have br21 := br20.belowAll hb21; have bo21 := bo20.belowAll hb21; have bx21 := bx20.belowAll hb21; have bb21 := bb20.belowAll hb21; have by21 := by20.belowAll hb21
       have hbw21 := bStep hbw20 hb21
       clear br20 bo20 bx20 bb20 by20 hbw20 hb21 cx c0
       have ct := bx21.cell; have ft := bx21.frozen
       go_upto_region 31 with fail
       obtain ⟨w22, hw22⟩ : ∃ w22 : World, w22 = (((w21.setCell ⟨N14, 0, none⟩ (.int .u64 (limb 0 u))).setCell ⟨N14, 1, none⟩ (.int .u64 (limb 1 u))).setCell ⟨N14, 2, none⟩ (.int .u64 (limb 2 u))).setCell ⟨N14, 3, none⟩ (.int .u64 (limb 3 u)) := ⟨_, rfl⟩
       have br22 : Blk w22 25 (w.heap.size + 1) (fun _ => 0) := by rw [hw22]; exact br21.other4 (by omega) _ _ _ _
       have bo22 : Blk w22 25 N10 (fun i => limb i 1) := by rw [hw22]; exact bo21.other4 (by omega) _ _ _ _
       have bx22 : Blk w22 25 N14 (fun i => limb i u) := by rw [hw22]; exact bx21.set4 (fun i => limb i u)
       have bb22 : Blk w22 25 N15 (fun i => limb i B) := by rw [hw22]; exact bb21.other4 (by omega) _ _ _ _
       have by22 : Blk w22 25 N16 (fun i => limb i Zv) := by rw [hw22]; exact by21.other4 (by omega) _ _ _ _
       have hbw22 : Below w.heap.size w w22 := by rw [hw22]; exact bSet4 hbw21 (by omega) _ _ _ _
       rw [← hw22]
       clear hw22 br21 bo21 bx21 bb21 by21 hbw21 ct ft
       have cx := bx22.cell
       have cr := br22.cell; have fr := br22.frozen; have lr := br22.lt
       go_wp2
       refine bodyPost_ret (v := .tuple #[.agg #[.int .u64 (limb 0 u), .int .u64 (limb 1 u), .int .u64 (limb 2 u), .int .u64 (limb 3 u)], .int .i64 0]) (by simp [results, Tryz.results42, go_sem, cr]) rfl ⟨Or.inl ⟨u, lE, HE.out, HR.out, rfl⟩, ?_⟩
       repeat (first | with_reducible exact hbw22 | with_reducible refine Below.setCell ?_ (by first | omega | (simp; omega) | simp) _)
     ·obtain ⟨j, rfl⟩ : ∃ j, n = j + 1 := ⟨n - 1, by omega⟩
      have hni : (1 : Int) ≤ ((j + 1 : Nat) : Int) := by omega
      obtain ⟨iv, eiv⟩ : ∃ iv : Int, iv = ((j + 1 : Nat) : Int) := ⟨_, rfl⟩
      rw [← eiv] at hni ⊢
      have HIV := (show Hid _ from eiv)
      have hivN : Hid (iv - 1 = (j : Int)) := by show _ = _; omega
      have hiv2 : iv ≤ 33 := by omega
      clear eiv hn0
      have cb := bb20.cell
      go_upto_region 20 with fail
      obtain ⟨N18, eN18⟩ : ∃ N18, N18 = w20.heap.size := ⟨_, rfl⟩
      obtain ⟨w21, hw21⟩ : ∃ w21 : World, w21 = w20.alloc (.cells #[.int .u64 (limb 0 B), .int .u64 (limb 1 B), .int .u64 (limb 2 B), .int .u64 (limb 3 B)] 25) := ⟨_, rfl⟩
      have br21 : Blk w21 25 (w.heap.size + 1) (fun _ => 0) := by rw [hw21]; exact br20.alloc _
      have bo21 : Blk w21 25 N10 (fun i => limb i 1) := by rw [hw21]; exact bo20.alloc _
      have bx21 : Blk w21 25 N14 (fun i => limb i X) := by rw [hw21]; exact bx20.alloc _
      have bb21 : Blk w21 25 N15 (fun i => limb i B) := by rw [hw21]; exact bb20.alloc _
      have by21 : Blk w21 25 N16 (fun i => limb i Zv) := by rw [hw21]; exact by20.alloc _
      have lN18 : N16 < N18 := by have := by20.lt; omega
      have bt21 : Blk w21 25 N18 (fun i => limb i B) := by rw [hw21]; exact Blk.newAt _ _ _ (fun i => limb i B) eN18
      have hbw21 : Below w.heap.size w w21 := by rw [hw21]; exact bAlloc hbw20 _
      go_upto_region 21 with fail
      rw [← hw21, ← eN18]
      clear hw21 eN18 br20 bo20 bx20 bb20 by20 hbw20
      clear cb
      go_wp2
      go_loopw [19] (fun jv wr => ∃ k : Nat, jv = .int .i64 ((k : Int) + 1) ∧ k ≤ j ∧ Below w.heap.size w wr ∧ Blk wr 25 (w.heap.size + 1) (fun _ => 0) ∧ Blk wr 25 N10 (fun i => limb i 1) ∧ Blk wr 25 N14 (fun i => limb i X) ∧ Blk wr 25 N15 (fun i => limb i B) ∧ Blk wr 25 N16 (fun i => limb i Zv) ∧ Blk wr 25 N18 (fun i => limb i (sqs m B k))) (fun jv _ => 40 - (intOf jv).toNat)
      case atStart =>
       refine ⟨0, rfl, by omega, hbw21, br21, bo21, bx21, bb21, by21, ?_⟩
       rw [sqs_zero m B lB]
       exact bt21
      case round =>
       obtain ⟨k, rfl, hk, hbw22, br22, bo22, bx22, bb22, by22, bt22⟩ := hrel
       clear br21 bo21 bx21 bb21 by21 bt21 hbw21
       obtain ⟨w22, rfl⟩ : ∃ w22, w22 = wr := ⟨_, rfl⟩
       have lt := sqs_lt m B k (by omega)
       by_cases hlt : k < j
       ·have hki : (k : Int) + 1 < iv := by rw [HIV.out]; omega
        have M1 := fun w => MU' _ _ lt lt w
        rw [← sqs_succ] at M1
        obtain ⟨tt, ett⟩ : ∃ tt, tt = sqs m B k := ⟨_, rfl⟩
        obtain ⟨t2, et2⟩ : ∃ t2, t2 = sqs m B (k + 1) := ⟨_, rfl⟩
        rw [← ett] at bt22 M1
        rw [← et2] at M1
        have ET := (show Hid _ from et2)
        clear ett et2 lt
        have ct := bt22.cell
        go_wp2_with fail
        refine (M1 _).mono ?_
        rintro e w23 ⟨rfl, hb23⟩
        have br23 := br22.belowAll hb23; have bo23 := bo22.belowAll hb23; have bx23 := bx22.belowAll hb23; have bb23 := bb22.belowAll hb23; have by23 := by22.belowAll hb23; have bt23 := bt22.belowAll hb23
        have hbw23 := bStep hbw22 hb23
        clear br22 bo22 bx22 bb22 by22 bt22 hbw22 hb23 ct 
        have ct := bt23.cell; have ft := bt23.frozen
        go_wp2
        go_roundw
        case measure => simp [intOf]; omega
        case rel =>
         refine ⟨k + 1, by go_num, by omega, bSet4 hbw23 (by omega) _ _ _ _, br23.other4 (by omega) _ _ _ _, bo23.other4 (by omega) _ _ _ _, bx23.other4 (by omega) _ _ _ _, bb23.other4 (by omega) _ _ _ _, by23.other4 (by omega) _ _ _ _, ?_⟩
         rw [← ET.out]
         exact bt23.set4 (fun i => limb i t2)
       ·have hkj : k = j := by omega
        subst hkj
        have hki : ¬ (k : Int) + 1 < iv := by rw [HIV.out]; omega
        have NE := fun w => neqE (sqs m B k) 1 (by omega) (by decide) w
        have M2 := fun w => MU' _ _ lZ lZ w
        have lzz := mul_lt_mod m Zv Zv (by omega)
        obtain ⟨zz, ezz⟩ : ∃ zz, zz = Zv * Zv % m := ⟨_, rfl⟩
        rw [← ezz] at M2 lzz
        by_cases h1 : sqs m B k = 1
        ·have HI2 : Hid (RInv m x k X B zz) := by rw [ezz]; exact hI.out.step1 HP.out h1
         rw [show decide (sqs m B k = 1) = true from by simp [h1]] at NE
         obtain ⟨tt, ett⟩ : ∃ tt, tt = sqs m B k := ⟨_, rfl⟩
         rw [← ett] at bt22 NE
         clear ett ezz h1 hI lt
         have ct := bt22.cell; have co := bo22.cell
         go_upto_region 28 with fail
         clear ct co NE
         have cy := by22.cell
         go_wp2_with fail
         refine (M2 _).mono ?_
         rintro e w23 ⟨rfl, hb23⟩
         have br23 := br22.belowAll hb23; have bo23 := bo22.belowAll hb23; have bx23 := bx22.belowAll hb23; have bb23 := bb22.belowAll hb23; have by23 := by22.belowAll hb23; have bt23 := bt22.belowAll hb23
         have hbw23 := bStep hbw22 hb23
         clear br22 bo22 bx22 bb22 by22 bt22 hbw22 hb23 cy 
         have ct := by23.cell; have ft := by23.frozen
         go_wp2
         go_roundw
         case measure => simp [intOf]; have := hivN.out; omega
         case rel =>
          exact ⟨k, X, B, zz, by rw [hivN.out], by omega, HI2, bSet4 hbw23 (by omega) _ _ _ _, br23.other4 (by omega) _ _ _ _, bo23.other4 (by omega) _ _ _ _, bx23.other4 (by omega) _ _ _ _, bb23.other4 (by omega) _ _ _ _, by23.set4 (fun i => limb i zz)⟩
        ·have HI2 : Hid (RInv m x k (X * Zv % m) (B * (Zv * Zv % m) % m) (Zv * Zv % m)) := hI.out.step2 HP.out h1
         rw [← ezz] at HI2
         have M1 := fun w => MU' _ _ lX lZ w
         have M3 := fun w => MU' _ _ lB lzz w
         obtain ⟨X2, eX2⟩ : ∃ X2, X2 = X * Zv % m := ⟨_, rfl⟩
         rw [← eX2] at M1 HI2
         obtain ⟨B2, eB2⟩ : ∃ B2, B2 = B * zz % m := ⟨_, rfl⟩
         rw [← eB2] at M3 HI2
         rw [show decide (sqs m B k = 1) = false from by simp [h1]] at NE
         obtain ⟨tt, ett⟩ : ∃ tt, tt = sqs m B k := ⟨_, rfl⟩
         rw [← ett] at bt22 NE
         clear ett ezz eX2 eB2 h1 hI lt
         have ct := bt22.cell; have co := bo22.cell
         go_upto_region 26 with fail
         clear ct co NE
         have cx := bx22.cell; have cy := by22.cell
         go_wp2_with fail
         refine (M1 _).mono ?_
         rintro e w23 ⟨rfl, hb23⟩
         have br23 := br22.belowAll hb23; have bo23 := bo22.belowAll hb23; have bx23 := bx22.belowAll hb23; have bb23 := bb22.belowAll hb23; have by23 := by22.belowAll hb23; have bt23 := bt22.belowAll hb23
         have hbw23 := bStep hbw22 hb23
         clear br22 bo22 bx22 bb22 by22 bt22 hbw22 hb23 cx cy M1
         have ct := bx23.cell; have ft := bx23.frozen
         go_upto_region 27 with fail
         obtain ⟨w24, hw24⟩ : ∃ w24 : World, w24 = (((w23.setCell ⟨N14, 0, none⟩ (.int .u64 (limb 0 X2))).setCell ⟨N14, 1, none⟩ (.int .u64 (limb 1 X2))).setCell ⟨N14, 2, none⟩ (.int .u64 (limb 2 X2))).setCell ⟨N14, 3, none⟩ (.int .u64 (limb 3 X2)) := ⟨_, rfl⟩
         have br24 : Blk w24 25 (w.heap.size + 1) (fun _ => 0) := by rw [hw24]; exact br23.other4 (by omega) _ _ _ _
         have bo24 : Blk w24 25 N10 (fun i => limb i 1) := by rw [hw24]; exact bo23.other4 (by omega) _ _ _ _
         have bx24 : Blk w24 25 N14 (fun i => limb i X2) := by rw [hw24]; exact bx23.set4 (fun i => limb i X2)
         have bb24 : Blk w24 25 N15 (fun i => limb i B) := by rw [hw24]; exact bb23.other4 (by omega) _ _ _ _
         have by24 : Blk w24 25 N16 (fun i => limb i Zv) := by rw [hw24]; exact by23.other4 (by omega) _ _ _ _
         have bt24 : Blk w24 25 N18 (fun i => limb i tt) := by rw [hw24]; exact bt23.other4 (by omega) _ _ _ _
         have hbw24 : Below w.heap.size w w24 := by rw [hw24]; exact bSet4 hbw23 (by omega) _ _ _ _
         rw [← hw24]
         clear hw24 br23 bo23 bx23 bb23 by23 bt23 hbw23 ct ft
         have cb := bb24.cell; have cy := by24.cell; have lb := bb24.lt; have ly := by24.lt
         go_cut [] (fun wx => Below w.heap.size w wx ∧ Blk wx 25 (w.heap.size + 1) (fun _ => 0) ∧ Blk wx 25 N10 (fun i => limb i 1) ∧ Blk wx 25 N14 (fun i => limb i X2) ∧ Blk wx 25 N15 (fun i => limb i B2) ∧ Blk wx 25 N16 (fun i => limb i Zv))
         case first =>
          go_wp2_with fail
          go_region_with (first | (go_at_call 48; with_reducible refine (M2 _).mono ?_; rintro e wA ⟨rfl, hbA⟩; have bNA := bb24.drew.belowAll hbA; have cNA := bNA.cell; clear bNA) | (go_at_call 48; with_reducible refine (M3 _).mono ?_; rintro e wB ⟨rfl, hbB⟩; have bN := (bb24.drew.belowAll hbA).belowAll hbB; have cN := bN.cell; have fN := bN.frozen; clear bN) | fail)
          all_goals (go_wp2_with fail; go_meet)
          all_goals exact ⟨bSet4 (bStep (bStep hbw24.drew hbA) hbB) (by omega) _ _ _ _, ((br24.drew.belowAll hbA).belowAll hbB).other4 (by omega) _ _ _ _, ((bo24.drew.belowAll hbA).belowAll hbB).other4 (by omega) _ _ _ _, ((bx24.drew.belowAll hbA).belowAll hbB).other4 (by omega) _ _ _ _, ((bb24.drew.belowAll hbA).belowAll hbB).set4 (fun i => limb i B2), ((by24.drew.belowAll hbA).belowAll hbB).other4 (by omega) _ _ _ _⟩
         case rest =>
          clear br24 bo24 bx24 bb24 by24 bt24 hbw24 cb cy lb ly M3
          obtain ⟨hbw30, br30, bo30, bx30, bb30, by30⟩ := hcut
          obtain ⟨w30, rfl⟩ : ∃ w30, w30 = wc := ⟨_, rfl⟩
          have cy := by30.cell
          go_wp2_with fail
          refine (M2 _).mono ?_
          rintro e w31 ⟨rfl, hb31⟩
          have br31 := br30.belowAll hb31; have bo31 := bo30.belowAll hb31; have bx31 := bx30.belowAll hb31; have bb31 := bb30.belowAll hb31; have by31 := by30.belowAll hb31
          have hbw31 := bStep hbw30 hb31
          clear br30 bo30 bx30 bb30 by30 hbw30 hb31 cy 
          have ct := by31.cell; have ft := by31.frozen
          go_wp2
          go_roundw
          case measure => simp [intOf]; have := hivN.out; omega
          case rel =>
           exact ⟨k, X2, B2, zz, by rw [hivN.out], by omega, HI2, bSet4 hbw31 (by omega) _ _ _ _, br31.other4 (by omega) _ _ _ _, bo31.other4 (by omega) _ _ _ _, bx31.other4 (by omega) _ _ _ _, bb31.other4 (by omega) _ _ _ _, by31.set4 (fun i => limb i zz)⟩
  ·rw [show decide (pe = 1) = false from by simp [hp1]] at Q1
   have HN := (show Hid _ from hp1)
   clear hp1 HRS AD HV PL H2 X2 X3 E5
   go_wp2_with fail
   go_region_held3 (fun w' => (∀ i, i < 4 → w'.cell? ⟨w.heap.size, i, none⟩ = some (.int .u64 (limb i x))) ∧ (∀ i, i < 4 → w'.cell? ⟨N9, i, none⟩ = some (.int .u64 (limb i d))) ∧ (∀ i, i < 4 → w'.cell? ⟨N10, i, none⟩ = some (.int .u64 (limb i 1))))
    (first | with_reducible exact hold3 hbB (by with_reducible assumption) | with_reducible exact hold3 hbA (by with_reducible assumption) | with_reducible exact ⟨ba8.drew.cell, bl8.drew.cell, bo8.drew.cell⟩)
    (first | (go_at_call 78; with_reducible refine (H1 _).mono ?_; rintro e wA ⟨rfl, hbA⟩) | (go_at_call 77; with_reducible refine (X1 _).mono ?_; rintro e w9 ⟨rfl, hbB⟩) | fail)
   have ba9 := (ba8.drew.belowAll hbA).belowAll hbB; have br9 := (br8.drew.belowAll hbA).belowAll hbB; have bm9 := (bm8.drew.belowAll hbA).belowAll hbB; have bz9 := (bz8.drew.belowAll hbA).belowAll hbB; have bl9 := (bl8.drew.belowAll hbA).belowAll hbB; have bo9 := (bo8.drew.belowAll hbA).belowAll hbB
   have hbw9 := bStep (bStep hbw8.drew hbA) hbB
   clear ba8 br8 bm8 bz8 bl8 bo8 hbw8 hbA hbB H1 X1 Q1
   have cz := bz9.cell
   have cr := br9.cell; have fr := br9.frozen; have lr := br9.lt
   go_wp2
   refine bodyPost_ret (v := .tuple #[.agg #[.int .u64 0, .int .u64 0, .int .u64 0, .int .u64 0], .int .i64 22]) (by simp [results, Tryz.results42, go_sem, cr, limbz]) rfl ⟨Or.inr ⟨HX0.out, HN.out, rfl⟩, ?_⟩
   repeat (first | with_reducible exact hbw9 | with_reducible refine Below.setCell ?_ (by first | omega | (simp; omega) | simp) _)
end Go.Proofs.YtdeijnlbencfdaaGreatDoor
