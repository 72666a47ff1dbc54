/- Powers by squares and bits; word.Bit, field.bitLength. -/
import Derived.Test.YtaeembdabnomaaaGreatDoorF14
import Derived.Test.YtaeembdabnomaaaGreatDoorNumE
import Derived.Deep.CutBlock
import Derived.Deep.DeepCutAuto
import Derived.Laws.Bits64b
namespace Go.Proofs.YtaeembdabnomaaaGreatDoor
open Go.RowKit

/-- a to the power k by m. -/
def powM (m a k : Nat) : Nat := a ^ k % m
theorem powM_lt (m a k : Nat) (h : 0 < m) : powM m a k < m := Nat.mod_lt _ h
theorem powM_zero (m a : Nat) (h : 1 < m) : powM m a 0 = 1 := by unfold powM; rw [Nat.pow_zero, Nat.mod_eq_of_lt h]
theorem powM_two (m a k : Nat) : powM m a k * powM m a k % m = powM m a (2 * k) := by
  unfold powM; rw [← Nat.mul_mod, ← Nat.pow_add]; congr 2; omega
theorem powM_more (m a k : Nat) : powM m a k * a % m = powM m a (k + 1) := by
  unfold powM; rw [Nat.mod_mul_mod, Nat.pow_succ]
theorem powM_base (m a k : Nat) : powM m (a % m) k = powM m a k := by unfold powM; rw [← Nat.pow_mod]
theorem bit_halves (e k : Nat) : e / 2 ^ k = 2 * (e / 2 ^ (k + 1)) + bitN e k := by
  unfold bitN; rw [Nat.pow_succ, ← Nat.div_div_eq_div_mul]; omega
theorem bitN_01 (e k : Nat) : bitN e k = 0 ∨ bitN e k = 1 := by unfold bitN; omega
theorem powM_bit1 (m a e k : Nat) (h : bitN e k = 1) : powM m a (2 * (e / 2 ^ (k + 1))) * a % m = powM m a (e / 2 ^ k) := by
  rw [powM_more, bit_halves e k, h]
theorem powM_bit0 (m a e k : Nat) (h : bitN e k = 0) : powM m a (2 * (e / 2 ^ (k + 1))) = powM m a (e / 2 ^ k) := by
  have e1 := bit_halves e k
  rw [h, Nat.add_zero] at e1
  rw [e1]
theorem bit_limb (A k m : Nat) (hm : m < 64) : limb k A / 2 ^ m % 2 = bitN A (64 * k + m) := by
  have h := limb_test k A m
  rw [Nat.testBit_eq_decide_div_mod_eq, bitN_test] at h
  simp only [hm, decide_true, Bool.true_and, decide_eq_decide] at h
  have h1 := bitN_01 A (64 * k + m)
  omega
theorem bit_at (A i : Nat) : limb (i / 64) A / 2 ^ (i % 64) % 2 = bitN A i := by
  have h := bit_limb A (i / 64) (i % 64) (Nat.mod_lt _ (by decide))
  rw [show 64 * (i / 64) + i % 64 = i from by omega] at h
  exact h

set_option maxHeartbeats 1000000 in
theorem bit_walk (A q r b : Nat) (i : Int) (h0 : 0 ≤ i) (h1 : i < 256) (hq : i / 64 = (q : Int)) (hr : i % 64 = (r : Int)) (q4 : q < 4) (_r6 : r < 64) (hb : bits BinOp.and IntKind.u64 (((limb q A : Nat) : Int) / 2 ^ r) 1 = (b : Int)) (w : World) :
    Calls Tryz.prog 78 #[.agg #[.int .u64 ((limb 0 (A) : Nat) : Int), .int .u64 ((limb 1 (A) : Nat) : Int), .int .u64 ((limb 2 (A) : Nat) : Int), .int .u64 ((limb 3 (A) : Nat) : Int)], .int .i64 i] w fun e w' => e = .returned (.bool ((b : Int) == 1)) ∧ Below w.heap.size w w' := by
  have hn : ¬ i < 0 := by omega
  have hn2 : ¬ 256 ≤ i := by omega
  obtain ⟨x, ex⟩ : ∃ x : Int, x = ((limb q A : Nat) : Int) := ⟨_, rfl⟩
  rw [← ex] at hb
  go_enter Tryz.func78, Tryz.ntmps78
  go_upto_region 1 with fail
  obtain ⟨w0, hw0⟩ : ∃ w0 : World, w0 = w.alloc (.cells #[.int .u64 ((limb 0 (A) : Nat) : Int), .int .u64 ((limb 1 (A) : Nat) : Int), .int .u64 ((limb 2 (A) : Nat) : Int), .int .u64 ((limb 3 (A) : Nat) : Int)] 24) := ⟨_, rfl⟩
  have ba0 : Blk w0 24 w.heap.size (fun i => limb i A) := by rw [hw0]; exact Blk.newAt _ _ _ (fun i => limb i A) (by simp)
  have hb0 : Below w.heap.size w w0 := by rw [hw0]; exact (Below.refl _ _).alloc (Nat.le_refl _) _
  rw [← hw0]
  have ca := ba0.cell q q4
  rw [← ex] at ca
  clear hw0 ba0 ex
  go_wp2
  go_ret
  exact ⟨rfl, hb0⟩
theorem and_one (x r : Nat) (hx : x < 18446744073709551616) : bits BinOp.and IntKind.u64 ((x : Int) / 2 ^ r) 1 = ((x / 2 ^ r % 2 : Nat) : Int) := by
  have h1 : (x : Int) / 2 ^ r = ((x / 2 ^ r : Nat) : Int) := by simp
  have h2 : x / 2 ^ r < 18446744073709551616 := Nat.lt_of_le_of_lt (Nat.div_le_self _ _) hx
  have h := bits_and_u64_nat (x / 2 ^ r) 1 h2 (by decide)
  rw [h1]
  rw [Nat.and_one_is_mod] at h
  exact h
/-- word.Bit of a bit that there is. -/
theorem bit_any (A : Nat) (i : Int) (h0 : 0 ≤ i) (h1 : i < 256) (w : World) :
    Calls Tryz.prog 78 #[.agg #[.int .u64 ((limb 0 (A) : Nat) : Int), .int .u64 ((limb 1 (A) : Nat) : Int), .int .u64 ((limb 2 (A) : Nat) : Int), .int .u64 ((limb 3 (A) : Nat) : Int)], .int .i64 i] w fun e w' => e = .returned (.bool (decide (bitN A i.toNat = 1))) ∧ Below w.heap.size w w' := by
  obtain ⟨n, rfl⟩ := Int.eq_ofNat_of_zero_le h0
  have h := bit_walk A (n / 64) (n % 64) (limb (n / 64) A / 2 ^ (n % 64) % 2) n h0 h1 (by omega) (by omega) (by omega) (by omega) (and_one _ _ (limb_lt _ _)) w
  rw [bit_at A n] at h
  refine h.mono ?_
  rintro e w' ⟨rfl, hb⟩
  refine ⟨congrArg (fun b => Ending.returned (.bool b)) ?_, hb⟩
  rw [Int.toNat_natCast, Bool.eq_iff_iff]
  simp
  omega

end Go.Proofs.YtaeembdabnomaaaGreatDoor
