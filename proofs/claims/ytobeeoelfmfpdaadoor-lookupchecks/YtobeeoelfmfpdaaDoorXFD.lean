/- What field.Inv and Neg do. -/
import Derived.Test.YtobeeoelfmfpdaaDoorXFC
import Derived.Deep.RegionWith
import Derived.BigRegion
import Derived.Test.YtobeeoelfmfpdaaDoorXBE
import Derived.Test.YtobeeoelfmfpdaaDoorXBN
import Derived.Deep.CutBlock
import Derived.Deep.DeepCutAuto
import Derived.Laws.Bits64b
namespace Go.Proofs.YtobeeoelfmfpdaaDoor
open Go.RowKit
end Go.Proofs.YtobeeoelfmfpdaaDoor
/- The laws of a field, as plain arithmetic; the statements' own first look (alive) of layer 2. -/
namespace Go.Proofs.YtobeeoelfmfpdaaDoor
open Go.RowKit
theorem word_agg (n : Nat) (hn : n < 18446744073709551616) : (.agg #[.int .u64 ((limb 0 (n) : Nat) : Int), .int .u64 ((limb 1 (n) : Nat) : Int), .int .u64 ((limb 2 (n) : Nat) : Int), .int .u64 ((limb 3 (n) : Nat) : Int)] : Value) = .agg #[.int .u64 (n : Int), .int .u64 0, .int .u64 0, .int .u64 0] := by
  rw [limb_small n 0 hn, limb_small n 1 hn, limb_small n 2 hn, limb_small n 3 hn, if_pos rfl, if_neg (by decide), if_neg (by decide), if_neg (by decide)]
  rfl
end Go.Proofs.YtobeeoelfmfpdaaDoor
/- FieldLaws: the walk: for every sort, a, b and c the call returns true, where the package's variables read as the text lays them. -/
namespace Go.Proofs.YtobeeoelfmfpdaaDoor
open Go.RowKit
theorem fAdd_zero (s b : Nat) (hs : s < 4) (hb : b < 115792089237316195423570985008687907853269984665640564039457584007913129639936) (w : World) (hg : Glob w) :
    Calls Tryd.prog 25 #[.int .i64 (s : Int), .agg #[.int .u64 ((limb 0 (b) : Nat) : Int), .int .u64 ((limb 1 (b) : Nat) : Int), .int .u64 ((limb 2 (b) : Nat) : Int), .int .u64 ((limb 3 (b) : Nat) : Int)], .agg #[.int .u64 0, .int .u64 0, .int .u64 0, .int .u64 0]] w fun e w' => e = .returned (.agg #[.int .u64 ((limb 0 (addP s b 0) : Nat) : Int), .int .u64 ((limb 1 (addP s b 0) : Nat) : Int), .int .u64 ((limb 2 (addP s b 0) : Nat) : Int), .int .u64 ((limb 3 (addP s b 0) : Nat) : Int)]) ∧ Below w.heap.size w w' := by
  have h := fAdd_any s b 0 hs hb (by decide) w hg
  rw [limbz, limbz, limbz, limbz] at h
  exact h
theorem Glob.drew {w : World} (h : Glob w) : Glob w.drew := h
end Go.Proofs.YtobeeoelfmfpdaaDoor
/- Powers by squares and bits; word.Bit, field.bitLength. -/
namespace Go.Proofs.YtobeeoelfmfpdaaDoor
open Go.RowKit
theorem bit_halves (e k : Nat) : e / 2 ^ k = 2 * (e / 2 ^ (k + 1)) + bitN e k := by
  unfold bitN; rw [Nat.pow_succ, ← Nat.div_div_eq_div_mul]; omega
theorem bitN_01 (e k : Nat) : bitN e k = 0 ∨ bitN e k = 1 := by unfold bitN; omega
theorem bit_limb (A k m : Nat) (hm : m < 64) : limb k A / 2 ^ m % 2 = bitN A (64 * k + m) := by
  have h := limb_test k A m
  rw [Nat.testBit_eq_decide_div_mod_eq, bitN_test] at h
  simp only [hm, decide_true, Bool.true_and, decide_eq_decide] at h
  have h1 := bitN_01 A (64 * k + m)
  omega
theorem bit_at (A i : Nat) : limb (i / 64) A / 2 ^ (i % 64) % 2 = bitN A i := by
  have h := bit_limb A (i / 64) (i % 64) (Nat.mod_lt _ (by decide))
  rw [show 64 * (i / 64) + i % 64 = i from by omega] at h
  exact h
theorem and_one (x r : Nat) (hx : x < 18446744073709551616) : bits BinOp.and IntKind.u64 ((x : Int) / 2 ^ r) 1 = ((x / 2 ^ r % 2 : Nat) : Int) := by
  have h1 : (x : Int) / 2 ^ r = ((x / 2 ^ r : Nat) : Int) := by simp
  have h2 : x / 2 ^ r < 18446744073709551616 := Nat.lt_of_le_of_lt (Nat.div_le_self _ _) hx
  have h := bits_and_u64_nat (x / 2 ^ r) 1 h2 (by decide)
  rw [h1]
  rw [Nat.and_one_is_mod] at h
  exact h
end Go.Proofs.YtobeeoelfmfpdaaDoor
/- What field.bitLength and field.power do. -/
namespace Go.Proofs.YtobeeoelfmfpdaaDoor
open Go.RowKit
end Go.Proofs.YtobeeoelfmfpdaaDoor
/- What field.power and field.Exp do. -/
namespace Go.Proofs.YtobeeoelfmfpdaaDoor
open Go.RowKit
end Go.Proofs.YtobeeoelfmfpdaaDoor
