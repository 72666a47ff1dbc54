/- What math/bits.Len64 answers: how many bits a word has. -/
import Derived.Test.YtfbfenljfdnggaaGreatDoorProg
import Derived.Lib.Strings
import Derived.Lib.Slices
import Derived.Lib.Small
import Derived.Lib.Walk
import Derived.Lib.BitFns
namespace Go.Proofs.YtfbfenljfdnggaaGreatDoor
open Go.Lib
theorem len8_at (x : Int) (n p : Nat) (b : Int) (hpn : p = 2 ^ n) (h0 : 0 ≤ x) (h1 : x ≤ 18446744073709551615) (hb : b = x / (p : Int)) (hs : b ≤ 255) (hp : n = 0 ∨ (p : Int) ≤ x) :
    Lib.len8 b = ((Lib.bitLen x.toNat : Nat) : Int) - n ∧ Lib.bitLen x.toNat ≤ 64 := by
  obtain ⟨X, rfl⟩ := Int.eq_ofNat_of_zero_le h0
  have e : ((X : Int) / (p : Int)) = ((X / p : Nat) : Int) := by simp
  rw [e] at hb
  have hlt : X < 2 ^ 64 := by omega
  have hb0 : 0 ≤ b := by rw [hb]; exact Int.natCast_nonneg _
  rw [Lib.len8_of b hb0 hs, hb]
  simp only [Int.toNat_natCast]
  refine ⟨?_, Lib.bitLen_le X 64 (by decide) hlt⟩
  rcases hp with rfl | hp
  · simp [hpn]
  · have := Lib.bitLen_shift n X (by omega) hlt
    rw [hpn]
    omega
set_option maxHeartbeats 4000000 in
set_option maxRecDepth 100000 in
theorem len64_int (x : Int) (h0 : 0 ≤ x) (h1 : x ≤ 18446744073709551615) (w : World) :
    Calls Tryz.prog 182 #[.int .u64 x] w fun e w' => e = .returned (.int .i64 ((Lib.bitLen x.toNat : Nat) : Int)) ∧ w' = w := by
  go_enter Tryz.func182, Tryz.ntmps182
  go_wp2
  all_goals (go_ret; refine ⟨congrArg Ending.returned (congrArg (Value.int IntKind.i64) ?_), rfl⟩)
  all_goals first
    | (have l := len8_at x 56 72057594037927936 (x / 4294967296 / 65536 / 256 % 256) (by decide) h0 h1 (by omega) (by omega) (Or.inr (by omega)); omega)
    | (have l := len8_at x 48 281474976710656 (x / 4294967296 / 65536 % 256) (by decide) h0 h1 (by omega) (by omega) (Or.inr (by omega)); omega)
    | (have l := len8_at x 40 1099511627776 (x / 4294967296 / 256 % 256) (by decide) h0 h1 (by omega) (by omega) (Or.inr (by omega)); omega)
    | (have l := len8_at x 32 4294967296 (x / 4294967296 % 256) (by decide) h0 h1 (by omega) (by omega) (Or.inr (by omega)); omega)
    | (have l := len8_at x 24 16777216 (x / 65536 / 256 % 256) (by decide) h0 h1 (by omega) (by omega) (Or.inr (by omega)); omega)
    | (have l := len8_at x 16 65536 (x / 65536 % 256) (by decide) h0 h1 (by omega) (by omega) (Or.inr (by omega)); omega)
    | (have l := len8_at x 8 256 (x / 256 % 256) (by decide) h0 h1 (by omega) (by omega) (Or.inr (by omega)); omega)
    | (have l := len8_at x 0 1 (x % 256) (by decide) h0 h1 (by omega) (by omega) (Or.inl rfl); omega)
end Go.Proofs.YtfbfenljfdnggaaGreatDoor
