/- What the reference's twice does. -/
import Derived.Test.YtpengmecojkmaaaRef6
namespace Go.Proofs.Ytpengmecojkmaaa
open Go.RowKit

def topBit (A k : Nat) : Nat := if k = 0 then 0 else limb (k - 1) A / 2 ^ 63
theorem topBit_lt (A k : Nat) : topBit A k ≤ 1 := by
  unfold topBit; split
  · omega
  · have := limb_lt (k - 1) A; omega
theorem twice_word (A k : Nat) : (limb k A * 2 ^ 1 % 18446744073709551616) ||| topBit A k = limb k (A * 2 ^ 1) := by
  rw [limb_shift A 1 k (by decide)]
  unfold shW topBit
  rfl
theorem twice_over (A : Nat) (hA : A < 115792089237316195423570985008687907853269984665640564039457584007913129639936) : topBit A 4 = (if 115792089237316195423570985008687907853269984665640564039457584007913129639936 ≤ 2 * A then 1 else 0) := by
  have h := limbs_sum A hA
  have l0 := limb_lt 0 A; have l1 := limb_lt 1 A; have l2 := limb_lt 2 A; have l3 := limb_lt 3 A
  show limb 3 A / 2 ^ 63 = _
  split <;> omega
theorem or_bitN (a b : Nat) (hb : b ≤ 1) : bits BinOp.or IntKind.u64 (((a % 18446744073709551616 : Nat)) : Int) (b : Int) = (((a % 18446744073709551616) ||| b : Nat) : Int) :=
  bits_or_u64_nat _ _ (Nat.mod_lt _ (by decide)) (by omega)
def dbl256 (A : Nat) : Nat := 2 * A % 115792089237316195423570985008687907853269984665640564039457584007913129639936

set_option maxHeartbeats 4000000 in
set_option maxRecDepth 20000 in
/-- The reference's twice. -/
theorem refTwice_any (A : Nat) (hA : A < 115792089237316195423570985008687907853269984665640564039457584007913129639936) (w : World) :
    Calls Try.prog 41 #[.agg #[.int .u64 ((limb 0 (A) : Nat) : Int), .int .u64 ((limb 1 (A) : Nat) : Int), .int .u64 ((limb 2 (A) : Nat) : Int), .int .u64 ((limb 3 (A) : Nat) : Int)]] w fun e w' => e = .returned (.tuple #[.agg #[.int .u64 ((limb 0 (dbl256 A) : Nat) : Int), .int .u64 ((limb 1 (dbl256 A) : Nat) : Int), .int .u64 ((limb 2 (dbl256 A) : Nat) : Int), .int .u64 ((limb 3 (dbl256 A) : Nat) : Int)], .bool (decide (115792089237316195423570985008687907853269984665640564039457584007913129639936 ≤ 2 * A))]) ∧ Below w.heap.size w w' := by
  obtain ⟨S, hS⟩ : ∃ S, S = A * 2 ^ 1 := ⟨_, rfl⟩
  have HS := (show Hid _ from hS); clear hS
  go_enter Try.func41, Try.ntmps41
  go_wp2
  go_loopw [5, 6] (fun c i wr => ∃ k : Nat, i = .int .i64 (k : Int) ∧ k ≤ 4 ∧ c = .int .u64 ((topBit A k : Nat) : Int) ∧ Below w.heap.size w wr ∧ Blk wr 24 w.heap.size (fun i => limb i A) ∧ Blk wr 24 (w.heap.size + 1) (fun _ => 0) ∧ Blk wr 24 (w.heap.size + 1 + 1) (upTo S k)) (fun _ i _ => 4 - (intOf i).toNat)
  case atStart =>
    refine ⟨0, rfl, by decide, rfl, ?_, ((Blk.newAt _ _ _ (fun i => limb i A) rfl).alloc _).alloc _, (Blk.newAt _ _ _ (fun _ => 0) (by simp)).alloc _, (Blk.newAt _ _ _ (fun _ => 0) (by simp)).congr (fun i _ => rfl)⟩
    repeat (first | with_reducible exact Below.refl _ _ | with_reducible refine Below.alloc ?_ (by first | omega | (simp; omega) | simp) _)
  case round =>
    obtain ⟨k, rfl, hk, rfl, hbr, bA, b0, bO⟩ := hrel
    by_cases hlt : k < 4
    · have hki : (k : Int) < 4 := by omega
      have cA := bA.cell k hlt
      have fO := bO.frozen
      have cO := bO.cell k hlt
      have hw := twice_word A k
      rw [← HS.out] at hw
      have w1 : IntKind.u64.wrap (((limb k A : Nat) : Int) * 2) = ((limb k A * 2 ^ 1 % 18446744073709551616 : Nat) : Int) := wrap_shl (limb k A) 1
      have w2 := or_bitN (limb k A * 2 ^ 1) (topBit A k) (topBit_lt A k)
      rw [hw] at w2
      have hn : topBit A (k + 1) = limb k A / 2 ^ 63 := rfl
      obtain ⟨a, ea⟩ : ∃ a, a = limb k A := ⟨_, rfl⟩
      rw [← ea] at cA w1 w2 hn
      obtain ⟨x, ex⟩ : ∃ x, x = a * 2 ^ 1 % 18446744073709551616 := ⟨_, rfl⟩
      rw [← ex] at w1 w2
      obtain ⟨c, ec⟩ : ∃ c, c = topBit A k := ⟨_, rfl⟩
      rw [← ec] at w2 ⊢
      have HN := (show Hid _ from hn)
      clear hw ea ex ec hn
      go_wp2
      go_roundw
      case measure => simp [intOf]; omega
      case rel =>
        refine ⟨k + 1, by go_num, by omega, ?_, hbr.setCell (by dsimp only; omega) _, bA.other (by dsimp only; omega) _, b0.other (by dsimp only; omega) _, (bO.set k hlt (limb k S)).congr ?_⟩
        · rw [HN.out]; simp
        · intro j _; rw [upTo_step]
    · have hki : ¬ (k : Int) < 4 := by omega
      have hk4 : k = 4 := by omega
      subst hk4
      have c0 := b0.cell; have f0 := b0.frozen
      have bF := bO.congr (g := fun i => limb i (dbl256 A)) (fun i hi => by
        unfold upTo dbl256; rw [if_pos hi, ← limb_mod _ i hi, HS.out, Nat.pow_one, Nat.mul_comm])
      have cF := bF.cell
      have ho := twice_over A hA
      obtain ⟨c, ec⟩ : ∃ c, c = topBit A 4 := ⟨_, rfl⟩
      rw [← ec] at ho ⊢
      have hd : (((c : Nat) : Int) == 1) = decide (115792089237316195423570985008687907853269984665640564039457584007913129639936 ≤ 2 * A) := by
        rw [ho]; split
        · rename_i h; simp [h]
        · rename_i h; simp [h]
      have HD := (show Hid _ from hd)
      clear ho hd ec
      go_wp2
      refine bodyPost_ret (v := .tuple #[.agg #[.int .u64 ((limb 0 (dbl256 A) : Nat) : Int), .int .u64 ((limb 1 (dbl256 A) : Nat) : Int), .int .u64 ((limb 2 (dbl256 A) : Nat) : Int), .int .u64 ((limb 3 (dbl256 A) : Nat) : Int)], .bool ((c : Int) == 1)]) (by simp [results, Try.results41, go_sem, c0]) rfl ⟨by rw [HD.out], ?_⟩
      repeat (first | with_reducible exact hbr | with_reducible refine Below.setCell ?_ (by first | omega | (simp; omega) | simp) _)

end Go.Proofs.Ytpengmecojkmaaa
