/- What the reference's Elem does: the number whose bits a slice holds. -/
import Derived.Test.YtpengmecojkmaaaRef1
namespace Go.Proofs.Ytpengmecojkmaaa
open Go.RowKit

theorem or_bit (a r : Nat) (ha : a < 18446744073709551616) (hr : r < 64) : bits BinOp.or IntKind.u64 ((a : Nat) : Int) (IntKind.u64.wrap (2 ^ r)) = ((a ||| 2 ^ r : Nat) : Int) := by
  have hp : 2 ^ r < 18446744073709551616 := Nat.pow_lt_pow_right (by decide) hr
  rw [show ((2 : Int) ^ r) = ((2 ^ r : Nat) : Int) from by simp, wrap_nat _ hp, bits_or_u64_nat _ _ ha hp]

set_option maxHeartbeats 2000000 in
/-- The reference's Elem of a slice whose first 256 ints are the bits of N. -/
theorem elem_any (N g off n c : Nat) (hN : N < 115792089237316195423570985008687907853269984665640564039457584007913129639936) (hn : 256 ≤ n) (hnm : n ≤ 1000000) (w : World) (hg : g < w.heap.size)
    (hc : ∀ i, i < 256 → w.cell? ⟨g, off + i, none⟩ = some (.int .i64 ((bitN N i : Nat) : Int))) :
    Calls Try.prog 33 #[.slice (some ⟨g, off, none⟩) n c] w fun e w' => e = .returned (.agg #[.int .u64 ((limb 0 (N) : Nat) : Int), .int .u64 ((limb 1 (N) : Nat) : Int), .int .u64 ((limb 2 (N) : Nat) : Int), .int .u64 ((limb 3 (N) : Nat) : Int)]) ∧ Below w.heap.size w w' := by
  have HC := (show Hid _ from hc); clear hc
  go_enter Try.func33, Try.ntmps33
  go_wp2
  go_loopw [4] (fun i wr => ∃ k : Nat, i = .int .i64 ((k : Int) - 1) ∧ k ≤ 256 ∧ Below w.heap.size w wr ∧ Blk wr 24 w.heap.size (fun _ => 0) ∧ Blk wr 24 (w.heap.size + 1) (fun j => limb j (hiPart N k))) (fun i _ => (intOf i + 1).toNat)
  case atStart =>
    refine ⟨256, rfl, by decide, ?_, (Blk.newAt _ _ _ (fun _ => 0) rfl).alloc _, ?_⟩
    · repeat (first | with_reducible exact Below.refl _ _ | with_reducible refine Below.alloc ?_ (by first | omega | (simp; omega) | simp) _)
    · rw [hiPart_top N hN]
      exact (Blk.newAt _ _ _ (fun _ => 0) (by simp)).congr (fun i _ => limb_zero i)
  case round =>
    obtain ⟨k, rfl, hk, hbr, b0, bO⟩ := hrel
    by_cases hk0 : k = 0
    · subst hk0
      rw [hiPart_zero] at bO
      have c0 := b0.cell; have f0 := b0.frozen; have cO := bO.cell
      go_wp2
      refine bodyPost_ret (v := .agg #[.int .u64 ((limb 0 (N) : Nat) : Int), .int .u64 ((limb 1 (N) : Nat) : Int), .int .u64 ((limb 2 (N) : Nat) : Int), .int .u64 ((limb 3 (N) : Nat) : Int)]) (by simp [results, Try.results33, go_sem, c0]) rfl ⟨rfl, ?_⟩
      repeat (first | with_reducible exact hbr | with_reducible refine Below.setCell ?_ (by first | omega | (simp; omega) | simp) _)
    · obtain ⟨m, rfl⟩ : ∃ m, k = m + 1 := ⟨k - 1, by omega⟩
      have e1 : ((m + 1 : Nat) : Int) - 1 = (m : Int) := by omega
      rw [e1]
      have hm0 : (0 : Int) ≤ (m : Int) := by omega
      have hmn : (m : Int) < (n : Int) := by omega
      have hd : w.cell? ⟨g, off + m, none⟩ = some (.int .i64 ((bitN N m : Nat) : Int)) := HC.out m (by omega)
      have cB : wr.cell? ⟨g, off + m, none⟩ = some (.int .i64 ((bitN N m : Nat) : Int)) := by rw [hbr.cell (p := ⟨g, off + m, none⟩) hg]; exact hd
      clear hd e1
      by_cases hbit : bitN N m = 1
      · rw [hbit] at cB
        have hq4 : m / 64 < 4 := by omega
        have cO := bO.cell (m / 64) hq4; have fO := bO.frozen
        have wOr := or_bit (limb (m / 64) (hiPart N (m + 1))) (m % 64) (limb_lt _ _) (Nat.mod_lt _ (by decide))
        have hon := fun j => hiPart_on N m j hbit
        have HO := (show Hid _ from hon); clear hon hbit
        go_wp2
        go_roundw
        case measure => simp [intOf]
        case rel =>
          refine ⟨m, rfl, by omega, hbr.setCell (by dsimp only; omega) _, b0.other (by dsimp only; omega) _, (bO.set (m / 64) hq4 _).congr ?_⟩
          intro j _
          rw [HO.out j]
          by_cases hj : j = m / 64
          · rw [if_pos hj, if_pos hj, hj]
          · rw [if_neg hj, if_neg hj]
      · have hb0 : (((bitN N m : Nat) : Int) == 1) = false := by rw [beq_eq_false_iff_ne]; omega
        have ho := hiPart_off N m hbit
        clear hbit
        rw [← ho] at bO
        clear ho
        go_wp2
        go_roundw
        case measure => simp [intOf]
        case rel => exact ⟨m, rfl, by omega, hbr, b0, bO⟩
end Go.Proofs.Ytpengmecojkmaaa
