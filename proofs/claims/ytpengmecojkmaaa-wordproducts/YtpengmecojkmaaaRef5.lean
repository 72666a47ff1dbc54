/- What the reference's Less does. -/
import Derived.Test.YtpengmecojkmaaaRef3
import Derived.Test.YtpengmecojkmaaaStep
namespace Go.Proofs.Ytpengmecojkmaaa
open Go.RowKit

theorem div_bit (A j : Nat) : A / 2 ^ j = 2 * (A / 2 ^ (j + 1)) + bitN A j := by
  unfold bitN
  rw [Nat.pow_succ, ← Nat.div_div_eq_div_mul]; omega
theorem high_step (A B j : Nat) (h : A / 2 ^ (j + 1) = B / 2 ^ (j + 1)) (hb : bitN A j = bitN B j) : A / 2 ^ j = B / 2 ^ j := by
  rw [div_bit A, div_bit B, h, hb]
theorem lt_of_div (A B p : Nat) (h : A / p < B / p) : A < B := by
  rcases Nat.lt_or_ge A B with h1 | h1
  · exact h1
  · have := Nat.div_le_div_right (c := p) h1; omega
theorem high_less (A B j : Nat) (h : A / 2 ^ (j + 1) = B / 2 ^ (j + 1)) (hb : ¬ bitN A j = bitN B j) : decide (((bitN A j : Nat) : Int) < ((bitN B j : Nat) : Int)) = below256 A B := by
  have ha := div_bit A j
  have hb' := div_bit B j
  rw [h] at ha
  unfold below256
  rw [Bool.eq_iff_iff]
  simp only [decide_eq_true_eq]
  constructor
  · intro hl; exact lt_of_div A B (2 ^ j) (by omega)
  · intro hl
    rcases Nat.lt_or_ge (bitN B j) (bitN A j) with h1 | h1
    · have := lt_of_div B A (2 ^ j) (by omega); omega
    · omega
theorem high_end (A B : Nat) (h : A / 2 ^ 0 = B / 2 ^ 0) : below256 A B = false := by
  simp at h; subst h; simp [below256]

set_option maxHeartbeats 4000000 in
set_option maxRecDepth 20000 in
/-- The reference's Less. -/
theorem refLess_any (A B : Nat) (hA : A < 115792089237316195423570985008687907853269984665640564039457584007913129639936) (hB : B < 115792089237316195423570985008687907853269984665640564039457584007913129639936) (w : World) :
    Calls Try.prog 16 #[.agg #[.int .u64 ((limb 0 (A) : Nat) : Int), .int .u64 ((limb 1 (A) : Nat) : Int), .int .u64 ((limb 2 (A) : Nat) : Int), .int .u64 ((limb 3 (A) : Nat) : Int)], .agg #[.int .u64 ((limb 0 (B) : Nat) : Int), .int .u64 ((limb 1 (B) : Nat) : Int), .int .u64 ((limb 2 (B) : Nat) : Int), .int .u64 ((limb 3 (B) : Nat) : Int)]] w fun e w' => e = .returned (.bool (below256 A B)) ∧ Below w.heap.size w w' := by
  go_enter Try.func16, Try.ntmps16
  go_wp2_with fail
  obtain ⟨w0, hw0⟩ : ∃ w0 : World, w0 = (w.alloc (.cells #[.int .u64 ((limb 0 (A) : Nat) : Int), .int .u64 ((limb 1 (A) : Nat) : Int), .int .u64 ((limb 2 (A) : Nat) : Int), .int .u64 ((limb 3 (A) : Nat) : Int)] 24)).alloc (.cells #[.int .u64 ((limb 0 (B) : Nat) : Int), .int .u64 ((limb 1 (B) : Nat) : Int), .int .u64 ((limb 2 (B) : Nat) : Int), .int .u64 ((limb 3 (B) : Nat) : Int)] 24) := ⟨_, rfl⟩
  have bb : Blk w0 24 (w.heap.size + 1) (fun i => limb i B) := by rw [hw0]; exact Blk.newAt _ _ _ (fun i => limb i B) (by simp)
  have hb0 : Below w.heap.size w w0 := by
    rw [hw0]
    repeat (first | with_reducible exact Below.refl _ _ | with_reducible refine Below.alloc ?_ (by first | omega | (simp; omega) | simp) _)
  rw [← hw0]
  clear hw0
  refine (bits_any A _).mono ?_
  rintro e w1 ⟨ga, ca, rfl, hca, hga0, hga, hcA, hb1⟩
  have bb1 := bb.belowAll hb1
  have hbw1 := bStep hb0 hb1
  have HA := (show Hid _ from hcA)
  clear bb hb0 hb1 hcA
  have cb1 := bb1.cell
  go_wp2_with fail
  refine (bits_any B _).mono ?_
  rintro e w2 ⟨gb, cb, rfl, hcb, hgb0, hgb, hcB, hb2⟩
  have hbw2 := bStep hbw1 hb2
  have hga2 : ga < w2.heap.size := Nat.lt_of_lt_of_le hga hb2.size
  have hcA2 : ∀ i, i < 256 → w2.cell? ⟨ga, i, none⟩ = some (.int .i64 ((bitN A i : Nat) : Int)) := fun i hi => by rw [hb2.cell (p := ⟨ga, i, none⟩) hga]; exact HA.out i hi
  have HA2 := (show Hid _ from hcA2); have HB2 := (show Hid _ from hcB)
  clear bb1 hbw1 hb2 HA hcA2 hcB cb1 hga hga0 hgb0 hca hcb
  go_wp2
  go_loopw [7] (fun i wr => ∃ k : Nat, i = .int .i64 ((k : Int) - 1) ∧ k ≤ 256 ∧ A / 2 ^ k = B / 2 ^ k ∧ Below w2.heap.size w2 wr) (fun i _ => (intOf i + 1).toNat)
  case atStart =>
    refine ⟨256, rfl, by decide, ?_, Below.refl _ _⟩
    rw [show (2 : Nat) ^ 256 = 115792089237316195423570985008687907853269984665640564039457584007913129639936 from by decide, Nat.div_eq_of_lt hA, Nat.div_eq_of_lt hB]
  case round =>
    obtain ⟨k, rfl, hk, heq, hbr⟩ := hrel
    by_cases hk0 : k = 0
    · subst hk0
      have he := high_end A B heq
      have HE := (show Hid _ from he)
      have hbw3 := bStep hbw2 hbr
      clear heq he HA2 HB2
      go_wp2
      go_ret
      exact ⟨by rw [HE.out]; rfl, hbw3⟩
    · obtain ⟨m, rfl⟩ : ∃ m, k = m + 1 := ⟨k - 1, by omega⟩
      have e1 : ((m + 1 : Nat) : Int) - 1 = (m : Int) := by omega
      rw [e1]
      have hm0 : (0 : Int) ≤ (m : Int) := by omega
      have hmn : (m : Int) < 256 := by omega
      have cA : wr.cell? ⟨ga, m, none⟩ = some (.int .i64 ((bitN A m : Nat) : Int)) := by rw [hbr.cell (p := ⟨ga, m, none⟩) hga2]; exact HA2.out m (by omega)
      have cB : wr.cell? ⟨gb, m, none⟩ = some (.int .i64 ((bitN B m : Nat) : Int)) := by rw [hbr.cell (p := ⟨gb, m, none⟩) hgb]; exact HB2.out m (by omega)
      clear e1
      by_cases hbit : bitN A m = bitN B m
      · have hs := high_step A B m heq hbit
        rw [hbit] at cA
        have HS := (show Hid _ from hs)
        clear hs heq hbit
        go_wp2_with fail
        go_quiet (fail)
        go_wp2
        go_roundw
        case measure => simp [intOf]
        case rel =>
          refine ⟨m, rfl, by omega, HS.out, ?_⟩
          exact below_drewN hbr _
      · have hs := high_less A B m heq hbit
        obtain ⟨a, ea⟩ : ∃ a : Int, a = ((bitN A m : Nat) : Int) := ⟨_, rfl⟩
        obtain ⟨b, eb⟩ : ∃ b : Int, b = ((bitN B m : Nat) : Int) := ⟨_, rfl⟩
        rw [← ea] at cA hs
        rw [← eb] at cB hs
        have hab : ¬ a = b := by omega
        have hab' : (a != b) = true := by simpa using hab
        have HS := (show Hid _ from hs)
        clear hs heq hbit ea eb hab
        go_wp2_with fail
        go_quiet (fail)
        go_wp2_with fail
        go_quiet (fail)
        go_wp2
        have hbw3 := bStep hbw2 hbr
        refine bodyPost_ret (v := .bool (decide (a < b))) (by simp [results, Try.results16, go_sem]) rfl ⟨by rw [HS.out], ?_⟩
        exact below_drewN (below_drewN hbw3 _) _

end Go.Proofs.Ytpengmecojkmaaa
