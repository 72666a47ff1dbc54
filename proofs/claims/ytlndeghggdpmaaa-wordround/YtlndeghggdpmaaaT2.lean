/- What word.divWord does. -/
import Derived.Test.YtlndeghggdpmaaaT1
import Derived.Test.YtlndeghggdpmaaaCore4
import Derived.Test.YtlndeghggdpmaaaStep
namespace Go.Proofs.Ytlndeghggdpmaaa
open Go.RowKit

set_option maxHeartbeats 4000000 in
set_option maxRecDepth 20000 in
theorem divWord_any (A b : Nat) (hb : 0 < b) (hq : b < 18446744073709551616) (hA : A < 115792089237316195423570985008687907853269984665640564039457584007913129639936) (w : World) :
    Calls Try.prog 52 #[.agg #[.int .u64 ((limb 0 (A) : Nat) : Int), .int .u64 ((limb 1 (A) : Nat) : Int), .int .u64 ((limb 2 (A) : Nat) : Int), .int .u64 ((limb 3 (A) : Nat) : Int)], .int .u64 (b : Int)] w fun e w' => e = .returned (.tuple #[.agg #[.int .u64 ((limb 0 (A / b) : Nat) : Int), .int .u64 ((limb 1 (A / b) : Nat) : Int), .int .u64 ((limb 2 (A / b) : Nat) : Int), .int .u64 ((limb 3 (A / b) : Nat) : Int)], .int .u64 ((A % b : Nat) : Int)]) ∧ Below w.heap.size w w' := by
  have D := fun k w => div64_any (A / 18446744073709551616 ^ (k + 1) % b) (limb k A) b (Nat.mod_lt _ hb) hq (limb_lt _ _) w
  have e1 : ∀ k, divQ (A / 18446744073709551616 ^ (k + 1) % b) (limb k A) b = limb k (A / b) := fun k => (quo_step A b k hb).1
  have e2 : ∀ k, divR (A / 18446744073709551616 ^ (k + 1) % b) (limb k A) b = A / 18446744073709551616 ^ k % b := fun k => (quo_step A b k hb).2
  have h4 : A / 18446744073709551616 ^ 4 % b = 0 := by
    have e4 : (18446744073709551616 : Nat) ^ 4 = 115792089237316195423570985008687907853269984665640564039457584007913129639936 := by decide
    rw [e4, Nat.div_eq_of_lt hA, Nat.zero_mod]
  have h0 : A / 18446744073709551616 ^ 0 % b = A % b := by rw [Nat.pow_zero, Nat.div_one]
  obtain ⟨rm, erm⟩ : ∃ rm : Nat → Nat, ∀ k, A / 18446744073709551616 ^ k % b = rm k := ⟨_, fun _ => rfl⟩
  obtain ⟨qq, eqq⟩ : ∃ qq, qq = A / b := ⟨_, rfl⟩
  simp only [e1, e2] at D
  simp only [erm] at D
  rw [← eqq] at D ⊢
  rw [erm] at h4 h0
  rw [← h0]
  clear e1 e2 erm eqq h0 hq hb hA
  have HD : Hid (∀ (k : Nat) (w : World), _) := D
  have H4 := (show Hid _ from h4)
  clear D h4
  go_enter Try.func52, Try.ntmps52
  go_wp2
  go_loopw [7, 10] (fun rv iv wr => ∃ k : Nat, k ≤ 4 ∧ iv = .int .i64 (4 - (k : Int)) ∧ rv = .int .u64 ((rm k : Nat) : Int) ∧ Below w.heap.size w wr ∧ Blk wr 24 w.heap.size (fun i => limb i A) ∧ Blk wr 24 (w.heap.size + 1) (fun _ => 0) ∧ Blk wr 24 (w.heap.size + 1 + 1) (fun i => if k ≤ i then limb i qq else 0)) (fun _ iv _ => 4 - (intOf iv).toNat)
  case atStart =>
    refine ⟨4, by decide, rfl, by rw [H4.out]; rfl, ?_, ((Blk.newAt _ _ _ (fun i => limb i A) rfl).alloc _).alloc _, (Blk.newAt _ _ _ (fun _ => 0) (by simp)).alloc _, (Blk.newAt _ _ _ (fun _ => 0) (by simp)).congr (fun i hi => by rw [if_neg (by omega)])⟩
    repeat (first | with_reducible exact Below.refl _ _ | with_reducible refine Below.alloc ?_ (by first | omega | (simp; omega) | simp) _)
  case round =>
    obtain ⟨k, hk, rfl, rfl, hbr, bA, bR, bQ⟩ := hrel
    by_cases hlt : 0 < k
    · obtain ⟨m, rfl⟩ : ∃ m, k = m + 1 := ⟨k - 1, by omega⟩
      obtain ⟨iv, eiv⟩ : ∃ iv : Int, iv = 4 - ((m + 1 : Nat) : Int) := ⟨_, rfl⟩
      rw [← eiv]
      have g0 : 0 ≤ iv := by omega
      have g1 : iv < 4 := by omega
      have g2 : 3 - iv = (m : Int) := by omega
      have gm : m < 4 := by omega
      have HIV := (show Hid _ from eiv)
      clear eiv
      have cA := bA.cell m gm
      obtain ⟨x, ex⟩ : ∃ x : Int, x = ((limb m A : Nat) : Int) := ⟨_, rfl⟩
      have HDm := HD.out m
      rw [← ex] at cA HDm
      clear ex
      go_wp2_with fail
      refine (HDm _).mono ?_
      rintro e w1 ⟨rfl, hb1⟩
      have bA1 := bA.belowAll hb1; have bR1 := bR.belowAll hb1; have bQ1 := bQ.belowAll hb1
      have hbw1 := bStep hbr hb1
      have cQ := bQ1.cell m gm; have fQ := bQ1.frozen
      clear bA bR bQ hbr hb1 cA HDm
      go_wp2
      go_roundw
      case measure => rw [HIV.out]; simp [intOf]; omega
      case rel =>
        refine ⟨m, by omega, by rw [HIV.out]; congr 1; omega, rfl, hbw1.setCell (by dsimp only; omega) _, bA1.other (by dsimp only; omega) _, bR1.other (by dsimp only; omega) _, (bQ1.set m gm (limb m qq)).congr ?_⟩
        intro j _
        by_cases hj : j = m
        · subst hj; rw [if_pos (Nat.le_refl _), if_pos rfl]
        · rw [if_neg hj]
          by_cases h : m + 1 ≤ j
          · rw [if_pos (by omega), if_pos h]
          · rw [if_neg (by omega), if_neg h]
    · have hk0 : k = 0 := by omega
      subst hk0
      have bQ2 := bQ.congr (g := fun i => limb i qq) (fun i _ => by rw [if_pos (Nat.zero_le _)])
      have cQ := bQ2.cell; have cr := bR.cell; have fr := bR.frozen
      clear bQ bQ2 hlt
      go_wp2
      refine bodyPost_ret (v := .tuple #[.agg #[.int .u64 ((limb 0 (qq) : Nat) : Int), .int .u64 ((limb 1 (qq) : Nat) : Int), .int .u64 ((limb 2 (qq) : Nat) : Int), .int .u64 ((limb 3 (qq) : Nat) : Int)], .int .u64 ((rm 0 : Nat) : Int)]) (by simp [results, Try.results52, go_sem, cr]) rfl ⟨rfl, ?_⟩
      repeat (first | with_reducible exact hbr | with_reducible refine Below.setCell ?_ (by first | omega | (simp; omega) | simp) _)

end Go.Proofs.Ytlndeghggdpmaaa
