/- The reference: is a node a query, is it a place, how many rows are usable. -/
import Derived.Test.YtbhljgenicahoaaCLI
namespace Go.Proofs.Ytbhljgenicahoaa
open Go.RowKit

set_option maxHeartbeats 4000000 in
theorem rquery_any (O X Y : Int) (Z : Nat) (w : World) : Calls Try.prog 49 #[.agg #[.int .i64 O, .int .i64 X, .int .i64 Y, .int .u64 ((limb 0 Z : Nat) : Int), .int .u64 ((limb 1 Z : Nat) : Int), .int .u64 ((limb 2 Z : Nat) : Int), .int .u64 ((limb 3 Z : Nat) : Int)]] w fun e w' => e = .returned (.bool (isQ O)) ∧ Below w.heap.size w w' := by
  have HBF : Hid (Below w.heap.size w (w.alloc (.cells #[.int .i64 O, .int .i64 X, .int .i64 Y, .int .u64 ((limb 0 Z : Nat) : Int), .int .u64 ((limb 1 Z : Nat) : Int), .int .u64 ((limb 2 Z : Nat) : Int), .int .u64 ((limb 3 Z : Nat) : Int)] 49))) := bAlloc (Below.refl _ _) _
  by_cases h2 : 2 ≤ O
  · by_cases h4 : O ≤ 4
    · have HQ : Hid (isQ O = true) := decide_eq_true ⟨h2, h4⟩
      go_enter Try.func49, Try.ntmps49
      go_wp2
      go_ret
      exact ⟨by rw [HQ.out]; rfl, HBF.out⟩
    · have HQ : Hid (isQ O = false) := decide_eq_false (fun h => h4 h.2)
      have h4d : decide (O ≤ 4) = false := decide_eq_false h4
      go_enter Try.func49, Try.ntmps49
      go_wp2
      go_ret
      exact ⟨by rw [HQ.out]; rfl, HBF.out⟩
  · have HQ : Hid (isQ O = false) := decide_eq_false (fun h => h2 h.1)
    have h2' : O < 2 := by omega
    have h2d : decide (2 ≤ O) = false := decide_eq_false h2
    go_enter Try.func49, Try.ntmps49
    go_wp2
    go_ret
    exact ⟨by rw [HQ.out]; rfl, HBF.out⟩
set_option maxHeartbeats 4000000 in
theorem rplace_any (F A I : Int) (oN oG oL oE : Option Addr) (n cN g cG l cL m cE : Nat) (p : Int) (w : World) : Calls Try.prog 31 #[.agg #[.int .i64 F, .int .i64 A, .int .i64 I, .slice oN n cN, .slice oG g cG, .slice oL l cL, .slice oE m cE], .int .i64 p] w fun e w' => e = .returned (.bool (plB n p)) ∧ Below w.heap.size w w' := by
  have HBF : Hid (Below w.heap.size w (w.alloc (.cells #[.int .i64 F, .int .i64 A, .int .i64 I, .slice oN n cN, .slice oG g cG, .slice oL l cL, .slice oE m cE] 27))) := bAlloc (Below.refl _ _) _
  by_cases h2 : 0 ≤ p
  · by_cases h4 : p < (n : Int)
    · have HQ : Hid (plB n p = true) := decide_eq_true ⟨h2, h4⟩
      go_enter Try.func31, Try.ntmps31
      go_wp2
      go_ret
      exact ⟨by rw [HQ.out]; rfl, HBF.out⟩
    · have HQ : Hid (plB n p = false) := decide_eq_false (fun h => h4 h.2)
      have h4d : decide (p < (n : Int)) = false := decide_eq_false h4
      go_enter Try.func31, Try.ntmps31
      go_wp2
      go_ret
      exact ⟨by rw [HQ.out]; rfl, HBF.out⟩
  · have HQ : Hid (plB n p = false) := decide_eq_false (fun h => h2 h.1)
    have h2' : p < 0 := by omega
    have h2d : decide (0 ≤ p) = false := decide_eq_false h2
    go_enter Try.func31, Try.ntmps31
    go_wp2
    go_ret
    exact ⟨by rw [HQ.out]; rfl, HBF.out⟩
set_option maxHeartbeats 4000000 in
theorem rusable_any (k : Int) (w : World) : Calls Try.prog 22 #[.int .i64 k] w fun e w' => e = .returned (.int .i64 (if 2 ≤ k ∧ k ≤ 30 then 2 ^ k.toNat - 4 else 0)) ∧ Below w.heap.size w w' := by
  by_cases h2 : k < 2
  · rw [if_neg (by omega)]
    go_enter Try.func22, Try.ntmps22
    go_wp2
    go_ret
    exact ⟨rfl, Below.refl _ _⟩
  · by_cases h30 : 30 < k
    · rw [if_neg (by omega)]
      go_enter Try.func22, Try.ntmps22
      go_wp2
      go_ret
      exact ⟨rfl, Below.refl _ _⟩
    · rw [if_pos (by omega)]
      obtain ⟨q, rfl⟩ : ∃ q : Nat, k = q := ⟨k.toNat, by omega⟩
      have hq : 2 ≤ q ∧ q ≤ 30 := by omega
      have hk0 : ¬ (q : Int) < 0 := by omega
      have e1 : (2 : Int) ^ q = ((2 ^ q : Nat) : Int) := by simp
      have hP : 4 ≤ 2 ^ q ∧ 2 ^ q ≤ 1073741824 := ⟨Nat.pow_le_pow_right (n := 2) (by decide) hq.1, Nat.pow_le_pow_right (n := 2) (by decide) hq.2⟩
      obtain ⟨P, eP⟩ : ∃ P, P = 2 ^ q := ⟨_, rfl⟩
      rw [← eP] at e1 hP
      have hkw : IntKind.i64.wrap ((2 : Int) ^ q) = (P : Int) := by rw [e1]; simp [IntKind.wrap, IntKind.bits, IntKind.signed]; omega
      have HE : Hid ((2 : Int) ^ q = (P : Int)) := e1
      clear eP e1
      go_enter Try.func22, Try.ntmps22
      go_wp2
      go_ret
      exact ⟨by rw [HE.out]; rfl, Below.refl _ _⟩

end Go.Proofs.Ytbhljgenicahoaa
