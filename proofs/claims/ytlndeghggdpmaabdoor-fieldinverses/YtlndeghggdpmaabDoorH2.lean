/- What field.bitLength and field.power do. -/
import Derived.Test.YtlndeghggdpmaabDoorH1
namespace Go.Proofs.YtlndeghggdpmaabDoor
open Go.RowKit

theorem bitLen_under : ∀ x : Nat, x < 2 ^ 64 → x < 2 ^ Lib.bitLen x := by
  intro x
  induction x using Nat.strongRecOn with
  | _ x ih =>
    intro hx
    by_cases h0 : x = 0
    · subst h0; exact Nat.two_pow_pos _
    · rw [Lib.bitLen_half x h0 hx, Nat.add_comm, Nat.pow_succ]
      have h := ih (x / 2) (by omega) (by omega)
      omega
theorem bitLen_top2 (x : Nat) (hx : x < 18446744073709551616) : x < 2 ^ Lib.bitLen x ∧ Lib.bitLen x ≤ 64 := by
  refine ⟨?_, Lib.bitLen_le x 64 (by decide) (by simpa using hx)⟩
  exact bitLen_under x (by simpa using hx)
/-- How many bits a number has, as field.bitLength reckons it. -/
def lenN (A : Nat) : Nat := if limb 3 A ≠ 0 then 192 + Lib.bitLen (limb 3 A) else if limb 2 A ≠ 0 then 128 + Lib.bitLen (limb 2 A) else if limb 1 A ≠ 0 then 64 + Lib.bitLen (limb 1 A) else Lib.bitLen (limb 0 A)

set_option maxHeartbeats 2000000 in
theorem bitLength_any (A : Nat) (w : World) :
    Calls Tryd.prog 60 #[.agg #[.int .u64 ((limb 0 (A) : Nat) : Int), .int .u64 ((limb 1 (A) : Nat) : Int), .int .u64 ((limb 2 (A) : Nat) : Int), .int .u64 ((limb 3 (A) : Nat) : Int)]] w fun e w' => e = .returned (.int .i64 ((lenN A : Nat) : Int)) ∧ Below w.heap.size w w' := by
  have L := fun (k : Nat) w => len64_int ((limb k A : Nat) : Int) (by omega) (by have := limb_lt k A; omega) w
  have b0 := (bitLen_top2 _ (limb_lt 0 A)).2; have b1 := (bitLen_top2 _ (limb_lt 1 A)).2; have b2 := (bitLen_top2 _ (limb_lt 2 A)).2; have b3 := (bitLen_top2 _ (limb_lt 3 A)).2
  have L0 := L 0; have L1 := L 1; have L2 := L 2; have L3 := L 3
  simp only [Int.toNat_natCast] at L0 L1 L2 L3
  have HV : Hid (lenN A = if limb 3 A ≠ 0 then 192 + Lib.bitLen (limb 3 A) else if limb 2 A ≠ 0 then 128 + Lib.bitLen (limb 2 A) else if limb 1 A ≠ 0 then 64 + Lib.bitLen (limb 1 A) else Lib.bitLen (limb 0 A)) := rfl
  clear L
  obtain ⟨v, ev⟩ : ∃ v, v = lenN A := ⟨_, rfl⟩
  rw [← ev] at HV ⊢
  clear ev
  generalize Lib.bitLen (limb 0 A) = l0 at *
  generalize Lib.bitLen (limb 1 A) = l1 at *
  generalize Lib.bitLen (limb 2 A) = l2 at *
  generalize Lib.bitLen (limb 3 A) = l3 at *
  generalize limb 0 A = a0 at *
  generalize limb 1 A = a1 at *
  generalize limb 2 A = a2 at *
  generalize limb 3 A = a3 at *
  by_cases h3 : a3 = 0
  · by_cases h2 : a2 = 0
    · by_cases h1 : a1 = 0
      · have n3 : ((a3 : Int) != 0) = false := by simp [h3]
        have n2 : ((a2 : Int) != 0) = false := by simp [h2]
        have n1 : ((a1 : Int) != 0) = false := by simp [h1]
        have HE : Hid (v = l0) := by show _ = _; rw [HV.out]; simp [h1, h2, h3]
        clear HV h1 h2 h3
        go_enter Tryd.func60, Tryd.ntmps60
        go_wp2_with fail
        refine (L0 _).mono ?_
        rintro e w1 ⟨rfl, rfl⟩
        go_wp2
        go_ret
        exact ⟨by rw [HE.out]; rfl, (Below.refl _ _).alloc (Nat.le_refl _) _⟩
      · have n3 : ((a3 : Int) != 0) = false := by simp [h3]
        have n2 : ((a2 : Int) != 0) = false := by simp [h2]
        have n1 : ((a1 : Int) != 0) = true := by simp [h1]
        have HE : Hid (v = 64 + l1) := by show _ = _; rw [HV.out]; simp [h1, h2, h3]
        clear HV h1 h2 h3
        go_enter Tryd.func60, Tryd.ntmps60
        go_wp2_with fail
        refine (L1 _).mono ?_
        rintro e w1 ⟨rfl, rfl⟩
        go_wp2
        go_ret
        exact ⟨by rw [HE.out]; simp, (Below.refl _ _).alloc (Nat.le_refl _) _⟩
    · have n3 : ((a3 : Int) != 0) = false := by simp [h3]
      have n2 : ((a2 : Int) != 0) = true := by simp [h2]
      have HE : Hid (v = 128 + l2) := by show _ = _; rw [HV.out]; simp [h2, h3]
      clear HV h2 h3
      go_enter Tryd.func60, Tryd.ntmps60
      go_wp2_with fail
      refine (L2 _).mono ?_
      rintro e w1 ⟨rfl, rfl⟩
      go_wp2
      go_ret
      exact ⟨by rw [HE.out]; simp, (Below.refl _ _).alloc (Nat.le_refl _) _⟩
  · have n3 : ((a3 : Int) != 0) = true := by simp [h3]
    have HE : Hid (v = 192 + l3) := by show _ = _; rw [HV.out]; simp [h3]
    clear HV h3
    go_enter Tryd.func60, Tryd.ntmps60
    go_wp2_with fail
    refine (L3 _).mono ?_
    rintro e w1 ⟨rfl, rfl⟩
    go_wp2
    go_ret
    exact ⟨by rw [HE.out]; simp, (Below.refl _ _).alloc (Nat.le_refl _) _⟩

theorem lenN_top (A : Nat) (hA : A < 115792089237316195423570985008687907853269984665640564039457584007913129639936) : A < 2 ^ lenN A ∧ lenN A ≤ 256 := by
  have hs := limbs_sum A hA
  have l0 := bitLen_top2 _ (limb_lt 0 A); have l1 := bitLen_top2 _ (limb_lt 1 A); have l2 := bitLen_top2 _ (limb_lt 2 A); have l3 := bitLen_top2 _ (limb_lt 3 A)
  have g0 := limb_lt 0 A; have g1 := limb_lt 1 A; have g2 := limb_lt 2 A
  unfold lenN
  generalize limb 0 A = a0 at *
  generalize limb 1 A = a1 at *
  generalize limb 2 A = a2 at *
  generalize limb 3 A = a3 at *
  generalize Lib.bitLen a0 = b0 at *
  generalize Lib.bitLen a1 = b1 at *
  generalize Lib.bitLen a2 = b2 at *
  generalize Lib.bitLen a3 = b3 at *
  by_cases h3 : a3 = 0
  · by_cases h2 : a2 = 0
    · by_cases h1 : a1 = 0
      · simp only [h1, h2, h3, ne_eq, not_true_eq_false, if_false]
        refine ⟨?_, by omega⟩
        have := l0.1
        omega
      · simp only [h1, h2, h3, ne_eq, not_true_eq_false, not_false_eq_true, if_true, if_false]
        refine ⟨?_, by omega⟩
        rw [Nat.pow_add]
        have := l1.1
        generalize 2 ^ b1 = p at *
        have e : (2 : Nat) ^ 64 = 18446744073709551616 := by decide
        rw [e]
        omega
    · simp only [h2, h3, ne_eq, not_true_eq_false, not_false_eq_true, if_true, if_false]
      refine ⟨?_, by omega⟩
      rw [Nat.pow_add]
      have := l2.1
      generalize 2 ^ b2 = p at *
      have e : (2 : Nat) ^ 128 = 340282366920938463463374607431768211456 := by decide
      rw [e]
      omega
  · simp only [h3, ne_eq, not_false_eq_true, if_true]
    refine ⟨?_, by omega⟩
    rw [Nat.pow_add]
    have := l3.1
    generalize 2 ^ b3 = p at *
    have e : (2 : Nat) ^ 192 = 6277101735386680763835789423207666416102355444464034512896 := by decide
    rw [e]
    omega

end Go.Proofs.YtlndeghggdpmaabDoor
