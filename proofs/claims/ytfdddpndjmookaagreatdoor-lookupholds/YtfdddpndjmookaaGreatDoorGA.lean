/- What the second reference's below, minus and plus do. -/
import Derived.Test.YtfdddpndjmookaaGreatDoorCB
import Derived.Test.YtfdddpndjmookaaGreatDoorBA
import Derived.Deep.QuietTactic
import Derived.BigQuiet
import Derived.Test.YtfdddpndjmookaaGreatDoorFB
import Derived.Test.YtfdddpndjmookaaGreatDoorFC
namespace Go.Proofs.YtfdddpndjmookaaGreatDoor
open Go.RowKit

theorem lt_of_div (A B p : Nat) (h : A / p < B / p) : A < B := by
  rcases Nat.lt_or_ge A B with h1 | h1
  · exact h1
  · have := Nat.div_le_div_right (c := p) h1; omega
theorem limb_eq_div (A k : Nat) : A / 18446744073709551616 ^ k = limb k A + 18446744073709551616 * (A / 18446744073709551616 ^ (k + 1)) := by
  unfold limb; rw [Nat.pow_succ, ← Nat.div_div_eq_div_mul]; omega
theorem word_step (A B k : Nat) (h : A / 18446744073709551616 ^ (k + 1) = B / 18446744073709551616 ^ (k + 1)) (hb : limb k A = limb k B) : A / 18446744073709551616 ^ k = B / 18446744073709551616 ^ k := by
  rw [limb_eq_div A, limb_eq_div B, h, hb]
theorem word_less (A B k : Nat) (h : A / 18446744073709551616 ^ (k + 1) = B / 18446744073709551616 ^ (k + 1)) (hb : ¬ limb k A = limb k B) : decide (((limb k A : Nat) : Int) < ((limb k B : Nat) : Int)) = below256 A B := by
  have ha := limb_eq_div A k
  have hb' := limb_eq_div B k
  rw [h] at ha
  unfold below256
  rw [Bool.eq_iff_iff]
  simp only [decide_eq_true_eq]
  constructor
  · intro hl; exact lt_of_div A B (18446744073709551616 ^ k) (by omega)
  · intro hl
    rcases Nat.lt_or_ge (limb k B) (limb k A) with h1 | h1
    · have := lt_of_div B A (18446744073709551616 ^ k) (by omega); omega
    · omega
theorem word_end (A B : Nat) (h : A / 18446744073709551616 ^ 0 = B / 18446744073709551616 ^ 0) : below256 A B = false := by
  simp at h; subst h; simp [below256]

theorem sub_chain (A B : Nat) (hA : A < 115792089237316195423570985008687907853269984665640564039457584007913129639936) (hB : B < 115792089237316195423570985008687907853269984665640564039457584007913129639936) : ∃ cs : Nat → Nat, cs 0 = 0 ∧ ∀ k, k < 4 → cs k ≤ 1 ∧ cs (k + 1) ≤ 1 ∧ limb k A + 18446744073709551616 * cs (k + 1) = limb k (sub256 A B) + limb k B + cs k := by
  obtain ⟨c1, c2, c3, c4, p0, q0, r0, p1, q1, r1, p2, q2, r2, p3, q3, r3, hc⟩ := sub_limbs A B hA hB
  refine ⟨fun k => match k with | 0 => 0 | 1 => c1 | 2 => c2 | 3 => c3 | _ => c4, rfl, ?_⟩
  have a0 := limb_lt 0 A; have a1 := limb_lt 1 A; have a2 := limb_lt 2 A; have a3 := limb_lt 3 A
  have b0 := limb_lt 0 B; have b1 := limb_lt 1 B; have b2 := limb_lt 2 B; have b3 := limb_lt 3 B
  intro k hk
  have h4 : k = 0 ∨ k = 1 ∨ k = 2 ∨ k = 3 := by omega
  rcases h4 with rfl | rfl | rfl | rfl
  · refine ⟨by show (0 : Nat) ≤ 1; omega, r0, ?_⟩
    have t := sub_step (limb 0 A) (limb 0 B) 0 a0 b0 (by decide)
    rw [q0, p0] at t; exact t.1
  · refine ⟨r0, r1, ?_⟩
    have t := sub_step (limb 1 A) (limb 1 B) c1 a1 b1 r0
    rw [q1, p1] at t; exact t.1
  · refine ⟨r1, r2, ?_⟩
    have t := sub_step (limb 2 A) (limb 2 B) c2 a2 b2 r1
    rw [q2, p2] at t; exact t.1
  · refine ⟨r2, r3, ?_⟩
    have t := sub_step (limb 3 A) (limb 3 B) c3 a3 b3 r2
    rw [q3, p3] at t; exact t.1
/-- The first k words of S, noughts behind them. -/
def upTo (S k j : Nat) : Nat := if j < k then limb j S else 0
theorem upTo_step (S k j : Nat) : upTo S (k + 1) j = if j = k then limb k S else upTo S k j := by
  unfold upTo
  by_cases h : j = k
  · subst h; simp
  · by_cases h2 : j < k
    · simp [h, h2, show j < k + 1 from by omega]
    · simp [h, h2, show ¬ j < k + 1 from by omega]

theorem Blk.drewN {w : World} {t : TypeId} {b : Nat} {f : Nat → Nat} (h : Blk w t b f) (n : Nat) : Blk (w.drewN n) t b f := h

theorem add_chain (A B : Nat) (hA : A < 115792089237316195423570985008687907853269984665640564039457584007913129639936) (hB : B < 115792089237316195423570985008687907853269984665640564039457584007913129639936) : ∃ cs : Nat → Nat, cs 0 = 0 ∧ ∀ k, k < 4 → cs k ≤ 1 ∧ cs (k + 1) ≤ 1 ∧ limb k A + limb k B + cs k = limb k (add256 A B) + 18446744073709551616 * cs (k + 1) := by
  obtain ⟨c1, c2, c3, c4, p0, q0, r0, p1, q1, r1, p2, q2, r2, p3, q3, r3, hc⟩ := add_limbs A B hA hB
  refine ⟨fun k => match k with | 0 => 0 | 1 => c1 | 2 => c2 | 3 => c3 | _ => c4, rfl, ?_⟩
  intro k hk
  have h4 : k = 0 ∨ k = 1 ∨ k = 2 ∨ k = 3 := by omega
  rcases h4 with rfl | rfl | rfl | rfl
  · refine ⟨by show (0 : Nat) ≤ 1; omega, r0, ?_⟩
    show limb 0 A + limb 0 B + 0 = _ + 18446744073709551616 * c1
    rw [← p0, ← q0]; exact (Nat.mod_add_div _ _).symm
  · refine ⟨r0, r1, ?_⟩
    show limb 1 A + limb 1 B + c1 = _ + 18446744073709551616 * c2
    rw [← p1, ← q1]; exact (Nat.mod_add_div _ _).symm
  · refine ⟨r1, r2, ?_⟩
    show limb 2 A + limb 2 B + c2 = _ + 18446744073709551616 * c3
    rw [← p2, ← q2]; exact (Nat.mod_add_div _ _).symm
  · refine ⟨r2, r3, ?_⟩
    show limb 3 A + limb 3 B + c3 = _ + 18446744073709551616 * c4
    rw [← p3, ← q3]; exact (Nat.mod_add_div _ _).symm

end Go.Proofs.YtfdddpndjmookaaGreatDoor

/- What the second reference's Modulus, little and Of do. -/
namespace Go.Proofs.YtfdddpndjmookaaGreatDoor
open Go.RowKit

theorem mod_step (x H l m : Nat) : (x % m * H + l) % m = (x * H + l) % m := by
  rw [Nat.add_mod, Nat.mod_mul_mod, ← Nat.add_mod]
theorem of_words (r h l m : Nat) : ((r * 4294967296 + h) % m * 4294967296 + l) % m = (r * 18446744073709551616 + (h * 4294967296 + l)) % m := by
  rw [mod_step, Nat.add_mul, Nat.mul_assoc, show (4294967296 : Nat) * 4294967296 = 18446744073709551616 from by decide, Nat.add_assoc]
theorem of_next (A m k : Nat) : (A / 18446744073709551616 ^ (k + 1) % m * 18446744073709551616 + limb k A) % m = A / 18446744073709551616 ^ k % m := by
  rw [mod_step]
  congr 1
  rw [limb_eq_div A k]; omega
theorem of_int (r x m y : Nat) (hx : x < 18446744073709551616) (hm : m < 33554432) (hy : y = (r * 4294967296 + x / 4294967296) % m) (ly : y < m) :
    (IntKind.u64.wrap (IntKind.u64.wrap (((r : Int) * 4294967296 + (x : Int) / 4294967296) % (m : Int) * 4294967296) + bits BinOp.and IntKind.u64 (x : Int) 4294967295)).tmod (m : Int) = (((y * 4294967296 + x % 4294967296) % m : Nat) : Int) := by
  have h1 : ((r : Int) * 4294967296 + (x : Int) / 4294967296) % (m : Int) = ((y : Nat) : Int) := by
    rw [hy, Int.natCast_emod]
    rfl
  rw [h1, maskN x hx]
  have h2 : IntKind.u64.wrap (((y : Nat) : Int) * 4294967296) = ((y * 4294967296 : Nat) : Int) := by rw [IntKind.wrap_u64]; omega
  rw [h2]
  have h3 : IntKind.u64.wrap (((y * 4294967296 : Nat) : Int) + ((x % 4294967296 : Nat) : Int)) = ((y * 4294967296 + x % 4294967296 : Nat) : Int) := by rw [IntKind.wrap_u64]; omega
  rw [h3]
  exact (Int.ofNat_tmod _ _).symm
theorem word_halves (x : Nat) : x = x / 4294967296 * 4294967296 + x % 4294967296 := (Nat.div_add_mod' x _).symm

theorem modN_small (s : Nat) (hs : s < 2) : modN s < 33554432 ∧ 0 < modN s := by
  have h2 : s = 0 ∨ s = 1 := by omega
  rcases h2 with rfl | rfl <;> decide

end Go.Proofs.YtfdddpndjmookaaGreatDoor

/- What the second reference's Modulus and Of (great fields) do. -/
namespace Go.Proofs.YtfdddpndjmookaaGreatDoor
open Go.RowKit

theorem modN_agg0 : (.agg #[.int .u64 ((limb 0 (modN 0) : Nat) : Int), .int .u64 ((limb 1 (modN 0) : Nat) : Int), .int .u64 ((limb 2 (modN 0) : Nat) : Int), .int .u64 ((limb 3 (modN 0) : Nat) : Int)] : Value) = .agg #[.int .u64 16513537, .int .u64 0, .int .u64 0, .int .u64 0] := by
  rw [show limb 0 (modN 0) = 16513537 from by decide, show limb 1 (modN 0) = 0 from by decide, show limb 2 (modN 0) = 0 from by decide, show limb 3 (modN 0) = 0 from by decide]
  rfl
theorem modN_agg1 : (.agg #[.int .u64 ((limb 0 (modN 1) : Nat) : Int), .int .u64 ((limb 1 (modN 1) : Nat) : Int), .int .u64 ((limb 2 (modN 1) : Nat) : Int), .int .u64 ((limb 3 (modN 1) : Nat) : Int)] : Value) = .agg #[.int .u64 16521217, .int .u64 0, .int .u64 0, .int .u64 0] := by
  rw [show limb 0 (modN 1) = 16521217 from by decide, show limb 1 (modN 1) = 0 from by decide, show limb 2 (modN 1) = 0 from by decide, show limb 3 (modN 1) = 0 from by decide]
  rfl
theorem modN_agg2 : (.agg #[.int .u64 ((limb 0 (modN 2) : Nat) : Int), .int .u64 ((limb 1 (modN 2) : Nat) : Int), .int .u64 ((limb 2 (modN 2) : Nat) : Int), .int .u64 ((limb 3 (modN 2) : Nat) : Int)] : Value) = .agg #[.int .u64 11037532056220336129, .int .u64 2469829653914515739, .int .u64 0, .int .u64 4611686018427387904] := by
  rw [show limb 0 (modN 2) = 11037532056220336129 from by decide, show limb 1 (modN 2) = 2469829653914515739 from by decide, show limb 2 (modN 2) = 0 from by decide, show limb 3 (modN 2) = 4611686018427387904 from by decide]
  rfl
theorem modN_agg3 : (.agg #[.int .u64 ((limb 0 (modN 3) : Nat) : Int), .int .u64 ((limb 1 (modN 3) : Nat) : Int), .int .u64 ((limb 2 (modN 3) : Nat) : Int), .int .u64 ((limb 3 (modN 3) : Nat) : Int)] : Value) = .agg #[.int .u64 10108024940646105089, .int .u64 2469829653919213789, .int .u64 0, .int .u64 4611686018427387904] := by
  rw [show limb 0 (modN 3) = 10108024940646105089 from by decide, show limb 1 (modN 3) = 2469829653919213789 from by decide, show limb 2 (modN 3) = 0 from by decide, show limb 3 (modN 3) = 4611686018427387904 from by decide]
  rfl

theorem sub_again (A m x : Nat) (hx : x % m = A % m) (h : m ≤ x) : (x - m) % m = A % m := by rw [← hx, Nat.mod_eq_sub_mod h]

end Go.Proofs.YtfdddpndjmookaaGreatDoor

