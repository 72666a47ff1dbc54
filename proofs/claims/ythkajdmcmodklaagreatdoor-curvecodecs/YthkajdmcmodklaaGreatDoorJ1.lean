/- Square roots in one form: the even root, if there is one. -/
import Derived.Test.YthkajdmcmodklaaGreatDoorKD
import Derived.Test.YthkajdmcmodklaaGreatDoorRC
namespace Go.Proofs.YthkajdmcmodklaaGreatDoor
open Go.RowKit

theorem Pt.other4 {W : World} {b x y r : Nat} {i : Bool} (h : Pt W b x y i) (hr : b ≠ r) (v0 v1 v2 v3 : Value) : Pt ((((W.setCell ⟨r, 0, none⟩ v0).setCell ⟨r, 1, none⟩ v1).setCell ⟨r, 2, none⟩ v2).setCell ⟨r, 3, none⟩ v3) b x y i :=
  (((h.other hr v0).other hr v1).other hr v2).other hr v3
/-- There is an even root. -/
def hasR (c a : Nat) : Prop := ∃ r, r < modN c ∧ r % 2 = 0 ∧ r * r % modN c = a % modN c
/-- Is r the even root of a? -/
def isRt (c a r : Nat) : Bool := decide (r % 2 = 0 ∧ r * r % modN c = a % modN c)
/-- The even root, or 0. -/
def rt (c a : Nat) : Nat := srch (isRt c a) (modN c)
theorem rt_spec {c a : Nat} (h : hasR c a) : rt c a < modN c ∧ rt c a % 2 = 0 ∧ rt c a * rt c a % modN c = a % modN c := by
  obtain ⟨r, hr, h2⟩ := h
  have hs := srch_yes (isRt c a) (modN c) ⟨r, hr, decide_eq_true h2⟩
  exact ⟨hs.1, of_decide_eq_true hs.2⟩
theorem rt_none {c a : Nat} (h : ¬ hasR c a) : rt c a = 0 :=
  srch_no _ _ (fun ⟨r, hr, hp⟩ => h ⟨r, hr, of_decide_eq_true hp⟩)
theorem rt_lt (c a : Nat) : rt c a < modN c := by
  by_cases h : hasR c a
  · exact (rt_spec h).1
  · rw [rt_none h]; exact modN_pos c
theorem rt_eq {c a r : Nat} (h1 : r < modN c) (h2 : r % 2 = 0) (h3 : r * r % modN c = a % modN c) : rt c a = r := by
  obtain ⟨l, e, q⟩ := rt_spec ⟨r, h1, h2, h3⟩
  exact even_same (modN_prime c) (modN_odd c).1 l h1 e h2 (by rw [q, h3])
theorem sqrt_form {c a : Nat} {v : Ending} (h : (∃ r, r < modN c ∧ r % 2 = 0 ∧ r * r % modN c = a % modN c ∧ v = .returned (.tuple #[.agg #[.int .u64 ((limb 0 (r) : Nat) : Int), .int .u64 ((limb 1 (r) : Nat) : Int), .int .u64 ((limb 2 (r) : Nat) : Int), .int .u64 ((limb 3 (r) : Nat) : Int)], .int .i64 0])) ∨ (a % modN c ≠ 0 ∧ powM (modN c) (a % modN c) ((2 * oddH c + 1) * 2 ^ (adicN c - 1)) ≠ 1 ∧ v = .returned (.tuple #[.agg #[.int .u64 0, .int .u64 0, .int .u64 0, .int .u64 0], .int .i64 22]))) :
    (hasR c a → v = .returned (.tuple #[.agg #[.int .u64 ((limb 0 (rt c a) : Nat) : Int), .int .u64 ((limb 1 (rt c a) : Nat) : Int), .int .u64 ((limb 2 (rt c a) : Nat) : Int), .int .u64 ((limb 3 (rt c a) : Nat) : Int)], .int .i64 0])) ∧ (¬ hasR c a → v = .returned (.tuple #[.agg #[.int .u64 ((limb 0 (0) : Nat) : Int), .int .u64 ((limb 1 (0) : Nat) : Int), .int .u64 ((limb 2 (0) : Nat) : Int), .int .u64 ((limb 3 (0) : Nat) : Int)], .int .i64 22])) := by
  have hod := modN_odd c
  have hp := modN_prime c
  have z : (.agg #[.int .u64 ((limb 0 (0) : Nat) : Int), .int .u64 ((limb 1 (0) : Nat) : Int), .int .u64 ((limb 2 (0) : Nat) : Int), .int .u64 ((limb 3 (0) : Nat) : Int)] : Value) = .agg #[.int .u64 0, .int .u64 0, .int .u64 0, .int .u64 0] := by rw [limbz, limbz, limbz, limbz]; rfl
  rcases h with ⟨r, h1, h2, h3, rfl⟩ | ⟨h0, h1, rfl⟩
  · exact ⟨fun _ => by rw [rt_eq h1 h2 h3], fun h => absurd ⟨r, h1, h2, h3⟩ h⟩
  · refine ⟨fun ⟨r, _, _, hr⟩ => absurd ?_ h1, fun _ => by rw [z]⟩
    rw [← halfOdd (oddH_ok c), ← hr]
    have e2 : powM (modN c) (r * r % modN c) ((modN c - 1) / 2) = powM (modN c) r (modN c - 1) := by
      rw [powM_mul, powM_two]
      congr 1
      have := hod.1
      omega
    rw [e2]
    refine fermat_one hp (fun h => h0 ?_)
    rw [← hr, ← Nat.mod_mul_mod, h, Nat.zero_mul, Nat.zero_mod]
theorem sqrt_yes (c a : Nat) (hc : c < 4) (ha : a < 115792089237316195423570985008687907853269984665640564039457584007913129639936) (h : hasR c a) (w : World) (hg : Glob w) :
    Calls Tryz.prog 84 #[.int .i64 (c : Int), .agg #[.int .u64 ((limb 0 (a) : Nat) : Int), .int .u64 ((limb 1 (a) : Nat) : Int), .int .u64 ((limb 2 (a) : Nat) : Int), .int .u64 ((limb 3 (a) : Nat) : Int)]] w fun e w' => e = .returned (.tuple #[.agg #[.int .u64 ((limb 0 (rt c a) : Nat) : Int), .int .u64 ((limb 1 (rt c a) : Nat) : Int), .int .u64 ((limb 2 (rt c a) : Nat) : Int), .int .u64 ((limb 3 (rt c a) : Nat) : Int)], .int .i64 0]) ∧ Below w.heap.size w w' :=
  (fSqrt_any c a hc ha w hg).mono (fun _ _ h' => ⟨(sqrt_form h'.1).1 h, h'.2⟩)
theorem sqrt_no (c a : Nat) (hc : c < 4) (ha : a < 115792089237316195423570985008687907853269984665640564039457584007913129639936) (h : ¬ hasR c a) (w : World) (hg : Glob w) :
    Calls Tryz.prog 84 #[.int .i64 (c : Int), .agg #[.int .u64 ((limb 0 (a) : Nat) : Int), .int .u64 ((limb 1 (a) : Nat) : Int), .int .u64 ((limb 2 (a) : Nat) : Int), .int .u64 ((limb 3 (a) : Nat) : Int)]] w fun e w' => e = .returned (.tuple #[.agg #[.int .u64 ((limb 0 (0) : Nat) : Int), .int .u64 ((limb 1 (0) : Nat) : Int), .int .u64 ((limb 2 (0) : Nat) : Int), .int .u64 ((limb 3 (0) : Nat) : Int)], .int .i64 22]) ∧ Below w.heap.size w w' :=
  (fSqrt_any c a hc ha w hg).mono (fun _ _ h' => ⟨(sqrt_form h'.1).2 h, h'.2⟩)
theorem rsqrt_yes (c a : Nat) (hc : c < 4) (ha : a < 115792089237316195423570985008687907853269984665640564039457584007913129639936) (h : hasR c a) (w : World) :
    Calls Tryz.prog 48 #[.int .i64 (c : Int), .agg #[.int .u64 ((limb 0 (a) : Nat) : Int), .int .u64 ((limb 1 (a) : Nat) : Int), .int .u64 ((limb 2 (a) : Nat) : Int), .int .u64 ((limb 3 (a) : Nat) : Int)]] w fun e w' => e = .returned (.tuple #[.agg #[.int .u64 ((limb 0 (rt c a) : Nat) : Int), .int .u64 ((limb 1 (rt c a) : Nat) : Int), .int .u64 ((limb 2 (rt c a) : Nat) : Int), .int .u64 ((limb 3 (rt c a) : Nat) : Int)], .int .i64 0]) ∧ Below w.heap.size w w' :=
  (ref2Sqrt_any c a hc ha w).mono (fun _ _ h' => ⟨(sqrt_form h'.1).1 h, h'.2⟩)
theorem rsqrt_no (c a : Nat) (hc : c < 4) (ha : a < 115792089237316195423570985008687907853269984665640564039457584007913129639936) (h : ¬ hasR c a) (w : World) :
    Calls Tryz.prog 48 #[.int .i64 (c : Int), .agg #[.int .u64 ((limb 0 (a) : Nat) : Int), .int .u64 ((limb 1 (a) : Nat) : Int), .int .u64 ((limb 2 (a) : Nat) : Int), .int .u64 ((limb 3 (a) : Nat) : Int)]] w fun e w' => e = .returned (.tuple #[.agg #[.int .u64 ((limb 0 (0) : Nat) : Int), .int .u64 ((limb 1 (0) : Nat) : Int), .int .u64 ((limb 2 (0) : Nat) : Int), .int .u64 ((limb 3 (0) : Nat) : Int)], .int .i64 22]) ∧ Below w.heap.size w w' :=
  (ref2Sqrt_any c a hc ha w).mono (fun _ _ h' => ⟨(sqrt_form h'.1).2 h, h'.2⟩)

end Go.Proofs.YthkajdmcmodklaaGreatDoor
