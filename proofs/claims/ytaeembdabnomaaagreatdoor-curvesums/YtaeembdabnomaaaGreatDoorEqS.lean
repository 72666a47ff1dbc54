/- Two numbers (structs of four words) are held against each other word by word. -/
import Derived.Test.YtaeembdabnomaaaGreatDoorEq4
import Derived.Test.YtaeembdabnomaaaGreatDoorCore7
namespace Go.Proofs.YtaeembdabnomaaaGreatDoor
open Go.RowKit

theorem list4s {α : Type} (l : List α) (h : l.length = 4) : ∃ a b c d, l = [a, b, c, d] := by
  match l, h with
  | [a, b, c, d], _ => exact ⟨a, b, c, d, rfl⟩
theorem fieldsF : ∃ n0 n1 n2 n3 : Field, (Tryz.prog.fieldsOf 63).toList = [n0, n1, n2, n3] ∧ n0.name ≠ "_" ∧ n1.name ≠ "_" ∧ n2.name ≠ "_" ∧ n3.name ≠ "_" ∧ n0.type = 22 ∧ n1.type = 22 ∧ n2.type = 22 ∧ n3.type = 22 ∧ n0.offset = 0 ∧ n1.offset = 1 ∧ n2.offset = 2 ∧ n3.offset = 3 := by
  have h : (Tryz.prog.fieldsOf 63).toList.map (fun f => (f.name, f.type, f.offset)) = [("a", 22, 0), ("b", 22, 1), ("c", 22, 2), ("d", 22, 3)] := by kernel_rfl
  have hlen : (Tryz.prog.fieldsOf 63).toList.length = 4 := by
    have := congrArg List.length h
    simpa using this
  obtain ⟨n0, n1, n2, n3, hl⟩ := list4s _ hlen
  rw [hl] at h ⊢
  simp only [List.map_cons, List.map_nil, List.cons.injEq, Prod.mk.injEq, and_true] at h
  obtain ⟨⟨a1, a2, a3⟩, ⟨b1, b2, b3⟩, ⟨c1, c2, c3⟩, ⟨d1, d2, d3⟩⟩ := h
  exact ⟨n0, n1, n2, n3, rfl, by rw [a1]; decide, by rw [b1]; decide, by rw [c1]; decide, by rw [d1]; decide, a2, b2, c2, d2, a3, b3, c3, d3⟩
theorem eqS_in (a0 a1 a2 a3 b0 b1 b2 b3 : Int) (w : World) :
    (Op.equalIn 10000 63 (.agg #[.int .u64 a0, .int .u64 a1, .int .u64 a2, .int .u64 a3]) (.agg #[.int .u64 b0, .int .u64 b1, .int .u64 b2, .int .u64 b3])).run Tryz.prog w =
      .ok (a0 == b0 && (a1 == b1 && (a2 == b2 && a3 == b3))) w := by
  obtain ⟨n0, n1, n2, n3, hl, m0, m1, m2, m3, t0, t1, t2, t3, o0, o1, o2, o3⟩ := fieldsF
  rw [run_equalIn_struct w 9999 _ _ _ (by kernel_rfl) (by kernel_rfl), hl]
  obtain ⟨p0, p1, p2, p3⟩ := part4_at a0 a1 a2 a3 w
  obtain ⟨q0, q1, q2, q3⟩ := part4_at b0 b1 b2 b3 w
  have hq : ∀ a b : Int, (Op.equalIn 9999 22 (.int .u64 a) (.int .u64 b)).run Tryz.prog w = .ok (a == b) w := fun a b => run_equalIn_int w 9998 22 .u64 .u64 a b Tryz.underlying22
  simp only [Op.eqFields, m0, m1, m2, m3, ne_eq, not_false_eq_true, if_true, t0, t1, t2, t3, o0, o1, o2, o3, Sem.run_bind, p0, q0, hq, Result.andThen_ok]
  cases h0 : (a0 == b0)
  · simp
  · simp only [Bool.not_true, Bool.false_eq_true, if_false, Sem.run_bind, p1, q1, hq, Result.andThen_ok, Bool.true_and]
    cases h1 : (a1 == b1)
    · simp
    · simp only [Bool.not_true, Bool.false_eq_true, if_false, Sem.run_bind, p2, q2, hq, Result.andThen_ok, Bool.true_and]
      cases h2 : (a2 == b2)
      · simp
      · simp only [Bool.not_true, Bool.false_eq_true, if_false, Sem.run_bind, p3, q3, hq, Result.andThen_ok, Bool.true_and]
        cases h3 : (a3 == b3) <;> simp
theorem eqlS0 (X : Nat) (hX : X < 115792089237316195423570985008687907853269984665640564039457584007913129639936) (w : World) : (binOp .eql 63 (.agg #[.int .u64 ((limb 0 (X) : Nat) : Int), .int .u64 ((limb 1 (X) : Nat) : Int), .int .u64 ((limb 2 (X) : Nat) : Int), .int .u64 ((limb 3 (X) : Nat) : Int)]) (.agg #[.int .u64 0, .int .u64 0, .int .u64 0, .int .u64 0])).run Tryz.prog w = .ok (.bool (decide (X = 0))) w := by
  have h := eq4N X 0 hX (by decide)
  rw [limb_zero, limb_zero, limb_zero, limb_zero] at h
  rw [run_eql_struct, eqS_in]
  simp only [Result.andThen]
  rw [← h]; rfl
theorem neqS0 (X : Nat) (hX : X < 115792089237316195423570985008687907853269984665640564039457584007913129639936) (w : World) : (binOp .neq 63 (.agg #[.int .u64 ((limb 0 (X) : Nat) : Int), .int .u64 ((limb 1 (X) : Nat) : Int), .int .u64 ((limb 2 (X) : Nat) : Int), .int .u64 ((limb 3 (X) : Nat) : Int)]) (.agg #[.int .u64 0, .int .u64 0, .int .u64 0, .int .u64 0])).run Tryz.prog w = .ok (.bool (!decide (X = 0))) w := by
  have h := eq4N X 0 hX (by decide)
  rw [limb_zero, limb_zero, limb_zero, limb_zero] at h
  rw [run_neq_struct, eqS_in]
  simp only [Result.andThen]
  rw [← h]; rfl
end Go.Proofs.YtaeembdabnomaaaGreatDoor
