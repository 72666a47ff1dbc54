/- Two arrays of four words are held against each other word by word. -/
import Derived.Test.YtaeembdabnomaaaGreatDoorProg
import Derived.WalkKit
import Derived.Laws.StructEq
import Derived.ChangeKeysEq
namespace Go.Proofs.YtaeembdabnomaaaGreatDoor
open Go.RowKit

theorem part4_at (a0 a1 a2 a3 : Int) (w : World) :
    (part 22 #[.int .u64 a0, .int .u64 a1, .int .u64 a2, .int .u64 a3] 0).run Tryz.prog w = .ok (.int .u64 a0) w ∧ (part 22 #[.int .u64 a0, .int .u64 a1, .int .u64 a2, .int .u64 a3] 1).run Tryz.prog w = .ok (.int .u64 a1) w ∧
    (part 22 #[.int .u64 a0, .int .u64 a1, .int .u64 a2, .int .u64 a3] 2).run Tryz.prog w = .ok (.int .u64 a2) w ∧ (part 22 #[.int .u64 a0, .int .u64 a1, .int .u64 a2, .int .u64 a3] 3).run Tryz.prog w = .ok (.int .u64 a3) w :=
  ⟨by kernel_rfl, by kernel_rfl, by kernel_rfl, by kernel_rfl⟩
theorem eq4_in (a0 a1 a2 a3 b0 b1 b2 b3 : Int) (w : World) :
    (Op.equalIn 10000 24 (.agg #[.int .u64 a0, .int .u64 a1, .int .u64 a2, .int .u64 a3]) (.agg #[.int .u64 b0, .int .u64 b1, .int .u64 b2, .int .u64 b3])).run Tryz.prog w =
      .ok (a0 == b0 && (a1 == b1 && (a2 == b2 && a3 == b3))) w := by
  have hs : (Tryz.prog.info? 22).isSome = true := by kernel_rfl
  obtain ⟨i, hi⟩ := Option.isSome_iff_exists.mp hs
  rw [run_equalIn_array w 9999 _ _ Tryz.underlying24 hi]
  have hc : Tryz.prog.cellsOf 22 = 1 := by kernel_rfl
  rw [hc, show List.range 4 = [0, 1, 2, 3] from rfl]
  obtain ⟨p0, p1, p2, p3⟩ := part4_at a0 a1 a2 a3 w
  obtain ⟨q0, q1, q2, q3⟩ := part4_at b0 b1 b2 b3 w
  have hq : ∀ a b : Int, (Op.equalIn 9999 22 (.int .u64 a) (.int .u64 b)).run Tryz.prog w = .ok (a == b) w := fun a b => run_equalIn_int w 9998 22 .u64 .u64 a b Tryz.underlying22
  simp only [Op.eqItems, Sem.run_bind, Nat.mul_one, p0, q0, hq, Result.andThen_ok]
  cases h0 : (a0 == b0)
  · simp
  · simp only [Bool.not_true, Bool.false_eq_true, if_false, Sem.run_bind, p1, q1, hq, Result.andThen_ok, Bool.true_and]
    cases h1 : (a1 == b1)
    · simp
    · simp only [Bool.not_true, Bool.false_eq_true, if_false, Sem.run_bind, p2, q2, hq, Result.andThen_ok, Bool.true_and]
      cases h2 : (a2 == b2)
      · simp
      · simp only [Bool.not_true, Bool.false_eq_true, if_false, Sem.run_bind, p3, q3, hq, Result.andThen_ok, Bool.true_and]
        cases h3 : (a3 == b3) <;> simp
theorem eql4 (a0 a1 a2 a3 b0 b1 b2 b3 : Int) (w : World) :
    (binOp .eql 24 (.agg #[.int .u64 a0, .int .u64 a1, .int .u64 a2, .int .u64 a3]) (.agg #[.int .u64 b0, .int .u64 b1, .int .u64 b2, .int .u64 b3])).run Tryz.prog w =
      .ok (.bool (a0 == b0 && (a1 == b1 && (a2 == b2 && a3 == b3)))) w := by
  rw [run_eql_struct, eq4_in]; rfl
theorem neq4 (a0 a1 a2 a3 b0 b1 b2 b3 : Int) (w : World) :
    (binOp .neq 24 (.agg #[.int .u64 a0, .int .u64 a1, .int .u64 a2, .int .u64 a3]) (.agg #[.int .u64 b0, .int .u64 b1, .int .u64 b2, .int .u64 b3])).run Tryz.prog w =
      .ok (.bool (!(a0 == b0 && (a1 == b1 && (a2 == b2 && a3 == b3))))) w := by
  rw [run_neq_struct, eq4_in]; rfl

end Go.Proofs.YtaeembdabnomaaaGreatDoor
