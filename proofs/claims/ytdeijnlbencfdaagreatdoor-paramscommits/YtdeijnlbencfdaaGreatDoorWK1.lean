import Derived.Test.YtdeijnlbencfdaaGreatDoorWCC
import Derived.Test.YtdeijnlbencfdaaGreatDoorWXB
namespace Go.Proofs.YtdeijnlbencfdaaGreatDoor
open Go.RowKit
def Pt (w : World) (b x y : Nat) (i : Bool) : Prop := w.heap[b]? = some (.cells #[.int .u64 (limb 0 x), .int .u64 (limb 1 x), .int .u64 (limb 2 x), .int .u64 (limb 3 x), .int .u64 (limb 0 y), .int .u64 (limb 1 y), .int .u64 (limb 2 y), .int .u64 (limb 3 y), .bool i] 27)
section
variable {w w' : World} {b x y : Nat} {i : Bool}
theorem Pt.lt (h : Pt w b x y i) : b < w.heap.size := by
 rcases Nat.lt_or_ge b w.heap.size with hl | hl
 ·exact hl
 ·unfold Pt at h; rw [Array.getElem?_eq_none hl] at h; cases h
theorem Pt.cells (h : Pt w b x y i) : w.cell? ⟨b, 0, none⟩ = some (.int .u64 (limb 0 x)) ∧ w.cell? ⟨b, 1, none⟩ = some (.int .u64 (limb 1 x)) ∧ w.cell? ⟨b, 2, none⟩ = some (.int .u64 (limb 2 x)) ∧ w.cell? ⟨b, 3, none⟩ = some (.int .u64 (limb 3 x)) ∧ w.cell? ⟨b, 4, none⟩ = some (.int .u64 (limb 0 y)) ∧ w.cell? ⟨b, 5, none⟩ = some (.int .u64 (limb 1 y)) ∧ w.cell? ⟨b, 6, none⟩ = some (.int .u64 (limb 2 y)) ∧ w.cell? ⟨b, 7, none⟩ = some (.int .u64 (limb 3 y)) ∧ w.cell? ⟨b, 8, none⟩ = some (.bool i) ∧ ∀ o, w.frozen? ⟨b, o, none⟩ = false := by
 unfold Pt at h
 refine ⟨?_, ?_, ?_, ?_, ?_, ?_, ?_, ?_, ?_, ?_⟩ <;> simp [World.cell?, World.frozen?, h]
theorem Pt.below {m : Nat} (h : Pt w b x y i) (hb : Below m w w') (hm : b < m) : Pt w' b x y i := by unfold Pt; rw [hb.block b hm]; exact h
theorem Pt.belowAll (h : Pt w b x y i) (hb : Below w.heap.size w w') : Pt w' b x y i := h.below hb h.lt
theorem Pt.drew (h : Pt w b x y i) : Pt w.drew b x y i := h
theorem Pt.alloc (h : Pt w b x y i) (o : Obj) : Pt (w.alloc o) b x y i := h.belowAll ((Below.refl _ _).alloc (Nat.le_refl _) o)
theorem Pt.other (h : Pt w b x y i) {a : Addr} (ha : b ≠ a.block) (v : Value) : Pt (w.setCell a v) b x y i := by unfold Pt; rw [Below.heap_setCell w a v b ha]; exact h
end
theorem Pt.newAt (w : World) (b x y : Nat) (i : Bool) (hb : b = w.heap.size) : Pt (w.alloc (.cells #[.int .u64 (limb 0 x), .int .u64 (limb 1 x), .int .u64 (limb 2 x), .int .u64 (limb 3 x), .int .u64 (limb 0 y), .int .u64 (limb 1 y), .int .u64 (limb 2 y), .int .u64 (limb 3 y), .bool i] 27)) b x y i := by
 subst hb
 unfold Pt
 show (w.heap.push _)[w.heap.size]? = _
 simp
theorem eqE_in (d : Nat) (a0 a1 a2 a3 b0 b1 b2 b3 : Int) (w : World) :
  (Op.equalIn (d + 2) 25 (.agg #[.int .u64 a0, .int .u64 a1, .int .u64 a2, .int .u64 a3]) (.agg #[.int .u64 b0, .int .u64 b1, .int .u64 b2, .int .u64 b3])).run Tryz.prog w =
   .ok (a0 == b0 && (a1 == b1 && (a2 == b2 && a3 == b3))) w := by
 have hs : (Tryz.prog.info? 23).isSome = true := by kernel_rfl
 obtain ⟨i, hi⟩ := Option.isSome_iff_exists.mp hs
 rw [run_equalIn_array w (d + 1) _ _ Tryz.underlying25 hi]
 have hc : Tryz.prog.cellsOf 23 = 1 := by kernel_rfl
 rw [hc, show List.range 4 = [0, 1, 2, 3] from rfl]
 obtain ⟨p0, p1, p2, p3⟩ := part4_at a0 a1 a2 a3 w
 obtain ⟨q0, q1, q2, q3⟩ := part4_at b0 b1 b2 b3 w
 have hq : ∀ a b : Int, (Op.equalIn (d + 1) 23 (.int .u64 a) (.int .u64 b)).run Tryz.prog w = .ok (a == b) w := fun a b => run_equalIn_int w d 23 .u64 .u64 a b Tryz.underlying23
 simp only [Op.eqItems, Sem.run_bind, Nat.mul_one, p0, q0, hq, Result.andThen_ok]
 cases h0 : (a0 == b0)
 ·simp
 ·simp only [Bool.not_true, Bool.false_eq_true, if_false, Sem.run_bind, p1, q1, hq, Result.andThen_ok, Bool.true_and]
  cases h1 : (a1 == b1)
  ·simp
  ·simp only [Bool.not_true, Bool.false_eq_true, if_false, Sem.run_bind, p2, q2, hq, Result.andThen_ok, Bool.true_and]
   cases h2 : (a2 == b2)
   ·simp
   ·simp only [Bool.not_true, Bool.false_eq_true, if_false, Sem.run_bind, p3, q3, hq, Result.andThen_ok, Bool.true_and]
    cases h3 : (a3 == b3) <;> simp
theorem list3s {α : Type} (l : List α) (h : l.length = 3) : ∃ a b c, l = [a, b, c] := by
 match l, h with
 | [a, b, c], _ => exact ⟨a, b, c, rfl⟩
theorem fieldsPt : ∃ n0 n1 n2 : Field, (Tryz.prog.fieldsOf 27).toList = [n0, n1, n2] ∧ n0.name ≠ "_" ∧ n1.name ≠ "_" ∧ n2.name ≠ "_" ∧ n0.type = 25 ∧ n1.type = 25 ∧ n2.type = 4 ∧ n0.offset = 0 ∧ n1.offset = 4 ∧ n2.offset = 8 := by
 have h : (Tryz.prog.fieldsOf 27).toList.map (fun f => (f.name, f.type, f.offset)) = [("X", 25, 0), ("Y", 25, 4), ("Inf", 4, 8)] := by kernel_rfl
 have hlen : (Tryz.prog.fieldsOf 27).toList.length = 3 := by
  have := congrArg List.length h
  simpa using this
 obtain ⟨n0, n1, n2, hl⟩ := list3s _ hlen
 rw [hl] at h ⊢
 simp only [List.map_cons, List.map_nil, List.cons.injEq, Prod.mk.injEq, and_true] at h
 obtain ⟨⟨a1, a2, a3⟩, ⟨b1, b2, b3⟩, ⟨c1, c2, c3⟩⟩ := h
 exact ⟨n0, n1, n2, rfl, by rw [a1]; decide, by rw [b1]; decide, by rw [c1]; decide, a2, b2, c2, a3, b3, c3⟩
theorem part9_at (a0 a1 a2 a3 c0 c1 c2 c3 : Int) (i : Bool) (w : World) :
  (part 25 #[.int .u64 a0, .int .u64 a1, .int .u64 a2, .int .u64 a3, .int .u64 c0, .int .u64 c1, .int .u64 c2, .int .u64 c3, .bool i] 0).run Tryz.prog w = .ok (.agg #[.int .u64 a0, .int .u64 a1, .int .u64 a2, .int .u64 a3]) w ∧
  (part 25 #[.int .u64 a0, .int .u64 a1, .int .u64 a2, .int .u64 a3, .int .u64 c0, .int .u64 c1, .int .u64 c2, .int .u64 c3, .bool i] 4).run Tryz.prog w = .ok (.agg #[.int .u64 c0, .int .u64 c1, .int .u64 c2, .int .u64 c3]) w ∧
  (part 4 #[.int .u64 a0, .int .u64 a1, .int .u64 a2, .int .u64 a3, .int .u64 c0, .int .u64 c1, .int .u64 c2, .int .u64 c3, .bool i] 8).run Tryz.prog w = .ok (.bool i) w :=
 ⟨by kernel_rfl, by kernel_rfl, by kernel_rfl⟩
theorem eqP_in (x y u v : Nat) (i j : Bool) (hx : x < 115792089237316195423570985008687907853269984665640564039457584007913129639936) (hy : y < 115792089237316195423570985008687907853269984665640564039457584007913129639936) (hu : u < 115792089237316195423570985008687907853269984665640564039457584007913129639936) (hv : v < 115792089237316195423570985008687907853269984665640564039457584007913129639936) (w : World) :
  (Op.equalIn 10000 27 (.agg #[.int .u64 (limb 0 x), .int .u64 (limb 1 x), .int .u64 (limb 2 x), .int .u64 (limb 3 x), .int .u64 (limb 0 y), .int .u64 (limb 1 y), .int .u64 (limb 2 y), .int .u64 (limb 3 y), .bool i]) (.agg #[.int .u64 (limb 0 u), .int .u64 (limb 1 u), .int .u64 (limb 2 u), .int .u64 (limb 3 u), .int .u64 (limb 0 v), .int .u64 (limb 1 v), .int .u64 (limb 2 v), .int .u64 (limb 3 v), .bool j])).run Tryz.prog w = .ok (decide (x = u ∧ y = v ∧ i = j)) w := by
 obtain ⟨n0, n1, n2, hl, m0, m1, m2, t0, t1, t2, o0, o1, o2⟩ := fieldsPt
 rw [run_equalIn_struct w 9999 _ _ _ (by kernel_rfl) (by kernel_rfl), hl]
 obtain ⟨p0, p1, p2⟩ := part9_at (limb 0 x : Nat) (limb 1 x : Nat) (limb 2 x : Nat) (limb 3 x : Nat) (limb 0 y : Nat) (limb 1 y : Nat) (limb 2 y : Nat) (limb 3 y : Nat) i w
 obtain ⟨q0, q1, q2⟩ := part9_at (limb 0 u : Nat) (limb 1 u : Nat) (limb 2 u : Nat) (limb 3 u : Nat) (limb 0 v : Nat) (limb 1 v : Nat) (limb 2 v : Nat) (limb 3 v : Nat) j w
 have e1 := eq4N x u hx hu
 have e2 := eq4N y v hy hv
 have hq := eqE_in 9997
 have hb : (Op.equalIn 9999 4 (.bool i) (.bool j)).run Tryz.prog w = .ok (i == j) w := run_equalIn_bool w 9998 4 i j Tryz.underlying4
 simp only [Op.eqFields, m0, m1, m2, ne_eq, not_false_eq_true, if_true, t0, t1, t2, o0, o1, o2, Sem.run_bind, p0, q0, hq, e1, Result.andThen_ok]
 by_cases h0 : x = u
 ·have d0 : decide (x = u) = true := by simp [h0]
  simp only [d0, Bool.not_true, Bool.false_eq_true, if_false, Sem.run_bind, p1, q1, hq, e2, Result.andThen_ok]
  by_cases h1 : y = v
  ·have d1 : decide (y = v) = true := by simp [h1]
   simp only [d1, Bool.not_true, Bool.false_eq_true, if_false, Sem.run_bind, p2, q2, hb, Result.andThen_ok]
   cases i <;> cases j <;> simp [h0, h1]
  ·simp [h1]
 ·simp [h0]
theorem eqlP (x y u v : Nat) (i j : Bool) (hx : x < 115792089237316195423570985008687907853269984665640564039457584007913129639936) (hy : y < 115792089237316195423570985008687907853269984665640564039457584007913129639936) (hu : u < 115792089237316195423570985008687907853269984665640564039457584007913129639936) (hv : v < 115792089237316195423570985008687907853269984665640564039457584007913129639936) (w : World) :
  (binOp .eql 27 (.agg #[.int .u64 (limb 0 x), .int .u64 (limb 1 x), .int .u64 (limb 2 x), .int .u64 (limb 3 x), .int .u64 (limb 0 y), .int .u64 (limb 1 y), .int .u64 (limb 2 y), .int .u64 (limb 3 y), .bool i]) (.agg #[.int .u64 (limb 0 u), .int .u64 (limb 1 u), .int .u64 (limb 2 u), .int .u64 (limb 3 u), .int .u64 (limb 0 v), .int .u64 (limb 1 v), .int .u64 (limb 2 v), .int .u64 (limb 3 v), .bool j])).run Tryz.prog w = .ok (.bool (decide (x = u ∧ y = v ∧ i = j))) w := by
 rw [run_eql_struct, eqP_in x y u v i j hx hy hu hv]; rfl
theorem zeroElem : (.agg #[.int .u64 (limb 0 0), .int .u64 (limb 1 0), .int .u64 (limb 2 0), .int .u64 (limb 3 0)] : Value) = .agg #[.int .u64 0, .int .u64 0, .int .u64 0, .int .u64 0] := by
 rw [limb_zero, limb_zero, limb_zero, limb_zero]; rfl
end Go.Proofs.YtdeijnlbencfdaaGreatDoor
