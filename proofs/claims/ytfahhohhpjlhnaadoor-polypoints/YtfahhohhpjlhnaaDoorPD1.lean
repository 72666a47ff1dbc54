/- poly: Divide. -/
import Derived.Test.YtfahhohhpjlhnaaDoorPB7
namespace Go.Proofs.YtfahhohhpjlhnaaDoor
open Go.RowKit
attribute [local go_sem] semAt_rd

/-- What is left when d of the quotient's Q coefficients are taken, from the last one on: g has k coefficients, sh is the inverse of its last one. -/
def drs (s : Nat) (f g : Nat → Nat) (k sh Q : Nat) : Nat → Nat → Nat
  | 0, t => f t
  | d + 1, t => if Q - (d + 1) ≤ t ∧ t < Q - (d + 1) + k then addP s (drs s f g k sh Q d t) (mulP s (subP s 0 (mulP s (drs s f g k sh Q d (Q - (d + 1) + (k - 1))) sh)) (g (t - (Q - (d + 1))))) else drs s f g k sh Q d t
/-- The quotient. -/
def dqt (s : Nat) (f g : Nat → Nat) (k sh Q i : Nat) : Nat := mulP s (drs s f g k sh Q (Q - (i + 1)) (i + (k - 1))) sh
theorem drs_M {s : Nat} {f g : Nat → Nat} {k sh Q N : Nat} (hf : ∀ i, i < N → f i < 115792089237316195423570985008687907853269984665640564039457584007913129639936) : ∀ d t, t < N → drs s f g k sh Q d t < 115792089237316195423570985008687907853269984665640564039457584007913129639936
  | 0, t, h => hf t h
  | d + 1, t, h => by unfold drs; split; exact addP_M _ _ _; exact drs_M hf d t h
theorem four_of {w : World} {b n i y : Nat} {f : Nat → Nat} (h : BlkE w b n f) (hi : i < n) (e : f i = y) : w.cell? ⟨b, i * 4, none⟩ = some (.int .u64 ((limb 0 y : Nat) : Int)) ∧ w.cell? ⟨b, i * 4 + 1, none⟩ = some (.int .u64 ((limb 1 y : Nat) : Int)) ∧ w.cell? ⟨b, i * 4 + 2, none⟩ = some (.int .u64 ((limb 2 y : Nat) : Int)) ∧ w.cell? ⟨b, i * 4 + 3, none⟩ = some (.int .u64 ((limb 3 y : Nat) : Int)) := by
  have q := h.cell i hi
  have q0 := q 0 (by decide); have q1 := q 1 (by decide); have q2 := q 2 (by decide); have q3 := q 3 (by decide)
  rw [e] at q0 q1 q2 q3
  rw [Nat.add_zero] at q0
  exact ⟨q0, q1, q2, q3⟩
/-- What Divide answers in the sorts. -/
def DivP (w w' : World) (s KA KB : Nat) (f g : Nat → Nat) (e : Ending) : Prop := ∃ sh G A, (sh < modN s ∧ sh * (addP s (g (KB - 1)) 0) % modN s = 1) ∧ e = .returned (.tuple #[.slice (some ⟨G, 0, none⟩) (KA + 1 - KB) (KA + 1 - KB), .slice (some ⟨A, 0, none⟩) (szE (fun a => addP s a 0) (drs s (fun i => addP s (f i) 0) (fun i => addP s (g i) 0) KB sh (KA + 1 - KB) (KA + 1 - KB)) KA) KA, .int .i64 0]) ∧ w.heap.size ≤ G ∧ w.heap.size ≤ A ∧ BlkE w' G (KA + 1 - KB) (dqt s (fun i => addP s (f i) 0) (fun i => addP s (g i) 0) KB sh (KA + 1 - KB)) ∧ BlkE w' A KA (drs s (fun i => addP s (f i) 0) (fun i => addP s (g i) 0) KB sh (KA + 1 - KB) (KA + 1 - KB))
theorem szE_last {el f : Nat → Nat} : ∀ {n : Nat}, szE el f n ≠ 0 → el (f (szE el f n - 1)) ≠ 0
  | 0, h => absurd rfl h
  | n + 1, h => by
    unfold szE at h ⊢
    by_cases c : el (f n) = 0
    · rw [if_pos c] at h ⊢; exact szE_last h
    · rw [if_neg c]; exact c
end Go.Proofs.YtfahhohhpjlhnaaDoor
