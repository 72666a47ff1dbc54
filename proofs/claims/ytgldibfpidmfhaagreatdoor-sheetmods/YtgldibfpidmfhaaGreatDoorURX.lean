/- What sheet needs of the texts on circuits. -/
import Derived.Test.YtgldibfpidmfhaaGreatDoorULF
import Derived.Test.YtgldibfpidmfhaaGreatDoorUCQ2
import Derived.Test.YtgldibfpidmfhaaGreatDoorUXV4
namespace Go.Proofs.YtgldibfpidmfhaaGreatDoor
open Go.RowKit
open Go.Maps
def memB (n : Nat) (Q : Nat → Int × Int × Int) (q : Int × Int × Int) : Bool := decide (∃ i, i < n ∧ Q i = q)
end Go.Proofs.YtgldibfpidmfhaaGreatDoor

/- The reference: at, Queries. -/
namespace Go.Proofs.YtgldibfpidmfhaaGreatDoor
open Go.RowKit
/-- What the list of queries holds is what was seen. -/
theorem mem_seen (T : Nat → Int × Int × Int × Nat) : ∀ k q, (∃ i, i < qN T k ∧ qF T k i = q) ↔ (∃ j, j < k ∧ isQ (T j).1 = true ∧ qOf (T j) = q)
  | 0, q => ⟨fun ⟨i, hi, _⟩ => absurd hi (Nat.not_lt_zero i), fun ⟨j, hj, _⟩ => absurd hj (Nat.not_lt_zero j)⟩
  | k + 1, q => by
    have ih := mem_seen T k
    by_cases h : nwQ T k = true
    · have h1 : isQ (T k).1 = true := by unfold nwQ at h; rw [Bool.and_eq_true] at h; exact h.1
      have e1 : qN T (k + 1) = qN T k + 1 := if_pos h
      rw [e1]
      constructor
      · rintro ⟨i, hi, he⟩
        by_cases h2 : i = qN T k
        · rw [show qF T (k + 1) i = qOf (T k) from if_pos ⟨h, h2⟩] at he
          exact ⟨k, by omega, h1, he⟩
        · rw [show qF T (k + 1) i = qF T k i from if_neg (fun a => h2 a.2)] at he
          obtain ⟨j, hj, a, b⟩ := (ih q).1 ⟨i, by omega, he⟩
          exact ⟨j, by omega, a, b⟩
      · rintro ⟨j, hj, a, b⟩
        by_cases h2 : j = k
        · rw [h2] at b
          exact ⟨qN T k, by omega, by rw [show qF T (k + 1) (qN T k) = qOf (T k) from if_pos ⟨h, rfl⟩]; exact b⟩
        · obtain ⟨i, hi, he⟩ := (ih q).2 ⟨j, by omega, a, b⟩
          exact ⟨i, by omega, by rw [show qF T (k + 1) i = qF T k i from if_neg (fun c => by omega)]; exact he⟩
    · have h0 : nwQ T k = false := by simpa using h
      have e1 := list_keep h0
      rw [e1.1]
      constructor
      · rintro ⟨i, hi, he⟩
        rw [e1.2] at he
        obtain ⟨j, hj, a, b⟩ := (ih q).1 ⟨i, hi, he⟩
        exact ⟨j, by omega, a, b⟩
      · rintro ⟨j, hj, a, b⟩
        by_cases h2 : j = k
        · rw [h2] at a b
          unfold nwQ at h0
          rw [a, Bool.true_and] at h0
          have h3 : seen T k (qOf (T k)) = true := by simpa using h0
          have h4 := of_decide_eq_true h3
          rw [b] at h4
          obtain ⟨i, hi, he⟩ := (ih q).2 h4
          exact ⟨i, hi, by rw [e1.2]; exact he⟩
        · obtain ⟨i, hi, he⟩ := (ih q).2 ⟨j, by omega, a, b⟩
          exact ⟨i, hi, by rw [e1.2]; exact he⟩
theorem mem_seenB (T : Nat → Int × Int × Int × Nat) (k : Nat) (q : Int × Int × Int) : memB (qN T k) (qF T k) q = seen T k q := decide_eq_decide.mpr (mem_seen T k q)
end Go.Proofs.YtgldibfpidmfhaaGreatDoor

/- Cones: what a node hangs on. No walk. -/
namespace Go.Proofs.YtgldibfpidmfhaaGreatDoor
open Go.RowKit
section
variable {T : Nat → Int × Int × Int × Nat} {root : Nat}
end
/-- A query that is among the listed ones has a number. -/
theorem fsM_some (Q : Nat → Int × Int × Int) (A : Nat → Nat) (q : Int × Int × Int) : ∀ k, (∃ j, j < k ∧ Q j = q) → (fsM Q A k q).isSome = true
  | 0, ⟨j, h, _⟩ => absurd h (Nat.not_lt_zero _)
  | k + 1, ⟨j, h, e⟩ => by
    show ((if (fsM Q A k q).isSome = true then fsM Q A k q else if Q k = q then some (A k) else none) : Option Nat).isSome = true
    by_cases h1 : (fsM Q A k q).isSome = true
    · rw [if_pos h1]; exact h1
    · rw [if_neg h1]
      have hj : j = k := by
        rcases Nat.lt_or_ge j k with h2 | h2
        · exact absurd (fsM_some Q A q k ⟨j, h2, e⟩) h1
        · omega
      rw [← hj, if_pos e]
      rfl
theorem okV_all (n : Nat) (T : Nat → Int × Int × Int × Nat) (A : Nat → Nat) : okV n T (fsM (qF T n) A (qN T n)) = true := by
  refine decide_eq_true (fun i hi hq => fsM_some _ _ _ _ ?_)
  have h : seen T n (qOf (T i)) = true := decide_eq_true ⟨i, hi, hq, rfl⟩
  rw [← mem_seenB] at h
  exact of_decide_eq_true h
end Go.Proofs.YtgldibfpidmfhaaGreatDoor

