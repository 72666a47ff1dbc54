/- The reference: Cone. -/
import Derived.Test.YtgldibfpidmfhaaGreatDoorURX
import Derived.Test.YtgldibfpidmfhaaGreatDoorULF
namespace Go.Proofs.YtgldibfpidmfhaaGreatDoor
open Go.RowKit
theorem BlkR.keep {w w' : World} {t : TypeId} {b s n : Nat} {F : Nat → Nat → Value} (h : BlkR w t b s n F) (hb : w'.heap[b]? = w.heap[b]?) : BlkR w' t b s n F := by
  obtain ⟨c, h1, h2⟩ := h
  exact ⟨c, hb.trans h1, h2⟩
end Go.Proofs.YtgldibfpidmfhaaGreatDoor

/- The reference: Check of a circuit. -/
namespace Go.Proofs.YtgldibfpidmfhaaGreatDoor
open Go.RowKit
theorem lks_true {n : Nat} {T : Nat → Int × Int × Int × Nat} {l : Nat} {ni nt : Nat → Nat} {In Tb : Nat → Nat → Int} (h : lksB n T l ni nt In Tb = true) : ∀ i, i < l → nt i = ni i ∧ (1 ≤ ni i ∧ ni i ≤ 4) ∧ ∀ j, j < ni i → (0 ≤ In i j ∧ In i j < (n : Int)) ∧ 0 ≤ Tb i j ∧ Tb i j < (n : Int) := by
  intro i hi
  unfold lksB at h
  rw [Bool.and_eq_true] at h
  have h1 : lk1B n T (ni i) (nt i) (In i) (Tb i) = true := evB_true h.2 i hi
  unfold lk1B at h1
  rw [Bool.and_eq_true, Bool.and_eq_true] at h1
  have h2 := of_decide_eq_true h1.1
  have fp : ∀ p, flB n T p = true → 0 ≤ p ∧ p < (n : Int) := fun p hp => by unfold flB at hp; rw [Bool.and_eq_true] at hp; exact of_decide_eq_true hp.1
  exact ⟨h2.2.2, ⟨h2.1, h2.2.1⟩, fun j hj => ⟨fp _ (evB_true h1.2.1 j hj), fp _ (evB_true h1.2.2 j (by omega))⟩⟩
end Go.Proofs.YtgldibfpidmfhaaGreatDoor

/- The reference: Rows. -/
namespace Go.Proofs.YtgldibfpidmfhaaGreatDoor
open Go.RowKit
theorem bkN_le (T : Nat → Int × Int × Int × Nat) (root : Nat) (b : Int) : ∀ i, bkN T root i ≤ b ↔ (0 ≤ b ∧ ∀ j, j < i → isQ (cnT T root j).1 = true → -(cnT T root j).2.2.1 ≤ b)
  | 0 => ⟨fun h => ⟨h, fun j hj => by omega⟩, fun h => h.1⟩
  | i + 1 => by
    have ih := bkN_le T root b i
    show (if isQ (cnT T root i).1 = true then max (bkN T root i) (-(cnT T root i).2.2.1) else bkN T root i) ≤ b ↔ _
    by_cases hq : isQ (cnT T root i).1 = true
    · rw [if_pos hq, Int.max_le, ih]
      constructor
      · rintro ⟨⟨h1, h2⟩, h3⟩
        refine ⟨h1, fun j hj => ?_⟩
        rcases Nat.lt_or_ge j i with h | h
        · exact h2 j h
        · rw [show j = i by omega]; exact fun _ => h3
      · rintro ⟨h1, h2⟩
        exact ⟨⟨h1, fun j hj => h2 j (by omega)⟩, h2 i (by omega) hq⟩
    · rw [if_neg hq, ih]
      constructor
      · rintro ⟨h1, h2⟩
        refine ⟨h1, fun j hj => ?_⟩
        rcases Nat.lt_or_ge j i with h | h
        · exact h2 j h
        · rw [show j = i by omega]; exact fun h => absurd h hq
      · rintro ⟨h1, h2⟩
        exact ⟨h1, fun j hj => h2 j (by omega)⟩
theorem fwN_le (T : Nat → Int × Int × Int × Nat) (root : Nat) (b : Int) : ∀ i, fwN T root i ≤ b ↔ (0 ≤ b ∧ ∀ j, j < i → isQ (cnT T root j).1 = true → (cnT T root j).2.2.1 ≤ b)
  | 0 => ⟨fun h => ⟨h, fun j hj => by omega⟩, fun h => h.1⟩
  | i + 1 => by
    have ih := fwN_le T root b i
    show (if isQ (cnT T root i).1 = true then max (fwN T root i) (cnT T root i).2.2.1 else fwN T root i) ≤ b ↔ _
    by_cases hq : isQ (cnT T root i).1 = true
    · rw [if_pos hq, Int.max_le, ih]
      constructor
      · rintro ⟨⟨h1, h2⟩, h3⟩
        refine ⟨h1, fun j hj => ?_⟩
        rcases Nat.lt_or_ge j i with h | h
        · exact h2 j h
        · rw [show j = i by omega]; exact fun _ => h3
      · rintro ⟨h1, h2⟩
        exact ⟨⟨h1, fun j hj => h2 j (by omega)⟩, h2 i (by omega) hq⟩
    · rw [if_neg hq, ih]
      constructor
      · rintro ⟨h1, h2⟩
        refine ⟨h1, fun j hj => ?_⟩
        rcases Nat.lt_or_ge j i with h | h
        · exact h2 j h
        · rw [show j = i by omega]; exact fun h => absurd h hq
      · rintro ⟨h1, h2⟩
        exact ⟨h1, fun j hj => h2 j (by omega)⟩
end Go.Proofs.YtgldibfpidmfhaaGreatDoor

