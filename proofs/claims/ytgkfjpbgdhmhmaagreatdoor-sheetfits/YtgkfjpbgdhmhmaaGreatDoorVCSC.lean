import Derived.Test.YtgkfjpbgdhmhmaaGreatDoorVCSB
import Derived.Test.YtgkfjpbgdhmhmaaGreatDoorVLF
namespace Go.Proofs.YtgkfjpbgdhmhmaaGreatDoor
open Go.RowKit
theorem bkN_le (T : Nat -> Int × Int × Int × Nat) (root : Nat) (b : Int) : ∀ i, bkN T root i <= b ↔ (0 <= b /\ ∀ j, j < i -> isQ (cnT T root j).1 = true -> -(cnT T root j).2.2.1 <= b)
 | 0 => ⟨fun h => ⟨h, fun j hj => by omega⟩, fun h => h.1⟩
 | i + 1 => by
  have ih := bkN_le T root b i
  show (if isQ (cnT T root i).1 = true then max (bkN T root i) (-(cnT T root i).2.2.1) else bkN T root i) <= b ↔ _
  by_cases hq : isQ (cnT T root i).1 = true
  ·rw [if_pos hq, Int.max_le, ih]
   constructor
   ·rintro ⟨⟨h1, h2⟩, h3⟩
    refine ⟨h1, fun j hj => ?_⟩
    rcases Nat.lt_or_ge j i with h | h
    ·exact h2 j h
    ·rw [show j = i by omega]; exact fun _ => h3
   ·rintro ⟨h1, h2⟩
    exact ⟨⟨h1, fun j hj => h2 j (by omega)⟩, h2 i (by omega) hq⟩
  ·rw [if_neg hq, ih]
   constructor
   ·rintro ⟨h1, h2⟩
    refine ⟨h1, fun j hj => ?_⟩
    rcases Nat.lt_or_ge j i with h | h
    ·exact h2 j h
    ·rw [show j = i by omega]; exact fun h => absurd h hq
   ·rintro ⟨h1, h2⟩
    exact ⟨h1, fun j hj => h2 j (by omega)⟩
theorem fwN_le (T : Nat -> Int × Int × Int × Nat) (root : Nat) (b : Int) : ∀ i, fwN T root i <= b ↔ (0 <= b /\ ∀ j, j < i -> isQ (cnT T root j).1 = true -> (cnT T root j).2.2.1 <= b)
 | 0 => ⟨fun h => ⟨h, fun j hj => by omega⟩, fun h => h.1⟩
 | i + 1 => by
  have ih := fwN_le T root b i
  show (if isQ (cnT T root i).1 = true then max (fwN T root i) (cnT T root i).2.2.1 else fwN T root i) <= b ↔ _
  by_cases hq : isQ (cnT T root i).1 = true
  ·rw [if_pos hq, Int.max_le, ih]
   constructor
   ·rintro ⟨⟨h1, h2⟩, h3⟩
    refine ⟨h1, fun j hj => ?_⟩
    rcases Nat.lt_or_ge j i with h | h
    ·exact h2 j h
    ·rw [show j = i by omega]; exact fun _ => h3
   ·rintro ⟨h1, h2⟩
    exact ⟨⟨h1, fun j hj => h2 j (by omega)⟩, h2 i (by omega) hq⟩
  ·rw [if_neg hq, ih]
   constructor
   ·rintro ⟨h1, h2⟩
    refine ⟨h1, fun j hj => ?_⟩
    rcases Nat.lt_or_ge j i with h | h
    ·exact h2 j h
    ·rw [show j = i by omega]; exact fun h => absurd h hq
   ·rintro ⟨h1, h2⟩
    exact ⟨h1, fun j hj => h2 j (by omega)⟩
end Go.Proofs.YtgkfjpbgdhmhmaaGreatDoor
