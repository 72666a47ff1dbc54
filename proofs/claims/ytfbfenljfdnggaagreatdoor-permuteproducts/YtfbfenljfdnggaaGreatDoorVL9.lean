/- What SpareElems does. -/
import Derived.Test.YtfbfenljfdnggaaGreatDoorVWL
import Derived.Test.YtfbfenljfdnggaaGreatDoorVFB
namespace Go.Proofs.YtfbfenljfdnggaaGreatDoor
open Go.RowKit
/-- n elements of f, then marks. -/
def spE (f : Nat → Nat) (n i : Nat) : Nat := if i < n then f i else 901 + (i - n)
/-- A block that SpareElems has made. -/
def FullE (w : World) (g n c : Nat) (f : Nat → Nat) : Prop := n + 4 ≤ c ∧ c ≤ maxLen ∧ g < w.heap.size ∧ ∀ i, i < n + 4 → ∀ j, j < 4 → w.cell? ⟨g, i * 4 + j, none⟩ = some (.int .u64 ((limb j (spE f n i) : Nat) : Int))
section
variable {w w' : World} {g n c : Nat} {f : Nat → Nat}
theorem FullE.belowAll (h : FullE w g n c f) (hb : Below w.heap.size w w') : FullE w' g n c f :=
  ⟨h.1, h.2.1, Nat.lt_of_lt_of_le h.2.2.1 hb.size, fun i hi j hj => by rw [hb.cell (p := ⟨g, i * 4 + j, none⟩) h.2.2.1]; exact h.2.2.2 i hi j hj⟩
theorem FullE.part (h : FullE w g n c f) : Es w (.slice (some ⟨g, 0, none⟩) n c) n f :=
  Or.inr ⟨g, 0, c, rfl, by have := h.1; omega, h.2.1, h.2.2.1, fun i hi j hj => by rw [Nat.zero_add, h.2.2.2 i (by omega) j hj]; unfold spE; rw [if_pos hi]⟩
theorem FullE.all (h : FullE w g n c f) : Es w (.slice (some ⟨g, 0, none⟩) (n + 4) c) (n + 4) (spE f n) :=
  Or.inr ⟨g, 0, c, rfl, h.1, h.2.1, h.2.2.1, fun i hi j hj => by rw [Nat.zero_add]; exact h.2.2.2 i hi j hj⟩
end
end Go.Proofs.YtfbfenljfdnggaaGreatDoor
