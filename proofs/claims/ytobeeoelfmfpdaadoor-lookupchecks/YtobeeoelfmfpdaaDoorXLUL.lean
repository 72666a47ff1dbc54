/- The reference's Permute. -/
import Derived.Test.YtobeeoelfmfpdaaDoorXLUK
namespace Go.Proofs.YtobeeoelfmfpdaaDoor
open Go.RowKit
theorem Es.congr {w : World} {v : Value} {n : Nat} {f g : Nat → Nat} (h : Es w v n f) (hg : ∀ i, i < n → g i = f i) : Es w v n g := by
  rcases h with h | ⟨b, o, c, hv, h1, h2, h3, h4⟩
  · exact Or.inl h
  · exact Or.inr ⟨b, o, c, hv, h1, h2, h3, fun i hi j hj => by rw [hg i hi]; exact h4 i hi j hj⟩
end Go.Proofs.YtobeeoelfmfpdaaDoor
