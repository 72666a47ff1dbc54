/- What the second reference's Inv and Invert do. -/
import Derived.Test.YtoipnjfajandmaaDoorVXL
import Derived.Test.YtoipnjfajandmaaDoorVFD
import Derived.Test.YtoipnjfajandmaaDoorVX2
import Derived.Deep.RegionWith
namespace Go.Proofs.YtoipnjfajandmaaDoor
open Go.RowKit
theorem ownsRow_below {w w' : World} {base : Nat} {e : TypeId} {size : Nat} {v : Value} {n : Nat} {xs : List Value} (h : w.ownsRow base e size v n xs) (hb : Below w.heap.size w w') : w'.ownsRow base e size v n xs := by
  obtain ⟨h1, h2⟩ := h
  refine ⟨h1, ?_⟩
  rcases h2 with h2 | ⟨g, cap, cur, h3, h4, h5, h6⟩
  · exact Or.inl h2
  · refine Or.inr ⟨g, cap, cur, h3, h4, ?_, h6⟩
    have hgl : g < w.heap.size := by
      rcases Nat.lt_or_ge g w.heap.size with hl | hl
      · exact hl
      · rw [Array.getElem?_eq_none hl] at h5; cases h5
    rw [hb.block g hgl]; exact h5
end Go.Proofs.YtoipnjfajandmaaDoor
