/- The reference: Cone. -/
import Derived.Test.YtgkfjpbgdhmhmaaGreatDoorUXLS
namespace Go.Proofs.YtgkfjpbgdhmhmaaGreatDoor
open Go.RowKit
theorem BlkR.keep {w w' : World} {t : TypeId} {b s n : Nat} {F : Nat → Nat → Value} (h : BlkR w t b s n F) (hb : w'.heap[b]? = w.heap[b]?) : BlkR w' t b s n F := by
 obtain ⟨c, h1, h2⟩ := h
 exact ⟨c, hb.trans h1, h2⟩
end Go.Proofs.YtgkfjpbgdhmhmaaGreatDoor
