/- What field.inverse does: the walk. -/
import Derived.Test.YtimjgebiffemnaaDoorFC
import Derived.Deep.RegionWith
import Derived.BigRegion
namespace Go.Proofs.YtimjgebiffemnaaDoor
open Go.RowKit

theorem bAlloc2 (w : World) (o1 o2 : Obj) : Below w.heap.size w ((w.alloc o1).alloc o2) := ((Below.refl _ _).alloc (Nat.le_refl _) _).alloc (by simp) _
theorem limb_one : limb 0 1 = 1 ∧ limb 1 1 = 0 ∧ limb 2 1 = 0 ∧ limb 3 1 = 0 := by decide

end Go.Proofs.YtimjgebiffemnaaDoor
