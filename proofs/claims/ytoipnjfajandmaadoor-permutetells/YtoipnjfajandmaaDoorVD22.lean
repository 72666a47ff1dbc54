/- append of one element; the reference's check, Points and Eval of layer 6. -/
import Derived.Test.YtoipnjfajandmaaDoorVX4
import Derived.Test.YtoipnjfajandmaaDoorVR1
import Derived.Test.YtoipnjfajandmaaDoorVFD
import Derived.Test.YtoipnjfajandmaaDoorVX2
import Derived.Deep.RegionWith
namespace Go.Proofs.YtoipnjfajandmaaDoor
open Go.RowKit
theorem Blk.grown {w w' : World} {t : TypeId} {b : Nat} {f : Nat → Nat} {row : Option Nat} (h : Blk w t b f) (hg : w.grownBy w' row) (hne : row ≠ some b) : Blk w' t b f := by
  have hl := h.lt
  unfold Blk at h ⊢
  rw [hg.block b hl (fun e => hne e.symm)]
  exact h
end Go.Proofs.YtoipnjfajandmaaDoor
