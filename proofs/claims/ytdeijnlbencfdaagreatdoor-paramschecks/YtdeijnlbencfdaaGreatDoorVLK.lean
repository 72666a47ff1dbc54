/- The second reference's Inv. -/
import Derived.Test.YtdeijnlbencfdaaGreatDoorVH5
import Derived.Test.YtdeijnlbencfdaaGreatDoorVKD
import Derived.Test.YtdeijnlbencfdaaGreatDoorVK7
namespace Go.Proofs.YtdeijnlbencfdaaGreatDoor
open Go.RowKit
def invU (m a : Nat) : Nat := powM m a (m - 2)
theorem invU_lt (m a : Nat) (h : 0 < m) : invU m a < m := powM_lt _ _ _ h
end Go.Proofs.YtdeijnlbencfdaaGreatDoor
/- What the second reference's By and the reference's Neg do. -/
namespace Go.Proofs.YtdeijnlbencfdaaGreatDoor
open Go.RowKit
theorem invC_U (c a : Nat) (h : a % modN c ≠ 0) : invC c a = invU (modN c) a := by
 have hp := modN_prime c
 have h2 := hp.1
 refine invC_spec c a _ (invU_lt _ _ (modN_pos c)) ?_
 unfold invU
 rw [Nat.mul_mod_mod, powM_more, show modN c - 2 + 1 = modN c - 1 from by omega]
 exact fermat_one hp h
end Go.Proofs.YtdeijnlbencfdaaGreatDoor
