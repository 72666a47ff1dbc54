import Derived.Test.YtdeijnlbencfdaaGreatDoorWKD
import Derived.Test.YtdeijnlbencfdaaGreatDoorWXI
import Derived.Test.YtdeijnlbencfdaaGreatDoorWXG
namespace Go.Proofs.YtdeijnlbencfdaaGreatDoor
open Go.RowKit
theorem pow_one' {m a e : Nat} (m' a' e' f : Nat) (hm : m = m') (ha : a = a') (hx : e = e') (he : e' < 2 ^ f) (h : pm m' a' f e' = 1) : powM m a e = 1 := by
 subst hm ha hx; unfold powM; rw [← pm_eq _ _ f _ he]; exact h
end Go.Proofs.YtdeijnlbencfdaaGreatDoor
