/- The second reference's Inv. -/
import Derived.Test.YtapeambnmjiehaaGreatDoorVH5
import Derived.Test.YtapeambnmjiehaaGreatDoorVKD
import Derived.Test.YtapeambnmjiehaaGreatDoorVK7
namespace Go.Proofs.YtapeambnmjiehaaGreatDoor
open Go.RowKit
def invU (m a : Nat) : Nat := powM m a (m - 2)
theorem inv_unique {m a x : Nat} (hp : IsPrime m) (hx : x < m) (h : x * (a % m) % m = 1) : x = invU m a := by
 have h2 := hp.1
 have ha : a % m ≠ 0 := by intro hz; rw [hz, Nat.mul_zero, Nat.zero_mod] at h; cases h
 have h1 : powM m a (m - 2) * a % m = 1 := by
  rw [powM_more, show m - 2 + 1 = m - 1 from by omega]
  exact fermat_one hp ha
 have l := powM_lt m a (m - 2) (show 0 < m by omega)
 unfold invU
 generalize powM m a (m - 2) = p at h1 l ⊢
 rw [Nat.mul_mod_mod] at h
 have e1 : x * (p * a) % m = x := by rw [← Nat.mul_mod_mod, h1, Nat.mul_one, Nat.mod_eq_of_lt hx]
 have e2 : x * (p * a) % m = p := by
  rw [Nat.mul_left_comm, ← Nat.mul_mod_mod, h, Nat.mul_one, Nat.mod_eq_of_lt l]
 rw [← e1, e2]
theorem invU_lt (m a : Nat) (h : 0 < m) : invU m a < m := powM_lt _ _ _ h
end Go.Proofs.YtapeambnmjiehaaGreatDoor
/- What the second reference's By and the reference's Neg do. -/
namespace Go.Proofs.YtapeambnmjiehaaGreatDoor
open Go.RowKit
theorem invC_U (c a : Nat) (h : a % modN c ≠ 0) : invC c a = invU (modN c) a := by
 have hp := modN_prime c
 have h2 := hp.1
 refine invC_spec c a _ (invU_lt _ _ (modN_pos c)) ?_
 unfold invU
 rw [Nat.mul_mod_mod, powM_more, show modN c - 2 + 1 = modN c - 1 from by omega]
 exact fermat_one hp h
end Go.Proofs.YtapeambnmjiehaaGreatDoor
