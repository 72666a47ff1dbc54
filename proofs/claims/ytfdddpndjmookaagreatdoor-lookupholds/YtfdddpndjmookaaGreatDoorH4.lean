/- What the second reference's Mul and Exp do. -/
import Derived.Test.YtfdddpndjmookaaGreatDoorFD
import Derived.Test.YtfdddpndjmookaaGreatDoorGC
import Derived.Deep.RegionWith
namespace Go.Proofs.YtfdddpndjmookaaGreatDoor
open Go.RowKit

theorem mul_fits (x y : Nat) (hx : x < 4294967296) (hy : y < 4294967296) : IntKind.u64.wrap ((x : Int) * (y : Int)) = ((x * y : Nat) : Int) := by
  have h : x * y < 4294967296 * 4294967296 := Nat.lt_of_le_of_lt (Nat.mul_le_mul_right y (Nat.le_of_lt hx)) ((Nat.mul_lt_mul_left (by decide)).2 hy)
  have e : (x : Int) * (y : Int) = ((x * y : Nat) : Int) := by simp
  rw [e, IntKind.wrap_u64]
  generalize x * y = t at *
  omega
/-- x times what is left of y without its k lowest bits, by m. -/
def mulS (m x y k : Nat) : Nat := x * (y / 2 ^ k) % m
theorem mulS_lt (m x y k : Nat) (h : 0 < m) : mulS m x y k < m := Nat.mod_lt _ h
theorem mulS_top (m x y : Nat) (hy : y < 115792089237316195423570985008687907853269984665640564039457584007913129639936) : mulS m x y 256 = 0 := by
  unfold mulS; rw [Nat.div_eq_of_lt (show y < 2 ^ 256 by exact hy), Nat.mul_zero, Nat.zero_mod]
theorem mulS_zero (m x y : Nat) : mulS m x y 0 = x * y % m := by unfold mulS; rw [Nat.pow_zero, Nat.div_one]
/-- Once more or not, for what is below twice m. -/
def onceM (m t : Nat) : Nat := if t < m then t else t - m
theorem onceM_eq (m t : Nat) (h : t < 2 * m) : onceM m t = t % m := by
  unfold onceM
  split
  · rw [Nat.mod_eq_of_lt (by assumption)]
  · rw [Nat.mod_eq_sub_mod (by omega), Nat.mod_eq_of_lt (by omega)]
theorem mulS_step (m x y k : Nat) (h0 : 0 < m) (hx : x < m) : (bitN y k = 0 → onceM m (mulS m x y (k + 1) + mulS m x y (k + 1)) = mulS m x y k) ∧ (bitN y k = 1 → onceM m (onceM m (mulS m x y (k + 1) + mulS m x y (k + 1)) + x) = mulS m x y k) := by
  have lo := mulS_lt m x y (k + 1) h0
  have e1 : onceM m (mulS m x y (k + 1) + mulS m x y (k + 1)) = x * (2 * (y / 2 ^ (k + 1))) % m := by
    rw [onceM_eq m _ (by omega)]
    unfold mulS
    rw [← Nat.add_mod]
    congr 1
    rw [Nat.mul_comm 2, ← Nat.mul_assoc]
    omega
  have l2 : onceM m (mulS m x y (k + 1) + mulS m x y (k + 1)) < m := by rw [e1]; exact Nat.mod_lt _ h0
  constructor
  · intro hb
    rw [e1]
    unfold mulS
    have e2 := bit_halves y k
    rw [hb, Nat.add_zero] at e2
    rw [e2]
  · intro hb
    rw [onceM_eq m _ (by omega), e1]
    unfold mulS
    rw [bit_halves y k, hb, Nat.mod_add_mod, Nat.mul_add, Nat.mul_one]
theorem onceM_lt (m t : Nat) (h : t < 2 * m) (h0 : 0 < m) : onceM m t < m := by rw [onceM_eq m t h]; exact Nat.mod_lt _ h0

end Go.Proofs.YtfdddpndjmookaaGreatDoor
