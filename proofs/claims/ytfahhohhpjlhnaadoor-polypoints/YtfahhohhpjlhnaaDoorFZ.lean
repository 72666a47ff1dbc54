/- Numbers as elements of a field. No walk. -/
import Derived.Test.YtfahhohhpjlhnaaDoorFD
import Derived.Test.YtfahhohhpjlhnaaDoorDM
namespace Go.Proofs.YtfahhohhpjlhnaaDoor
open Go.RowKit

/-- The modulus less 1: so that the field's type has a nought without more ado. -/
def mq (c : Nat) : Nat := modN c - 1
theorem mq_eq (c : Nat) : mq c + 1 = modN c := Nat.succ_pred_eq_of_pos (modN_pos c)
abbrev Fq (c : Nat) : Type := Fin (mq c + 1)
theorem vmul {c : Nat} (a b : Fq c) : (a * b).val = a.val * b.val % modN c := (Fin.val_mul a b).trans (congrArg (a.val * b.val % ·) (mq_eq c))
theorem vadd {c : Nat} (a b : Fq c) : (a + b).val = (a.val + b.val) % modN c := (Fin.val_add a b).trans (congrArg ((a.val + b.val) % ·) (mq_eq c))
/-- A number as an element of the field. -/
def fz (c a : Nat) : Fq c := Fin.ofNat (mq c + 1) a
theorem fz_val (c a : Nat) : (fz c a).val = a % modN c := by show a % (mq c + 1) = _; rw [mq_eq]
theorem fz_eq {c a b : Nat} : fz c a = fz c b ↔ a % modN c = b % modN c := by
  rw [← fz_val, ← fz_val]
  exact ⟨fun h => congrArg Fin.val h, fun h => Fin.ext h⟩
theorem fz_inj {c a b : Nat} (ha : a < modN c) (hb : b < modN c) (h : fz c a = fz c b) : a = b := by
  have := fz_eq.1 h
  rwa [Nat.mod_eq_of_lt ha, Nat.mod_eq_of_lt hb] at this
theorem fz_mul (c a b : Nat) : fz c (mulP c a b) = fz c a * fz c b := Fin.ext (by rw [vmul, fz_val, fz_val, fz_val]; unfold mulP; rw [Nat.mod_mod, ← Nat.mul_mod])
theorem fz_add (c a b : Nat) : fz c (addP c a b) = fz c a + fz c b := Fin.ext (by rw [vadd, fz_val, fz_val, fz_val]; unfold addP; rw [Nat.mod_mod, ← Nat.add_mod])
theorem fz_sub (c a b : Nat) : fz c (subP c a b) = fz c a - fz c b := Fin.ext (by
  rw [Fin.sub_def, fz_val, fz_val, fz_val]
  unfold subP
  show _ = (mq c + 1 - b % modN c + a % modN c) % (mq c + 1)
  rw [mq_eq, Nat.mod_mod, Nat.add_mod_mod, Nat.add_comm])
theorem fz_zero (c : Nat) : fz c 0 = 0 := rfl
theorem fz_one (c : Nat) : fz c 1 = 1 := rfl
theorem fz_three (c : Nat) : fz c 3 = 3 := rfl
theorem fz_ne {c a : Nat} (ha : a < modN c) (h : a ≠ 0) : fz c a ≠ 0 := fun k => h (fz_inj ha (modN_pos c) k)
theorem fz_ne0 {c a : Nat} (h : fz c a ≠ 0) : a ≠ 0 := fun k => h (by rw [k]; rfl)
theorem fq_lt {c : Nat} (a : Fq c) : a.val < modN c := Nat.lt_of_lt_of_eq a.isLt (mq_eq c)
theorem fin_mul_ne (c : Nat) (a b : Fq c) (ha : a ≠ 0) (hb : b ≠ 0) : a * b ≠ 0 := by
  intro h
  have h1 : a.val * b.val % modN c = 0 := by
    have := congrArg Fin.val h
    rw [vmul] at this
    exact this
  rcases (modN_prime c).dvd_mul (Nat.dvd_of_mod_eq_zero h1) with k | k
  · exact ha (Fin.ext (Nat.eq_zero_of_dvd_of_lt k (fq_lt a)))
  · exact hb (Fin.ext (Nat.eq_zero_of_dvd_of_lt k (fq_lt b)))
theorem dbl_mod (x m : Nat) (h3 : x < m) (h4 : 0 < x) (h2 : m % 2 = 1) (h1 : (x + x) % m = 0) : False := by
  rcases Nat.lt_or_ge (x + x) m with k | k
  · rw [Nat.mod_eq_of_lt k] at h1; omega
  · rw [Nat.mod_eq_sub_mod k, Nat.mod_eq_of_lt (by omega)] at h1; omega
theorem fin_dbl_ne (c : Nat) (a : Fq c) (ha : a ≠ 0) : a + a ≠ 0 := by
  intro h
  have h1 := congrArg Fin.val h
  rw [vadd] at h1
  exact dbl_mod a.val (modN c) (fq_lt a) (Nat.pos_of_ne_zero (fun k => ha (Fin.ext k))) (modN_odd c).1 h1

theorem fz_lt {c a : Nat} (h : a < modN c) : (fz c a).val = a := by rw [fz_val]; exact Nat.mod_eq_of_lt h
end Go.Proofs.YtfahhohhpjlhnaaDoor
