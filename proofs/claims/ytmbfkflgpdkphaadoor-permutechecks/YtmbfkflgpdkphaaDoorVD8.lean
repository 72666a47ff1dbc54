/- Numbers as elements of a field; the roots of unity; the stages of transform. No walk. -/
import Derived.Test.YtmbfkflgpdkphaaDoorVD7
namespace Go.Proofs.YtmbfkflgpdkphaaDoor
open Go.RowKit
/-- The modulus less 1: so that the field's type has a nought without more ado. -/
def mq (c : Nat) : Nat := modN c - 1
theorem mq_eq (c : Nat) : mq c + 1 = modN c := Nat.succ_pred_eq_of_pos (modN_pos c)
abbrev Fq (c : Nat) : Type := Fin (mq c + 1)
theorem vmul {c : Nat} (a b : Fq c) : (a * b).val = a.val * b.val % modN c := (Fin.val_mul a b).trans (congrArg (a.val * b.val % ·) (mq_eq c))
theorem vadd {c : Nat} (a b : Fq c) : (a + b).val = (a.val + b.val) % modN c := (Fin.val_add a b).trans (congrArg ((a.val + b.val) % ·) (mq_eq c))
/-- A number as an element of the field. -/
def fz (c a : Nat) : Fq c := Fin.ofNat (mq c + 1) a
theorem fz_val (c a : Nat) : (fz c a).val = a % modN c := by show a % (mq c + 1) = _; rw [mq_eq]
theorem fz_eq {c a b : Nat} : fz c a = fz c b ↔ a % modN c = b % modN c := by
  rw [← fz_val, ← fz_val]
  exact ⟨fun h => congrArg Fin.val h, fun h => Fin.ext h⟩
theorem fz_inj {c a b : Nat} (ha : a < modN c) (hb : b < modN c) (h : fz c a = fz c b) : a = b := by
  have := fz_eq.1 h
  rwa [Nat.mod_eq_of_lt ha, Nat.mod_eq_of_lt hb] at this
theorem fz_mul (c a b : Nat) : fz c (mulP c a b) = fz c a * fz c b := Fin.ext (by rw [vmul, fz_val, fz_val, fz_val]; unfold mulP; rw [Nat.mod_mod, ← Nat.mul_mod])
theorem fz_add (c a b : Nat) : fz c (addP c a b) = fz c a + fz c b := Fin.ext (by rw [vadd, fz_val, fz_val, fz_val]; unfold addP; rw [Nat.mod_mod, ← Nat.add_mod])
theorem fz_one (c : Nat) : fz c 1 = 1 := rfl
theorem fz_exp (s a : Nat) : ∀ i, fz s (expP s a i) = fp (fz s a) i
  | 0 => by
    show fz s (expP s a 0) = 1
    unfold expP powM
    rw [Nat.pow_zero]
    exact (fz_eq.2 (Nat.mod_mod 1 (modN s))).trans (fz_one s)
  | i + 1 => by
    show _ = fp (fz s a) i * fz s a
    rw [← fz_exp s a i, ← fz_mul]
    congr 1
    exact (powM_step _ _ _).symm
end Go.Proofs.YtmbfkflgpdkphaaDoor
