/- domain: join. -/
import Derived.Test.YtfbfenljfdnggaaGreatDoorVD3
import Derived.Laws.IdiomCopy
import Derived.Laws.CopyOwn
namespace Go.Proofs.YtfbfenljfdnggaaGreatDoor
open Go.RowKit
def Kp (W w' : World) : Prop := Below W.heap.size W w'
theorem pkA {W w : World} (hS : Below W.heap.size W w) : ∃ (N : Nat) (w' : World), w.heap.size = N ∧ w.alloc (.cells #[.int .u64 0, .int .u64 0, .int .u64 0, .int .u64 0] 25) = w' ∧ Below W.heap.size W w' ∧ Blk w' 25 N (fun _ => 0) ∧ W.heap.size ≤ N ∧ Below w.heap.size w w' :=
  ⟨_, _, rfl, rfl, bAlloc hS _, Blk.new w 25 (fun _ => 0), hS.size, (Below.refl _ _).alloc (Nat.le_refl _) _⟩
theorem pkD (W : World) : ∃ (N : Nat) (w' : World), W.heap.size = N ∧ (W.alloc (.cells #[.int .u64 0, .int .u64 0, .int .u64 0, .int .u64 0] 25)).drew = w' ∧ Below W.heap.size W w' ∧ Blk w' 25 N (fun _ => 0) ∧ W.heap.size ≤ N ∧ Below W.heap.size W.drew w' :=
  ⟨_, _, rfl, rfl, (bAlloc (Below.refl _ _) _).drew, (Blk.new W 25 (fun _ => 0)).drew, Nat.le_refl _, ((Below.refl _ W.drew).alloc (Nat.le_refl _) _)⟩
/-- A variable that is new is written. -/
theorem pkS {W w : World} {N : Nat} {f : Nat → Nat} (b : Blk w 25 N f) (hS : Below W.heap.size W w) (hl : W.heap.size ≤ N) (v : Nat) :
    ∃ w' : World, (((w.setCell ⟨N, 0, none⟩ (.int .u64 ((limb 0 v : Nat) : Int))).setCell ⟨N, 1, none⟩ (.int .u64 ((limb 1 v : Nat) : Int))).setCell ⟨N, 2, none⟩ (.int .u64 ((limb 2 v : Nat) : Int))).setCell ⟨N, 3, none⟩ (.int .u64 ((limb 3 v : Nat) : Int)) = w' ∧ Below W.heap.size W w' ∧ Blk w' 25 N (fun i => limb i v) ∧ ∀ {M : Nat} {g : Nat → Nat}, Blk w 25 M g → M ≠ N → Blk w' 25 M g :=
  ⟨_, rfl, bSet4 hS hl _ _ _ _, b.set4 (fun i => limb i v), fun h ne => h.other4 ne _ _ _ _⟩
end Go.Proofs.YtfbfenljfdnggaaGreatDoor

/- Numbers as elements of a field; the roots of unity; the stages of transform. No walk. -/
namespace Go.Proofs.YtfbfenljfdnggaaGreatDoor
open Go.RowKit
/-- The modulus less 1: so that the field's type has a nought without more ado. -/
def mq (c : Nat) : Nat := modN c - 1
theorem mq_eq (c : Nat) : mq c + 1 = modN c := Nat.succ_pred_eq_of_pos (modN_pos c)
abbrev Fq (c : Nat) : Type := Fin (mq c + 1)
theorem vmul {c : Nat} (a b : Fq c) : (a * b).val = a.val * b.val % modN c := (Fin.val_mul a b).trans (congrArg (a.val * b.val % ·) (mq_eq c))
theorem vadd {c : Nat} (a b : Fq c) : (a + b).val = (a.val + b.val) % modN c := (Fin.val_add a b).trans (congrArg ((a.val + b.val) % ·) (mq_eq c))
/-- A number as an element of the field. -/
def fz (c a : Nat) : Fq c := Fin.ofNat (mq c + 1) a
theorem fz_val (c a : Nat) : (fz c a).val = a % modN c := by show a % (mq c + 1) = _; rw [mq_eq]
theorem fz_eq {c a b : Nat} : fz c a = fz c b ↔ a % modN c = b % modN c := by
  rw [← fz_val, ← fz_val]
  exact ⟨fun h => congrArg Fin.val h, fun h => Fin.ext h⟩
theorem fz_inj {c a b : Nat} (ha : a < modN c) (hb : b < modN c) (h : fz c a = fz c b) : a = b := by
  have := fz_eq.1 h
  rwa [Nat.mod_eq_of_lt ha, Nat.mod_eq_of_lt hb] at this
theorem fz_mul (c a b : Nat) : fz c (mulP c a b) = fz c a * fz c b := Fin.ext (by rw [vmul, fz_val, fz_val, fz_val]; unfold mulP; rw [Nat.mod_mod, ← Nat.mul_mod])
theorem fz_add (c a b : Nat) : fz c (addP c a b) = fz c a + fz c b := Fin.ext (by rw [vadd, fz_val, fz_val, fz_val]; unfold addP; rw [Nat.mod_mod, ← Nat.add_mod])
theorem fz_zero (c : Nat) : fz c 0 = 0 := rfl
theorem fz_one (c : Nat) : fz c 1 = 1 := rfl
theorem fz_exp (s a : Nat) : ∀ i, fz s (expP s a i) = fp (fz s a) i
  | 0 => by
    show fz s (expP s a 0) = 1
    unfold expP powM
    rw [Nat.pow_zero]
    exact (fz_eq.2 (Nat.mod_mod 1 (modN s))).trans (fz_one s)
  | i + 1 => by
    show _ = fp (fz s a) i * fz s a
    rw [← fz_exp s a i, ← fz_mul]
    congr 1
    exact (powM_step _ _ _).symm
end Go.Proofs.YtfbfenljfdnggaaGreatDoor

/- copy of a list of elements. -/
namespace Go.Proofs.YtfbfenljfdnggaaGreatDoor
open Go.RowKit
theorem els_one (f : Nat → Nat) (n : Nat) : ∀ u ∈ els f n, u.oneCell' = true := by
  intro u hu
  unfold els at hu
  simp only [List.mem_map] at hu
  obtain ⟨t, _, rfl⟩ := hu
  rfl
theorem els_at (f : Nat → Nat) (n j : Nat) (v : Value) (h : (els f n)[j]? = some v) : j / 4 < n ∧ j % 4 < 4 ∧ v = .int .u64 ((limb (j % 4) (f (j / 4)) : Nat) : Int) := by
  have hl : j < n * 4 := by
    have := (List.getElem?_eq_some_iff.1 h).1
    rwa [els_len] at this
  have h2 := els_get f n (j / 4) (j % 4) (by omega) (by omega)
  rw [show j / 4 * 4 + j % 4 = j by omega, h] at h2
  exact ⟨by omega, by omega, Option.some.inj h2⟩
end Go.Proofs.YtfbfenljfdnggaaGreatDoor

