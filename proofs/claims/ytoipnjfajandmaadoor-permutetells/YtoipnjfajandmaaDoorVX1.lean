/- domain: join. -/
import Derived.Test.YtoipnjfajandmaaDoorVD3
namespace Go.Proofs.YtoipnjfajandmaaDoor
open Go.RowKit
def Kp (W w' : World) : Prop := Below W.heap.size W w'
theorem pkA {W w : World} (hS : Below W.heap.size W w) : ∃ (N : Nat) (w' : World), w.heap.size = N ∧ w.alloc (.cells #[.int .u64 0, .int .u64 0, .int .u64 0, .int .u64 0] 24) = w' ∧ Below W.heap.size W w' ∧ Blk w' 24 N (fun _ => 0) ∧ W.heap.size ≤ N ∧ Below w.heap.size w w' :=
  ⟨_, _, rfl, rfl, bAlloc hS _, Blk.new w 24 (fun _ => 0), hS.size, (Below.refl _ _).alloc (Nat.le_refl _) _⟩
theorem pkD (W : World) : ∃ (N : Nat) (w' : World), W.heap.size = N ∧ (W.alloc (.cells #[.int .u64 0, .int .u64 0, .int .u64 0, .int .u64 0] 24)).drew = w' ∧ Below W.heap.size W w' ∧ Blk w' 24 N (fun _ => 0) ∧ W.heap.size ≤ N ∧ Below W.heap.size W.drew w' :=
  ⟨_, _, rfl, rfl, (bAlloc (Below.refl _ _) _).drew, (Blk.new W 24 (fun _ => 0)).drew, Nat.le_refl _, ((Below.refl _ W.drew).alloc (Nat.le_refl _) _)⟩
/-- A variable that is new is written. -/
theorem pkS {W w : World} {N : Nat} {f : Nat → Nat} (b : Blk w 24 N f) (hS : Below W.heap.size W w) (hl : W.heap.size ≤ N) (v : Nat) :
    ∃ w' : World, (((w.setCell ⟨N, 0, none⟩ (.int .u64 ((limb 0 v : Nat) : Int))).setCell ⟨N, 1, none⟩ (.int .u64 ((limb 1 v : Nat) : Int))).setCell ⟨N, 2, none⟩ (.int .u64 ((limb 2 v : Nat) : Int))).setCell ⟨N, 3, none⟩ (.int .u64 ((limb 3 v : Nat) : Int)) = w' ∧ Below W.heap.size W w' ∧ Blk w' 24 N (fun i => limb i v) ∧ ∀ {M : Nat} {g : Nat → Nat}, Blk w 24 M g → M ≠ N → Blk w' 24 M g :=
  ⟨_, rfl, bSet4 hS hl _ _ _ _, b.set4 (fun i => limb i v), fun h ne => h.other4 ne _ _ _ _⟩
end Go.Proofs.YtoipnjfajandmaaDoor

/- Numbers as elements of a field; the roots of unity; the stages of transform. No walk. -/
namespace Go.Proofs.YtoipnjfajandmaaDoor
open Go.RowKit
/-- The modulus less 1: so that the field's type has a nought without more ado. -/
def mq (c : Nat) : Nat := modN c - 1
theorem mq_eq (c : Nat) : mq c + 1 = modN c := Nat.succ_pred_eq_of_pos (modN_pos c)
abbrev Fq (c : Nat) : Type := Fin (mq c + 1)
theorem vmul {c : Nat} (a b : Fq c) : (a * b).val = a.val * b.val % modN c := (Fin.val_mul a b).trans (congrArg (a.val * b.val % ·) (mq_eq c))
theorem vadd {c : Nat} (a b : Fq c) : (a + b).val = (a.val + b.val) % modN c := (Fin.val_add a b).trans (congrArg ((a.val + b.val) % ·) (mq_eq c))
/-- A number as an element of the field. -/
def fz (c a : Nat) : Fq c := Fin.ofNat (mq c + 1) a
theorem fz_val (c a : Nat) : (fz c a).val = a % modN c := by show a % (mq c + 1) = _; rw [mq_eq]
theorem fz_eq {c a b : Nat} : fz c a = fz c b ↔ a % modN c = b % modN c := by
  rw [← fz_val, ← fz_val]
  exact ⟨fun h => congrArg Fin.val h, fun h => Fin.ext h⟩
theorem fz_inj {c a b : Nat} (ha : a < modN c) (hb : b < modN c) (h : fz c a = fz c b) : a = b := by
  have := fz_eq.1 h
  rwa [Nat.mod_eq_of_lt ha, Nat.mod_eq_of_lt hb] at this
theorem fz_mul (c a b : Nat) : fz c (mulP c a b) = fz c a * fz c b := Fin.ext (by rw [vmul, fz_val, fz_val, fz_val]; unfold mulP; rw [Nat.mod_mod, ← Nat.mul_mod])
theorem fz_add (c a b : Nat) : fz c (addP c a b) = fz c a + fz c b := Fin.ext (by rw [vadd, fz_val, fz_val, fz_val]; unfold addP; rw [Nat.mod_mod, ← Nat.add_mod])
theorem fz_sub (c a b : Nat) : fz c (subP c a b) = fz c a - fz c b := Fin.ext (by
  rw [Fin.sub_def, fz_val, fz_val, fz_val]
  unfold subP
  show _ = (mq c + 1 - b % modN c + a % modN c) % (mq c + 1)
  rw [mq_eq, Nat.mod_mod, Nat.add_mod_mod, Nat.add_comm])
theorem fz_zero (c : Nat) : fz c 0 = 0 := rfl
theorem fz_one (c : Nat) : fz c 1 = 1 := rfl
theorem fz_ne {c a : Nat} (ha : a < modN c) (h : a ≠ 0) : fz c a ≠ 0 := fun k => h (fz_inj ha (modN_pos c) k)
theorem fq_lt {c : Nat} (a : Fq c) : a.val < modN c := Nat.lt_of_lt_of_eq a.isLt (mq_eq c)
theorem fin_mul_ne (c : Nat) (a b : Fq c) (ha : a ≠ 0) (hb : b ≠ 0) : a * b ≠ 0 := by
  intro h
  have h1 : a.val * b.val % modN c = 0 := by
    have := congrArg Fin.val h
    rw [vmul] at this
    exact this
  rcases (modN_prime c).dvd_mul (Nat.dvd_of_mod_eq_zero h1) with k | k
  · exact ha (Fin.ext (Nat.eq_zero_of_dvd_of_lt k (fq_lt a)))
  · exact hb (Fin.ext (Nat.eq_zero_of_dvd_of_lt k (fq_lt b)))
theorem dbl_mod (x m : Nat) (h3 : x < m) (h4 : 0 < x) (h2 : m % 2 = 1) (h1 : (x + x) % m = 0) : False := by
  rcases Nat.lt_or_ge (x + x) m with k | k
  · rw [Nat.mod_eq_of_lt k] at h1; omega
  · rw [Nat.mod_eq_sub_mod k, Nat.mod_eq_of_lt (by omega)] at h1; omega
theorem fin_dbl_ne (c : Nat) (a : Fq c) (ha : a ≠ 0) : a + a ≠ 0 := by
  intro h
  have h1 := congrArg Fin.val h
  rw [vadd] at h1
  exact dbl_mod a.val (modN c) (fq_lt a) (Nat.pos_of_ne_zero (fun k => ha (Fin.ext k))) (modN_odd c).1 h1
theorem fz_exp (s a : Nat) : ∀ i, fz s (expP s a i) = fp (fz s a) i
  | 0 => by
    show fz s (expP s a 0) = 1
    unfold expP powM
    rw [Nat.pow_zero]
    exact (fz_eq.2 (Nat.mod_mod 1 (modN s))).trans (fz_one s)
  | i + 1 => by
    show _ = fp (fz s a) i * fz s a
    rw [← fz_exp s a i, ← fz_mul]
    congr 1
    exact (powM_step _ _ _).symm
theorem pm_half (s : Nat) : pm (modN s) 5 256 ((modN s - 1) / 2) = modN s - 1 := by
  match s with
  | 0 => decide +kernel
  | 1 => decide +kernel
  | 2 => decide +kernel
  | _ + 3 => show pm (modN 3) 5 256 ((modN 3 - 1) / 2) = modN 3 - 1; decide +kernel
theorem half_M (s : Nat) : (modN s - 1) / 2 < 2 ^ 256 := Nat.lt_of_le_of_lt (Nat.le_trans (Nat.div_le_self _ _) (Nat.sub_le _ _)) (modN_good s).lt.2.2
theorem mod_512 (s : Nat) : (modN s - 1) % 512 = 0 := by
  match s with
  | 0 => decide
  | 1 => decide
  | 2 => decide
  | _ + 3 => show (modN 3 - 1) % 512 = 0; decide
theorem root_half (s k : Nat) (h0 : 0 < k) (hk : k ≤ 9) : expP s (rootP s k) (2 ^ (k - 1)) = modN s - 1 := by
  have h := pm_half s
  rw [pm_eq _ _ _ _ (half_M s)] at h
  unfold expP rootP expP powM
  rw [← Nat.pow_mod, ← Nat.pow_mul]
  have e : (modN s - 1) / 2 ^ k * 2 ^ (k - 1) = (modN s - 1) / 2 := by
    have hd : 2 ^ k ∣ modN s - 1 := Nat.dvd_trans (Nat.pow_dvd_pow 2 hk) (Nat.dvd_of_mod_eq_zero (mod_512 s))
    obtain ⟨c, hc⟩ := hd
    have e2 : 2 ^ k = 2 * 2 ^ (k - 1) := by rw [← Nat.pow_succ', show (k - 1).succ = k by omega]
    rw [hc, Nat.mul_div_cancel_left _ (Nat.two_pow_pos k), e2, Nat.mul_assoc, Nat.mul_div_cancel_left _ (by decide), Nat.mul_comm]
  rw [e]
  exact h
theorem fz_neg1 (s : Nat) : fz s (modN s - 1) = 0 - 1 := by
  have h2 := (modN_prime s).1
  rw [← fz_zero s, ← fz_one s, ← fz_sub]
  refine fz_eq.2 ?_
  unfold subP
  rw [Nat.mod_mod, Nat.zero_add, Nat.mod_eq_of_lt (show 1 < modN s by omega)]
/-- The root of unity is one of its order. -/
theorem uni_root (s k : Nat) (hk : k ≤ 9) : Uni (fz s (rootP s k)) k := by
  refine ⟨fun a b h => ?_, fun h => ?_, ?_⟩
  · by_cases ha : a = 0
    · exact Or.inl ha
    · by_cases hb : b = 0
      · exact Or.inr hb
      · exact absurd h (fin_mul_ne s a b ha hb)
  · have h1 : (1 : Fq s) ≠ 0 := by
      rw [← fz_one s]
      exact fz_ne (by have := (modN_prime s).1; omega) (by decide)
    exact fin_dbl_ne s 1 h1 (by grind)
  · cases k with
    | zero =>
      refine Or.inl ⟨rfl, ?_⟩
      have h := fermat_one (p := modN s) (a := 5) (modN_prime s) (by rw [Nat.mod_eq_of_lt (modN_5 s)]; decide)
      unfold rootP expP
      unfold powM; rw [Nat.pow_zero, Nat.div_one, h]
      rfl
    | succ k =>
      refine Or.inr ⟨by omega, ?_⟩
      rw [← fz_exp, root_half s (k + 1) (by omega) hk, fz_neg1]
end Go.Proofs.YtoipnjfajandmaaDoor

