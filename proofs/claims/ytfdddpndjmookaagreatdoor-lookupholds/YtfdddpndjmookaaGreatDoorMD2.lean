/- domain: join. -/
import Derived.Test.YtfdddpndjmookaaGreatDoorMD1
namespace Go.Proofs.YtfdddpndjmookaaGreatDoor
open Go.RowKit

def Kp (W w' : World) : Prop := Below W.heap.size W w'
theorem pkA {W w : World} (hS : Below W.heap.size W w) : ∃ (N : Nat) (w' : World), w.heap.size = N ∧ w.alloc (.cells #[.int .u64 0, .int .u64 0, .int .u64 0, .int .u64 0] 25) = w' ∧ Below W.heap.size W w' ∧ Blk w' 25 N (fun _ => 0) ∧ W.heap.size ≤ N ∧ Below w.heap.size w w' :=
  ⟨_, _, rfl, rfl, bAlloc hS _, Blk.new w 25 (fun _ => 0), hS.size, (Below.refl _ _).alloc (Nat.le_refl _) _⟩
theorem pkD (W : World) : ∃ (N : Nat) (w' : World), W.heap.size = N ∧ (W.alloc (.cells #[.int .u64 0, .int .u64 0, .int .u64 0, .int .u64 0] 25)).drew = w' ∧ Below W.heap.size W w' ∧ Blk w' 25 N (fun _ => 0) ∧ W.heap.size ≤ N ∧ Below W.heap.size W.drew w' :=
  ⟨_, _, rfl, rfl, (bAlloc (Below.refl _ _) _).drew, (Blk.new W 25 (fun _ => 0)).drew, Nat.le_refl _, ((Below.refl _ W.drew).alloc (Nat.le_refl _) _)⟩
/-- A variable that is new is written. -/
theorem pkS {W w : World} {N : Nat} {f : Nat → Nat} (b : Blk w 25 N f) (hS : Below W.heap.size W w) (hl : W.heap.size ≤ N) (v : Nat) :
    ∃ w' : World, (((w.setCell ⟨N, 0, none⟩ (.int .u64 ((limb 0 v : Nat) : Int))).setCell ⟨N, 1, none⟩ (.int .u64 ((limb 1 v : Nat) : Int))).setCell ⟨N, 2, none⟩ (.int .u64 ((limb 2 v : Nat) : Int))).setCell ⟨N, 3, none⟩ (.int .u64 ((limb 3 v : Nat) : Int)) = w' ∧ Below W.heap.size W w' ∧ Blk w' 25 N (fun i => limb i v) ∧ ∀ {M : Nat} {g : Nat → Nat}, Blk w 25 M g → M ≠ N → Blk w' 25 M g :=
  ⟨_, rfl, bSet4 hS hl _ _ _ _, b.set4 (fun i => limb i v), fun h ne => h.other4 ne _ _ _ _⟩


theorem BlkE.at4 {w : World} {b n k o : Nat} {f : Nat → Nat} (h : BlkE w b n f) (hk : k < n) (ho : o = k * 4) : w.cell? ⟨b, o, none⟩ = some (.int .u64 ((limb 0 (f k) : Nat) : Int)) ∧ w.cell? ⟨b, o + 1, none⟩ = some (.int .u64 ((limb 1 (f k) : Nat) : Int)) ∧ w.cell? ⟨b, o + 2, none⟩ = some (.int .u64 ((limb 2 (f k) : Nat) : Int)) ∧ w.cell? ⟨b, o + 3, none⟩ = some (.int .u64 ((limb 3 (f k) : Nat) : Int)) := by
  subst ho
  exact ⟨h.cell k hk 0 (by decide), h.cell k hk 1 (by decide), h.cell k hk 2 (by decide), h.cell k hk 3 (by decide)⟩
theorem BlkE.putAt {w : World} {b n k o : Nat} {f : Nat → Nat} (h : BlkE w b n f) (hk : k < n) (ho : o = k * 4) (x : Nat) : ∃ w', ((((w.setCell ⟨b, o, none⟩ (.int .u64 ((limb 0 x : Nat) : Int))).setCell ⟨b, o + 1, none⟩ (.int .u64 ((limb 1 x : Nat) : Int))).setCell ⟨b, o + 2, none⟩ (.int .u64 ((limb 2 x : Nat) : Int))).setCell ⟨b, o + 3, none⟩ (.int .u64 ((limb 3 x : Nat) : Int))) = w' ∧ BlkE w' b n (fun i => if i = k then x else f i) ∧ Kept b w w' := by
  subst ho
  exact h.put hk x
/-- The list when the first j of both pieces are joined. -/
def jnF (s : Nat) (P f : Nat → Nat) (e0 h st j i : Nat) : Nat :=
  if e0 ≤ i ∧ i < e0 + j then addP s (f i) (mulP s (P ((i - e0) * st)) (f (i + h)))
  else if e0 + h ≤ i ∧ i < e0 + h + j then subP s (f (i - h)) (mulP s (P ((i - (e0 + h)) * st)) (f i)) else f i
theorem jnF_old {s : Nat} {P f : Nat → Nat} {e0 h st j : Nat} (hj : j < h) : jnF s P f e0 h st j (e0 + j) = f (e0 + j) ∧ jnF s P f e0 h st j (e0 + h + j) = f (e0 + h + j) := by
  unfold jnF
  constructor
  · rw [if_neg (by omega), if_neg (by omega)]
  · rw [if_neg (by omega), if_neg (by omega)]
theorem jnF_step {s : Nat} {P f : Nat → Nat} {e0 h st j : Nat} (hj : j < h) (i : Nat) : jnF s P f e0 h st (j + 1) i = if i = e0 + h + j then subP s (f (e0 + j)) (mulP s (P (j * st)) (f (e0 + h + j))) else if i = e0 + j then addP s (f (e0 + j)) (mulP s (P (j * st)) (f (e0 + h + j))) else jnF s P f e0 h st j i := by
  by_cases h1 : i = e0 + h + j
  · subst h1
    rw [if_pos rfl]
    unfold jnF
    rw [if_neg (by omega), if_pos (by omega), show e0 + h + j - h = e0 + j by omega, show e0 + h + j - (e0 + h) = j by omega]
  · rw [if_neg h1]
    by_cases h2 : i = e0 + j
    · subst h2
      rw [if_pos rfl]
      unfold jnF
      rw [if_pos (by omega), show e0 + j - e0 = j by omega, show e0 + j + h = e0 + h + j by omega]
    · rw [if_neg h2]
      unfold jnF
      by_cases h3 : e0 ≤ i ∧ i < e0 + j
      · rw [if_pos h3, if_pos (by omega)]
      · rw [if_neg h3, if_neg (by omega)]
        by_cases h4 : e0 + h ≤ i ∧ i < e0 + h + j
        · rw [if_pos h4, if_pos (by omega)]
        · rw [if_neg h4, if_neg (by omega)]
end Go.Proofs.YtfdddpndjmookaaGreatDoor

/- Numbers as elements of a field; the roots of unity; the stages of transform. No walk. -/
namespace Go.Proofs.YtfdddpndjmookaaGreatDoor
open Go.RowKit

/-- The modulus less 1: so that the field's type has a nought without more ado. -/
def mq (c : Nat) : Nat := modN c - 1
theorem mq_eq (c : Nat) : mq c + 1 = modN c := Nat.succ_pred_eq_of_pos (modN_pos c)
abbrev Fq (c : Nat) : Type := Fin (mq c + 1)
theorem vmul {c : Nat} (a b : Fq c) : (a * b).val = a.val * b.val % modN c := (Fin.val_mul a b).trans (congrArg (a.val * b.val % ·) (mq_eq c))
theorem vadd {c : Nat} (a b : Fq c) : (a + b).val = (a.val + b.val) % modN c := (Fin.val_add a b).trans (congrArg ((a.val + b.val) % ·) (mq_eq c))
/-- A number as an element of the field. -/
def fz (c a : Nat) : Fq c := Fin.ofNat (mq c + 1) a
theorem fz_val (c a : Nat) : (fz c a).val = a % modN c := by show a % (mq c + 1) = _; rw [mq_eq]
theorem fz_eq {c a b : Nat} : fz c a = fz c b ↔ a % modN c = b % modN c := by
  rw [← fz_val, ← fz_val]
  exact ⟨fun h => congrArg Fin.val h, fun h => Fin.ext h⟩
theorem fz_inj {c a b : Nat} (ha : a < modN c) (hb : b < modN c) (h : fz c a = fz c b) : a = b := by
  have := fz_eq.1 h
  rwa [Nat.mod_eq_of_lt ha, Nat.mod_eq_of_lt hb] at this
theorem fz_mul (c a b : Nat) : fz c (mulP c a b) = fz c a * fz c b := Fin.ext (by rw [vmul, fz_val, fz_val, fz_val]; unfold mulP; rw [Nat.mod_mod, ← Nat.mul_mod])
theorem fz_add (c a b : Nat) : fz c (addP c a b) = fz c a + fz c b := Fin.ext (by rw [vadd, fz_val, fz_val, fz_val]; unfold addP; rw [Nat.mod_mod, ← Nat.add_mod])
theorem fz_sub (c a b : Nat) : fz c (subP c a b) = fz c a - fz c b := Fin.ext (by
  rw [Fin.sub_def, fz_val, fz_val, fz_val]
  unfold subP
  show _ = (mq c + 1 - b % modN c + a % modN c) % (mq c + 1)
  rw [mq_eq, Nat.mod_mod, Nat.add_mod_mod, Nat.add_comm])
theorem fz_zero (c : Nat) : fz c 0 = 0 := rfl
theorem fz_one (c : Nat) : fz c 1 = 1 := rfl
theorem fz_three (c : Nat) : fz c 3 = 3 := rfl
theorem fz_ne {c a : Nat} (ha : a < modN c) (h : a ≠ 0) : fz c a ≠ 0 := fun k => h (fz_inj ha (modN_pos c) k)
theorem fz_ne0 {c a : Nat} (h : fz c a ≠ 0) : a ≠ 0 := fun k => h (by rw [k]; rfl)
theorem fq_lt {c : Nat} (a : Fq c) : a.val < modN c := Nat.lt_of_lt_of_eq a.isLt (mq_eq c)
theorem fin_mul_ne (c : Nat) (a b : Fq c) (ha : a ≠ 0) (hb : b ≠ 0) : a * b ≠ 0 := by
  intro h
  have h1 : a.val * b.val % modN c = 0 := by
    have := congrArg Fin.val h
    rw [vmul] at this
    exact this
  rcases (modN_prime c).dvd_mul (Nat.dvd_of_mod_eq_zero h1) with k | k
  · exact ha (Fin.ext (Nat.eq_zero_of_dvd_of_lt k (fq_lt a)))
  · exact hb (Fin.ext (Nat.eq_zero_of_dvd_of_lt k (fq_lt b)))
theorem dbl_mod (x m : Nat) (h3 : x < m) (h4 : 0 < x) (h2 : m % 2 = 1) (h1 : (x + x) % m = 0) : False := by
  rcases Nat.lt_or_ge (x + x) m with k | k
  · rw [Nat.mod_eq_of_lt k] at h1; omega
  · rw [Nat.mod_eq_sub_mod k, Nat.mod_eq_of_lt (by omega)] at h1; omega
theorem fin_dbl_ne (c : Nat) (a : Fq c) (ha : a ≠ 0) : a + a ≠ 0 := by
  intro h
  have h1 := congrArg Fin.val h
  rw [vadd] at h1
  exact dbl_mod a.val (modN c) (fq_lt a) (Nat.pos_of_ne_zero (fun k => ha (Fin.ext k))) (modN_odd c).1 h1

theorem fz_lt {c a : Nat} (h : a < modN c) : (fz c a).val = a := by rw [fz_val]; exact Nat.mod_eq_of_lt h
theorem fz_exp (s a : Nat) : ∀ i, fz s (expP s a i) = fp (fz s a) i
  | 0 => by
    show fz s (expP s a 0) = 1
    unfold expP powM
    rw [Nat.pow_zero]
    exact (fz_eq.2 (Nat.mod_mod 1 (modN s))).trans (fz_one s)
  | i + 1 => by
    show _ = fp (fz s a) i * fz s a
    rw [← fz_exp s a i, ← fz_mul]
    congr 1
    exact (powM_step _ _ _).symm
theorem pm_half (s : Nat) : pm (modN s) 5 256 ((modN s - 1) / 2) = modN s - 1 := by
  match s with
  | 0 => decide +kernel
  | 1 => decide +kernel
  | 2 => decide +kernel
  | _ + 3 => show pm (modN 3) 5 256 ((modN 3 - 1) / 2) = modN 3 - 1; decide +kernel
theorem half_M (s : Nat) : (modN s - 1) / 2 < 2 ^ 256 := Nat.lt_of_le_of_lt (Nat.le_trans (Nat.div_le_self _ _) (Nat.sub_le _ _)) (modN_good s).lt.2.2
theorem mod_512 (s : Nat) : (modN s - 1) % 512 = 0 := by
  match s with
  | 0 => decide
  | 1 => decide
  | 2 => decide
  | _ + 3 => show (modN 3 - 1) % 512 = 0; decide
theorem root_half (s k : Nat) (h0 : 0 < k) (hk : k ≤ 9) : expP s (rootP s k) (2 ^ (k - 1)) = modN s - 1 := by
  have h := pm_half s
  rw [pm_eq _ _ _ _ (half_M s)] at h
  unfold expP rootP expP powM
  rw [← Nat.pow_mod, ← Nat.pow_mul]
  have e : (modN s - 1) / 2 ^ k * 2 ^ (k - 1) = (modN s - 1) / 2 := by
    have hd : 2 ^ k ∣ modN s - 1 := Nat.dvd_trans (Nat.pow_dvd_pow 2 hk) (Nat.dvd_of_mod_eq_zero (mod_512 s))
    obtain ⟨c, hc⟩ := hd
    have e2 : 2 ^ k = 2 * 2 ^ (k - 1) := by rw [← Nat.pow_succ', show (k - 1).succ = k by omega]
    rw [hc, Nat.mul_div_cancel_left _ (Nat.two_pow_pos k), e2, Nat.mul_assoc, Nat.mul_div_cancel_left _ (by decide), Nat.mul_comm]
  rw [e]
  exact h
theorem fz_neg1 (s : Nat) : fz s (modN s - 1) = 0 - 1 := by
  have h2 := (modN_prime s).1
  rw [← fz_zero s, ← fz_one s, ← fz_sub]
  refine fz_eq.2 ?_
  unfold subP
  rw [Nat.mod_mod, Nat.zero_add, Nat.mod_eq_of_lt (show 1 < modN s by omega)]
/-- The root of unity is one of its order. -/
theorem uni_root (s k : Nat) (hk : k ≤ 9) : Uni (fz s (rootP s k)) k := by
  refine ⟨fun a b h => ?_, fun h => ?_, ?_⟩
  · by_cases ha : a = 0
    · exact Or.inl ha
    · by_cases hb : b = 0
      · exact Or.inr hb
      · exact absurd h (fin_mul_ne s a b ha hb)
  · have h1 : (1 : Fq s) ≠ 0 := by
      rw [← fz_one s]
      exact fz_ne (by have := (modN_prime s).1; omega) (by decide)
    exact fin_dbl_ne s 1 h1 (by grind)
  · cases k with
    | zero =>
      refine Or.inl ⟨rfl, ?_⟩
      have h := fermat_one (p := modN s) (a := 5) (modN_prime s) (by rw [Nat.mod_eq_of_lt (modN_5 s)]; decide)
      unfold rootP expP
      unfold powM; rw [Nat.pow_zero, Nat.div_one, h]
      rfl
    | succ k =>
      refine Or.inr ⟨by omega, ?_⟩
      rw [← fz_exp, root_half s (k + 1) (by omega) hk, fz_neg1]

/-- What stands at place i when the pieces have 2^t places. -/
def Sg (s k t R : Nat) (A : Nat → Fq s) (red : Prop) (F : Nat → Nat) (i : Nat) : Prop :=
  F i < 115792089237316195423570985008687907853269984665640564039457584007913129639936 ∧ (red → F i < modN s) ∧ fz s (F i) = stg (fz s R) k t A (i / 2 ^ t) (i % 2 ^ t)
theorem sg_join {s k t b R m : Nat} {A : Nat → Fq s} {red : Prop} {F F' : Nat → Nat} (hk : t + 1 + b = k) (hU : fp (fz s R) (2 ^ (t + b)) = 0 - 1) (hF : ∀ i, i < 2 ^ k → Sg s k t R A red F i) (hm : m < 2 ^ b)
    (h1 : ∀ i, i < 2 ^ k → i < m * 2 ^ (t + 1) → Sg s k (t + 1) R A red F' i) (h2 : ∀ i, i < 2 ^ k → ¬ i < m * 2 ^ (t + 1) → F' i = F i) :
    (∀ i, i < 2 ^ k → i < (m + 1) * 2 ^ (t + 1) → Sg s k (t + 1) R A red (jnF s (expP s R) F' (m * 2 ^ (t + 1)) (2 ^ t) (2 ^ b) (2 ^ t)) i) ∧ (∀ i, i < 2 ^ k → ¬ i < (m + 1) * 2 ^ (t + 1) → jnF s (expP s R) F' (m * 2 ^ (t + 1)) (2 ^ t) (2 ^ b) (2 ^ t) i = F i) := by
  subst hk
  obtain ⟨h, eh⟩ : ∃ h, h = 2 ^ t := ⟨_, rfl⟩
  have hp : 0 < h := by rw [eh]; exact Nat.two_pow_pos t
  have e1 : 2 ^ (t + 1) = 2 * h := by rw [Nat.pow_succ, ← eh]; omega
  have eN : 2 ^ (t + 1 + b) = 2 * h * 2 ^ b := by rw [Nat.pow_add, e1]
  have hmN : m * (2 * h) + 2 * h ≤ 2 ^ (t + 1 + b) := by
    rw [eN, ← Nat.succ_mul, Nat.mul_comm]
    exact Nat.mul_le_mul_left _ hm
  have em1 : (m + 1) * (2 * h) = m * (2 * h) + 2 * h := Nat.succ_mul _ _
  have dv : ∀ j, j < h → (m * (2 * h) + j) / h = 2 * m ∧ (m * (2 * h) + j) % h = j ∧ (m * (2 * h) + h + j) / h = 2 * m + 1 ∧ (m * (2 * h) + h + j) % h = j ∧ (m * (2 * h) + j) / (2 * h) = m ∧ (m * (2 * h) + j) % (2 * h) = j ∧ (m * (2 * h) + h + j) / (2 * h) = m ∧ (m * (2 * h) + h + j) % (2 * h) = h + j := fun j hj => by
    have q1 : m * (2 * h) + j = j + h * (2 * m) := by rw [Nat.add_comm, Nat.mul_comm m, Nat.mul_comm 2 h, Nat.mul_assoc]
    have q2 : m * (2 * h) + h + j = j + h * (2 * m + 1) := by rw [Nat.mul_add, Nat.mul_one, Nat.mul_comm m, Nat.mul_comm 2 h, Nat.mul_assoc]; omega
    have q3 : m * (2 * h) + j = j + 2 * h * m := by rw [Nat.add_comm, Nat.mul_comm m]
    have q4 : m * (2 * h) + h + j = h + j + 2 * h * m := by rw [Nat.mul_comm m]; omega
    refine ⟨?_, ?_, ?_, ?_, ?_, ?_, ?_, ?_⟩
    · rw [q1, Nat.add_mul_div_left _ _ hp, Nat.div_eq_of_lt hj, Nat.zero_add]
    · rw [q1, Nat.add_mul_mod_self_left, Nat.mod_eq_of_lt hj]
    · rw [q2, Nat.add_mul_div_left _ _ hp, Nat.div_eq_of_lt hj, Nat.zero_add]
    · rw [q2, Nat.add_mul_mod_self_left, Nat.mod_eq_of_lt hj]
    · rw [q3, Nat.add_mul_div_left _ _ (by omega), Nat.div_eq_of_lt (by omega), Nat.zero_add]
    · rw [q3, Nat.add_mul_mod_self_left, Nat.mod_eq_of_lt (by omega)]
    · rw [q4, Nat.add_mul_div_left _ _ (by omega), Nat.div_eq_of_lt (by omega), Nat.zero_add]
    · rw [q4, Nat.add_mul_mod_self_left, Nat.mod_eq_of_lt (by omega)]
  rw [e1] at h1 h2 ⊢
  rw [em1]
  obtain ⟨e0, ee⟩ : ∃ e0, e0 = m * (2 * h) := ⟨_, rfl⟩
  rw [← ee] at h1 h2 dv hmN ⊢
  rw [← eh]
  refine ⟨fun i hi hlt => ?_, fun i hi hlt => ?_⟩
  · by_cases c1 : i < e0
    · have := h1 i hi c1
      unfold Sg at this ⊢
      have ej : jnF s (expP s R) F' e0 h (2 ^ b) h i = F' i := by unfold jnF; rw [if_neg (by omega), if_neg (by omega)]
      rw [ej]
      exact this
    · by_cases c2 : i < e0 + h
      · obtain ⟨j, rfl⟩ : ∃ j, i = e0 + j := ⟨i - e0, by omega⟩
        obtain ⟨d1, d2, d3, d4, d5, d6, _, _⟩ := dv j (by omega)
        have ej : jnF s (expP s R) F' e0 h (2 ^ b) h (e0 + j) = addP s (F (e0 + j)) (mulP s (expP s R (j * 2 ^ b)) (F (e0 + h + j))) := by
          unfold jnF
          rw [if_pos (by omega), show e0 + j - e0 = j by omega, show e0 + j + h = e0 + h + j by omega, h2 (e0 + j) hi (by omega), h2 (e0 + h + j) (by omega) (by omega)]
        have s1 := (hF (e0 + j) hi).2.2
        have s2 := (hF (e0 + h + j) (by omega)).2.2
        rw [← eh, d1, d2] at s1
        rw [← eh, d3, d4] at s2
        unfold Sg
        rw [ej, e1, d5, d6]
        refine ⟨addP_M _ _ _, fun _ => addP_lt _ _ _, ?_⟩
        rw [fz_add, fz_mul, fz_exp, s1, s2, stg_low]
      · obtain ⟨j, rfl⟩ : ∃ j, i = e0 + h + j := ⟨i - e0 - h, by omega⟩
        obtain ⟨d1, d2, d3, d4, _, _, d7, d8⟩ := dv j (by omega)
        have ej : jnF s (expP s R) F' e0 h (2 ^ b) h (e0 + h + j) = subP s (F (e0 + j)) (mulP s (expP s R (j * 2 ^ b)) (F (e0 + h + j))) := by
          unfold jnF
          rw [if_neg (by omega), if_pos (by omega), show e0 + h + j - h = e0 + j by omega, show e0 + h + j - (e0 + h) = j by omega, h2 (e0 + j) (by omega) (by omega), h2 (e0 + h + j) hi (by omega)]
        have s1 := (hF (e0 + j) (by omega)).2.2
        have s2 := (hF (e0 + h + j) hi).2.2
        rw [← eh, d1, d2] at s1
        rw [← eh, d3, d4] at s2
        unfold Sg
        rw [ej, e1, d7, d8]
        refine ⟨subP_M _ _ _, fun _ => subP_lt _ _ _, ?_⟩
        rw [fz_sub, fz_mul, fz_exp, s1, s2, eh, stg_high _ _ _ _ _ _ hU]
  · have ej : jnF s (expP s R) F' e0 h (2 ^ b) h i = F' i := by unfold jnF; rw [if_neg (by omega), if_neg (by omega)]
    rw [ej]
    exact h2 i hi (by omega)
end Go.Proofs.YtfdddpndjmookaaGreatDoor

/- domain: transform. -/
namespace Go.Proofs.YtfdddpndjmookaaGreatDoor
open Go.RowKit

/-- What transform leaves in a list. -/
def TrP (s k R : Nat) (f F : Nat → Nat) : Prop := ∀ i, i < 2 ^ k → F i < 115792089237316195423570985008687907853269984665640564039457584007913129639936 ∧ ((∀ j, j < 2 ^ k → f j < modN s) → F i < modN s) ∧ fz s (F i) = pf (fp (fz s R) i) (2 ^ k) (fun j => fz s (f j))
theorem pow_half {k t : Nat} (h : 2 ^ t < 2 ^ k) : t < k := by
  rcases Nat.lt_or_ge t k with h1 | h1
  · exact h1
  · exact absurd (Nat.pow_le_pow_right (by decide : 0 < 2) h1) (by omega)
end Go.Proofs.YtfdddpndjmookaaGreatDoor

