/- What Through answers, as polynomials. No walk. -/
import Derived.Test.YtfahhohhpjlhnaaDoorPN3
import Derived.Test.YtfahhohhpjlhnaaDoorPN1
import Derived.Test.YtfahhohhpjlhnaaDoorPM2
import Derived.Test.YtfahhohhpjlhnaaDoorXB
import Derived.Test.YtfahhohhpjlhnaaDoorXA
import Derived.Test.YtfahhohhpjlhnaaDoorXD
namespace Go.Proofs.YtfahhohhpjlhnaaDoor

section
variable {s : Nat}
/-- The points as elements. -/
def Xq (s : Nat) (xs : Nat → Nat) (i : Nat) : Fq s := fz s (xs i)
theorem fz_el (s a : Nat) : fz s (addP s a 0) = fz s a := fz_eq.2 (Nat.mod_mod _ _)
theorem hor_dq (s x : Nat) (f : Nat → Nat) (N : Nat) : ∀ d, d ≤ N + 1 → fz s (hor (addP s) (mulP s) x f (N + 1) d) = dq (fz s x) (fun t => fz s (f t)) N d
  | 0, _ => fz_zero s
  | d + 1, h => by
    show fz s (addP s (mulP s (hor (addP s) (mulP s) x f (N + 1) d) x) (f (N + 1 - (d + 1)))) = dq (fz s x) (fun t => fz s (f t)) N d * fz s x + fz s (f (N - d))
    rw [fz_add, fz_mul, hor_dq s x f N d (by omega), show N + 1 - (d + 1) = N - d by omega]
theorem dq_evl {m : Nat} [NeZero m] (x : Fin m) (P : Nat → Fin m) (N : Nat) : dq x P N (N + 1) = evl P x (N + 1) := by
  have h := evl_div x x P N
  grind
theorem hor_evl (s x : Nat) (f : Nat → Nat) : ∀ n, fz s (hor (addP s) (mulP s) x f n n) = evl (fun t => fz s (f t)) (fz s x) n
  | 0 => fz_zero s
  | N + 1 => (hor_dq s x f N (N + 1) (Nat.le_refl _)).trans (dq_evl _ _ _)
theorem hor_qt (s x : Nat) (P : Nat → Nat) (n : Nat) : ∀ d, d ≤ n → fz s (hor (addP s) (mulP s) x (fun j => P (j + 1)) n d) = dq (fz s x) (fun t => fz s (P t)) n d
  | 0, _ => fz_zero s
  | d + 1, h => by
    show fz s (addP s (mulP s (hor (addP s) (mulP s) x (fun j => P (j + 1)) n d) x) (P (n - (d + 1) + 1))) = dq (fz s x) (fun t => fz s (P t)) n d * fz s x + fz s (P (n - d))
    rw [fz_add, fz_mul, hor_qt s x P n d (by omega), show n - (d + 1) + 1 = n - d by omega]
theorem oth_cof (s : Nat) (xs : Nat → Nat) {n i t : Nat} (hi : i < n) (ht : t ≤ n) : fz s (othN s xs n i t) = cof (Xq s xs) i n t := by
  unfold othN
  rw [hor_qt s _ (zrs s xs n) n (n - t) (by omega), fz_el, dq_congr (Q := zr (Xq s xs) n) _ n (fun u _ => zrs_zr s xs n u)]
  exact dq_zr (Xq s xs) hi t ht
theorem val_cof (s : Nat) (xs : Nat → Nat) {n i : Nat} (hi : i < n) : fz s (valN s xs n i) = evl (cof (Xq s xs) i n) (Xq s xs i) n := by
  unfold valN
  rw [hor_evl, fz_el]
  exact evl_congr _ n (fun t ht => oth_cof s xs hi (by omega))
theorem acc_thr (s : Nat) (xs ys : Nat → Nat) {n t : Nat} (ht : t ≤ n) : ∀ k, k ≤ n → fz s (accN s xs ys n k t) = thr (Xq s xs) (fun i => fz s (ys i) * fz s (invU (modN s) (valN s xs n i))) n k t
  | 0, _ => fz_zero s
  | k + 1, h => by
    show fz s (addP s (accN s xs ys n k t) (mulP s (mulP s (ys k) (invU (modN s) (valN s xs n k))) (othN s xs n k t))) = thr (Xq s xs) (fun i => fz s (ys i) * fz s (invU (modN s) (valN s xs n i))) n k t + fz s (ys k) * fz s (invU (modN s) (valN s xs n k)) * cof (Xq s xs) k n t
    rw [fz_add, fz_mul, fz_mul, acc_thr s xs ys ht k (by omega), oth_cof s xs h ht]
theorem acc_lt (s : Nat) (xs ys : Nat → Nat) (n : Nat) : ∀ k t, accN s xs ys n k t < modN s
  | 0, _ => modN_pos s
  | _ + 1, _ => addP_lt _ _ _
theorem one_neq (s : Nat) : (1 : Fq s) ≠ 0 := fun h => by
  have e : fz s 1 = fz s 0 := h
  have := fz_eq.1 e
  rw [Nat.zero_mod, Nat.mod_eq_of_lt (modN_odd s).2] at this
  omega
theorem invU_okP {m a : Nat} (hp : IsPrime m) (ha : a % m ≠ 0) : invU m a * a % m = 1 := by
  have h2 := hp.1
  unfold invU
  rw [powM_more, show m - 2 + 1 = m - 1 from by omega]
  exact fermat_one hp ha
theorem inv_fz (s v : Nat) (h : fz s v ≠ 0) : fz s (invU (modN s) v) * fz s v = 1 := by
  have h0 : v % modN s ≠ 0 := fun e => h (fz_eq.2 (by rw [e, Nat.zero_mod]))
  rw [← fz_mul, ← fz_one]
  refine fz_eq.2 ?_
  unfold mulP
  rw [Nat.mod_mod, invU_okP (modN_prime s) h0, Nat.mod_eq_of_lt (modN_odd s).2]
/-- No inverse lacks just where all points are different. -/
theorem pre_ne (s : Nat) (xs : Nat → Nat) (n : Nat) : pre (modN s) (valN s xs n) n ≠ 0 ↔ ∀ i j, i < j → j < n → Xq s xs i ≠ Xq s xs j := by
  have key : ∀ i, i < n → (valN s xs n i % modN s = 0 ↔ ∃ j, j < n ∧ j ≠ i ∧ Xq s xs j = Xq s xs i) := fun i hi => by
    rw [← cof_own (fq_zd s) (one_neq s) (Xq s xs) hi, ← val_cof s xs hi]
    constructor
    · intro h; exact fz_eq.2 (by rw [h, Nat.zero_mod])
    · intro h
      have := fz_eq.1 (h.trans (fz_zero s).symm)
      rwa [Nat.zero_mod] at this
  constructor
  · intro h i j hij hj e
    exact h (pre_some _ _ n i (by omega) ((key i (by omega)).2 ⟨j, hj, by omega, e.symm⟩))
  · intro h e
    obtain ⟨i, hi, h0⟩ := pre_zero _ _ (modN_prime s) n e
    obtain ⟨j, hj, hne, e2⟩ := (key i hi).1 h0
    rcases Nat.lt_or_gt_of_ne hne with c | c
    · exact h j i c hi e2
    · exact h i j c hj e2.symm
theorem val_ne (s : Nat) (xs : Nat → Nat) (n : Nat) (h : pre (modN s) (valN s xs n) n ≠ 0) {i : Nat} (hi : i < n) : fz s (valN s xs n i) ≠ 0 := fun e => by
  rw [val_cof s xs hi] at e
  obtain ⟨j, hj, hne, e2⟩ := (cof_own (fq_zd s) (one_neq s) (Xq s xs) hi).1 e
  have hd := (pre_ne s xs n).1 h
  rcases Nat.lt_or_gt_of_ne hne with c | c
  · exact hd j i c hi e2
  · exact hd i j c hj e2.symm
/-- The polynomial through the points. -/
def TP (s : Nat) (xs ys : Nat → Nat) (n : Nat) : Nat → Fq s := Pl s n (accN s xs ys n n)
theorem TP_thr (s : Nat) (xs ys : Nat → Nat) (n t : Nat) : TP s xs ys n t = thr (Xq s xs) (fun i => fz s (ys i) * fz s (invU (modN s) (valN s xs n i))) n n t := by
  unfold TP Pl
  by_cases h : t < n
  · rw [if_pos h]; exact acc_thr s xs ys (by omega) n (Nat.le_refl _)
  · rw [if_neg h, thr_supp _ _ n n (Nat.le_refl _) t (by omega)]
theorem TP_meets (s : Nat) (xs ys : Nat → Nat) (n : Nat) (h : pre (modN s) (valN s xs n) n ≠ 0) {j : Nat} (hj : j < n) : evl (TP s xs ys n) (Xq s xs j) n = fz s (ys j) := by
  rw [evl_congr _ n (fun t _ => TP_thr s xs ys n t), thr_at _ _ n j hj n (Nat.le_refl _), if_pos hj, ← val_cof s xs hj]
  have := inv_fz s _ (val_ne s xs n h hj)
  grind
/-- A polynomial of at most n coefficients that meets them too is that one. -/
theorem TP_only (s : Nat) (xs ys : Nat → Nat) (n : Nat) (h : pre (modN s) (valN s xs n) n ≠ 0) (Q : Nat → Fq s) (hQ : ∀ t, n ≤ t → Q t = 0) (hm : ∀ j, j < n → evl Q (Xq s xs j) n = fz s (ys j)) : ∀ t, TP s xs ys n t = Q t := fun t => by
  have e := few (fq_zd s) (Xq s xs) n (fun t => TP s xs ys n t + (0 - 1) * Q t) (fun t ht => by
    show TP s xs ys n t + (0 - 1) * Q t = 0
    rw [hQ t ht, show TP s xs ys n t = 0 from if_neg (by omega)]; grind) ((pre_ne s xs n).1 h) (fun i hi => by
    rw [evl_lin, TP_meets s xs ys n h hi, hm i hi]; grind) t
  grind
end

end Go.Proofs.YtfahhohhpjlhnaaDoor

namespace Go.Proofs.YtfahhohhpjlhnaaDoor
open Go.RowKit

theorem Es.nil (w : World) (f : Nat → Nat) : Es w (.slice none 0 0) 0 f := Or.inl ⟨rfl, rfl⟩
theorem zr_lead {m : Nat} [NeZero m] (X : Nat → Fin m) : ∀ k, zr X k k = 1
  | 0 => by show (if (0 : Nat) = 0 then (1 : Fin m) else 0) = 1; rw [if_pos rfl]
  | k + 1 => by
    show mX (X k) (zr X k) (k + 1) = 1
    rw [mX_succ, zr_lead X k, zr_supp X k (k + 1) (by omega)]
    grind
theorem zrs_ltP (s : Nat) (xs : Nat → Nat) : ∀ k t, zrs s xs k t < modN s
  | 0, t => by
    have h1 := (modN_odd s).2
    show (if t = 0 then 1 else 0) < modN s
    split <;> omega
  | k + 1, t => by
    have ih := zrs_ltP s xs k
    show zst s (subP s 0 (xs k)) (zrs s xs k) k 0 t < modN s
    unfold zst
    split
    · exact ih t
    · split
      · split
        · exact ih t
        · exact mulP_lt _ _ _
      · exact addP_lt _ _ _
/-- The program's Zeros is that polynomial as it is answered. -/
theorem zrs_Pl (s : Nat) (xs : Nat → Nat) (n : Nat) : Pl s (n + 1) (zrs s xs n) = zr (fun i => fz s (xs i)) n := funext fun t => by
  unfold Pl
  by_cases h : t < n + 1
  · rw [if_pos h]; exact zrs_zr s xs n t
  · rw [if_neg h, zr_supp _ n t (by omega)]
theorem zrs_szq (s : Nat) (xs : Nat → Nat) (n : Nat) (hn : n ≤ 100) : szq (zr (fun i => fz s (xs i)) n) = n + 1 := by
  rw [← zrs_Pl, szq_Pl _ (by omega)]
  show (if addP s (zrs s xs n n) 0 = 0 then _ else n + 1) = n + 1
  rw [if_neg]
  intro h
  have e : fz s (zrs s xs n n) = 0 := by rw [← fz_el, h, fz_zero]
  rw [zrs_zr, zr_lead] at e
  exact one_neq s e
theorem zrs_Es (s : Nat) (xs : Nat → Nat) (n : Nat) (hn : n ≤ 100) {w : World} {G : Nat} (h : BlkE w G (n + 1) (zrs s xs n)) : Cn w (.slice (some ⟨G, 0, none⟩) (n + 1) (n + 1)) (zr (fun i => fz s (xs i)) n) := by
  unfold Cn
  rw [zrs_szq s xs n hn]
  refine (h.Es (by unfold maxLen; omega)).same (fun i hi => ?_)
  rw [← zrs_Pl, vq_Pl hi, el_lt (zrs_ltP _ _ _ _)]
theorem inv_same {s : Nat} {a b : Nat} (h : fz s a = fz s b) (h0 : fz s b ≠ 0) : fz s (invU (modN s) a) = fz s (invU (modN s) b) := by
  have h1 := inv_fz s a (by rw [h]; exact h0)
  have h2 := inv_fz s b h0
  rw [h] at h1
  grind
theorem thr_congr {m : Nat} [NeZero m] (X c d : Nat → Fin m) (k : Nat) : ∀ i, (∀ j, j < i → c j = d j) → ∀ t, thr X c k i t = thr X d k i t
  | 0, _, _ => rfl
  | i + 1, h, t => by
    show thr X c k i t + c i * cof X i k t = thr X d k i t + d i * cof X i k t
    rw [thr_congr X c d k i (fun j hj => h j (by omega)) t, h i (by omega)]
/-- Both are one polynomial. -/
theorem thr_same (s : Nat) (xs ys : Nat → Nat) (n : Nat) (hp : pre (modN s) (valN s xs n) n ≠ 0) : Pl s n (accN s xs ys n n) = thr (fun i => fz s (xs i)) (shR s xs ys n) n n := funext fun t => by
  show TP s xs ys n t = _
  rw [TP_thr]
  refine thr_congr _ _ _ n n (fun j hj => ?_) t
  show fz s (ys j) * fz s (invU (modN s) (valN s xs n j)) = fz s (mulP s (ys j) (invU (modN s) (dnN s xs j n)))
  rw [fz_mul, inv_same (a := valN s xs n j) (b := dnN s xs j n)]
  · rw [val_cof s xs hj, cof_evls _ _ hj, dnN_pr]
    rfl
  · have h := val_ne s xs n hp hj
    rw [val_cof s xs hj, cof_evls _ _ hj] at h
    rw [dnN_pr]
    exact h
/-- Short lists. -/
theorem points_in (s n cn m cm : Nat) (oa ob : Option Addr) (xs ys : Nat → Nat) (hs : s < 4) (hn : n ≤ 20) (hm : m ≤ 4398046510976) (hx : ∀ i, i < n → xs i < 115792089237316195423570985008687907853269984665640564039457584007913129639936) (hy : ∀ i, i < m → ys i < 115792089237316195423570985008687907853269984665640564039457584007913129639936) (w : World) (hg : Glob w) (hv : Es w (.slice oa n cn) n xs) (hu : Es w (.slice ob m cm) m ys) :
    Calls Tryd.prog 3 #[.int .i64 (s : Int), .slice oa n cn, .slice ob m cm] w fun e w' => e = .returned (.bool true) ∧ Below w.heap.size w w' := by
  have h20 : ¬ (20 : Int) < (n : Int) := by omega
  have hz := zrs_szq s xs n (by omega)
  have hZ1 : ∀ w v, Glob w → Es w v n xs → Calls Tryd.prog 7 #[.int .i64 (s : Int), v] w fun e w' => (∃ r, e = .returned (.tuple #[r, .int .i64 0]) ∧ Cn w' r (zr (fun i => fz s (xs i)) n)) ∧ Below w.heap.size w w' := fun w v hg he => by
    obtain ⟨o, c, rfl⟩ := he.shape
    refine (pZeros_in s n c o xs hs (by omega) hx w hg he).mono ?_
    rintro e w' ⟨⟨G, rfl, _, hB⟩, hb⟩
    exact ⟨⟨_, rfl, zrs_Es s xs n (by omega) hB⟩, hb⟩
  have hZ2 : ∀ w, Es w (.slice oa n cn) n xs → Calls Tryd.prog 8 #[.int .i64 (s : Int), .slice oa n cn] w fun e w' => (∃ r, e = .returned (.tuple #[r, .int .i64 0]) ∧ Cn w' r (zr (fun i => fz s (xs i)) n)) ∧ Below w.heap.size w w' := fun w he => rZer_in s n cn oa xs hs (by omega) hx w he
  by_cases hnm : n = m
  · subst hnm
    by_cases hp : pre (modN s) (valN s xs n) n = 0
    · have hnd : ¬ ∀ a b, a < b → b < n → fz s (xs a) ≠ fz s (xs b) := fun h => (pre_ne s xs n).2 h hp
      refine points_short (s : Int) 0 10 n cn n cm (szq (zr (fun i => fz s (xs i)) n)) 0 oa ob xs ys (vq (zr (fun i => fz s (xs i)) n)) (fun _ => 0) h20 hm (by omega) (by omega) hx hy (fun i _ => vq_M _ _) (fun i hi => absurd hi (Nat.not_lt_zero _)) hZ1 hZ2 (fun w v u hg he hy' => ?_) (fun w he hy' => ?_) w hg hv hu
      · obtain ⟨o, c, rfl⟩ := he.shape
        obtain ⟨o', c', rfl⟩ := hy'.shape
        refine (thr_any s n c c' o o' xs ys hs (by omega) hx hy w hg he hy').mono ?_
        rintro e w' ⟨⟨_, rfl⟩ | ⟨h, _⟩, hb⟩
        · exact ⟨⟨_, rfl, Es.nil _ _⟩, hb⟩
        · exact absurd hp h
      · refine (rThr_in s n cn cm oa ob xs ys hs (by omega) hx hy w he hy').mono ?_
        rintro e w' ⟨⟨_, rfl⟩ | ⟨h, _⟩, hb⟩
        · exact ⟨⟨_, rfl, Es.nil _ _⟩, hb⟩
        · exact absurd h hnd
    · have hd : ∀ a b, a < b → b < n → fz s (xs a) ≠ fz s (xs b) := (pre_ne s xs n).1 hp
      have hq := szqb (P := thr (fun i => fz s (xs i)) (shR s xs ys n) n n) n (by omega) (fun t ht => thr_supp _ _ n n (Nat.le_refl _) t ht)
      refine points_short (s : Int) 0 0 n cn n cm (szq (zr (fun i => fz s (xs i)) n)) (szq (thr (fun i => fz s (xs i)) (shR s xs ys n) n n)) oa ob xs ys (vq (zr (fun i => fz s (xs i)) n)) (vq (thr (fun i => fz s (xs i)) (shR s xs ys n) n n)) h20 hm (by omega) (by omega) hx hy (fun i _ => vq_M _ _) (fun i _ => vq_M _ _) hZ1 hZ2 (fun w v u hg he hy' => ?_) (fun w he hy' => ?_) w hg hv hu
      · obtain ⟨o, c, rfl⟩ := he.shape
        obtain ⟨o', c', rfl⟩ := hy'.shape
        refine (thr_any s n c c' o o' xs ys hs (by omega) hx hy w hg he hy').mono ?_
        rintro e w' ⟨⟨h, _⟩ | ⟨_, G, rfl, _, hB⟩, hb⟩
        · exact absurd h hp
        · have k := szE_le (fun a => addP s a 0) (accN s xs ys n n) n
          exact ⟨⟨_, rfl, Cn.of (by omega) (thr_same s xs ys n hp) ((hB.EsK (by unfold maxLen; omega) k).same (fun i hi => el_lt (acc_lt _ _ _ _ _ _)))⟩, hb⟩
      · refine (rThr_in s n cn cm oa ob xs ys hs (by omega) hx hy w he hy').mono ?_
        rintro e w' ⟨⟨h, _⟩ | ⟨_, v, rfl, hC⟩, hb⟩
        · exact absurd hd h
        · exact ⟨⟨v, rfl, hC⟩, hb⟩
  · have hi : ¬ (n : Int) = (m : Int) := by omega
    refine points_short (s : Int) 0 50 n cn m cm (szq (zr (fun i => fz s (xs i)) n)) 0 oa ob xs ys (vq (zr (fun i => fz s (xs i)) n)) (fun _ => 0) h20 hm (by omega) (by omega) hx hy (fun i _ => vq_M _ _) (fun i hi => absurd hi (Nat.not_lt_zero _)) hZ1 hZ2 (fun w v u hg he hy' => ?_) (fun w he hy' => ?_) w hg hv hu
    · obtain ⟨o, c, rfl⟩ := he.shape
      obtain ⟨o', c', rfl⟩ := hy'.shape
      refine (pThr_len s hs o o' n c m c' hi w hg).mono ?_
      rintro e w' ⟨rfl, hb⟩
      exact ⟨⟨_, rfl, Es.nil _ _⟩, hb⟩
    · refine (rThr_len s hs oa ob n cn m cm hi w).mono ?_
      rintro e w' ⟨rfl, hb⟩
      exact ⟨⟨_, rfl, Es.nil _ _⟩, hb⟩
/-- Of no sort, short or long. -/
theorem points_out (s : Int) (hs : s < 0 ∨ 4 ≤ s) (n cn m cm : Nat) (oa ob : Option Addr) (xs ys : Nat → Nat) (hn : n ≤ 2000) (hg2 : n ≤ 20 ∨ 1024 ≤ n) (hm : m ≤ 4398046510976) (hx : ∀ i, i < n → xs i < 115792089237316195423570985008687907853269984665640564039457584007913129639936) (hy : ∀ i, i < m → ys i < 115792089237316195423570985008687907853269984665640564039457584007913129639936) (w : World) (hg : Glob w) (hv : Es w (.slice oa n cn) n xs) (hu : Es w (.slice ob m cm) m ys) :
    Calls Tryd.prog 3 #[.int .i64 s, .slice oa n cn, .slice ob m cm] w fun e w' => e = .returned (.bool true) ∧ Below w.heap.size w w' := by
  have hZ1 : ∀ w v, Glob w → Es w v n xs → Calls Tryd.prog 7 #[.int .i64 s, v] w fun e w' => (∃ r, e = .returned (.tuple #[r, .int .i64 20]) ∧ Es w' r 0 (fun _ => 0)) ∧ Below w.heap.size w w' := fun w v _ _ => by
    refine (pZer_out s hs v w).mono ?_
    rintro e w' ⟨rfl, hb⟩
    exact ⟨⟨_, rfl, Es.nil _ _⟩, hb⟩
  have hZ2 : ∀ w, Es w (.slice oa n cn) n xs → Calls Tryd.prog 8 #[.int .i64 s, .slice oa n cn] w fun e w' => (∃ r, e = .returned (.tuple #[r, .int .i64 20]) ∧ Es w' r 0 (fun _ => 0)) ∧ Below w.heap.size w w' := fun w _ => by
    refine (rZer_out s hs _ w).mono ?_
    rintro e w' ⟨rfl, hb⟩
    exact ⟨⟨_, rfl, Es.nil _ _⟩, hb⟩
  have hT1 : ∀ w v u, Glob w → Es w v n xs → Es w u m ys → Calls Tryd.prog 10 #[.int .i64 s, v, u] w fun e w' => (∃ r, e = .returned (.tuple #[r, .int .i64 20]) ∧ Es w' r 0 (fun _ => 0)) ∧ Below w.heap.size w w' := fun w v u _ he hy' => by
    obtain ⟨o, c, rfl⟩ := he.shape
    obtain ⟨o', c', rfl⟩ := hy'.shape
    refine (pThr_out s hs o o' n c m c' w).mono ?_
    rintro e w' ⟨rfl, hb⟩
    exact ⟨⟨_, rfl, Es.nil _ _⟩, hb⟩
  have hT2 : ∀ w, Es w (.slice oa n cn) n xs → Es w (.slice ob m cm) m ys → Calls Tryd.prog 11 #[.int .i64 s, .slice oa n cn, .slice ob m cm] w fun e w' => (∃ r, e = .returned (.tuple #[r, .int .i64 20]) ∧ Es w' r 0 (fun _ => 0)) ∧ Below w.heap.size w w' := fun w _ _ => by
    refine (rThr_out s hs oa ob n cn m cm w).mono ?_
    rintro e w' ⟨rfl, hb⟩
    exact ⟨⟨_, rfl, Es.nil _ _⟩, hb⟩
  by_cases h20 : (20 : Int) < (n : Int)
  · exact points_long s 20 20 n cn m cm 0 0 oa ob xs ys (fun _ => 0) (fun _ => 0) h20 (by omega) hn hm (by omega) (by omega) hx hy (fun i hi => absurd hi (Nat.not_lt_zero _)) (fun i hi => absurd hi (Nat.not_lt_zero _)) hZ1 hZ2 hT1 hT2 w hg hv hu
  · exact points_short s 20 20 n cn m cm 0 0 oa ob xs ys (fun _ => 0) (fun _ => 0) h20 hm (by omega) (by omega) hx hy (fun i hi => absurd hi (Nat.not_lt_zero _)) (fun i hi => absurd hi (Nat.not_lt_zero _)) hZ1 hZ2 hT1 hT2 w hg hv hu
/-- Too many points. -/
theorem points_many (s n cn m cm : Nat) (oa ob : Option Addr) (xs ys : Nat → Nat) (hs : s < 4) (hn : n ≤ 2000) (hn2 : 1024 ≤ n) (hm : m ≤ 4398046510976) (hx : ∀ i, i < n → xs i < 115792089237316195423570985008687907853269984665640564039457584007913129639936) (hy : ∀ i, i < m → ys i < 115792089237316195423570985008687907853269984665640564039457584007913129639936) (w : World) (hg : Glob w) (hv : Es w (.slice oa n cn) n xs) (hu : Es w (.slice ob m cm) m ys) :
    Calls Tryd.prog 3 #[.int .i64 (s : Int), .slice oa n cn, .slice ob m cm] w fun e w' => e = .returned (.bool true) ∧ Below w.heap.size w w' := by
  have hZ1 : ∀ w v, Glob w → Es w v n xs → Calls Tryd.prog 7 #[.int .i64 (s : Int), v] w fun e w' => (∃ r, e = .returned (.tuple #[r, .int .i64 70]) ∧ Es w' r 0 (fun _ => 0)) ∧ Below w.heap.size w w' := fun w v hg he => by
    obtain ⟨o, c, rfl⟩ := he.shape
    refine (pZer_long s hs o n c (by omega) w hg).mono ?_
    rintro e w' ⟨rfl, hb⟩
    exact ⟨⟨_, rfl, Es.nil _ _⟩, hb⟩
  have hZ2 : ∀ w, Es w (.slice oa n cn) n xs → Calls Tryd.prog 8 #[.int .i64 (s : Int), .slice oa n cn] w fun e w' => (∃ r, e = .returned (.tuple #[r, .int .i64 70]) ∧ Es w' r 0 (fun _ => 0)) ∧ Below w.heap.size w w' := fun w _ => by
    refine (rZer_long s hs oa n cn (by omega) w).mono ?_
    rintro e w' ⟨rfl, hb⟩
    exact ⟨⟨_, rfl, Es.nil _ _⟩, hb⟩
  by_cases hnm : (n : Int) = (m : Int)
  · refine points_long (s : Int) 70 70 n cn m cm 0 0 oa ob xs ys (fun _ => 0) (fun _ => 0) (by omega) (by omega) hn hm (by omega) (by omega) hx hy (fun i hi => absurd hi (Nat.not_lt_zero _)) (fun i hi => absurd hi (Nat.not_lt_zero _)) hZ1 hZ2 (fun w v u hg he hy' => ?_) (fun w _ _ => ?_) w hg hv hu
    · obtain ⟨o, c, rfl⟩ := he.shape
      obtain ⟨o', c', rfl⟩ := hy'.shape
      refine (pThr_deg s hs o o' n c m c' hnm (by omega) w hg).mono ?_
      rintro e w' ⟨rfl, hb⟩
      exact ⟨⟨_, rfl, Es.nil _ _⟩, hb⟩
    · refine (rThr_deg s hs oa ob n cn m cm hnm (by omega) w).mono ?_
      rintro e w' ⟨rfl, hb⟩
      exact ⟨⟨_, rfl, Es.nil _ _⟩, hb⟩
  · refine points_long (s : Int) 70 50 n cn m cm 0 0 oa ob xs ys (fun _ => 0) (fun _ => 0) (by omega) (by omega) hn hm (by omega) (by omega) hx hy (fun i hi => absurd hi (Nat.not_lt_zero _)) (fun i hi => absurd hi (Nat.not_lt_zero _)) hZ1 hZ2 (fun w v u hg he hy' => ?_) (fun w _ _ => ?_) w hg hv hu
    · obtain ⟨o, c, rfl⟩ := he.shape
      obtain ⟨o', c', rfl⟩ := hy'.shape
      refine (pThr_len s hs o o' n c m c' hnm w hg).mono ?_
      rintro e w' ⟨rfl, hb⟩
      exact ⟨⟨_, rfl, Es.nil _ _⟩, hb⟩
    · refine (rThr_len s hs oa ob n cn m cm hnm w).mono ?_
      rintro e w' ⟨rfl, hb⟩
      exact ⟨⟨_, rfl, Es.nil _ _⟩, hb⟩
set_option maxHeartbeats 4000000 in
theorem points_g0 (si : Int) (oa ob : Option Addr) (n cn m cm : Nat) (h1 : (20 : Int) < (n : Int)) (h2 : (n : Int) < 1024) (w : World) (hg : Glob w) : Calls Tryd.prog 3 #[.int .i64 si, .slice oa n cn, .slice ob m cm] w fun e w' => e = .returned (.bool true) ∧ Below w.heap.size w w' := by
  have HG : Hid (Glob w) := hg
  clear hg
  go_enter Tryd.func3, Tryd.ntmps3
  go_wp2_with fail
  refine (alive7_any w HG.out).mono ?_
  rintro e w1 ⟨rfl, hb1⟩
  go_wp2
  go_ret
  exact ⟨rfl, hb1⟩
set_option maxHeartbeats 4000000 in
theorem points_g1 (si : Int) (oa ob : Option Addr) (n cn m cm : Nat) (h1 : (20 : Int) < (n : Int)) (h2 : ¬ (n : Int) < 1024) (h3 : (2000 : Int) < (n : Int)) (w : World) (hg : Glob w) : Calls Tryd.prog 3 #[.int .i64 si, .slice oa n cn, .slice ob m cm] w fun e w' => e = .returned (.bool true) ∧ Below w.heap.size w w' := by
  have HG : Hid (Glob w) := hg
  clear hg
  go_enter Tryd.func3, Tryd.ntmps3
  go_wp2_with fail
  refine (alive7_any w HG.out).mono ?_
  rintro e w1 ⟨rfl, hb1⟩
  go_wp2
  go_ret
  exact ⟨rfl, hb1⟩
/-- PolyPoints is true of anything. -/
theorem points_walk (si : Int) (v u : Value) (n m : Nat) (f g : Nat → Nat) (hf : ∀ i, i < n → f i < 115792089237316195423570985008687907853269984665640564039457584007913129639936) (hgm : ∀ i, i < m → g i < 115792089237316195423570985008687907853269984665640564039457584007913129639936) (hm : m ≤ 4398046510976) (w : World) (hg : Glob w) (hv : Es w v n f) (hu : Es w u m g) :
    Calls Tryd.prog 3 #[.int .i64 si, v, u] w fun e w' => e = .returned (.bool true) ∧ Below w.heap.size w w' := by
  obtain ⟨oa, cn, rfl⟩ := hv.shape
  obtain ⟨ob, cm, rfl⟩ := hu.shape
  by_cases h1 : 20 < n ∧ n < 1024
  · exact points_g0 si oa ob n cn m cm (by omega) (by omega) w hg
  by_cases h2 : 2000 < n
  · exact points_g1 si oa ob n cn m cm (by omega) (by omega) (by omega) w hg
  by_cases hs : si < 0 ∨ 4 ≤ si
  · exact points_out si hs n cn m cm oa ob f g (by omega) (by omega) hm hf hgm w hg hv hu
  obtain ⟨s, rfl⟩ : ∃ s : Nat, si = (s : Int) := ⟨si.toNat, by omega⟩
  by_cases h3 : n ≤ 20
  · exact points_in s n cn m cm oa ob f g (by omega) h3 hm hf hgm w hg hv hu
  · exact points_many s n cn m cm oa ob f g (by omega) (by omega) (by omega) hm hf hgm w hg hv hu

end Go.Proofs.YtfahhohhpjlhnaaDoor
