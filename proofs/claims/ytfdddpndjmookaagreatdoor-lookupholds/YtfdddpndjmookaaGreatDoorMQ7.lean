/- Products over lists in another order; all checks of a lookup are 0. -/
import Derived.Test.YtfdddpndjmookaaGreatDoorMQ4
import Derived.Test.YtfdddpndjmookaaGreatDoorMU2
import Derived.Test.YtfdddpndjmookaaGreatDoorMQ3
import Derived.Test.YtfdddpndjmookaaGreatDoorMQ6
import Derived.Test.YtfdddpndjmookaaGreatDoorMQ5
namespace Go.Proofs.YtfdddpndjmookaaGreatDoor
open Go.RowKit

/-- A list's product in the field. -/
def pq (s : Nat) : List Nat → Fq s
  | [] => 1
  | x :: l => fz s x * pq s l
theorem pq_perm {s : Nat} {a b : List Nat} (h : a.Perm b) : pq s a = pq s b := by
  induction h with
  | nil => rfl
  | cons x _ ih => show fz s x * _ = fz s x * _; rw [ih]
  | swap x y l => show fz s y * (fz s x * pq s l) = fz s x * (fz s y * pq s l); grind
  | trans _ _ h1 h2 => exact h1.trans h2
theorem pq_snoc (s x : Nat) : ∀ l, pq s (l ++ [x]) = pq s l * fz s x
  | [] => by show fz s x * 1 = 1 * fz s x; grind
  | y :: l => by show fz s y * pq s (l ++ [x]) = fz s y * pq s l * fz s x; rw [pq_snoc s x l]; grind
theorem pq_succ (s n : Nat) (f : Nat → Nat) : pq s (fl (n + 1) f) = pq s (fl n f) * fz s (f n) := by rw [fl_succ, pq_snoc]
theorem pq_congr {s : Nat} {f g : Nat → Nat} : ∀ n, (∀ i, i < n → fz s (f i) = fz s (g i)) → pq s (fl n f) = pq s (fl n g)
  | 0, _ => rfl
  | n + 1, h => by rw [pq_succ, pq_succ, pq_congr n (fun i hi => h i (by omega)), h n (by omega)]
theorem pq_mul (s : Nat) (f g : Nat → Nat) : ∀ n, pq s (fl n (fun i => mulP s (f i) (g i))) = pq s (fl n f) * pq s (fl n g)
  | 0 => by show (1 : Fq s) = 1 * 1; grind
  | n + 1 => by rw [pq_succ, pq_succ, pq_succ, pq_mul s f g n, fz_mul]; grind
theorem fl_map (n : Nat) (f h : Nat → Nat) : fl n (fun i => h (f i)) = (fl n f).map h := by simp [fl, Function.comp_def]
theorem pq_shift {s n : Nat} {S f : Nat → Nat} (be : Nat) (h : (fl n S).Perm (fl n (fun i => addP s (f i) 0))) : pq s (fl n (fun i => addP s (S i) be)) = pq s (fl n (fun i => addP s (f i) be)) := by
  rw [fl_map n S (fun x => addP s x be), pq_perm (h.map _), ← fl_map n (fun i => addP s (f i) 0) (fun x => addP s x be)]
  refine pq_congr n (fun i _ => ?_)
  rw [fz_add, fz_add, fz_add, fz_zero]
  grind
theorem z_prod {s : Nat} {iv : Nat → Nat} {st : Nat} {A B : Nat → Nat} : ∀ n, (∀ j, j < n → fz s (iv (B j)) * fz s (B j) = 1) → fz s (alz (mulP s) iv st A B n) * pq s (fl n B) = fz s st * pq s (fl n A)
  | 0, _ => rfl
  | n + 1, h => by
    have ih := z_prod (st := st) (A := A) n (fun j hj => h j (by omega))
    have hn := h n (by omega)
    rw [pq_succ, pq_succ]
    show fz s (mulP s (alz (mulP s) iv st A B n) (mulP s (A n) (iv (B n)))) * _ = _
    rw [fz_mul, fz_mul]
    generalize fz s (alz (mulP s) iv st A B n) = z at *
    generalize pq s (fl n B) = p at *
    generalize pq s (fl n A) = q at *
    generalize fz s (iv (B n)) = v at *
    generalize fz s (B n) = b at *
    grind
theorem pq_unit {s : Nat} {iv : Nat → Nat} {B : Nat → Nat} : ∀ n, (∀ j, j < n → fz s (iv (B j)) * fz s (B j) = 1) → ∃ u, pq s (fl n B) * u = 1
  | 0, _ => ⟨1, by show (1 : Fq s) * 1 = 1; grind⟩
  | n + 1, h => by
    obtain ⟨u, hu⟩ := pq_unit n (fun j hj => h j (by omega))
    have hn := h n (by omega)
    refine ⟨u * fz s (iv (B n)), ?_⟩
    rw [pq_succ]
    grind
/-- Where the divisors are the factors in another order, the product ends in 1. -/
theorem z_one {s n : Nat} {iv : Nat → Nat} {A B : Nat → Nat} (h : ∀ j, j < n → fz s (iv (B j)) * fz s (B j) = 1) (hp : pq s (fl n A) = pq s (fl n B)) : fz s (alz (mulP s) iv 1 A B n) = 1 := by
  have h1 := z_prod (st := 1) (A := A) n h
  obtain ⟨u, hu⟩ := pq_unit n h
  rw [hp, fz_one] at h1
  grind
theorem pair_prod {s n be ga : Nat} {f g S M : Nat → Nat} (hS : (fl n S).Perm (fl n (fun i => addP s (f i) 0))) (hM : (fl n M).Perm (fl n (fun i => addP s (g i) 0))) :
    pq s (fl n (fun i => mulP s (addP s (f i) be) (addP s (g i) ga))) = pq s (fl n (fun i => mulP s (addP s (S i) be) (addP s (M i) ga))) := by
  rw [pq_mul, pq_mul, pq_shift be hS, pq_shift ga hM]
/-- A step of the product, without its divisor. -/
theorem z_step {s i : Nat} {iv : Nat → Nat} {st : Nat} {A B : Nat → Nat} (h : fz s (iv (B i)) * fz s (B i) = 1) : fz s (alz (mulP s) iv st A B (i + 1)) * fz s (B i) = fz s (alz (mulP s) iv st A B i) * fz s (A i) := by
  show fz s (mulP s (alz (mulP s) iv st A B i) (mulP s (A i) (iv (B i)))) * _ = _
  rw [fz_mul, fz_mul]
  grind
theorem sub_zero {s v : Nat} (hv : v < modN s) (h : fz s v = 0) : v = 0 := fz_inj hv (modN_pos s) h
/-- All checks are 0. -/
theorem chkV_zero (s be ga x0 x1 x2 x3 x4 x5 x6 r u : Nat) (h0 : r = 0 → x5 = 1 ∧ x2 = x4) (hu : r = u → x5 = 1)
    (hr : r < u → fz s x6 * fz s (mulP s (addP s x2 be) (addP s x4 ga)) = fz s x5 * fz s (mulP s (addP s x0 be) (addP s x1 ga)) ∧ (x2 = x4 ∨ x2 = x3)) (i : Nat) :
    chkV (addP s) (mulP s) (subP s) be ga x0 x1 x2 x3 x4 x5 x6 (if 0 = r then 1 else 0) (if u = r then 1 else 0) (if r < u then 1 else 0) i = 0 := by
  have hz : ∀ y, mulP s 0 y = 0 := fun y => by unfold mulP; rw [Nat.zero_mul, Nat.zero_mod]
  have hsame : ∀ a b, a = b → mulP s 1 (subP s a b) = 0 := fun a b e => by
    refine sub_zero (mulP_lt _ _ _) ?_
    rw [fz_mul, fz_sub, e]
    grind
  unfold chkV
  split
  · by_cases h : 0 = r
    · rw [if_pos h, (h0 h.symm).1]; exact hsame _ _ rfl
    · rw [if_neg h]; exact hz _
  · split
    · by_cases h : u = r
      · rw [if_pos h, hu h.symm]
        refine sub_zero (mulP_lt _ _ _) ?_
        rw [fz_mul, fz_sub, fz_mul, fz_one]
        grind
      · rw [if_neg h]; exact hz _
    · split
      · by_cases h : r < u
        · rw [if_pos h]
          refine sub_zero (mulP_lt _ _ _) ?_
          rw [fz_mul, fz_sub, fz_mul s x6, fz_mul s x5, (hr h).1]
          grind
        · rw [if_neg h]; exact hz _
      · split
        · by_cases h : 0 = r
          · rw [if_pos h]; exact hsame _ _ (h0 h.symm).2
          · rw [if_neg h]; exact hz _
        · by_cases h : r < u
          · rw [if_pos h]
            refine sub_zero (mulP_lt _ _ _) ?_
            rw [fz_mul, fz_mul, fz_sub, fz_sub]
            rcases (hr h).2 with e | e
            · rw [e]; grind
            · rw [e]; grind
          · rw [if_neg h]; exact hz _
/-- Lagrange's values at a point of the domain. -/
theorem lagV_at {s k i r : Nat} (hk : k ≤ 9) (hi : i < 2 ^ k) (hr : r < 2 ^ k) : lagV s k i (expP s (rootP s k) r) = if i = r then 1 else 0 := lag_at hk hi hr (lagV_ok s k i _ hk)
theorem sm_at {s k r : Nat} (hk : k ≤ 9) (hr : r < 2 ^ k) : ∀ u, u ≤ 2 ^ k → sm s (fun i => lagV s k i (expP s (rootP s k) r)) u = if r < u then 1 else 0
  | 0, _ => rfl
  | u + 1, h => by
    have ih := sm_at (s := s) hk hr u (by omega)
    have h2 := (modN_prime s).1
    show addP s (sm s _ u) (lagV s k u _) = _
    rw [ih, lagV_at hk (by omega) hr]
    unfold addP
    by_cases e : u = r
    · rw [if_pos e, if_neg (by omega), if_pos (by omega), Nat.zero_add]; exact Nat.mod_eq_of_lt (by omega)
    · rw [if_neg e, Nat.add_zero]
      by_cases e2 : r < u
      · rw [if_pos e2, if_pos (by omega)]; exact Nat.mod_eq_of_lt (by omega)
      · rw [if_neg e2, if_neg (by omega)]; exact Nat.zero_mod _
end Go.Proofs.YtfdddpndjmookaaGreatDoor

/- lookup.Product of lists that fit; permute.Place of a point. -/
namespace Go.Proofs.YtfdddpndjmookaaGreatDoor
open Go.RowKit

theorem eqE_in (d : Nat) (a0 a1 a2 a3 b0 b1 b2 b3 : Int) (w : World) :
    (Op.equalIn (d + 2) 25 (.agg #[.int .u64 a0, .int .u64 a1, .int .u64 a2, .int .u64 a3]) (.agg #[.int .u64 b0, .int .u64 b1, .int .u64 b2, .int .u64 b3])).run Tryz.prog w =
      .ok (a0 == b0 && (a1 == b1 && (a2 == b2 && a3 == b3))) w := by
  have hs : (Tryz.prog.info? 23).isSome = true := by kernel_rfl
  obtain ⟨i, hi⟩ := Option.isSome_iff_exists.mp hs
  rw [run_equalIn_array w (d + 1) _ _ Tryz.underlying25 hi]
  have hc : Tryz.prog.cellsOf 23 = 1 := by kernel_rfl
  rw [hc, show List.range 4 = [0, 1, 2, 3] from rfl]
  obtain ⟨p0, p1, p2, p3⟩ := part4_at a0 a1 a2 a3 w
  obtain ⟨q0, q1, q2, q3⟩ := part4_at b0 b1 b2 b3 w
  have hq : ∀ a b : Int, (Op.equalIn (d + 1) 23 (.int .u64 a) (.int .u64 b)).run Tryz.prog w = .ok (a == b) w := fun a b => run_equalIn_int w d 23 .u64 .u64 a b Tryz.underlying23
  simp only [Op.eqItems, Sem.run_bind, Nat.mul_one, p0, q0, hq, Result.andThen_ok]
  cases h0 : (a0 == b0)
  · simp
  · simp only [Bool.not_true, Bool.false_eq_true, if_false, Sem.run_bind, p1, q1, hq, Result.andThen_ok, Bool.true_and]
    cases h1 : (a1 == b1)
    · simp
    · simp only [Bool.not_true, Bool.false_eq_true, if_false, Sem.run_bind, p2, q2, hq, Result.andThen_ok, Bool.true_and]
      cases h2 : (a2 == b2)
      · simp
      · simp only [Bool.not_true, Bool.false_eq_true, if_false, Sem.run_bind, p3, q3, hq, Result.andThen_ok, Bool.true_and]
        cases h3 : (a3 == b3) <;> simp
theorem chk_ok (s k : Nat) (hs : s < 4) (hk : 3 ≤ k ∧ k ≤ 5) (w : World) (hg : GlobD w) : Calls Tryz.prog 20 #[.int .i64 (s : Int), .int .i64 (k : Int)] w fun e w' => e = .returned (.int .i64 0) ∧ Below w.heap.size w w' := by
  have h := pck_in s (k : Int) hs w hg.1
  rwa [if_neg (by omega)] at h
theorem use_ok (k U : Nat) (hk : 3 ≤ k ∧ k ≤ 5) (hU : U = 2 ^ k - 4) (w : World) : Calls Tryz.prog 21 #[.int .i64 (k : Int)] w fun e w' => e = .returned (.int .i64 (U : Int)) ∧ w' = w := by
  have hP : 8 ≤ 2 ^ k ∧ 2 ^ k ≤ 32 := ⟨Nat.pow_le_pow_right (n := 2) (by decide) hk.1, Nat.pow_le_pow_right (n := 2) (by decide) hk.2⟩
  have h := usable_any (k : Int) w
  have e2 : (2 : Int) ^ k = ((2 ^ k : Nat) : Int) := by simp
  rw [if_pos (by omega), Int.toNat_natCast, e2, show ((2 ^ k : Nat) : Int) - 4 = (U : Int) by omega] at h
  exact h
/-- permute.Place, in the sorts and sizes. -/
theorem place_in (s k U x : Nat) (hs : s < 4) (hk : 3 ≤ k ∧ k ≤ 5) (hU : U = 2 ^ k - 4) (hx : x < 115792089237316195423570985008687907853269984665640564039457584007913129639936) (w : World) (hg : GlobD w) :
    Calls Tryz.prog 10 #[.int .i64 (s : Int), .int .i64 (k : Int), .agg #[.int .u64 ((limb 0 (x) : Nat) : Int), .int .u64 ((limb 1 (x) : Nat) : Int), .int .u64 ((limb 2 (x) : Nat) : Int), .int .u64 ((limb 3 (x) : Nat) : Int)]] w fun e w' => e = .returned (.tuple #[.agg #[.int .u64 ((limb 0 (addP s x 0) : Nat) : Int), .int .u64 ((limb 1 (addP s x 0) : Nat) : Int), .int .u64 ((limb 2 (addP s x 0) : Nat) : Int), .int .u64 ((limb 3 (addP s x 0) : Nat) : Int), .int .u64 ((limb 0 (lagV s k 0 x) : Nat) : Int), .int .u64 ((limb 1 (lagV s k 0 x) : Nat) : Int), .int .u64 ((limb 2 (lagV s k 0 x) : Nat) : Int), .int .u64 ((limb 3 (lagV s k 0 x) : Nat) : Int), .int .u64 ((limb 0 (lagV s k U x) : Nat) : Int), .int .u64 ((limb 1 (lagV s k U x) : Nat) : Int), .int .u64 ((limb 2 (lagV s k U x) : Nat) : Int), .int .u64 ((limb 3 (lagV s k U x) : Nat) : Int), .int .u64 ((limb 0 (sm s (fun i => lagV s k i x) U) : Nat) : Int), .int .u64 ((limb 1 (sm s (fun i => lagV s k i x) U) : Nat) : Int), .int .u64 ((limb 2 (sm s (fun i => lagV s k i x) U) : Nat) : Int), .int .u64 ((limb 3 (sm s (fun i => lagV s k i x) U) : Nat) : Int)], .int .i64 0]) ∧ Below w.heap.size w w' := by
  have hP : 8 ≤ 2 ^ k ∧ 2 ^ k ≤ 32 := ⟨Nat.pow_le_pow_right (n := 2) (by decide) hk.1, Nat.pow_le_pow_right (n := 2) (by decide) hk.2⟩
  exact place_ok (s : Int) (k : Int) U x (addP s x 0) (sm s (fun i => lagV s k i x) U) (fun i => lagV s k i x) (by omega) w hg (fun w hg => chk_ok s k hs hk w hg) (fun w => use_ok k U hk hU w)
    (fun i hi w hg => dlagV s k i x hs (by omega) (by omega) hx w hg) (fun w hg => pmel_any s x hs hx w hg.1) (fun G c w hg hv => psum_any s U c _ (fun i => lagV s k i x) hs (by omega) (fun i _ => lagV_M s k i x (by omega)) w hg.1 hv)
theorem KU.toKept {b : Nat} {w w' : World} (h : KU w.heap.size b w w') : Kept b w w' := ⟨h.1, h.2.1, h.2.2.1, h.2.2.2.1, fun k hk hne => h.2.2.2.2 k hk hne⟩
theorem PurseS.mono {w : World} {base base2 b m : Nat} {f : Nat → Nat} (h : PurseS w base b m f) (hb : base ≤ base2) : PurseS w base2 b m f := by
  obtain ⟨oa, cm, h1, h2, h3, h4⟩ := h
  exact ⟨oa, cm, h1, h2, Nat.lt_of_lt_of_le h3 hb, fun g o e => ⟨(h4 g o e).1, Nat.lt_of_lt_of_le (h4 g o e).2 hb⟩⟩
theorem PurseS.step {w w' : World} {b m : Nat} {f : Nat → Nat} (h : PurseS w w.heap.size b m f) (hb : Below w.heap.size w w') : PurseS w' w'.heap.size b m f := (h.below hb).mono hb.size
theorem KU.low {base base2 b : Nat} {w w' : World} (h : KU base2 b w w') (hb : base ≤ base2) : KU base b w w' := ⟨h.1, h.2.1, h.2.2.1, h.2.2.2.1, fun k hk hne => h.2.2.2.2 k (Nat.lt_of_lt_of_le hk hb) hne⟩
theorem eqZ0 (w : World) : (Op.equalIn 10000 25 (.agg #[.int .u64 ((limb 0 (0) : Nat) : Int), .int .u64 ((limb 1 (0) : Nat) : Int), .int .u64 ((limb 2 (0) : Nat) : Int), .int .u64 ((limb 3 (0) : Nat) : Int)]) (.agg #[.int .u64 0, .int .u64 0, .int .u64 0, .int .u64 0])).run Tryz.prog w = .ok true w := by
  rw [eqE_in 9998]
  simp [limb_zero]
/-- What Product answers, where all fits. -/
def PdE (n : Nat) (B Zf : Nat → Nat) (e : Ending) (w' : World) : Prop :=
  (∃ v er, e = .returned (.tuple #[v, .int .i64 er]) ∧ (er = 81 ∨ er = 100)) ∨ ((∀ i, i < n → B i ≠ 0) ∧ ∃ z, e = .returned (.tuple #[z, .int .i64 0]) ∧ Es w' z (n + 4) Zf)
/-- A row's factor. -/
def pairF (s be ga : Nat) (F G : Nat → Nat) (i : Nat) : Nat := mulP s (addP s (F i) be) (addP s (G i) ga)
/-- The product's values in all rows. -/
def prZ (s : Nat) (A B : Nat → Nat) (i : Nat) : Nat := alz (mulP s) (invU (modN s)) 1 A B i
def prF (s n : Nat) (A B f : Nat → Nat) (i : Nat) : Nat := (alL (mulP s) (invU (modN s)) 1 A B n ++ coinL (fun a => addP s a 0) f 3).getD i 0
theorem prF_at {s n : Nat} {A B f : Nat → Nat} {i : Nat} (h : i ≤ n) : prF s n A B f i = prZ s A B i := by
  unfold prF prZ
  rw [List.getD_eq_getElem?_getD, List.getElem?_append_left (by rw [alL_len]; omega)]
  unfold alL
  rw [List.getElem?_map, List.getElem?_range (by omega)]
  rfl
theorem prF_M {s n : Nat} {A B f : Nat → Nat} (i : Nat) (h : i < n + 4) : prF s n A B f i < 115792089237316195423570985008687907853269984665640564039457584007913129639936 := by
  have hall : ∀ x ∈ alL (mulP s) (invU (modN s)) 1 A B n ++ coinL (fun a => addP s a 0) f 3, x < 115792089237316195423570985008687907853269984665640564039457584007913129639936 := by
    intro x hx
    rcases List.mem_append.1 hx with h | h
    · obtain ⟨j, _, rfl⟩ := List.mem_map.1 h
      cases j with
      | zero => show 1 < 115792089237316195423570985008687907853269984665640564039457584007913129639936; decide
      | succ j => exact mulP_M _ _ _
    · obtain ⟨j, _, rfl⟩ := List.mem_map.1 h
      exact addP_M _ _ _
  exact hall _ (getD_mem (by rw [List.length_append, alL_len, coinL_len]; omega))
set_option maxHeartbeats 1000000 in
theorem prodH (s q n m be ga : Nat) (F0 F1 F2 F3 f : Nat → Nat) (hs : s < 4) (hq : 3 ≤ q ∧ q ≤ 5) (hn : n = 2 ^ q - 4) (hbe : be < 115792089237316195423570985008687907853269984665640564039457584007913129639936) (hga : ga < 115792089237316195423570985008687907853269984665640564039457584007913129639936) (hF0 : ∀ i, i < n → F0 i < 115792089237316195423570985008687907853269984665640564039457584007913129639936) (hF1 : ∀ i, i < n → F1 i < 115792089237316195423570985008687907853269984665640564039457584007913129639936) (hF2 : ∀ i, i < n → F2 i < 115792089237316195423570985008687907853269984665640564039457584007913129639936) (hF3 : ∀ i, i < n → F3 i < 115792089237316195423570985008687907853269984665640564039457584007913129639936) (hf : ∀ i, i < m → f i < 115792089237316195423570985008687907853269984665640564039457584007913129639936)
    (oa ob oc od : Option Addr) (ca cb cc cd b : Nat) (w : World) (hg : Glob w) (hb3 : 3 ≤ b) (e0 : Es w (.slice oa n ca) n F0) (e1 : Es w (.slice ob n cb) n F1) (e2 : Es w (.slice oc n cc) n F2) (e3 : Es w (.slice od n cd) n F3) (hp : PurseS w w.heap.size b m f) :
    Calls Tryz.prog 8 #[.int .i64 (s : Int), .int .i64 (q : Int), .slice oa n ca, .slice ob n cb, .slice oc n cc, .slice od n cd, .agg #[.int .u64 ((limb 0 (be) : Nat) : Int), .int .u64 ((limb 1 (be) : Nat) : Int), .int .u64 ((limb 2 (be) : Nat) : Int), .int .u64 ((limb 3 (be) : Nat) : Int)], .agg #[.int .u64 ((limb 0 (ga) : Nat) : Int), .int .u64 ((limb 1 (ga) : Nat) : Int), .int .u64 ((limb 2 (ga) : Nat) : Int), .int .u64 ((limb 3 (ga) : Nat) : Int)], .pointer (some ⟨b, 0, none⟩)] w fun e w' => PdE n (pairF s be ga F2 F3) (prF s n (pairF s be ga F0 F1) (pairF s be ga F2 F3) f) e w' ∧ KU w.heap.size b w w' := by
  have hF := fld_in s hs
  have hP : 8 ≤ 2 ^ q ∧ 2 ^ q ≤ 32 := ⟨Nat.pow_le_pow_right (n := 2) (by decide) hq.1, Nat.pow_le_pow_right (n := 2) (by decide) hq.2⟩
  have hn4 : 4 ≤ n ∧ n ≤ 28 := by omega
  obtain ⟨A, eA⟩ : ∃ A, A = pairF s be ga F0 F1 := ⟨_, rfl⟩
  obtain ⟨B, eB⟩ : ∃ B, B = pairF s be ga F2 F3 := ⟨_, rfl⟩
  rw [← eA, ← eB]
  have hAM : ∀ i, A i < 115792089237316195423570985008687907853269984665640564039457584007913129639936 := fun i => by rw [eA]; exact mulP_M _ _ _
  have hBM : ∀ i, B i < 115792089237316195423570985008687907853269984665640564039457584007913129639936 := fun i => by rw [eB]; exact mulP_M _ _ _
  have hBm : ∀ i, B i < modN s := fun i => by rw [eB]; exact mulP_lt _ _ _
  have el1 : (fun a => addP s a 0) 1 = 1 := by
    show (1 + 0) % modN s = 1
    rw [Nat.add_zero]
    exact Nat.mod_eq_of_lt (modN_odd s).2
  rcases e0.open with ⟨_, hz, _⟩ | ⟨a0, p0, rfl, _, _, l0, y0⟩
  · omega
  rcases e1.open with ⟨_, hz, _⟩ | ⟨a1, p1, rfl, _, _, l1, y1⟩
  · omega
  rcases e2.open with ⟨_, hz, _⟩ | ⟨a2, p2, rfl, _, _, l2, y2⟩
  · omega
  rcases e3.open with ⟨_, hz, _⟩ | ⟨a3, p3, rfl, _, _, l3, y3⟩
  · omega
  refine prod_ok (s : Int) (q : Int) n a0 p0 ca a1 p1 cb a2 p2 cc a3 p3 cd F0 F1 F2 F3 A B be ga b _ (by omega) w hg l0 y0 l1 y1 l2 y2 l3 y3 (fun w hg => ?_) (fun w => use_ok q n hq hn w) (fun ag hA i hi w hg => ?_) (fun ag hA i hi w hg => ?_) (fun g w' hg' hb hr => ?_)
  · have h := pck_in s (q : Int) hs w hg
    rwa [if_neg (by omega)] at h
  · rw [eA]; exact pair_any hF ag be ga (F0 i) (F1 i) hA hbe hga (hF0 i hi) (hF1 i hi) w hg
  · rw [eB]; exact pair_any hF ag be ga (F2 i) (F3 i) hA hbe hga (hF2 i hi) (hF3 i hi) w hg
  by_cases hz : ∃ i, i < n ∧ B i = 0
  · obtain ⟨i, hi, hb0⟩ := hz
    have hpre : pre (modN s) B n = 0 := pre_some (modN s) B n i hi (by rw [hb0]; exact Nat.zero_mod _)
    have h := along_bad s n g b 1 n A B hs (by omega) (fun i _ => hBM i) hpre w' hg' hr
    rw [one_agg] at h
    refine h.mono ?_
    rintro e w'' ⟨rfl, hb2⟩
    exact ⟨⟨_, _, rfl⟩, Or.inl ⟨_, _, rfl, Or.inr rfl⟩, (KU.refl _ b w).below (bStep hb hb2)⟩
  have hnz : ∀ i, i < n → B i ≠ 0 := fun i hi h => hz ⟨i, hi, h⟩
  have hpre : pre (modN s) B n ≠ 0 := fun h => by
    obtain ⟨i, hi, h2⟩ := pre_zero (modN s) B (modN_prime s) n h
    rw [Nat.mod_eq_of_lt (hBm i)] at h2
    exact hnz i hi h2
  have alo := along_ok s n g b 1 n m A B f hF hs (by omega) (by decide) (fun i _ => hAM i) (fun i _ => hBM i) hf hpre w' hg' hb3 hr (hp.step hb)
  have el2 : addP s 1 0 = 1 := el1
  rw [one_agg] at alo
  simp only [el2] at alo
  refine alo.mono ?_
  rintro e w'' ⟨⟨_, rfl⟩ | ⟨_, z, rfl, ho, hpu⟩, hk⟩
  · exact ⟨⟨_, _, rfl⟩, Or.inl ⟨_, _, rfl, Or.inl rfl⟩, ((KU.refl _ b w).below hb).trans (hk.low hb.size)⟩
  · have ez := ho.es
    rw [List.length_append, alL_len, coinL_len] at ez
    exact ⟨⟨_, _, rfl⟩, Or.inr ⟨hnz, z, rfl, ez⟩, ((KU.refl _ b w).below hb).trans (hk.low hb.size)⟩
end Go.Proofs.YtfdddpndjmookaaGreatDoor

