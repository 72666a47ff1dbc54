/- MsmOrder's arithmetic: a sum the other way round, and a term split in two. -/
import Derived.Test.YtmpgillbjnpahaaDoorQSE
namespace Go.Proofs.YtmpgillbjnpahaaDoor
open Go.RowKit
theorem su_rev {c : Nat} : ∀ (n : Nat) (g : Nat → Nat × Nat × Bool), (∀ i, i < n → onT c (g i)) → su c (fun i => g (n - 1 - i)) n = su c g n
 | 0, g, h => rfl
 | n + 1, g, h => by
  rw [su_front n h]
  have e := su_rev n (fun i => g (i + 1)) (fun i hi => h (i + 1) (by omega))
  show ad c (su c (fun i => g (n + 1 - 1 - i)) n) (g (n + 1 - 1 - n)) = _
  have e2 : su c (fun i => g (n + 1 - 1 - i)) n = su c (fun i => g (n - 1 - i + 1)) n := su_congr n (fun i hi => by rw [show n + 1 - 1 - i = n - 1 - i + 1 from by omega])
  rw [e2, e, show n + 1 - 1 - n = 0 from by omega]
  exact ad_comm (su_on n (fun i hi => h (i + 1) (by omega))) (h 0 (by omega))
/-- Terms the other way round. -/
def revT (T : Nat → Nat × Nat × Nat × Bool) (n i : Nat) : Nat × Nat × Nat × Bool := T (n - 1 - i)
theorem rev_tot {c n : Nat} (T : Nat → Nat × Nat × Nat × Bool) (h : ∀ i, i < n → onT c (T i).2) (q : Nat) :
  tot c (fun i => (revT T n i).1 % q) (fun i => (revT T n i).2) n = tot c (fun i => (T i).1 % q) (fun i => (T i).2) n :=
 su_rev n (fun i => sm c (T i).2 ((T i).1 % q)) (fun i hi => sm_on (h i hi) _)
theorem rev_on {c n : Nat} {T : Nat → Nat × Nat × Nat × Bool} : (∀ i, i < n → onT c (revT T n i).2) ↔ (∀ i, i < n → onT c (T i).2) := by
 constructor
 ·intro h i hi
  have := h (n - 1 - i) (by omega)
  unfold revT at this
  rwa [show n - 1 - (n - 1 - i) = i from by omega] at this
 ·intro h i hi
  exact h (n - 1 - i) (by omega)
/-- The first term split into two, put behind the others (n + 1 terms at first). -/
def splT (T : Nat → Nat × Nat × Nat × Bool) (n d i : Nat) : Nat × Nat × Nat × Bool := if i < n then T (i + 1) else if i = n then (d, (T 0).2) else (7, (T 0).2)
theorem spl_lo {T : Nat → Nat × Nat × Nat × Bool} {n d i : Nat} (h : i < n) : splT T n d i = T (i + 1) := if_pos h
theorem spl_n (T : Nat → Nat × Nat × Nat × Bool) (n d : Nat) : splT T n d n = (d, (T 0).2) := by
 unfold splT
 rw [if_neg (by omega), if_pos rfl]
theorem spl_n1 (T : Nat → Nat × Nat × Nat × Bool) (n d : Nat) : splT T n d (n + 1) = (7, (T 0).2) := by
 unfold splT
 rw [if_neg (by omega), if_neg (by omega)]
theorem xc_oth' (c : Nat) (h : c < 4) : oth c = xc c := by
 have h : c = 0 ∨ c = 1 ∨ c = 2 ∨ c = 3 := by omega
 rcases h with rfl | rfl | rfl | rfl <;> rfl
theorem spl_on {c n d : Nat} {T : Nat → Nat × Nat × Nat × Bool} (h : ∀ i, i < n + 1 → onT c (T i).2) : ∀ i, i < n + 2 → onT c (splT T n d i).2 := fun i hi => by
 unfold splT
 split
 ·exact h (i + 1) (by omega)
 ·split
  ·exact h 0 (by omega)
  ·exact h 0 (by omega)
theorem spl_sub {s k : Nat} (hs : s < 4) : (subP s k 7 + 7) % modN s = k % modN s := by
 have h4 : s = 0 ∨ s = 1 ∨ s = 2 ∨ s = 3 := by omega
 have hm := modN_pos s
 have hlt : k % modN s < modN s := Nat.mod_lt _ hm
 unfold subP
 rcases h4 with rfl | rfl | rfl | rfl <;> simp only [modN] at * <;> omega
theorem spl_tot {c n k : Nat} (hc : c < 4) (T : Nat → Nat × Nat × Nat × Bool) (hk : (T 0).1 = k) (h : ∀ i, i < n + 1 → onT c (T i).2) :
  tot c (fun i => (splT T n (subP (xc c) k 7) i).1 % modN (xc c)) (fun i => (splT T n (subP (xc c) k 7) i).2) (n + 2) = tot c (fun i => (T i).1 % modN (xc c)) (fun i => (T i).2) (n + 1) := by
 have hm : ∀ a, sm c (T 0).2 (a % modN (xc c)) = sm c (T 0).2 a := fun a => by
  have := sm_mod hc (h 0 (by omega)) a
  rwa [xc_oth' c hc] at this
 unfold tot
 rw [su_front n (fun i hi => sm_on (h i hi) _)]
 show ad c (ad c (su c (fun i => sm c (splT T n (subP (xc c) k 7) i).2 ((splT T n (subP (xc c) k 7) i).1 % modN (xc c))) n) (sm c (splT T n (subP (xc c) k 7) n).2 ((splT T n (subP (xc c) k 7) n).1 % modN (xc c)))) (sm c (splT T n (subP (xc c) k 7) (n + 1)).2 ((splT T n (subP (xc c) k 7) (n + 1)).1 % modN (xc c))) = _
 rw [spl_n, spl_n1]
 have e : su c (fun i => sm c (splT T n (subP (xc c) k 7) i).2 ((splT T n (subP (xc c) k 7) i).1 % modN (xc c))) n = su c (fun i => sm c (T (i + 1)).2 ((T (i + 1)).1 % modN (xc c))) n := su_congr n (fun i hi => by rw [spl_lo hi])
 rw [e]
 have hX : onT c (su c (fun i => sm c (T (i + 1)).2 ((T (i + 1)).1 % modN (xc c))) n) := su_on n (fun i hi => sm_on (h (i + 1) (by omega)) _)
 have h0 := h 0 (by omega)
 show ad c (ad c _ (sm c (T 0).2 (subP (xc c) k 7 % modN (xc c)))) (sm c (T 0).2 (7 % modN (xc c))) = ad c (sm c (T 0).2 ((T 0).1 % modN (xc c))) _
 rw [hm, hm, ad_assoc hX (sm_on h0 _) (sm_on h0 _), ← sm_add h0, ← hm (subP (xc c) k 7 + 7), spl_sub (xc_lt hc), hk]
 exact ad_comm hX (sm_on h0 _)
theorem revE {c n : Nat} {T : Nat → Nat × Nat × Nat × Bool} {e : Ending} (h : SumE c n (revT T n) e) : SumE c n T e := by
 obtain ⟨x, y, i, E, he, hh | hh⟩ := h
 ·exact ⟨x, y, i, E, he, Or.inl ⟨hh.1, rev_on.1 hh.2.1, hh.2.2.trans (rev_tot T (rev_on.1 hh.2.1) _)⟩⟩
 ·exact ⟨x, y, i, E, he, Or.inr ⟨hh.1, fun h => hh.2.1 (rev_on.2 h), hh.2.2⟩⟩
theorem sumE_oneO {c n : Nat} {T : Nat → Nat × Nat × Nat × Bool} : ∃ (x y : Nat) (i : Bool) (E : Int), x < 115792089237316195423570985008687907853269984665640564039457584007913129639936 ∧ y < 115792089237316195423570985008687907853269984665640564039457584007913129639936 ∧ (∀ e, SumE c n T e → e = .returned (.tuple #[.agg #[.int .u64 (limb 0 (x)), .int .u64 (limb 1 (x)), .int .u64 (limb 2 (x)), .int .u64 (limb 3 (x)), .int .u64 (limb 0 (y)), .int .u64 (limb 1 (y)), .int .u64 (limb 2 (y)), .int .u64 (limb 3 (y)), .bool i], .int .i64 E])) ∧ (E = 0 → (∀ i, i < n → onT c (T i).2) ∧ (x, y, i) = tot c (fun i => (T i).1 % modN (xc c)) (fun i => (T i).2) n) := by
 by_cases hall : ∀ i, i < n → onT c (T i).2
 ·have ho : onT c (tot c (fun i => (T i).1 % modN (xc c)) (fun i => (T i).2) n) := tot_on _ hall
  refine ⟨(tot c (fun i => (T i).1 % modN (xc c)) (fun i => (T i).2) n).1, (tot c (fun i => (T i).1 % modN (xc c)) (fun i => (T i).2) n).2.1, (tot c (fun i => (T i).1 % modN (xc c)) (fun i => (T i).2) n).2.2, 0, lt_M c _ (on_lt ho).1, lt_M c _ (on_lt ho).2, ?_, fun _ => ⟨hall, rfl⟩⟩
  rintro e ⟨x, y, i, E, rfl, h | h⟩
  ·obtain ⟨rfl, _, h⟩ := h
   rw [← h]
  ·exact absurd hall h.2.1
 ·refine ⟨0, 0, false, 41, by decide, by decide, ?_, fun h => absurd h (by decide)⟩
  rintro e ⟨x, y, i, E, rfl, h | h⟩
  ·exact absurd h.2.1 hall
  ·obtain ⟨rfl, _, h⟩ := h
   cases h
   rfl
/-- The split terms have the same sum. -/
theorem splE {c m x y : Nat} {i : Bool} (hc : c < 4) {T : Nat → Nat × Nat × Nat × Bool} (h : ∀ i, i < m + 1 → onT c (T i).2) (ht : (x, y, i) = tot c (fun i => (T i).1 % modN (xc c)) (fun i => (T i).2) (m + 1)) {e : Ending} (he : SumE c (m + 2) (splT T m (subP (xc c) (T 0).1 7)) e) : e = .returned (.tuple #[.agg #[.int .u64 (limb 0 (x)), .int .u64 (limb 1 (x)), .int .u64 (limb 2 (x)), .int .u64 (limb 3 (x)), .int .u64 (limb 0 (y)), .int .u64 (limb 1 (y)), .int .u64 (limb 2 (y)), .int .u64 (limb 3 (y)), .bool i], .int .i64 0]) := by
 obtain ⟨x', y', i', E, rfl, hh | hh⟩ := he
 ·obtain ⟨rfl, _, hq⟩ := hh
  rw [spl_tot hc T rfl h, ← ht] at hq
  cases hq
  rfl
 ·exact absurd (spl_on h) hh.2.1
end Go.Proofs.YtmpgillbjnpahaaDoor
