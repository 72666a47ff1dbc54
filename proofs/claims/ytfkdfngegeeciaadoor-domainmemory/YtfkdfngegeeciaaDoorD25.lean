/- DomainMemory of anything. -/
import Derived.Test.YtfkdfngegeeciaaDoorD24
import Derived.Test.YtfkdfngegeeciaaDoorD21
namespace Go.Proofs.YtfkdfngegeeciaaDoor
open Go.RowKit

theorem one_ne (a : Nat) : 1 % modN a ≠ 0 := by rw [Nat.mod_eq_of_lt (modN_odd a).2]; decide
/-- The values that there are. -/
def vF (s k x n : Nat) (f : Nat → Nat) (i : Nat) : Nat := (pf (fz s x * fp (fz s (rootP s k)) i) n (fun j => fz s (f j))).val
theorem vF_eq {s k x n : Nat} {f F : Nat → Nat} (h : ValP s k x n f F) : ∀ i, i < 2 ^ k → vF s k x n f i = F i := fun i hi => by
  obtain ⟨h1, h2⟩ := h i hi
  unfold vF
  rw [← h2, fz_lt h1]
theorem vF_lt (s k x n : Nat) (f : Nat → Nat) (i : Nat) : vF s k x n f i < modN s := fq_lt _
theorem Rg.none {m M : Nat} {w : World} {f : Nat → Nat} : Rg m M w (.slice none 0 0) 0 f := Or.inl ⟨rfl, rfl⟩
theorem Ans.none {m M : Nat} {w : World} {f : Nat → Nat} : Ans m M w (.slice none 0 0) 0 f := Or.inl ⟨rfl, rfl⟩
theorem Rg.congr {m M n : Nat} {w : World} {v : Value} {f g : Nat → Nat} (h : Rg m M w v n f) (hg : ∀ i, i < n → g i = f i) : Rg m M w v n g := by
  rcases h with h | ⟨b, o, c, h1, h2, h3, h4, h5, h6⟩
  · exact Or.inl h
  · exact Or.inr ⟨b, o, c, h1, h2, h3, h4, h5, fun i hi j hj => by rw [hg i hi]; exact h6 i hi j hj⟩
theorem mem_vals (a t n c : Nat) (oa : Option Addr) (f : Nat → Nat) (ha : a < 4) (ht : t ≤ 9) (hn : n ≤ 100000) (hf : ∀ i, i < n → f i < 115792089237316195423570985008687907853269984665640564039457584007913129639936) : ∃ NV FV, NV ≤ 1000 ∧ (∀ i, i < NV → FV i < 115792089237316195423570985008687907853269984665640564039457584007913129639936) ∧ (∀ w v, GlobD w → Es w v n f → Calls Tryd.prog 19 #[.int .i64 (a : Int), .int .i64 (t : Int), .agg #[.int .u64 ((limb 0 (1) : Nat) : Int), .int .u64 ((limb 1 (1) : Nat) : Int), .int .u64 ((limb 2 (1) : Nat) : Int), .int .u64 ((limb 3 (1) : Nat) : Int)], v] w fun e w' => (∃ u E1, e = .returned (.tuple #[u, .int .i64 E1]) ∧ Ans w.heap.size w'.heap.size w' u NV FV) ∧ Below w.heap.size w w') ∧ ∀ w, Es w (.slice oa n c) n f → Calls Tryd.prog 20 #[.int .i64 (a : Int), .int .i64 (t : Int), .agg #[.int .u64 ((limb 0 (1) : Nat) : Int), .int .u64 ((limb 1 (1) : Nat) : Int), .int .u64 ((limb 2 (1) : Nat) : Int), .int .u64 ((limb 3 (1) : Nat) : Int)], .slice oa n c] w fun e w' => (∃ u E1, e = .returned (.tuple #[u, .int .i64 E1]) ∧ Rg w.heap.size w'.heap.size w' u NV FV) ∧ Below w.heap.size w w' := by
  have hP := pow9 ht
  by_cases hl : n ≤ 2 ^ t
  · refine ⟨2 ^ t, vF a t 1 n f, by omega, fun i _ => lt_M a _ (vF_lt a t 1 n f i), fun w v hg hv => ?_, fun w hv => ?_⟩
    · refine (dVals_in a t n 1 v f ha ht (by decide) (one_ne a) hl hf w hg hv).mono ?_
      rintro e w' ⟨⟨g, F, rfl, h1, h2, h3⟩, hb⟩
      exact ⟨⟨_, _, rfl, Ans.some h1 (by omega) h2 (fun i hi => vF_eq h3 i hi)⟩, hb⟩
    · refine (rVals_any a t n c 1 oa f ha ht (by decide) hn hf w hv).mono ?_
      rintro e w' ⟨h | ⟨_, h, _⟩ | ⟨_, _, v, F, rfl, h2, h3⟩, hb⟩
      · exact absurd h.1 (one_ne a)
      · omega
      · exact ⟨⟨_, _, rfl, (own_Rg h2).congr (fun i hi => vF_eq h3 i hi)⟩, hb⟩
  · refine ⟨0, fun _ => 0, by omega, fun i hi => absurd hi (Nat.not_lt_zero i), fun w v hg hv => ?_, fun w hv => ?_⟩
    · obtain ⟨ob, cb, rfl⟩ := hv.shape
      refine (dVals_len a t n cb 1 ob ha ht (by decide) (one_ne a) (by omega) w hg).mono ?_
      rintro e w' ⟨rfl, hb⟩
      exact ⟨⟨_, _, rfl, Ans.none⟩, hb⟩
    · refine (rVals_any a t n c 1 oa f ha ht (by decide) hn hf w hv).mono ?_
      rintro e w' ⟨h | ⟨_, h, rfl⟩ | ⟨_, h, _⟩, hb⟩
      · exact absurd h.1 (one_ne a)
      · exact ⟨⟨_, _, rfl, Rg.none⟩, hb⟩
      · omega
theorem mem_co (a t n : Nat) (f : Nat → Nat) (ha : a < 4) (ht : t ≤ 9) (hf : ∀ i, i < n → f i < 115792089237316195423570985008687907853269984665640564039457584007913129639936) : ∃ NC, NC ≤ 1000 ∧ ∀ w v, GlobD w → Es w v n f → Calls Tryd.prog 21 #[.int .i64 (a : Int), .int .i64 (t : Int), .agg #[.int .u64 ((limb 0 (1) : Nat) : Int), .int .u64 ((limb 1 (1) : Nat) : Int), .int .u64 ((limb 2 (1) : Nat) : Int), .int .u64 ((limb 3 (1) : Nat) : Int)], v] w fun e w' => (∃ u FC E1, e = .returned (.tuple #[u, .int .i64 E1]) ∧ Ans w.heap.size w'.heap.size w' u NC FC) ∧ Below w.heap.size w w' := by
  have hP := pow9 ht
  by_cases hl : n = 2 ^ t
  · subst hl
    refine ⟨2 ^ t, by omega, fun w v hg hv => ?_⟩
    refine (dCo_in a t 1 v f ha ht (by decide) (one_ne a) hf w hg hv).mono ?_
    rintro e w' ⟨⟨g, F, rfl, h1, h2, h3⟩, hb⟩
    exact ⟨⟨_, F, _, rfl, Ans.some h1 (by omega) h2 (fun i hi => rfl)⟩, hb⟩
  · refine ⟨0, by omega, fun w v hg hv => ?_⟩
    obtain ⟨ob, cb, rfl⟩ := hv.shape
    refine (dCo_len a t n cb 1 ob ha ht (by decide) (one_ne a) hl w hg).mono ?_
    rintro e w' ⟨rfl, hb⟩
    exact ⟨⟨_, fun _ => 0, _, rfl, Ans.none⟩, hb⟩
theorem shf_chk {s k : Int} {x : Nat} (h : chkE s k ≠ 0) : shfE s k x = chkE s k := by unfold shfE; rw [if_pos h]
set_option maxHeartbeats 4000000 in
theorem mem_long (s k : Int) (n c : Nat) (oa : Option Addr) (hn : 64 < n) (w : World) (hg : GlobD w) : Calls Tryd.prog 8 #[.int .i64 s, .int .i64 k, .slice oa n c] w fun e w' => e = .returned (.bool true) ∧ Below w.heap.size w w' := by
  have HG : Hid (GlobD w) := hg
  have hlong : (64 : Int) < (n : Int) := by omega
  clear hg
  go_enter Tryd.func8, Tryd.ntmps8
  go_wp2_with fail
  refine (alive6_any _ HG.out).mono ?_
  rintro e w1 ⟨rfl, hb_w1⟩
  go_wp2_with fail
  refine (great6_any s k w1).mono ?_
  rintro e w1' ⟨⟨b, rfl⟩, hw⟩
  obtain rfl := hw.symm
  clear hw
  by_cases hbt : b = true
  · subst hbt
    go_wp2
    go_ret
    exact ⟨rfl, hb_w1⟩
  obtain rfl : b = false := by simpa using hbt
  clear hbt
  go_wp2
  go_ret
  exact ⟨rfl, hb_w1⟩
theorem mem_walk (s k : Int) (n : Nat) (v : Value) (f : Nat → Nat) (w : World) (hg : GlobD w) (hv : Es w v n f) (hf : ∀ i, i < n → f i < 115792089237316195423570985008687907853269984665640564039457584007913129639936) : Calls Tryd.prog 8 #[.int .i64 s, .int .i64 k, v] w fun e w' => e = .returned (.bool true) ∧ Below w.heap.size w w' := by
  obtain ⟨oa, c, rfl⟩ := hv.shape
  by_cases hlong : 100000 < n
  · exact mem_long s k n c oa (by omega) w hg
  by_cases hE : chkE s k = 0
  · obtain ⟨a, t, rfl, rfl, ha, ht⟩ := chk_zero hE
    have hP := pow9 ht
    obtain ⟨NV, FV, h1, h2, h3, h4⟩ := mem_vals a t n c oa f ha ht (by omega) hf
    obtain ⟨NC, h5, h6⟩ := mem_co a t n f ha ht hf
    refine mem_all a t n c NV (2 ^ t) NC 1 oa f FV (fun i => expP a (rootP a t) i) rfl hf h1 (by omega) h5 h2 (fun i _ => lt_M a _ (expP_lt a _ i)) h3 h6 (fun w hg => ?_) h4 (fun w => ?_) w hg hv
    · refine (dPts_in a t ha ht w hg).mono ?_
      rintro e w' ⟨⟨g, rfl, h1, h2⟩, hb⟩
      exact ⟨⟨_, _, rfl, Ans.some h1 (by omega) h2 (fun i hi => rfl)⟩, hb⟩
    · refine (rPts_in a t ha ht w).mono ?_
      rintro e w' ⟨⟨v, rfl, h2⟩, hb⟩
      exact ⟨⟨_, _, rfl, own_Rg h2⟩, hb⟩
  · have hS := shf_chk (x := 1) hE
    refine mem_all s k n c 0 0 0 1 oa f (fun _ => 0) (fun _ => 0) rfl hf (by decide) (by decide) (by decide) (fun i hi => absurd hi (Nat.not_lt_zero i)) (fun i hi => absurd hi (Nat.not_lt_zero i)) (fun w v hg hv => ?_) (fun w v hg hv => ?_) (fun w hg => ?_) (fun w hv => ?_) (fun w => ?_) w hg hv
    · refine (dVals_err s k 1 v (by decide) (by rw [hS]; exact hE) w hg).mono ?_
      rintro e w' ⟨rfl, hb⟩
      exact ⟨⟨_, _, rfl, Ans.none⟩, hb⟩
    · refine (dCo_err s k 1 v (by decide) (by rw [hS]; exact hE) w hg).mono ?_
      rintro e w' ⟨rfl, hb⟩
      exact ⟨⟨_, fun _ => 0, _, rfl, Ans.none⟩, hb⟩
    · refine (dPts_err s k hE w hg).mono ?_
      rintro e w' ⟨rfl, hb⟩
      exact ⟨⟨_, _, rfl, Ans.none⟩, hb⟩
    · refine (rVals_err s k 1 _ hE w).mono ?_
      rintro e w' ⟨rfl, hb⟩
      exact ⟨⟨_, _, rfl, Rg.none⟩, hb⟩
    · refine (rPts_err s k hE w).mono ?_
      rintro e w' ⟨rfl, rfl⟩
      exact ⟨⟨_, _, rfl, Rg.none⟩, Below.refl _ _⟩
end Go.Proofs.YtfkdfngegeeciaaDoor
