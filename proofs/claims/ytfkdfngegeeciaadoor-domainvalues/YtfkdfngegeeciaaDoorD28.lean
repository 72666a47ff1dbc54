/- DomainValues of anything. -/
import Derived.Test.YtfkdfngegeeciaaDoorD27
namespace Go.Proofs.YtfkdfngegeeciaaDoor
open Go.RowKit

theorem inv_same {n : Nat} [NeZero n] {a b c : Fin n} (h1 : a * c = 1) (h2 : b * c = 1) : a = b := by
  have : a * c * b = b * c * a := by grind
  rw [h1, h2, Fin.one_mul, Fin.one_mul] at this
  exact this.symm
theorem co_same {s k x : Nat} {f F G : Nat → Nat} (hF : CoP s k x f F) (hG : CoP s k x f G) : ∀ i, i < 2 ^ k → F i = G i := fun i hi => by
  obtain ⟨p, b, h1, h2, h3⟩ := hF
  obtain ⟨q, d, g1, g2, g3⟩ := hG
  have e1 := inv_same h1 g1
  have e2 := inv_same h2 g2
  subst e1 e2
  refine fz_inj (h3 i hi).1 (g3 i hi).1 ?_
  rw [(h3 i hi).2, (g3 i hi).2]
theorem co_fix (s k x : Nat) (f : Nat → Nat) : ∃ FC : Nat → Nat, (∀ i, i < 2 ^ k → FC i < 115792089237316195423570985008687907853269984665640564039457584007913129639936) ∧ ∀ F, CoP s k x f F → ∀ i, i < 2 ^ k → FC i = F i := by
  by_cases h : ∃ F, CoP s k x f F
  · obtain ⟨F0, h0⟩ := h
    refine ⟨F0, fun i hi => ?_, fun F hF i hi => co_same h0 hF i hi⟩
    obtain ⟨p, b, _, _, h3⟩ := h0
    exact lt_M s _ (h3 i hi).1
  · exact ⟨fun _ => 0, fun _ _ => (by decide : 0 < 115792089237316195423570985008687907853269984665640564039457584007913129639936), fun F hF => absurd ⟨F, hF⟩ h⟩
theorem Es.same {w : World} {v : Value} {n : Nat} {f g : Nat → Nat} (h : Es w v n f) (hg : ∀ i, i < n → g i = f i) : Es w v n g := by
  rcases h with h | ⟨b, o, c, h1, h2, h3, h5, h6⟩
  · exact Or.inl h
  · exact Or.inr ⟨b, o, c, h1, h2, h3, h5, fun i hi j hj => by rw [hg i hi]; exact h6 i hi j hj⟩
theorem es_nil {w : World} {f : Nat → Nat} : Es w (.slice none 0 0) 0 f := Or.inl ⟨rfl, rfl⟩
theorem shf_ten {a t x : Nat} (ha : a < 4) (ht : t ≤ 9) (h : x % modN a = 0) : shfE (a : Int) (t : Int) x = 10 := by
  unfold shfE
  rw [chk_in ha ht, if_neg (by simp), show (a : Int).toNat = a from rfl, if_pos h]
theorem vals_vals (a t n c x : Nat) (oa : Option Addr) (f : Nat → Nat) (ha : a < 4) (ht : t ≤ 9) (hx : x < 115792089237316195423570985008687907853269984665640564039457584007913129639936) (hn : n ≤ 100000) (hf : ∀ i, i < n → f i < 115792089237316195423570985008687907853269984665640564039457584007913129639936) : ∃ (EV : Int) (NV : Nat) (FV : Nat → Nat), NV ≤ 1000 ∧ (∀ i, i < NV → FV i < 115792089237316195423570985008687907853269984665640564039457584007913129639936) ∧ (∀ w v, GlobD w → Es w v n f → Calls Tryd.prog 19 #[.int .i64 (a : Int), .int .i64 (t : Int), .agg #[.int .u64 ((limb 0 (x) : Nat) : Int), .int .u64 ((limb 1 (x) : Nat) : Int), .int .u64 ((limb 2 (x) : Nat) : Int), .int .u64 ((limb 3 (x) : Nat) : Int)], v] w fun e w' => (∃ u, e = .returned (.tuple #[u, .int .i64 EV]) ∧ Es w' u NV FV) ∧ Below w.heap.size w w') ∧ (∀ w, Es w (.slice oa n c) n f → Calls Tryd.prog 20 #[.int .i64 (a : Int), .int .i64 (t : Int), .agg #[.int .u64 ((limb 0 (x) : Nat) : Int), .int .u64 ((limb 1 (x) : Nat) : Int), .int .u64 ((limb 2 (x) : Nat) : Int), .int .u64 ((limb 3 (x) : Nat) : Int)], .slice oa n c] w fun e w' => (∃ u, e = .returned (.tuple #[u, .int .i64 EV]) ∧ Es w' u NV FV) ∧ Below w.heap.size w w') := by
  have hP := pow9 ht
  by_cases h0 : x % modN a = 0
  · refine ⟨10, 0, fun _ => 0, by omega, fun i hi => absurd hi (Nat.not_lt_zero i), fun w v hg hv => ?_, fun w hv => ?_⟩
    · have h := dVals_err (a : Int) (t : Int) x v hx (by rw [shf_ten ha ht h0]; decide) w hg
      rw [shf_ten ha ht h0] at h
      refine h.mono ?_
      rintro e w' ⟨rfl, hb⟩
      exact ⟨⟨_, rfl, es_nil⟩, hb⟩
    · refine (rVals_any a t n c x oa f ha ht hx hn hf w hv).mono ?_
      rintro e w' ⟨⟨_, rfl⟩ | ⟨h, _⟩ | ⟨h, _⟩, hb⟩
      · exact ⟨⟨_, rfl, es_nil⟩, hb⟩
      · exact absurd h0 h
      · exact absurd h0 h
  by_cases hl : n ≤ 2 ^ t
  · refine ⟨0, 2 ^ t, vG a t x n f, by omega, fun i _ => lt_M a _ (vG_lt a t x n f i), fun w v hg hv => ?_, fun w hv => ?_⟩
    · refine (dVals_in a t n x v f ha ht hx h0 hl hf w hg hv).mono ?_
      rintro e w' ⟨⟨g, F, rfl, h1, h2, h3⟩, hb⟩
      exact ⟨⟨_, rfl, (h2.Es (by unfold maxLen; omega)).same (fun i hi => vG_eq h3 i hi)⟩, hb⟩
    · refine (rVals_any a t n c x oa f ha ht hx hn hf w hv).mono ?_
      rintro e w' ⟨⟨h, _⟩ | ⟨_, h, _⟩ | ⟨_, _, v, F, rfl, h2, h3⟩, hb⟩
      · exact absurd h h0
      · omega
      · exact ⟨⟨_, rfl, (own_Es h2).same (fun i hi => vG_eq h3 i hi)⟩, hb⟩
  · refine ⟨50, 0, fun _ => 0, by omega, fun i hi => absurd hi (Nat.not_lt_zero i), fun w v hg hv => ?_, fun w hv => ?_⟩
    · obtain ⟨ob, cb, rfl⟩ := hv.shape
      refine (dVals_len a t n cb x ob ha ht hx h0 (by omega) w hg).mono ?_
      rintro e w' ⟨rfl, hb⟩
      exact ⟨⟨_, rfl, es_nil⟩, hb⟩
    · refine (rVals_any a t n c x oa f ha ht hx hn hf w hv).mono ?_
      rintro e w' ⟨⟨h, _⟩ | ⟨_, h, rfl⟩ | ⟨_, h, _⟩, hb⟩
      · exact absurd h h0
      · exact ⟨⟨_, rfl, es_nil⟩, hb⟩
      · omega
theorem vals_co (a t n c x : Nat) (oa : Option Addr) (f : Nat → Nat) (ha : a < 4) (ht : t ≤ 9) (hx : x < 115792089237316195423570985008687907853269984665640564039457584007913129639936) (hn : n ≤ 100000) (hf : ∀ i, i < n → f i < 115792089237316195423570985008687907853269984665640564039457584007913129639936) : ∃ (EV : Int) (NV : Nat) (FV : Nat → Nat), NV ≤ 1000 ∧ (∀ i, i < NV → FV i < 115792089237316195423570985008687907853269984665640564039457584007913129639936) ∧ (∀ w v, GlobD w → Es w v n f → Calls Tryd.prog 21 #[.int .i64 (a : Int), .int .i64 (t : Int), .agg #[.int .u64 ((limb 0 (x) : Nat) : Int), .int .u64 ((limb 1 (x) : Nat) : Int), .int .u64 ((limb 2 (x) : Nat) : Int), .int .u64 ((limb 3 (x) : Nat) : Int)], v] w fun e w' => (∃ u, e = .returned (.tuple #[u, .int .i64 EV]) ∧ Es w' u NV FV) ∧ Below w.heap.size w w') ∧ (∀ w, Es w (.slice oa n c) n f → Calls Tryd.prog 22 #[.int .i64 (a : Int), .int .i64 (t : Int), .agg #[.int .u64 ((limb 0 (x) : Nat) : Int), .int .u64 ((limb 1 (x) : Nat) : Int), .int .u64 ((limb 2 (x) : Nat) : Int), .int .u64 ((limb 3 (x) : Nat) : Int)], .slice oa n c] w fun e w' => (∃ u, e = .returned (.tuple #[u, .int .i64 EV]) ∧ Es w' u NV FV) ∧ Below w.heap.size w w') := by
  have hP := pow9 ht
  by_cases h0 : x % modN a = 0
  · refine ⟨10, 0, fun _ => 0, by omega, fun i hi => absurd hi (Nat.not_lt_zero i), fun w v hg hv => ?_, fun w hv => ?_⟩
    · have h := dCo_err (a : Int) (t : Int) x v hx (by rw [shf_ten ha ht h0]; decide) w hg
      rw [shf_ten ha ht h0] at h
      refine h.mono ?_
      rintro e w' ⟨rfl, hb⟩
      exact ⟨⟨_, rfl, es_nil⟩, hb⟩
    · refine (rCo_any a t n c x oa f ha ht hx hn hf w hv).mono ?_
      rintro e w' ⟨⟨_, rfl⟩ | ⟨h, _⟩ | ⟨h, _⟩, hb⟩
      · exact ⟨⟨_, rfl, es_nil⟩, hb⟩
      · exact absurd h0 h
      · exact absurd h0 h
  by_cases hl : n = 2 ^ t
  · obtain ⟨FC, hC1, hC2⟩ := co_fix a t x f
    refine ⟨0, 2 ^ t, FC, by omega, hC1, fun w v hg hv => ?_, fun w hv => ?_⟩
    · rw [hl] at hv
      refine (dCo_in a t x v f ha ht hx h0 (by rw [← hl]; exact hf) w hg hv).mono ?_
      rintro e w' ⟨⟨g, F, rfl, h1, h2, h3⟩, hb⟩
      exact ⟨⟨_, rfl, (h2.Es (by unfold maxLen; omega)).same (fun i hi => hC2 F h3 i hi)⟩, hb⟩
    · refine (rCo_any a t n c x oa f ha ht hx hn hf w hv).mono ?_
      rintro e w' ⟨⟨h, _⟩ | ⟨_, h, _⟩ | ⟨_, _, v, F, rfl, h2, h3⟩, hb⟩
      · exact absurd h h0
      · exact absurd hl h
      · exact ⟨⟨_, rfl, (own_Es h2).same (fun i hi => hC2 F h3 i hi)⟩, hb⟩
  · refine ⟨50, 0, fun _ => 0, by omega, fun i hi => absurd hi (Nat.not_lt_zero i), fun w v hg hv => ?_, fun w hv => ?_⟩
    · obtain ⟨ob, cb, rfl⟩ := hv.shape
      refine (dCo_len a t n cb x ob ha ht hx h0 hl w hg).mono ?_
      rintro e w' ⟨rfl, hb⟩
      exact ⟨⟨_, rfl, es_nil⟩, hb⟩
    · refine (rCo_any a t n c x oa f ha ht hx hn hf w hv).mono ?_
      rintro e w' ⟨⟨h, _⟩ | ⟨_, h, rfl⟩ | ⟨_, h, _⟩, hb⟩
      · exact absurd h h0
      · exact ⟨⟨_, rfl, es_nil⟩, hb⟩
      · exact absurd h hl
set_option maxHeartbeats 4000000 in
theorem vals_long (s k : Int) (x n c : Nat) (oa : Option Addr) (hn : 600 < n) (w : World) (hg : GlobD w) : Calls Tryd.prog 4 #[.int .i64 s, .int .i64 k, .agg #[.int .u64 ((limb 0 (x) : Nat) : Int), .int .u64 ((limb 1 (x) : Nat) : Int), .int .u64 ((limb 2 (x) : Nat) : Int), .int .u64 ((limb 3 (x) : Nat) : Int)], .slice oa n c] w fun e w' => e = .returned (.bool true) ∧ Below w.heap.size w w' := by
  have HG : Hid (GlobD w) := hg
  have hlong : (600 : Int) < (n : Int) := by omega
  clear hg
  go_enter Tryd.func4, Tryd.ntmps4
  go_upto_region 1 with fail
  obtain ⟨w0, hw0⟩ : ∃ z : World, z = w.alloc (.cells #[.int .u64 ((limb 0 (x) : Nat) : Int), .int .u64 ((limb 1 (x) : Nat) : Int), .int .u64 ((limb 2 (x) : Nat) : Int), .int .u64 ((limb 3 (x) : Nat) : Int)] 24) := ⟨_, rfl⟩
  have hb_w0 : Below w.heap.size w w0 := by rw [hw0]; exact bAlloc (Below.refl _ _) _
  rw [← hw0]
  clear hw0
  go_wp2_with fail
  refine (alive6_any _ (HG.out.below hb_w0)).mono ?_
  rintro e w1 ⟨rfl, hq⟩
  have hb_w1 := bStep hb_w0 hq
  clear hb_w0 hq
  go_wp2_with fail
  refine (great6v_any s k w1).mono ?_
  rintro e w1' ⟨⟨b, rfl⟩, hw⟩
  obtain rfl := hw.symm
  clear hw
  by_cases hbt : b = true
  · subst hbt
    go_wp2
    go_ret
    exact ⟨rfl, hb_w1⟩
  obtain rfl : b = false := by simpa using hbt
  clear hbt
  go_wp2
  go_ret
  exact ⟨rfl, hb_w1⟩
theorem vals_walk (s k : Int) (x n : Nat) (v : Value) (f : Nat → Nat) (hx : x < 115792089237316195423570985008687907853269984665640564039457584007913129639936) (w : World) (hg : GlobD w) (hv : Es w v n f) (hf : ∀ i, i < n → f i < 115792089237316195423570985008687907853269984665640564039457584007913129639936) : Calls Tryd.prog 4 #[.int .i64 s, .int .i64 k, .agg #[.int .u64 ((limb 0 (x) : Nat) : Int), .int .u64 ((limb 1 (x) : Nat) : Int), .int .u64 ((limb 2 (x) : Nat) : Int), .int .u64 ((limb 3 (x) : Nat) : Int)], v] w fun e w' => e = .returned (.bool true) ∧ Below w.heap.size w w' := by
  obtain ⟨oa, c, rfl⟩ := hv.shape
  by_cases hlong : 600 < n
  · exact vals_long s k x n c oa hlong w hg
  by_cases hE : chkE s k = 0
  · obtain ⟨a, t, rfl, rfl, ha, ht⟩ := chk_zerov hE
    obtain ⟨EV, NV, FV, h1, h2, h3, h4⟩ := vals_vals a t n c x oa f ha ht hx (by omega) hf
    obtain ⟨EC, NC, FC, g1, g2, g3, g4⟩ := vals_co a t n c x oa f ha ht hx (by omega) hf
    exact vals_all a t EV EC x n c NV NC oa f FV FC hf h1 g1 h2 g2 h3 g3 h4 g4 w hg hv
  · have hS := shf_chkv (x := x) hE
    refine vals_all s k (chkE s k) (chkE s k) x n c 0 0 oa f (fun _ => 0) (fun _ => 0) hf (by decide) (by decide) (fun i hi => absurd hi (Nat.not_lt_zero i)) (fun i hi => absurd hi (Nat.not_lt_zero i)) (fun w v hg hv => ?_) (fun w v hg hv => ?_) (fun w hv => ?_) (fun w hv => ?_) w hg hv
    · have h := dVals_err s k x v hx (by rw [hS]; exact hE) w hg
      rw [hS] at h
      refine h.mono ?_
      rintro e w' ⟨rfl, hb⟩
      exact ⟨⟨_, rfl, es_nil⟩, hb⟩
    · have h := dCo_err s k x v hx (by rw [hS]; exact hE) w hg
      rw [hS] at h
      refine h.mono ?_
      rintro e w' ⟨rfl, hb⟩
      exact ⟨⟨_, rfl, es_nil⟩, hb⟩
    · refine (rVals_err s k x _ hE w).mono ?_
      rintro e w' ⟨rfl, hb⟩
      exact ⟨⟨_, rfl, es_nil⟩, hb⟩
    · refine (rCo_err s k x _ hE w).mono ?_
      rintro e w' ⟨rfl, hb⟩
      exact ⟨⟨_, rfl, es_nil⟩, hb⟩
end Go.Proofs.YtfkdfngegeeciaaDoor
