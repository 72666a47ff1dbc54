/- CurveCounts' walk is true for any arguments. -/
import Derived.Test.YtjpjnmhjbmmaiaaGreatDoorUM15
import Derived.Test.YtjpjnmhjbmmaiaaGreatDoorUM8
namespace Go.Proofs.YtjpjnmhjbmmaiaaGreatDoor
open Go.RowKit
theorem add_onN {c x y u v : Nat} {i j : Bool} (h1 : onC c x y i) (h2 : onC c u v j) : addPt c x y i u v j = sumPt c x y i u v j := by
  rw [add_same]
  unfold raddPt
  rw [if_neg (fun h => by rcases h with h | h; exact h h1; exact h h2)]
theorem on_ltN {c x y : Nat} {i : Bool} (h : onC c x y i) : x < 115792089237316195423570985008687907853269984665640564039457584007913129639936 ∧ y < 115792089237316195423570985008687907853269984665640564039457584007913129639936 := ⟨lt_M c _ (on_lt h).1, lt_M c _ (on_lt h).2⟩
theorem xc_oth (c : Nat) (h : c < 4) : xc c = oth c := by
  have : c = 0 ∨ c = 1 ∨ c = 2 ∨ c = 3 := by omega
  rcases this with rfl | rfl | rfl | rfl <;> rfl
/-- curve.Mul is so often the point. -/
theorem mul_sm (c k : Nat) (Q : Nat × Nat × Bool) (hc : c < 4) (hk : k < 115792089237316195423570985008687907853269984665640564039457584007913129639936) (hQ : onT c Q) (w : World) (hg : GlobC w) :
    Calls Tryz.prog 16 #[.int .i64 (c : Int), .agg #[.int .u64 ((limb 0 (k) : Nat) : Int), .int .u64 ((limb 1 (k) : Nat) : Int), .int .u64 ((limb 2 (k) : Nat) : Int), .int .u64 ((limb 3 (k) : Nat) : Int)], .agg #[.int .u64 ((limb 0 (Q.1) : Nat) : Int), .int .u64 ((limb 1 (Q.1) : Nat) : Int), .int .u64 ((limb 2 (Q.1) : Nat) : Int), .int .u64 ((limb 3 (Q.1) : Nat) : Int), .int .u64 ((limb 0 (Q.2.1) : Nat) : Int), .int .u64 ((limb 1 (Q.2.1) : Nat) : Int), .int .u64 ((limb 2 (Q.2.1) : Nat) : Int), .int .u64 ((limb 3 (Q.2.1) : Nat) : Int), .bool Q.2.2]] w fun e w' => e = .returned (.agg #[.int .u64 ((limb 0 ((sm c Q k).1) : Nat) : Int), .int .u64 ((limb 1 ((sm c Q k).1) : Nat) : Int), .int .u64 ((limb 2 ((sm c Q k).1) : Nat) : Int), .int .u64 ((limb 3 ((sm c Q k).1) : Nat) : Int), .int .u64 ((limb 0 ((sm c Q k).2.1) : Nat) : Int), .int .u64 ((limb 1 ((sm c Q k).2.1) : Nat) : Int), .int .u64 ((limb 2 ((sm c Q k).2.1) : Nat) : Int), .int .u64 ((limb 3 ((sm c Q k).2.1) : Nat) : Int), .bool (sm c Q k).2.2]) ∧ Below w.heap.size w w' := by
  have hl := on_ltN hQ
  have h := mul_on c k Q.1 Q.2.1 Q.2.2 hc hk hl.1 hl.2 hQ w hg
  have hm : k % modN (xc c) < 2 ^ 256 := Nat.lt_of_le_of_lt (Nat.mod_le _ _) hk
  rw [mulUp_all hQ _ hm] at h
  have e : sm c (Q.1, Q.2.1, Q.2.2) (k % modN (xc c)) = sm c Q k := by rw [xc_oth c hc]; exact sm_mod hc hQ k
  rw [e] at h
  exact h
theorem add_ad (c : Nat) (Q R : Nat × Nat × Bool) (hc : c < 4) (hQ : onT c Q) (hR : onT c R) (w : World) (hg : GlobC w) :
    Calls Tryz.prog 14 #[.int .i64 (c : Int), .agg #[.int .u64 ((limb 0 (Q.1) : Nat) : Int), .int .u64 ((limb 1 (Q.1) : Nat) : Int), .int .u64 ((limb 2 (Q.1) : Nat) : Int), .int .u64 ((limb 3 (Q.1) : Nat) : Int), .int .u64 ((limb 0 (Q.2.1) : Nat) : Int), .int .u64 ((limb 1 (Q.2.1) : Nat) : Int), .int .u64 ((limb 2 (Q.2.1) : Nat) : Int), .int .u64 ((limb 3 (Q.2.1) : Nat) : Int), .bool Q.2.2], .agg #[.int .u64 ((limb 0 (R.1) : Nat) : Int), .int .u64 ((limb 1 (R.1) : Nat) : Int), .int .u64 ((limb 2 (R.1) : Nat) : Int), .int .u64 ((limb 3 (R.1) : Nat) : Int), .int .u64 ((limb 0 (R.2.1) : Nat) : Int), .int .u64 ((limb 1 (R.2.1) : Nat) : Int), .int .u64 ((limb 2 (R.2.1) : Nat) : Int), .int .u64 ((limb 3 (R.2.1) : Nat) : Int), .bool R.2.2]] w fun e w' => e = .returned (.agg #[.int .u64 ((limb 0 ((ad c Q R).1) : Nat) : Int), .int .u64 ((limb 1 ((ad c Q R).1) : Nat) : Int), .int .u64 ((limb 2 ((ad c Q R).1) : Nat) : Int), .int .u64 ((limb 3 ((ad c Q R).1) : Nat) : Int), .int .u64 ((limb 0 ((ad c Q R).2.1) : Nat) : Int), .int .u64 ((limb 1 ((ad c Q R).2.1) : Nat) : Int), .int .u64 ((limb 2 ((ad c Q R).2.1) : Nat) : Int), .int .u64 ((limb 3 ((ad c Q R).2.1) : Nat) : Int), .bool (ad c Q R).2.2]) ∧ Below w.heap.size w w' := by
  have hl := on_ltN hQ
  have hl2 := on_ltN hR
  have h := add_in c Q.1 Q.2.1 R.1 R.2.1 Q.2.2 R.2.2 hc hl.1 hl.2 hl2.1 hl2.2 w hg
  rw [add_onN hQ hR] at h
  exact h
theorem neg_okT {c : Nat} {Q : Nat × Nat × Bool} (h : onT c Q) : onT c (negX c Q.1 Q.2.1 Q.2.2, negY c Q.1 Q.2.1 Q.2.2, negI c Q.1 Q.2.1 Q.2.2) ∧ ad c Q (negX c Q.1 Q.2.1 Q.2.2, negY c Q.1 Q.2.1 Q.2.2, negI c Q.1 Q.2.1 Q.2.2) = oT := by
  obtain ⟨x, y, i⟩ := Q
  cases i with
  | true =>
    obtain ⟨h1, h2⟩ := on_inf h
    dsimp only at h1 h2
    subst h1 h2
    have k : ¬ (onC c 0 0 true ∧ true = false) := fun q => by cases q.2
    unfold negX negY negI
    rw [if_neg k, if_neg k, decide_eq_false k]
    exact ⟨oT_on, inf_fin⟩
  | false =>
    have k : onC c x y false ∧ false = false := ⟨h, rfl⟩
    unfold negX negY negI
    rw [if_pos k, if_pos k, decide_eq_true k]
    exact ⟨ng_on h, sum_opp (ng_ne h)⟩
theorem ccounts_walk (c : Int) (a b x y : Nat) (i : Bool) (hx : x < 115792089237316195423570985008687907853269984665640564039457584007913129639936) (hy : y < 115792089237316195423570985008687907853269984665640564039457584007913129639936) (w : World) (hg : GlobC w) :
    Calls Tryz.prog 7 #[.int .i64 c, .agg #[.int .u64 ((limb 0 (a) : Nat) : Int), .int .u64 ((limb 1 (a) : Nat) : Int), .int .u64 ((limb 2 (a) : Nat) : Int), .int .u64 ((limb 3 (a) : Nat) : Int)], .agg #[.int .u64 ((limb 0 (b) : Nat) : Int), .int .u64 ((limb 1 (b) : Nat) : Int), .int .u64 ((limb 2 (b) : Nat) : Int), .int .u64 ((limb 3 (b) : Nat) : Int)], .agg #[.int .u64 ((limb 0 (x) : Nat) : Int), .int .u64 ((limb 1 (x) : Nat) : Int), .int .u64 ((limb 2 (x) : Nat) : Int), .int .u64 ((limb 3 (x) : Nat) : Int), .int .u64 ((limb 0 (y) : Nat) : Int), .int .u64 ((limb 1 (y) : Nat) : Int), .int .u64 ((limb 2 (y) : Nat) : Int), .int .u64 ((limb 3 (y) : Nat) : Int), .bool i]] w fun e w' => e = .returned (.bool true) ∧ Below w.heap.size w w' := by
  have hA := a4_lt a
  have hB := a4_lt b
  have lA : a4 a < 115792089237316195423570985008687907853269984665640564039457584007913129639936 := by omega
  have lB : a4 b < 115792089237316195423570985008687907853269984665640564039457584007913129639936 := by omega
  have eS : a4 a + a4 b = add256 (a4 a) (a4 b) := by unfold add256; rw [Nat.mod_eq_of_lt (by omega)]
  have lS : a4 a + a4 b < 115792089237316195423570985008687907853269984665640564039457584007913129639936 := by omega
  by_cases hc : c < 0 ∨ 4 ≤ c
  · exact ccounts_gen c a b (a4 a) (a4 b) _ x y 0 0 0 0 0 0 0 0 0 0 0 0 i true true true true true true false lA lB (a4_limb a) (a4_limb b) eS (by decide) (by decide) (by decide) (by decide) (by decide) (by decide)
      (fun w _ => on_out c hc x y i w) (fun _ w hg => mul_not c a x y i (fun w _ => on_out c hc x y i w) w hg) (fun h => by cases h) w hg
  · obtain ⟨t, rfl⟩ := Int.eq_ofNat_of_zero_le (show 0 ≤ c by omega)
    have ht : t < 4 := by omega
    by_cases hon : onC t x y i
    · have hP : onT t (x, y, i) := hon
      have hX := sm_on hP (a4 a)
      have hY := sm_on hP (a4 b)
      obtain ⟨hN, eN⟩ := neg_okT hX
      have eZ : ad t (sm t (x, y, i) (a4 a)) (sm t (x, y, i) (a4 b)) = sm t (x, y, i) (a4 a + a4 b) := (sm_add hP _ _).symm
      have eV : sm t (sm t (x, y, i) (a4 a)) (a4 b) = sm t (sm t (x, y, i) (a4 b)) (a4 a) := by rw [sm_mul hP, sm_mul hP, Nat.mul_comm]
      have eT : ad t (sm t (sm t (x, y, i) (a4 a)) 2) (negX t (sm t (x, y, i) (a4 a)).1 (sm t (x, y, i) (a4 a)).2.1 (sm t (x, y, i) (a4 a)).2.2, negY t (sm t (x, y, i) (a4 a)).1 (sm t (x, y, i) (a4 a)).2.1 (sm t (x, y, i) (a4 a)).2.2, negI t (sm t (x, y, i) (a4 a)).1 (sm t (x, y, i) (a4 a)).2.1 (sm t (x, y, i) (a4 a)).2.2) = sm t (x, y, i) (a4 a) := by
        rw [sm_two, ad_assoc hX hX hN, eN, ad_o hX]
      have lX := on_ltN hX
      have lZ := on_ltN (sm_on hP (a4 a + a4 b))
      have lV := on_ltN (sm_on hY (a4 a))
      refine ccounts_gen (t : Int) a b (a4 a) (a4 b) (a4 a + a4 b) x y (sm t (x, y, i) (a4 a)).1 (sm t (x, y, i) (a4 a)).2.1 (sm t (x, y, i) (a4 b)).1 (sm t (x, y, i) (a4 b)).2.1 (sm t (x, y, i) (a4 a + a4 b)).1 (sm t (x, y, i) (a4 a + a4 b)).2.1 (sm t (sm t (x, y, i) (a4 b)) (a4 a)).1 (sm t (sm t (x, y, i) (a4 b)) (a4 a)).2.1 (sm t (sm t (x, y, i) (a4 a)) 2).1 (sm t (sm t (x, y, i) (a4 a)) 2).2.1 (negX t (sm t (x, y, i) (a4 a)).1 (sm t (x, y, i) (a4 a)).2.1 (sm t (x, y, i) (a4 a)).2.2) (negY t (sm t (x, y, i) (a4 a)).1 (sm t (x, y, i) (a4 a)).2.1 (sm t (x, y, i) (a4 a)).2.2) i (sm t (x, y, i) (a4 a)).2.2 (sm t (x, y, i) (a4 b)).2.2 (sm t (x, y, i) (a4 a + a4 b)).2.2 (sm t (sm t (x, y, i) (a4 b)) (a4 a)).2.2 (sm t (sm t (x, y, i) (a4 a)) 2).2.2 (negI t (sm t (x, y, i) (a4 a)).1 (sm t (x, y, i) (a4 a)).2.1 (sm t (x, y, i) (a4 a)).2.2) true lA lB (a4_limb a) (a4_limb b) eS lX.1 lX.2 lZ.1 lZ.2 lV.1 lV.2
        (fun w hg => ?_) (fun h => by cases h) (fun _ => ⟨fun w hg => mul_sm t (a4 a) (x, y, i) ht lA hP w hg, fun w hg => mul_sm t (a4 b) (x, y, i) ht lB hP w hg, fun w hg => ?_, fun w hg => mul_sm t (a4 a + a4 b) (x, y, i) ht lS hP w hg, fun w hg => mul_sm t (a4 a) _ ht lA hY w hg, fun w hg => ?_, fun w hg => ?_, fun w hg => neg_in t _ _ (sm t (x, y, i) (a4 a)).2.2 ht lX.1 lX.2 w hg, fun w hg => ?_⟩) w hg
      · have h := on_in t x y i ht hx hy w hg
        rw [decide_eq_true hon] at h
        exact h
      · have h := add_ad t _ _ ht hX hY w hg
        rw [eZ] at h
        exact h
      · have h := mul_sm t (a4 b) _ ht lB hX w hg
        rw [eV] at h
        exact h
      · have h := mul_sm t 2 _ ht (by decide) hX w hg
        rw [word_agg 2 (by decide)] at h
        exact h
      · have h := add_ad t _ _ ht (sm_on hX 2) hN w hg
        rw [eT] at h
        exact h
    · have hoff : ∀ w, GlobC w → Calls Tryz.prog 10 #[.int .i64 (t : Int), .agg #[.int .u64 ((limb 0 (x) : Nat) : Int), .int .u64 ((limb 1 (x) : Nat) : Int), .int .u64 ((limb 2 (x) : Nat) : Int), .int .u64 ((limb 3 (x) : Nat) : Int), .int .u64 ((limb 0 (y) : Nat) : Int), .int .u64 ((limb 1 (y) : Nat) : Int), .int .u64 ((limb 2 (y) : Nat) : Int), .int .u64 ((limb 3 (y) : Nat) : Int), .bool i]] w fun e w' => e = .returned (.bool false) ∧ Below w.heap.size w w' := fun w hg => by
        have := on_in t x y i ht hx hy w hg
        rw [decide_eq_false hon] at this
        exact this
      exact ccounts_gen (t : Int) a b (a4 a) (a4 b) _ x y 0 0 0 0 0 0 0 0 0 0 0 0 i true true true true true true false lA lB (a4_limb a) (a4_limb b) eS (by decide) (by decide) (by decide) (by decide) (by decide) (by decide)
        hoff (fun _ w hg => mul_not (t : Int) a x y i hoff w hg) (fun h => by cases h) w hg
end Go.Proofs.YtjpjnmhjbmmaiaaGreatDoor
