/- CurveGroup's walk is true for any arguments. -/
import Derived.Test.YthkajdmcmodklaaGreatDoorM12
namespace Go.Proofs.YthkajdmcmodklaaGreatDoor
open Go.RowKit

set_option maxHeartbeats 4000000 in
set_option maxRecDepth 20000 in
theorem add_outG (c : Int) (hc : c < 0 ∨ 4 ≤ c) (x y u v : Nat) (i j : Bool) (w : World) : Calls Tryz.prog 14 #[.int .i64 c, .agg #[.int .u64 ((limb 0 (x) : Nat) : Int), .int .u64 ((limb 1 (x) : Nat) : Int), .int .u64 ((limb 2 (x) : Nat) : Int), .int .u64 ((limb 3 (x) : Nat) : Int), .int .u64 ((limb 0 (y) : Nat) : Int), .int .u64 ((limb 1 (y) : Nat) : Int), .int .u64 ((limb 2 (y) : Nat) : Int), .int .u64 ((limb 3 (y) : Nat) : Int), .bool i], .agg #[.int .u64 ((limb 0 (u) : Nat) : Int), .int .u64 ((limb 1 (u) : Nat) : Int), .int .u64 ((limb 2 (u) : Nat) : Int), .int .u64 ((limb 3 (u) : Nat) : Int), .int .u64 ((limb 0 (v) : Nat) : Int), .int .u64 ((limb 1 (v) : Nat) : Int), .int .u64 ((limb 2 (v) : Nat) : Int), .int .u64 ((limb 3 (v) : Nat) : Int), .bool j]] w fun e w' => e = .returned (.agg #[.int .u64 ((limb 0 (0) : Nat) : Int), .int .u64 ((limb 1 (0) : Nat) : Int), .int .u64 ((limb 2 (0) : Nat) : Int), .int .u64 ((limb 3 (0) : Nat) : Int), .int .u64 ((limb 0 (0) : Nat) : Int), .int .u64 ((limb 1 (0) : Nat) : Int), .int .u64 ((limb 2 (0) : Nat) : Int), .int .u64 ((limb 3 (0) : Nat) : Int), .bool true]) ∧ Below w.heap.size w w' := by
  have HON : Hid (∀ w, _) := fun w => on_out c hc x y i w
  have HIN : Hid (∀ w, _) := infinity_any
  clear hc
  go_enter Tryz.func14, Tryz.ntmps14
  go_upto_region 1 with fail
  obtain ⟨w0, hw0⟩ : ∃ w0 : World, w0 = ((w.alloc (.cells #[.int .u64 ((limb 0 x : Nat) : Int), .int .u64 ((limb 1 x : Nat) : Int), .int .u64 ((limb 2 x : Nat) : Int), .int .u64 ((limb 3 x : Nat) : Int), .int .u64 ((limb 0 y : Nat) : Int), .int .u64 ((limb 1 y : Nat) : Int), .int .u64 ((limb 2 y : Nat) : Int), .int .u64 ((limb 3 y : Nat) : Int), .bool i] 26)).alloc (.cells #[.int .u64 ((limb 0 u : Nat) : Int), .int .u64 ((limb 1 u : Nat) : Int), .int .u64 ((limb 2 u : Nat) : Int), .int .u64 ((limb 3 u : Nat) : Int), .int .u64 ((limb 0 v : Nat) : Int), .int .u64 ((limb 1 v : Nat) : Int), .int .u64 ((limb 2 v : Nat) : Int), .int .u64 ((limb 3 v : Nat) : Int), .bool j] 26)).alloc (.cells #[.int .u64 0, .int .u64 0, .int .u64 0, .int .u64 0, .int .u64 0, .int .u64 0, .int .u64 0, .int .u64 0, .bool false] 26) := ⟨_, rfl⟩
  have bp : Pt w0 w.heap.size x y i := by rw [hw0]; exact ((Pt.newAt _ _ _ _ _ rfl).alloc _).alloc _
  have br : Pt w0 (w.heap.size + 1 + 1) 0 0 false := by rw [hw0]; exact Pt.zeroAt _ _ (by simp)
  have hbw0 : Below w.heap.size w w0 := by rw [hw0]; exact bAlloc (bAlloc ((Below.refl _ _).alloc (Nat.le_refl _) _) _) _
  have hrw : w.heap.size ≤ w.heap.size + 1 + 1 := by omega
  rw [← hw0]
  clear hw0
  obtain ⟨q0, q1, q2, q3, q4, q5, q6, q7, q8, qf⟩ := bp.cells
  go_wp2_with fail
  refine (HON.out _).mono ?_
  rintro e w1 ⟨rfl, hb1⟩
  clear q0 q1 q2 q3 q4 q5 q6 q7 q8 qf
  have br1 := br.belowAll hb1
  have hbw1 := bStep hbw0 hb1
  clear bp br hbw0 hb1
  go_wp2_with fail
  refine (HIN.out _).mono ?_
  rintro e w3 ⟨rfl, hb3⟩
  obtain ⟨r0, r1, r2, r3, r4, r5, r6, r7, r8, rf⟩ := (br1.belowAll hb3).cells
  go_wp2
  refine bodyPost_ret (v := .agg #[.int .u64 ((limb 0 (0) : Nat) : Int), .int .u64 ((limb 1 (0) : Nat) : Int), .int .u64 ((limb 2 (0) : Nat) : Int), .int .u64 ((limb 3 (0) : Nat) : Int), .int .u64 ((limb 0 (0) : Nat) : Int), .int .u64 ((limb 1 (0) : Nat) : Int), .int .u64 ((limb 2 (0) : Nat) : Int), .int .u64 ((limb 3 (0) : Nat) : Int), .bool true]) (by simp [results, Tryz.results14, go_sem, r0, r1, r2, r3, r4, r5, r6, r7, r8]) rfl ⟨rfl, ?_⟩
  exact bSet9 (bStep hbw1 hb3) hrw _ _ _ _ _ _ _ _ _
theorem add_on {c x y u v : Nat} {i j : Bool} (h1 : onC c x y i) (h2 : onC c u v j) : addPt c x y i u v j = sumPt c x y i u v j := by
  rw [add_same]
  unfold raddPt
  rw [if_neg (fun h => by rcases h with h | h; exact h h1; exact h h2)]
theorem add_off {c x y u v : Nat} {i j : Bool} (h : ¬ onC c x y i ∨ ¬ onC c u v j) : addPt c x y i u v j = (0, 0, true) := by
  unfold addPt
  rw [if_pos h]
theorem inf_on (c : Nat) : onC c 0 0 true := Or.inl ⟨rfl, rfl, rfl⟩
theorem add_onC {c x y u v : Nat} {i j : Bool} : onC c (addPt c x y i u v j).1 (addPt c x y i u v j).2.1 (addPt c x y i u v j).2.2 := by
  by_cases h : ¬ onC c x y i ∨ ¬ onC c u v j
  · rw [add_off h]; exact inf_on c
  · have h1 : onC c x y i := Classical.byContradiction (fun k => h (Or.inl k))
    have h2 : onC c u v j := Classical.byContradiction (fun k => h (Or.inr k))
    rw [add_on h1 h2]
    exact sum_onC h1 h2
theorem add_comm' {c x y u v : Nat} {i j : Bool} : addPt c x y i u v j = addPt c u v j x y i := by
  by_cases h : ¬ onC c x y i ∨ ¬ onC c u v j
  · rw [add_off h, add_off (Or.symm h)]
  · have h1 : onC c x y i := Classical.byContradiction (fun k => h (Or.inl k))
    have h2 : onC c u v j := Classical.byContradiction (fun k => h (Or.inr k))
    rw [add_on h1 h2, add_on h2 h1, sum_comm h1 h2]
theorem on_ltM {c x y : Nat} {i : Bool} (h : onC c x y i) : x < 115792089237316195423570985008687907853269984665640564039457584007913129639936 ∧ y < 115792089237316195423570985008687907853269984665640564039457584007913129639936 := by
  rcases h with ⟨h1, h2, _⟩ | ⟨_, h1, h2, _⟩
  · rw [h1, h2]; exact ⟨by decide, by decide⟩
  · exact ⟨lt_M c _ h1, lt_M c _ h2⟩
/-- What Neg answers on the curve. -/
theorem neg_onC {c x y : Nat} {i : Bool} (h : onC c x y i) : onC c (negX c x y i) (negY c x y i) (negI c x y i) ∧ sumPt c x y i (negX c x y i) (negY c x y i) (negI c x y i) = (0, 0, true) := by
  cases i with
  | true =>
    obtain ⟨rfl, rfl⟩ := on_inf h
    have k : ¬ (onC c 0 0 true ∧ true = false) := fun q => by cases q.2
    unfold negX negY negI
    rw [if_neg k, if_neg k, decide_eq_false k]
    exact ⟨inf_on c, inf_fin⟩
  | false =>
    have k : onC c x y false ∧ false = false := ⟨h, rfl⟩
    unfold negX negY negI
    rw [if_pos k, if_pos k, decide_eq_true k]
    exact ⟨ng_on h, sum_opp (ng_ne h)⟩
theorem cgroup_walk (c : Int) (x1 y1 x2 y2 x3 y3 : Nat) (i1 i2 i3 : Bool) (hx1 : x1 < 115792089237316195423570985008687907853269984665640564039457584007913129639936) (hy1 : y1 < 115792089237316195423570985008687907853269984665640564039457584007913129639936) (hx2 : x2 < 115792089237316195423570985008687907853269984665640564039457584007913129639936) (hy2 : y2 < 115792089237316195423570985008687907853269984665640564039457584007913129639936) (hx3 : x3 < 115792089237316195423570985008687907853269984665640564039457584007913129639936) (hy3 : y3 < 115792089237316195423570985008687907853269984665640564039457584007913129639936) (w : World) (hg : GlobC w) :
    Calls Tryz.prog 6 #[.int .i64 c, .agg #[.int .u64 ((limb 0 (x1) : Nat) : Int), .int .u64 ((limb 1 (x1) : Nat) : Int), .int .u64 ((limb 2 (x1) : Nat) : Int), .int .u64 ((limb 3 (x1) : Nat) : Int), .int .u64 ((limb 0 (y1) : Nat) : Int), .int .u64 ((limb 1 (y1) : Nat) : Int), .int .u64 ((limb 2 (y1) : Nat) : Int), .int .u64 ((limb 3 (y1) : Nat) : Int), .bool i1], .agg #[.int .u64 ((limb 0 (x2) : Nat) : Int), .int .u64 ((limb 1 (x2) : Nat) : Int), .int .u64 ((limb 2 (x2) : Nat) : Int), .int .u64 ((limb 3 (x2) : Nat) : Int), .int .u64 ((limb 0 (y2) : Nat) : Int), .int .u64 ((limb 1 (y2) : Nat) : Int), .int .u64 ((limb 2 (y2) : Nat) : Int), .int .u64 ((limb 3 (y2) : Nat) : Int), .bool i2], .agg #[.int .u64 ((limb 0 (x3) : Nat) : Int), .int .u64 ((limb 1 (x3) : Nat) : Int), .int .u64 ((limb 2 (x3) : Nat) : Int), .int .u64 ((limb 3 (x3) : Nat) : Int), .int .u64 ((limb 0 (y3) : Nat) : Int), .int .u64 ((limb 1 (y3) : Nat) : Int), .int .u64 ((limb 2 (y3) : Nat) : Int), .int .u64 ((limb 3 (y3) : Nat) : Int), .bool i3]] w fun e w' => e = .returned (.bool true) ∧ Below w.heap.size w w' := by
  by_cases hc : c < 0 ∨ 4 ≤ c
  · exact cgroup_gen c x1 y1 x2 y2 x3 y3 0 0 0 0 0 0 0 0 i1 i2 i3 true true true true false false false hx1 hy1 (by decide) (by decide) (by decide) (by decide)
      (fun w _ => on_out c hc _ _ _ w) (fun w _ => on_out c hc _ _ _ w) (fun w _ => on_out c hc _ _ _ w) (fun w _ => add_outG c hc _ _ _ _ _ _ w) (fun w _ => add_outG c hc _ _ _ _ _ _ w) (fun w _ => add_outG c hc _ _ _ _ _ _ w) (fun h => by cases h) w hg
  · obtain ⟨t, rfl⟩ := Int.eq_ofNat_of_zero_le (show 0 ≤ c by omega)
    have ht : t < 4 := by omega
    have oa := add_onC (c := t) (x := x2) (y := y2) (i := i2) (u := x3) (v := y3) (j := i3)
    have la := on_ltM oa
    have os := add_onC (c := t) (x := x1) (y := y1) (i := i1) (u := (addPt t x2 y2 i2 x3 y3 i3).1) (v := (addPt t x2 y2 i2 x3 y3 i3).2.1) (j := (addPt t x2 y2 i2 x3 y3 i3).2.2)
    have ls := on_ltM os
    have od := add_onC (c := t) (x := x1) (y := y1) (i := i1) (u := x2) (v := y2) (j := i2)
    have ld := on_ltM od
    refine cgroup_gen (t : Int) x1 y1 x2 y2 x3 y3 _ _ _ _ _ _ (negX t x1 y1 i1) (negY t x1 y1 i1) i1 i2 i3 _ _ (addPt t x1 y1 i1 x2 y2 i2).2.2 (negI t x1 y1 i1) _ _ _ hx1 hy1 ls.1 ls.2 ld.1 ld.2
      (fun w hg => on_in t x1 y1 i1 ht hx1 hy1 w hg) (fun w hg => on_in t x2 y2 i2 ht hx2 hy2 w hg) (fun w hg => on_in t x3 y3 i3 ht hx3 hy3 w hg)
      (fun w hg => add_in t x2 y2 x3 y3 i2 i3 ht hx2 hy2 hx3 hy3 w hg) (fun w hg => add_in t x1 y1 _ _ i1 _ ht hx1 hy1 la.1 la.2 w hg) (fun w hg => ?_) (fun hb => ?_) w hg
    · have h := add_in t _ _ x1 y1 (addPt t x2 y2 i2 x3 y3 i3).2.2 i1 ht la.1 la.2 hx1 hy1 w hg
      rw [add_comm' (c := t) (x := (addPt t x2 y2 i2 x3 y3 i3).1) (y := (addPt t x2 y2 i2 x3 y3 i3).2.1) (i := (addPt t x2 y2 i2 x3 y3 i3).2.2) (u := x1) (v := y1) (j := i1)] at h
      exact h
    · simp only [Bool.and_eq_true, decide_eq_true_eq] at hb
      obtain ⟨⟨o1, o2⟩, o3⟩ := hb
      obtain ⟨on, en⟩ := neg_onC o1
      have ln := on_ltM on
      have ed : addPt t x1 y1 i1 x2 y2 i2 = sumPt t x1 y1 i1 x2 y2 i2 := add_on o1 o2
      have ea : addPt t x2 y2 i2 x3 y3 i3 = sumPt t x2 y2 i2 x3 y3 i3 := add_on o2 o3
      refine ⟨fun w hg => add_in t x1 y1 x2 y2 i1 i2 ht hx1 hy1 hx2 hy2 w hg, fun w hg => ?_, fun w hg => ?_, fun w hg => ?_, fun w hg => neg_in t x1 y1 i1 ht hx1 hy1 w hg, fun w hg => ?_, fun w hg => ?_⟩
      · have h := add_in t x2 y2 x1 y1 i2 i1 ht hx2 hy2 hx1 hy1 w hg
        rw [add_comm'] at h
        exact h
      · have h := add_in t _ _ x3 y3 (addPt t x1 y1 i1 x2 y2 i2).2.2 i3 ht ld.1 ld.2 hx3 hy3 w hg
        have e : addPt t (addPt t x1 y1 i1 x2 y2 i2).1 (addPt t x1 y1 i1 x2 y2 i2).2.1 (addPt t x1 y1 i1 x2 y2 i2).2.2 x3 y3 i3 = addPt t x1 y1 i1 (addPt t x2 y2 i2 x3 y3 i3).1 (addPt t x2 y2 i2 x3 y3 i3).2.1 (addPt t x2 y2 i2 x3 y3 i3).2.2 := by
          rw [add_on od o3, add_on o1 oa, ed, ea]
          exact sum_assoc o1 o2 o3
        rw [e] at h
        exact h
      · have h := add_in t x1 y1 0 0 i1 true ht hx1 hy1 (by decide) (by decide) w hg
        have e : addPt t x1 y1 i1 0 0 true = (x1, y1, i1) := by
          rw [add_on o1 (inf_on t), sum_comm o1 (inf_on t)]
          exact inf_fin
        rw [e] at h
        exact h
      · have h := add_in t x1 y1 _ _ i1 (negI t x1 y1 i1) ht hx1 hy1 ln.1 ln.2 w hg
        rw [add_on o1 on, en] at h
        exact h
      · have h := on_in t _ _ (addPt t x1 y1 i1 x2 y2 i2).2.2 ht ld.1 ld.2 w hg
        rw [decide_eq_true od] at h
        exact h

end Go.Proofs.YthkajdmcmodklaaGreatDoor
