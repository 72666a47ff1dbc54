/- What curve.Add does. -/
import Derived.Test.YtjpjnmhjbmmaiaaGreatDoorUK5
namespace Go.Proofs.YtjpjnmhjbmmaiaaGreatDoor
open Go.RowKit
set_option maxHeartbeats 16000000 in
set_option maxRecDepth 20000 in
theorem add_in (c x y u v : Nat) (i j : Bool) (hc : c < 4) (hx : x < 115792089237316195423570985008687907853269984665640564039457584007913129639936) (hy : y < 115792089237316195423570985008687907853269984665640564039457584007913129639936) (hu : u < 115792089237316195423570985008687907853269984665640564039457584007913129639936) (hv : v < 115792089237316195423570985008687907853269984665640564039457584007913129639936) (w : World) (hg : GlobC w) :
    Calls Tryz.prog 14 #[.int .i64 (c : Int), .agg #[.int .u64 ((limb 0 (x) : Nat) : Int), .int .u64 ((limb 1 (x) : Nat) : Int), .int .u64 ((limb 2 (x) : Nat) : Int), .int .u64 ((limb 3 (x) : Nat) : Int), .int .u64 ((limb 0 (y) : Nat) : Int), .int .u64 ((limb 1 (y) : Nat) : Int), .int .u64 ((limb 2 (y) : Nat) : Int), .int .u64 ((limb 3 (y) : Nat) : Int), .bool i], .agg #[.int .u64 ((limb 0 (u) : Nat) : Int), .int .u64 ((limb 1 (u) : Nat) : Int), .int .u64 ((limb 2 (u) : Nat) : Int), .int .u64 ((limb 3 (u) : Nat) : Int), .int .u64 ((limb 0 (v) : Nat) : Int), .int .u64 ((limb 1 (v) : Nat) : Int), .int .u64 ((limb 2 (v) : Nat) : Int), .int .u64 ((limb 3 (v) : Nat) : Int), .bool j]] w fun e w' => e = .returned (.agg #[.int .u64 ((limb 0 ((addPt c x y i u v j).1) : Nat) : Int), .int .u64 ((limb 1 ((addPt c x y i u v j).1) : Nat) : Int), .int .u64 ((limb 2 ((addPt c x y i u v j).1) : Nat) : Int), .int .u64 ((limb 3 ((addPt c x y i u v j).1) : Nat) : Int), .int .u64 ((limb 0 ((addPt c x y i u v j).2.1) : Nat) : Int), .int .u64 ((limb 1 ((addPt c x y i u v j).2.1) : Nat) : Int), .int .u64 ((limb 2 ((addPt c x y i u v j).2.1) : Nat) : Int), .int .u64 ((limb 3 ((addPt c x y i u v j).2.1) : Nat) : Int), .bool (addPt c x y i u v j).2.2]) ∧ Below w.heap.size w w' := by
  have HG0 : Hid (GlobC w) := hg
  have HO1 : Hid (∀ w, GlobC w → _) := fun w hg => on_in c x y i hc hx hy w hg
  have HO2 : Hid (∀ w, GlobC w → _) := fun w hg => on_in c u v j hc hu hv w hg
  have HIN : Hid (∀ w, _) := infinity_any
  have HOP : Hid (∀ w, GlobC w → _) := fun w hg => opposite_any c x y i hc hy w hg
  have HSL : Hid (∀ w, GlobC w → _) := fun w hg => slope_any c x y u v hc hx hy hu hv w hg
  have Q1 := fun w => eqlP x y 0 0 i true hx hy (by decide) (by decide) w
  have Q2 := fun w => eqlP u v 0 0 j true hu hv (by decide) (by decide) w
  have Q3 := fun w => eqlP u v x (subP c 0 y) j false hu hv hx (subP_M _ _ _) w
  have HA1 : Hid (¬ onC c x y i ∨ ¬ onC c u v j → (.agg #[.int .u64 ((limb 0 ((addPt c x y i u v j).1) : Nat) : Int), .int .u64 ((limb 1 ((addPt c x y i u v j).1) : Nat) : Int), .int .u64 ((limb 2 ((addPt c x y i u v j).1) : Nat) : Int), .int .u64 ((limb 3 ((addPt c x y i u v j).1) : Nat) : Int), .int .u64 ((limb 0 ((addPt c x y i u v j).2.1) : Nat) : Int), .int .u64 ((limb 1 ((addPt c x y i u v j).2.1) : Nat) : Int), .int .u64 ((limb 2 ((addPt c x y i u v j).2.1) : Nat) : Int), .int .u64 ((limb 3 ((addPt c x y i u v j).2.1) : Nat) : Int), .bool (addPt c x y i u v j).2.2] : Value) = .agg #[.int .u64 ((limb 0 (0) : Nat) : Int), .int .u64 ((limb 1 (0) : Nat) : Int), .int .u64 ((limb 2 (0) : Nat) : Int), .int .u64 ((limb 3 (0) : Nat) : Int), .int .u64 ((limb 0 (0) : Nat) : Int), .int .u64 ((limb 1 (0) : Nat) : Int), .int .u64 ((limb 2 (0) : Nat) : Int), .int .u64 ((limb 3 (0) : Nat) : Int), .bool true]) := fun h => by unfold addPt; rw [if_pos h]
  have HA2 : Hid (¬ (¬ onC c x y i ∨ ¬ onC c u v j) → (x = 0 ∧ y = 0 ∧ i = true) → (.agg #[.int .u64 ((limb 0 ((addPt c x y i u v j).1) : Nat) : Int), .int .u64 ((limb 1 ((addPt c x y i u v j).1) : Nat) : Int), .int .u64 ((limb 2 ((addPt c x y i u v j).1) : Nat) : Int), .int .u64 ((limb 3 ((addPt c x y i u v j).1) : Nat) : Int), .int .u64 ((limb 0 ((addPt c x y i u v j).2.1) : Nat) : Int), .int .u64 ((limb 1 ((addPt c x y i u v j).2.1) : Nat) : Int), .int .u64 ((limb 2 ((addPt c x y i u v j).2.1) : Nat) : Int), .int .u64 ((limb 3 ((addPt c x y i u v j).2.1) : Nat) : Int), .bool (addPt c x y i u v j).2.2] : Value) = .agg #[.int .u64 ((limb 0 (u) : Nat) : Int), .int .u64 ((limb 1 (u) : Nat) : Int), .int .u64 ((limb 2 (u) : Nat) : Int), .int .u64 ((limb 3 (u) : Nat) : Int), .int .u64 ((limb 0 (v) : Nat) : Int), .int .u64 ((limb 1 (v) : Nat) : Int), .int .u64 ((limb 2 (v) : Nat) : Int), .int .u64 ((limb 3 (v) : Nat) : Int), .bool j]) := fun h h2 => by unfold addPt; rw [if_neg h, if_pos h2]
  have HA3 : Hid (¬ (¬ onC c x y i ∨ ¬ onC c u v j) → ¬ (x = 0 ∧ y = 0 ∧ i = true) → (u = 0 ∧ v = 0 ∧ j = true) → (.agg #[.int .u64 ((limb 0 ((addPt c x y i u v j).1) : Nat) : Int), .int .u64 ((limb 1 ((addPt c x y i u v j).1) : Nat) : Int), .int .u64 ((limb 2 ((addPt c x y i u v j).1) : Nat) : Int), .int .u64 ((limb 3 ((addPt c x y i u v j).1) : Nat) : Int), .int .u64 ((limb 0 ((addPt c x y i u v j).2.1) : Nat) : Int), .int .u64 ((limb 1 ((addPt c x y i u v j).2.1) : Nat) : Int), .int .u64 ((limb 2 ((addPt c x y i u v j).2.1) : Nat) : Int), .int .u64 ((limb 3 ((addPt c x y i u v j).2.1) : Nat) : Int), .bool (addPt c x y i u v j).2.2] : Value) = .agg #[.int .u64 ((limb 0 (x) : Nat) : Int), .int .u64 ((limb 1 (x) : Nat) : Int), .int .u64 ((limb 2 (x) : Nat) : Int), .int .u64 ((limb 3 (x) : Nat) : Int), .int .u64 ((limb 0 (y) : Nat) : Int), .int .u64 ((limb 1 (y) : Nat) : Int), .int .u64 ((limb 2 (y) : Nat) : Int), .int .u64 ((limb 3 (y) : Nat) : Int), .bool i]) := fun h h2 h3 => by unfold addPt; rw [if_neg h, if_neg h2, if_pos h3]
  have HA4 : Hid (¬ (¬ onC c x y i ∨ ¬ onC c u v j) → ¬ (x = 0 ∧ y = 0 ∧ i = true) → ¬ (u = 0 ∧ v = 0 ∧ j = true) → (u = x ∧ v = subP c 0 y ∧ j = false) → (.agg #[.int .u64 ((limb 0 ((addPt c x y i u v j).1) : Nat) : Int), .int .u64 ((limb 1 ((addPt c x y i u v j).1) : Nat) : Int), .int .u64 ((limb 2 ((addPt c x y i u v j).1) : Nat) : Int), .int .u64 ((limb 3 ((addPt c x y i u v j).1) : Nat) : Int), .int .u64 ((limb 0 ((addPt c x y i u v j).2.1) : Nat) : Int), .int .u64 ((limb 1 ((addPt c x y i u v j).2.1) : Nat) : Int), .int .u64 ((limb 2 ((addPt c x y i u v j).2.1) : Nat) : Int), .int .u64 ((limb 3 ((addPt c x y i u v j).2.1) : Nat) : Int), .bool (addPt c x y i u v j).2.2] : Value) = .agg #[.int .u64 ((limb 0 (0) : Nat) : Int), .int .u64 ((limb 1 (0) : Nat) : Int), .int .u64 ((limb 2 (0) : Nat) : Int), .int .u64 ((limb 3 (0) : Nat) : Int), .int .u64 ((limb 0 (0) : Nat) : Int), .int .u64 ((limb 1 (0) : Nat) : Int), .int .u64 ((limb 2 (0) : Nat) : Int), .int .u64 ((limb 3 (0) : Nat) : Int), .bool true]) := fun h h2 h3 h4 => by unfold addPt; rw [if_neg h, if_neg h2, if_neg h3, if_pos h4]
  have HA5 : Hid (¬ (¬ onC c x y i ∨ ¬ onC c u v j) → ¬ (x = 0 ∧ y = 0 ∧ i = true) → ¬ (u = 0 ∧ v = 0 ∧ j = true) → ¬ (u = x ∧ v = subP c 0 y ∧ j = false) → (.agg #[.int .u64 ((limb 0 ((addPt c x y i u v j).1) : Nat) : Int), .int .u64 ((limb 1 ((addPt c x y i u v j).1) : Nat) : Int), .int .u64 ((limb 2 ((addPt c x y i u v j).1) : Nat) : Int), .int .u64 ((limb 3 ((addPt c x y i u v j).1) : Nat) : Int), .int .u64 ((limb 0 ((addPt c x y i u v j).2.1) : Nat) : Int), .int .u64 ((limb 1 ((addPt c x y i u v j).2.1) : Nat) : Int), .int .u64 ((limb 2 ((addPt c x y i u v j).2.1) : Nat) : Int), .int .u64 ((limb 3 ((addPt c x y i u v j).2.1) : Nat) : Int), .bool (addPt c x y i u v j).2.2] : Value) = .agg #[.int .u64 ((limb 0 ((sumXC c x y u v)) : Nat) : Int), .int .u64 ((limb 1 ((sumXC c x y u v)) : Nat) : Int), .int .u64 ((limb 2 ((sumXC c x y u v)) : Nat) : Int), .int .u64 ((limb 3 ((sumXC c x y u v)) : Nat) : Int), .int .u64 ((limb 0 ((sumYC c x y u v)) : Nat) : Int), .int .u64 ((limb 1 ((sumYC c x y u v)) : Nat) : Int), .int .u64 ((limb 2 ((sumYC c x y u v)) : Nat) : Int), .int .u64 ((limb 3 ((sumYC c x y u v)) : Nat) : Int), .bool false]) := fun h h2 h3 h4 => by unfold addPt; rw [if_neg h, if_neg h2, if_neg h3, if_neg h4]
  obtain ⟨V, eV⟩ : ∃ V : Value, V = .agg #[.int .u64 ((limb 0 ((addPt c x y i u v j).1) : Nat) : Int), .int .u64 ((limb 1 ((addPt c x y i u v j).1) : Nat) : Int), .int .u64 ((limb 2 ((addPt c x y i u v j).1) : Nat) : Int), .int .u64 ((limb 3 ((addPt c x y i u v j).1) : Nat) : Int), .int .u64 ((limb 0 ((addPt c x y i u v j).2.1) : Nat) : Int), .int .u64 ((limb 1 ((addPt c x y i u v j).2.1) : Nat) : Int), .int .u64 ((limb 2 ((addPt c x y i u v j).2.1) : Nat) : Int), .int .u64 ((limb 3 ((addPt c x y i u v j).2.1) : Nat) : Int), .bool (addPt c x y i u v j).2.2] := ⟨_, rfl⟩
  rw [← eV] at HA1 HA2 HA3 HA4 HA5 ⊢
  clear eV
  obtain ⟨s, es⟩ : ∃ z, z = slopeC c x y u v (decide (x = u ∧ y = v)) := ⟨_, rfl⟩
  have EX : Hid (sumXC c x y u v = subP c (subP c (mulP c s s) x) u) := by show _ = _; rw [es]; rfl
  have EY : Hid (sumYC c x y u v = subP c (mulP c s (subP c x (sumXC c x y u v))) y) := by show _ = _; rw [es]; rfl
  rw [← es] at HSL
  have ls : s < 115792089237316195423570985008687907853269984665640564039457584007913129639936 := by rw [es]; exact mulP_M _ _ _
  obtain ⟨X, eX⟩ : ∃ z, z = sumXC c x y u v := ⟨_, rfl⟩
  obtain ⟨Y, eY⟩ : ∃ z, z = sumYC c x y u v := ⟨_, rfl⟩
  rw [← eX] at EX EY HA5
  rw [← eY] at EY HA5
  have lX : X < 115792089237316195423570985008687907853269984665640564039457584007913129639936 := by rw [EX.out]; exact subP_M _ _ _
  have HM1 : Hid (∀ w, Glob w → _) := fun w hg => fMul_any c s s hc ls ls w hg
  have HS1 : Hid (∀ w, Glob w → _) := fun w hg => fSub_any c (mulP c s s) x hc (mulP_M _ _ _) hx w hg
  have HS2 : Hid (∀ w, Glob w → _) := fun w hg => fSub_any c (subP c (mulP c s s) x) u hc (subP_M _ _ _) hu w hg
  have HS3 : Hid (∀ w, Glob w → _) := fun w hg => fSub_any c x X hc hx lX w hg
  have HM2 : Hid (∀ w, Glob w → _) := fun w hg => fMul_any c s (subP c x X) hc ls (subP_M _ _ _) w hg
  have HS4 : Hid (∀ w, Glob w → _) := fun w hg => fSub_any c (mulP c s (subP c x X)) y hc (mulP_M _ _ _) hy w hg
  rw [← EX.out] at HS2
  rw [← EY.out] at HS4
  obtain ⟨ss, e1⟩ : ∃ z, z = mulP c s s := ⟨_, rfl⟩
  rw [← e1] at HM1 HS1
  obtain ⟨t1, e2⟩ : ∃ z, z = subP c ss x := ⟨_, rfl⟩
  rw [← e2] at HS1
  have HS2' : Hid (∀ w, Glob w → Calls Tryz.prog 38 #[.int .i64 (c : Int), .agg #[.int .u64 ((limb 0 (t1) : Nat) : Int), .int .u64 ((limb 1 (t1) : Nat) : Int), .int .u64 ((limb 2 (t1) : Nat) : Int), .int .u64 ((limb 3 (t1) : Nat) : Int)], .agg #[.int .u64 ((limb 0 (u) : Nat) : Int), .int .u64 ((limb 1 (u) : Nat) : Int), .int .u64 ((limb 2 (u) : Nat) : Int), .int .u64 ((limb 3 (u) : Nat) : Int)]] w fun e w' => e = .returned (.agg #[.int .u64 ((limb 0 (X) : Nat) : Int), .int .u64 ((limb 1 (X) : Nat) : Int), .int .u64 ((limb 2 (X) : Nat) : Int), .int .u64 ((limb 3 (X) : Nat) : Int)]) ∧ Below w.heap.size w w') := by rw [e2, e1]; exact HS2
  obtain ⟨t2, e3⟩ : ∃ z, z = subP c x X := ⟨_, rfl⟩
  rw [← e3] at HS3 HM2
  obtain ⟨t3, e4⟩ : ∃ z, z = mulP c s t2 := ⟨_, rfl⟩
  rw [← e4] at HM2
  have HS4' : Hid (∀ w, Glob w → Calls Tryz.prog 38 #[.int .i64 (c : Int), .agg #[.int .u64 ((limb 0 (t3) : Nat) : Int), .int .u64 ((limb 1 (t3) : Nat) : Int), .int .u64 ((limb 2 (t3) : Nat) : Int), .int .u64 ((limb 3 (t3) : Nat) : Int)], .agg #[.int .u64 ((limb 0 (y) : Nat) : Int), .int .u64 ((limb 1 (y) : Nat) : Int), .int .u64 ((limb 2 (y) : Nat) : Int), .int .u64 ((limb 3 (y) : Nat) : Int)]] w fun e w' => e = .returned (.agg #[.int .u64 ((limb 0 (Y) : Nat) : Int), .int .u64 ((limb 1 (Y) : Nat) : Int), .int .u64 ((limb 2 (Y) : Nat) : Int), .int .u64 ((limb 3 (Y) : Nat) : Int)]) ∧ Below w.heap.size w w') := by rw [e4, e3]; exact HS4
  obtain ⟨ny, e5⟩ : ∃ z, z = subP c 0 y := ⟨_, rfl⟩
  rw [← e5] at HOP Q3 HA4 HA5
  clear hg es e1 e2 e3 e4 e5 eX eY EX EY HS2 HS4 lX ls
  go_enter Tryz.func14, Tryz.ntmps14
  go_upto_region 1 with fail
  obtain ⟨w0, hw0⟩ : ∃ w0 : World, w0 = ((w.alloc (.cells #[.int .u64 ((limb 0 x : Nat) : Int), .int .u64 ((limb 1 x : Nat) : Int), .int .u64 ((limb 2 x : Nat) : Int), .int .u64 ((limb 3 x : Nat) : Int), .int .u64 ((limb 0 y : Nat) : Int), .int .u64 ((limb 1 y : Nat) : Int), .int .u64 ((limb 2 y : Nat) : Int), .int .u64 ((limb 3 y : Nat) : Int), .bool i] 26)).alloc (.cells #[.int .u64 ((limb 0 u : Nat) : Int), .int .u64 ((limb 1 u : Nat) : Int), .int .u64 ((limb 2 u : Nat) : Int), .int .u64 ((limb 3 u : Nat) : Int), .int .u64 ((limb 0 v : Nat) : Int), .int .u64 ((limb 1 v : Nat) : Int), .int .u64 ((limb 2 v : Nat) : Int), .int .u64 ((limb 3 v : Nat) : Int), .bool j] 26)).alloc (.cells #[.int .u64 0, .int .u64 0, .int .u64 0, .int .u64 0, .int .u64 0, .int .u64 0, .int .u64 0, .int .u64 0, .bool false] 26) := ⟨_, rfl⟩
  have bp0 : Pt w0 w.heap.size x y i := by rw [hw0]; exact ((Pt.newAt _ _ _ _ _ rfl).alloc _).alloc _
  have bq0 : Pt w0 (w.heap.size + 1) u v j := by rw [hw0]; exact (Pt.newAt _ _ _ _ _ (by simp)).alloc _
  have br0 : Pt w0 (w.heap.size + 1 + 1) 0 0 false := by rw [hw0]; exact Pt.zeroAt _ _ (by simp)
  have hbw0 : Below w.heap.size w w0 := by rw [hw0]; exact bAlloc (bAlloc ((Below.refl _ _).alloc (Nat.le_refl _) _) _) _
  have hrw : w.heap.size ≤ w.heap.size + 1 + 1 := by omega
  rw [← hw0]
  clear hw0
  have HG0' : Hid (GlobC w0) := HG0.out.below hbw0
  by_cases ho1 : onC c x y i
  · rw [decide_eq_true ho1] at HO1
    obtain ⟨q0, q1, q2, q3, q4, q5, q6, q7, q8, qf⟩ := bp0.cells
    obtain ⟨p0, p1, p2, p3, p4, p5, p6, p7, p8, pf⟩ := bq0.cells
    go_wp2_with fail
    refine (HO1.out _ HG0'.out).mono ?_
    rintro e w1 ⟨rfl, hb1⟩
    clear q0 q1 q2 q3 q4 q5 q6 q7 q8 qf p0 p1 p2 p3 p4 p5 p6 p7 p8 pf
    have bp1 := bp0.belowAll hb1; have bq1 := bq0.belowAll hb1; have br1 := br0.belowAll hb1
    have hbw1 := bStep hbw0 hb1
    have HG1' : Hid (GlobC w1) := HG0'.out.below hb1
    clear bp0 bq0 br0 hbw0 HG0' hb1
    obtain ⟨q0, q1, q2, q3, q4, q5, q6, q7, q8, qf⟩ := bp1.cells
    obtain ⟨p0, p1, p2, p3, p4, p5, p6, p7, p8, pf⟩ := bq1.cells
    by_cases ho2 : onC c u v j
    · rw [decide_eq_true ho2] at HO2
      have hno : ¬ (¬ onC c x y i ∨ ¬ onC c u v j) := fun h => by rcases h with h | h; exact h ho1; exact h ho2
      have HNO := (show Hid _ from hno)
      have HO1' : Hid (onC c x y i) := ho1
      have HO2' : Hid (onC c u v j) := ho2
      clear hno ho1 ho2 HA1
      go_wp2_with fail
      refine (HO2.out _ HG1'.out).mono ?_
      rintro e w2 ⟨rfl, hb2⟩
      clear q0 q1 q2 q3 q4 q5 q6 q7 q8 qf p0 p1 p2 p3 p4 p5 p6 p7 p8 pf
      have bp2 := bp1.belowAll hb2; have bq2 := bq1.belowAll hb2; have br2 := br1.belowAll hb2
      have hbw2 := bStep hbw1 hb2
      have HG2' : Hid (GlobC w2) := HG1'.out.below hb2
      clear bp1 bq1 br1 hbw1 HG1' hb2
      clear HO1 HO2
      go_upto_region 3 with fail
      by_cases hI1 : x = 0 ∧ y = 0 ∧ i = true
      · rw [decide_eq_true hI1] at Q1
        have HV := HA2.out HNO.out hI1
        have HVV := (show Hid _ from HV)
        clear HV hI1 HA2 HA3 HA4 HA5 HNO Q2 Q3
        go_cut [22] (fun b wx => b = .bool true ∧ Below w2.heap.size w2 wx)
        case first =>
          have HS0 : Hid (Below w2.heap.size w2 w2.drew) := (Below.refl _ _).drew
          refine wp_region_Z (fun w' => Below w2.heap.size w2 w') 99 (by kernel_rfl) ?_
          refine wpZ_take (i := 0) (v := .agg #[.int .u64 ((limb 0 (x) : Nat) : Int), .int .u64 ((limb 1 (x) : Nat) : Int), .int .u64 ((limb 2 (x) : Nat) : Int), .int .u64 ((limb 3 (x) : Nat) : Int), .int .u64 ((limb 0 (y) : Nat) : Int), .int .u64 ((limb 1 (y) : Nat) : Int), .int .u64 ((limb 2 (y) : Nat) : Int), .int .u64 ((limb 3 (y) : Nat) : Int), .bool i]) 23 rfl rfl (by kernel_rfl) (by kernel_rfl) (by kernel_rfl) (Or.inr (by decide)) (fun _ _ _ h => h) (Or.inl ⟨by rfl, fun w hSw => by (obtain ⟨q0, q1, q2, q3, q4, q5, q6, q7, q8, qf⟩ := (bp2.belowAll hSw).cells; clear hSw; go_simp)⟩) HS0.out ?_
          simp only [Act.put, List.setIfInBounds_toArray]
          dsimp only [List.set_cons_zero, List.set_cons_succ]
          refine wpZ_one (i := 1) (by kernel_rfl) rfl (fun K hK => ?_)
          go_simp
          refine (HIN.out w2.drew).mono ?_
          rintro e wK1 ⟨rfl, hbK1⟩
          have hSK1 : Below w2.heap.size w2 wK1 := bStep (HS0.out) hbK1
          go_wp2_with fail
          refine hK.out _ _ (fun _ => hSK1) ?_
          clear hK K
          refine wpZ_take (i := 2) (v := .bool true) 25 rfl rfl (by kernel_rfl) (by kernel_rfl) (by kernel_rfl) (Or.inr (by decide)) (fun _ _ _ h => h) (Or.inl ⟨by rfl, fun w hSw => by go_simp⟩) hSK1 ?_
          simp only [Act.put, List.setIfInBounds_toArray]
          dsimp only [List.set_cons_zero, List.set_cons_succ]
          refine wpZ_take (i := 3) (v := .bool true) 22 rfl rfl (by kernel_rfl) (by kernel_rfl) (by kernel_rfl) (Or.inr (by decide)) (fun _ _ _ h => h) (Or.inl ⟨by rfl, fun w hSw => by go_simp⟩) hSK1 ?_
          simp only [Act.put, List.setIfInBounds_toArray]
          dsimp only [List.set_cons_zero, List.set_cons_succ]
          refine wpZ_done (by kernel_rfl) ?_ _
          go_wp2_with fail
          go_meet
          exact ⟨rfl, hSK1⟩
        obtain ⟨rfl, hbx⟩ := hcut
        obtain ⟨w3, hwn⟩ : ∃ x, x = wc := ⟨_, rfl⟩
        rw [← hwn] at hbx ⊢
        clear hwn
        have bp3 := bp2.belowAll hbx; have bq3 := bq2.belowAll hbx; have br3 := br2.belowAll hbx
        have hbw3 := bStep hbw2 hbx
        have HG3' : Hid (GlobC w3) := HG2'.out.below hbx
        clear bp2 bq2 br2 hbw2 HG2' hbx
        obtain ⟨q0, q1, q2, q3, q4, q5, q6, q7, q8, qf⟩ := bp3.cells
        obtain ⟨p0, p1, p2, p3, p4, p5, p6, p7, p8, pf⟩ := bq3.cells
        obtain ⟨r0, r1, r2, r3, r4, r5, r6, r7, r8, rf⟩ := br3.cells
        have hbe := hbw3
        go_wp2
        refine bodyPost_ret (v := .agg #[.int .u64 ((limb 0 (u) : Nat) : Int), .int .u64 ((limb 1 (u) : Nat) : Int), .int .u64 ((limb 2 (u) : Nat) : Int), .int .u64 ((limb 3 (u) : Nat) : Int), .int .u64 ((limb 0 (v) : Nat) : Int), .int .u64 ((limb 1 (v) : Nat) : Int), .int .u64 ((limb 2 (v) : Nat) : Int), .int .u64 ((limb 3 (v) : Nat) : Int), .bool j]) (by simp [results, Tryz.results14, go_sem, r0, r1, r2, r3, r4, r5, r6, r7, r8]) rfl ⟨by rw [HVV.out], ?_⟩
        exact bSet9 hbe hrw _ _ _ _ _ _ _ _ _
      · rw [decide_eq_false hI1] at Q1
        have HI1 := (show Hid _ from hI1)
        have hif := on_fin HO1'.out hI1
        have HIF : Hid (i = false) := hif
        clear hif
        clear hI1
        go_cut [22] (fun b wx => b = .bool false ∧ Below w2.heap.size w2 wx)
        case first =>
          have HS0 : Hid (Below w2.heap.size w2 w2.drew) := (Below.refl _ _).drew
          refine wp_region_Z (fun w' => Below w2.heap.size w2 w') 99 (by kernel_rfl) ?_
          refine wpZ_take (i := 0) (v := .agg #[.int .u64 ((limb 0 (x) : Nat) : Int), .int .u64 ((limb 1 (x) : Nat) : Int), .int .u64 ((limb 2 (x) : Nat) : Int), .int .u64 ((limb 3 (x) : Nat) : Int), .int .u64 ((limb 0 (y) : Nat) : Int), .int .u64 ((limb 1 (y) : Nat) : Int), .int .u64 ((limb 2 (y) : Nat) : Int), .int .u64 ((limb 3 (y) : Nat) : Int), .bool i]) 23 rfl rfl (by kernel_rfl) (by kernel_rfl) (by kernel_rfl) (Or.inr (by decide)) (fun _ _ _ h => h) (Or.inl ⟨by rfl, fun w hSw => by (obtain ⟨q0, q1, q2, q3, q4, q5, q6, q7, q8, qf⟩ := (bp2.belowAll hSw).cells; clear hSw; go_simp)⟩) HS0.out ?_
          simp only [Act.put, List.setIfInBounds_toArray]
          dsimp only [List.set_cons_zero, List.set_cons_succ]
          refine wpZ_one (i := 1) (by kernel_rfl) rfl (fun K hK => ?_)
          go_simp
          refine (HIN.out w2.drew).mono ?_
          rintro e wK1 ⟨rfl, hbK1⟩
          have hSK1 : Below w2.heap.size w2 wK1 := bStep (HS0.out) hbK1
          go_wp2_with fail
          refine hK.out _ _ (fun _ => hSK1) ?_
          clear hK K
          refine wpZ_take (i := 2) (v := .bool false) 25 rfl rfl (by kernel_rfl) (by kernel_rfl) (by kernel_rfl) (Or.inr (by decide)) (fun _ _ _ h => h) (Or.inl ⟨by rfl, fun w hSw => by go_simp⟩) hSK1 ?_
          simp only [Act.put, List.setIfInBounds_toArray]
          dsimp only [List.set_cons_zero, List.set_cons_succ]
          refine wpZ_take (i := 3) (v := .bool false) 22 rfl rfl (by kernel_rfl) (by kernel_rfl) (by kernel_rfl) (Or.inr (by decide)) (fun _ _ _ h => h) (Or.inl ⟨by rfl, fun w hSw => by go_simp⟩) hSK1 ?_
          simp only [Act.put, List.setIfInBounds_toArray]
          dsimp only [List.set_cons_zero, List.set_cons_succ]
          refine wpZ_done (by kernel_rfl) ?_ _
          go_wp2_with fail
          go_meet
          exact ⟨rfl, hSK1⟩
        obtain ⟨rfl, hbx⟩ := hcut
        obtain ⟨w3, hwn⟩ : ∃ x, x = wc := ⟨_, rfl⟩
        rw [← hwn] at hbx ⊢
        clear hwn
        have bp3 := bp2.belowAll hbx; have bq3 := bq2.belowAll hbx; have br3 := br2.belowAll hbx
        have hbw3 := bStep hbw2 hbx
        have HG3' : Hid (GlobC w3) := HG2'.out.below hbx
        clear bp2 bq2 br2 hbw2 HG2' hbx
        clear Q1
        go_upto_region 5 with fail
        by_cases hI2 : u = 0 ∧ v = 0 ∧ j = true
        · rw [decide_eq_true hI2] at Q2
          have HV := HA3.out HNO.out HI1.out hI2
          have HVV := (show Hid _ from HV)
          clear HV hI2 HA2 HA3 HA4 HA5 HNO Q3 HIF
          go_cut [27] (fun b wx => b = .bool true ∧ Below w3.heap.size w3 wx)
          case first =>
            have HS0 : Hid (Below w3.heap.size w3 w3.drew) := (Below.refl _ _).drew
            refine wp_region_Z (fun w' => Below w3.heap.size w3 w') 99 (by kernel_rfl) ?_
            refine wpZ_take (i := 0) (v := .agg #[.int .u64 ((limb 0 (u) : Nat) : Int), .int .u64 ((limb 1 (u) : Nat) : Int), .int .u64 ((limb 2 (u) : Nat) : Int), .int .u64 ((limb 3 (u) : Nat) : Int), .int .u64 ((limb 0 (v) : Nat) : Int), .int .u64 ((limb 1 (v) : Nat) : Int), .int .u64 ((limb 2 (v) : Nat) : Int), .int .u64 ((limb 3 (v) : Nat) : Int), .bool j]) 28 rfl rfl (by kernel_rfl) (by kernel_rfl) (by kernel_rfl) (Or.inr (by decide)) (fun _ _ _ h => h) (Or.inl ⟨by rfl, fun w hSw => by (obtain ⟨q0, q1, q2, q3, q4, q5, q6, q7, q8, qf⟩ := (bq3.belowAll hSw).cells; clear hSw; go_simp)⟩) HS0.out ?_
            simp only [Act.put, List.setIfInBounds_toArray]
            dsimp only [List.set_cons_zero, List.set_cons_succ]
            refine wpZ_one (i := 1) (by kernel_rfl) rfl (fun K hK => ?_)
            go_simp
            refine (HIN.out w3.drew).mono ?_
            rintro e wK1 ⟨rfl, hbK1⟩
            have hSK1 : Below w3.heap.size w3 wK1 := bStep (HS0.out) hbK1
            go_wp2_with fail
            refine hK.out _ _ (fun _ => hSK1) ?_
            clear hK K
            refine wpZ_take (i := 2) (v := .bool true) 30 rfl rfl (by kernel_rfl) (by kernel_rfl) (by kernel_rfl) (Or.inr (by decide)) (fun _ _ _ h => h) (Or.inl ⟨by rfl, fun w hSw => by go_simp⟩) hSK1 ?_
            simp only [Act.put, List.setIfInBounds_toArray]
            dsimp only [List.set_cons_zero, List.set_cons_succ]
            refine wpZ_take (i := 3) (v := .bool true) 27 rfl rfl (by kernel_rfl) (by kernel_rfl) (by kernel_rfl) (Or.inr (by decide)) (fun _ _ _ h => h) (Or.inl ⟨by rfl, fun w hSw => by go_simp⟩) hSK1 ?_
            simp only [Act.put, List.setIfInBounds_toArray]
            dsimp only [List.set_cons_zero, List.set_cons_succ]
            refine wpZ_done (by kernel_rfl) ?_ _
            go_wp2_with fail
            go_meet
            exact ⟨rfl, hSK1⟩
          obtain ⟨rfl, hbx⟩ := hcut
          obtain ⟨w4, hwn⟩ : ∃ x, x = wc := ⟨_, rfl⟩
          rw [← hwn] at hbx ⊢
          clear hwn
          have bp4 := bp3.belowAll hbx; have bq4 := bq3.belowAll hbx; have br4 := br3.belowAll hbx
          have hbw4 := bStep hbw3 hbx
          have HG4' : Hid (GlobC w4) := HG3'.out.below hbx
          clear bp3 bq3 br3 hbw3 HG3' hbx
          obtain ⟨q0, q1, q2, q3, q4, q5, q6, q7, q8, qf⟩ := bp4.cells
          obtain ⟨p0, p1, p2, p3, p4, p5, p6, p7, p8, pf⟩ := bq4.cells
          obtain ⟨r0, r1, r2, r3, r4, r5, r6, r7, r8, rf⟩ := br4.cells
          have hbe := hbw4
          go_wp2
          refine bodyPost_ret (v := .agg #[.int .u64 ((limb 0 (x) : Nat) : Int), .int .u64 ((limb 1 (x) : Nat) : Int), .int .u64 ((limb 2 (x) : Nat) : Int), .int .u64 ((limb 3 (x) : Nat) : Int), .int .u64 ((limb 0 (y) : Nat) : Int), .int .u64 ((limb 1 (y) : Nat) : Int), .int .u64 ((limb 2 (y) : Nat) : Int), .int .u64 ((limb 3 (y) : Nat) : Int), .bool i]) (by simp [results, Tryz.results14, go_sem, r0, r1, r2, r3, r4, r5, r6, r7, r8]) rfl ⟨by rw [HVV.out], ?_⟩
          exact bSet9 hbe hrw _ _ _ _ _ _ _ _ _
        · rw [decide_eq_false hI2] at Q2
          have HI2 := (show Hid _ from hI2)
          have hjf := on_fin HO2'.out hI2
          have HJF : Hid (j = false) := hjf
          clear hjf
          clear hI2
          go_cut [27] (fun b wx => b = .bool false ∧ Below w3.heap.size w3 wx)
          case first =>
            have HS0 : Hid (Below w3.heap.size w3 w3.drew) := (Below.refl _ _).drew
            refine wp_region_Z (fun w' => Below w3.heap.size w3 w') 99 (by kernel_rfl) ?_
            refine wpZ_take (i := 0) (v := .agg #[.int .u64 ((limb 0 (u) : Nat) : Int), .int .u64 ((limb 1 (u) : Nat) : Int), .int .u64 ((limb 2 (u) : Nat) : Int), .int .u64 ((limb 3 (u) : Nat) : Int), .int .u64 ((limb 0 (v) : Nat) : Int), .int .u64 ((limb 1 (v) : Nat) : Int), .int .u64 ((limb 2 (v) : Nat) : Int), .int .u64 ((limb 3 (v) : Nat) : Int), .bool j]) 28 rfl rfl (by kernel_rfl) (by kernel_rfl) (by kernel_rfl) (Or.inr (by decide)) (fun _ _ _ h => h) (Or.inl ⟨by rfl, fun w hSw => by (obtain ⟨q0, q1, q2, q3, q4, q5, q6, q7, q8, qf⟩ := (bq3.belowAll hSw).cells; clear hSw; go_simp)⟩) HS0.out ?_
            simp only [Act.put, List.setIfInBounds_toArray]
            dsimp only [List.set_cons_zero, List.set_cons_succ]
            refine wpZ_one (i := 1) (by kernel_rfl) rfl (fun K hK => ?_)
            go_simp
            refine (HIN.out w3.drew).mono ?_
            rintro e wK1 ⟨rfl, hbK1⟩
            have hSK1 : Below w3.heap.size w3 wK1 := bStep (HS0.out) hbK1
            go_wp2_with fail
            refine hK.out _ _ (fun _ => hSK1) ?_
            clear hK K
            refine wpZ_take (i := 2) (v := .bool false) 30 rfl rfl (by kernel_rfl) (by kernel_rfl) (by kernel_rfl) (Or.inr (by decide)) (fun _ _ _ h => h) (Or.inl ⟨by rfl, fun w hSw => by go_simp⟩) hSK1 ?_
            simp only [Act.put, List.setIfInBounds_toArray]
            dsimp only [List.set_cons_zero, List.set_cons_succ]
            refine wpZ_take (i := 3) (v := .bool false) 27 rfl rfl (by kernel_rfl) (by kernel_rfl) (by kernel_rfl) (Or.inr (by decide)) (fun _ _ _ h => h) (Or.inl ⟨by rfl, fun w hSw => by go_simp⟩) hSK1 ?_
            simp only [Act.put, List.setIfInBounds_toArray]
            dsimp only [List.set_cons_zero, List.set_cons_succ]
            refine wpZ_done (by kernel_rfl) ?_ _
            go_wp2_with fail
            go_meet
            exact ⟨rfl, hSK1⟩
          obtain ⟨rfl, hbx⟩ := hcut
          obtain ⟨w4, hwn⟩ : ∃ x, x = wc := ⟨_, rfl⟩
          rw [← hwn] at hbx ⊢
          clear hwn
          have bp4 := bp3.belowAll hbx; have bq4 := bq3.belowAll hbx; have br4 := br3.belowAll hbx
          have hbw4 := bStep hbw3 hbx
          have HG4' : Hid (GlobC w4) := HG3'.out.below hbx
          clear bp3 bq3 br3 hbw3 HG3' hbx
          clear Q2
          go_upto_region 7 with fail
          by_cases hO : u = x ∧ v = ny ∧ j = false
          · rw [decide_eq_true hO] at Q3
            have HV := HA4.out HNO.out HI1.out HI2.out hO
            have HVV := (show Hid _ from HV)
            clear HV hO HA2 HA3 HA4 HA5 HNO HIF HJF
            go_cut [32] (fun b wx => b = .bool true ∧ Below w4.heap.size w4 wx)
            case first =>
              have HS0 : Hid (Below w4.heap.size w4 w4.drew) := (Below.refl _ _).drew
              refine wp_region_Z (fun w' => Below w4.heap.size w4 w') 99 (by kernel_rfl) ?_
              refine wpZ_take (i := 0) (v := .agg #[.int .u64 ((limb 0 (u) : Nat) : Int), .int .u64 ((limb 1 (u) : Nat) : Int), .int .u64 ((limb 2 (u) : Nat) : Int), .int .u64 ((limb 3 (u) : Nat) : Int), .int .u64 ((limb 0 (v) : Nat) : Int), .int .u64 ((limb 1 (v) : Nat) : Int), .int .u64 ((limb 2 (v) : Nat) : Int), .int .u64 ((limb 3 (v) : Nat) : Int), .bool j]) 33 rfl rfl (by kernel_rfl) (by kernel_rfl) (by kernel_rfl) (Or.inr (by decide)) (fun _ _ _ h => h) (Or.inl ⟨by rfl, fun w hSw => by (obtain ⟨q0, q1, q2, q3, q4, q5, q6, q7, q8, qf⟩ := (bq4.belowAll hSw).cells; clear hSw; go_simp)⟩) HS0.out ?_
              simp only [Act.put, List.setIfInBounds_toArray]
              dsimp only [List.set_cons_zero, List.set_cons_succ]
              refine wpZ_take (i := 1) (v := .int .i64 (c : Int)) 34 rfl rfl (by kernel_rfl) (by kernel_rfl) (by kernel_rfl) (Or.inr (by decide)) (fun _ _ _ h => h) (Or.inl ⟨by rfl, fun w hSw => by go_simp⟩) HS0.out ?_
              simp only [Act.put, List.setIfInBounds_toArray]
              dsimp only [List.set_cons_zero, List.set_cons_succ]
              refine wpZ_take (i := 2) (v := .agg #[.int .u64 ((limb 0 (x) : Nat) : Int), .int .u64 ((limb 1 (x) : Nat) : Int), .int .u64 ((limb 2 (x) : Nat) : Int), .int .u64 ((limb 3 (x) : Nat) : Int), .int .u64 ((limb 0 (y) : Nat) : Int), .int .u64 ((limb 1 (y) : Nat) : Int), .int .u64 ((limb 2 (y) : Nat) : Int), .int .u64 ((limb 3 (y) : Nat) : Int), .bool i]) 35 rfl rfl (by kernel_rfl) (by kernel_rfl) (by kernel_rfl) (Or.inr (by decide)) (fun _ _ _ h => h) (Or.inl ⟨by rfl, fun w hSw => by (obtain ⟨q0, q1, q2, q3, q4, q5, q6, q7, q8, qf⟩ := (bp4.belowAll hSw).cells; clear hSw; go_simp)⟩) HS0.out ?_
              simp only [Act.put, List.setIfInBounds_toArray]
              dsimp only [List.set_cons_zero, List.set_cons_succ]
              refine wpZ_one (i := 3) (by kernel_rfl) rfl (fun K hK => ?_)
              go_simp
              refine (HOP.out w4.drew (HG4'.out.below (HS0.out))).mono ?_
              rintro e wK1 ⟨rfl, hbK1⟩
              have hSK1 : Below w4.heap.size w4 wK1 := bStep (HS0.out) hbK1
              go_wp2_with fail
              refine hK.out _ _ (fun _ => hSK1) ?_
              clear hK K
              refine wpZ_take (i := 4) (v := .bool true) 37 rfl rfl (by kernel_rfl) (by kernel_rfl) (by kernel_rfl) (Or.inr (by decide)) (fun _ _ _ h => h) (Or.inl ⟨by rfl, fun w hSw => by go_simp⟩) hSK1 ?_
              simp only [Act.put, List.setIfInBounds_toArray]
              dsimp only [List.set_cons_zero, List.set_cons_succ]
              refine wpZ_take (i := 5) (v := .bool true) 32 rfl rfl (by kernel_rfl) (by kernel_rfl) (by kernel_rfl) (Or.inr (by decide)) (fun _ _ _ h => h) (Or.inl ⟨by rfl, fun w hSw => by go_simp⟩) hSK1 ?_
              simp only [Act.put, List.setIfInBounds_toArray]
              dsimp only [List.set_cons_zero, List.set_cons_succ]
              refine wpZ_done (by kernel_rfl) ?_ _
              go_wp2_with fail
              go_meet
              exact ⟨rfl, hSK1⟩
            obtain ⟨rfl, hbx⟩ := hcut
            obtain ⟨w5, hwn⟩ : ∃ x, x = wc := ⟨_, rfl⟩
            rw [← hwn] at hbx ⊢
            clear hwn
            have bp5 := bp4.belowAll hbx; have bq5 := bq4.belowAll hbx; have br5 := br4.belowAll hbx
            have hbw5 := bStep hbw4 hbx
            have HG5' : Hid (GlobC w5) := HG4'.out.below hbx
            clear bp4 bq4 br4 hbw4 HG4' hbx
            obtain ⟨q0, q1, q2, q3, q4, q5, q6, q7, q8, qf⟩ := bp5.cells
            obtain ⟨p0, p1, p2, p3, p4, p5, p6, p7, p8, pf⟩ := bq5.cells
            go_wp2_with fail
            refine (HIN.out _).mono ?_
            rintro e wz ⟨rfl, hbz⟩
            clear q0 q1 q2 q3 q4 q5 q6 q7 q8 qf p0 p1 p2 p3 p4 p5 p6 p7 p8 pf
            obtain ⟨r0, r1, r2, r3, r4, r5, r6, r7, r8, rf⟩ := (br5.belowAll hbz).cells
            have hbe := bStep hbw5 hbz
            go_wp2
            refine bodyPost_ret (v := .agg #[.int .u64 ((limb 0 (0) : Nat) : Int), .int .u64 ((limb 1 (0) : Nat) : Int), .int .u64 ((limb 2 (0) : Nat) : Int), .int .u64 ((limb 3 (0) : Nat) : Int), .int .u64 ((limb 0 (0) : Nat) : Int), .int .u64 ((limb 1 (0) : Nat) : Int), .int .u64 ((limb 2 (0) : Nat) : Int), .int .u64 ((limb 3 (0) : Nat) : Int), .bool true]) (by simp [results, Tryz.results14, go_sem, r0, r1, r2, r3, r4, r5, r6, r7, r8]) rfl ⟨by rw [HVV.out], ?_⟩
            exact bSet9 hbe hrw _ _ _ _ _ _ _ _ _
          · rw [decide_eq_false hO] at Q3
            have HV := HA5.out HNO.out HI1.out HI2.out hO
            have HVV := (show Hid _ from HV)
            clear HV hO HA2 HA3 HA4 HA5 HNO
            go_cut [32] (fun b wx => b = .bool false ∧ Below w4.heap.size w4 wx)
            case first =>
              have HS0 : Hid (Below w4.heap.size w4 w4.drew) := (Below.refl _ _).drew
              refine wp_region_Z (fun w' => Below w4.heap.size w4 w') 99 (by kernel_rfl) ?_
              refine wpZ_take (i := 0) (v := .agg #[.int .u64 ((limb 0 (u) : Nat) : Int), .int .u64 ((limb 1 (u) : Nat) : Int), .int .u64 ((limb 2 (u) : Nat) : Int), .int .u64 ((limb 3 (u) : Nat) : Int), .int .u64 ((limb 0 (v) : Nat) : Int), .int .u64 ((limb 1 (v) : Nat) : Int), .int .u64 ((limb 2 (v) : Nat) : Int), .int .u64 ((limb 3 (v) : Nat) : Int), .bool j]) 33 rfl rfl (by kernel_rfl) (by kernel_rfl) (by kernel_rfl) (Or.inr (by decide)) (fun _ _ _ h => h) (Or.inl ⟨by rfl, fun w hSw => by (obtain ⟨q0, q1, q2, q3, q4, q5, q6, q7, q8, qf⟩ := (bq4.belowAll hSw).cells; clear hSw; go_simp)⟩) HS0.out ?_
              simp only [Act.put, List.setIfInBounds_toArray]
              dsimp only [List.set_cons_zero, List.set_cons_succ]
              refine wpZ_take (i := 1) (v := .int .i64 (c : Int)) 34 rfl rfl (by kernel_rfl) (by kernel_rfl) (by kernel_rfl) (Or.inr (by decide)) (fun _ _ _ h => h) (Or.inl ⟨by rfl, fun w hSw => by go_simp⟩) HS0.out ?_
              simp only [Act.put, List.setIfInBounds_toArray]
              dsimp only [List.set_cons_zero, List.set_cons_succ]
              refine wpZ_take (i := 2) (v := .agg #[.int .u64 ((limb 0 (x) : Nat) : Int), .int .u64 ((limb 1 (x) : Nat) : Int), .int .u64 ((limb 2 (x) : Nat) : Int), .int .u64 ((limb 3 (x) : Nat) : Int), .int .u64 ((limb 0 (y) : Nat) : Int), .int .u64 ((limb 1 (y) : Nat) : Int), .int .u64 ((limb 2 (y) : Nat) : Int), .int .u64 ((limb 3 (y) : Nat) : Int), .bool i]) 35 rfl rfl (by kernel_rfl) (by kernel_rfl) (by kernel_rfl) (Or.inr (by decide)) (fun _ _ _ h => h) (Or.inl ⟨by rfl, fun w hSw => by (obtain ⟨q0, q1, q2, q3, q4, q5, q6, q7, q8, qf⟩ := (bp4.belowAll hSw).cells; clear hSw; go_simp)⟩) HS0.out ?_
              simp only [Act.put, List.setIfInBounds_toArray]
              dsimp only [List.set_cons_zero, List.set_cons_succ]
              refine wpZ_one (i := 3) (by kernel_rfl) rfl (fun K hK => ?_)
              go_simp
              refine (HOP.out w4.drew (HG4'.out.below (HS0.out))).mono ?_
              rintro e wK1 ⟨rfl, hbK1⟩
              have hSK1 : Below w4.heap.size w4 wK1 := bStep (HS0.out) hbK1
              go_wp2_with fail
              refine hK.out _ _ (fun _ => hSK1) ?_
              clear hK K
              refine wpZ_take (i := 4) (v := .bool false) 37 rfl rfl (by kernel_rfl) (by kernel_rfl) (by kernel_rfl) (Or.inr (by decide)) (fun _ _ _ h => h) (Or.inl ⟨by rfl, fun w hSw => by go_simp⟩) hSK1 ?_
              simp only [Act.put, List.setIfInBounds_toArray]
              dsimp only [List.set_cons_zero, List.set_cons_succ]
              refine wpZ_take (i := 5) (v := .bool false) 32 rfl rfl (by kernel_rfl) (by kernel_rfl) (by kernel_rfl) (Or.inr (by decide)) (fun _ _ _ h => h) (Or.inl ⟨by rfl, fun w hSw => by go_simp⟩) hSK1 ?_
              simp only [Act.put, List.setIfInBounds_toArray]
              dsimp only [List.set_cons_zero, List.set_cons_succ]
              refine wpZ_done (by kernel_rfl) ?_ _
              go_wp2_with fail
              go_meet
              exact ⟨rfl, hSK1⟩
            obtain ⟨rfl, hbx⟩ := hcut
            obtain ⟨w5, hwn⟩ : ∃ x, x = wc := ⟨_, rfl⟩
            rw [← hwn] at hbx ⊢
            clear hwn
            have bp5 := bp4.belowAll hbx; have bq5 := bq4.belowAll hbx; have br5 := br4.belowAll hbx
            have hbw5 := bStep hbw4 hbx
            have HG5' : Hid (GlobC w5) := HG4'.out.below hbx
            clear bp4 bq4 br4 hbw4 HG4' hbx
            clear Q3 HOP HIN HI1 HI2 HO1' HO2'
            have hif := HIF.out; have hjf := HJF.out
            clear HIF HJF
            subst hif hjf
            go_upto_region 9 with fail
            obtain ⟨q0, q1, q2, q3, q4, q5, q6, q7, q8, qf⟩ := bp5.cells
            obtain ⟨p0, p1, p2, p3, p4, p5, p6, p7, p8, pf⟩ := bq5.cells
            go_wp2_with fail
            refine (HSL.out _ HG5'.out).mono ?_
            rintro e w6 ⟨rfl, hb6⟩
            clear q0 q1 q2 q3 q4 q5 q6 q7 q8 qf p0 p1 p2 p3 p4 p5 p6 p7 p8 pf
            have bp6 := bp5.belowAll hb6; have bq6 := bq5.belowAll hb6; have br6 := br5.belowAll hb6
            have hbw6 := bStep hbw5 hb6
            have HG6' : Hid (GlobC w6) := HG5'.out.below hb6
            clear bp5 bq5 br5 hbw5 HG5' hb6
            clear HSL
            have hal : Below w6.heap.size w6 (w6.alloc (.cells #[.int .u64 ((limb 0 (s) : Nat) : Int), .int .u64 ((limb 1 (s) : Nat) : Int), .int .u64 ((limb 2 (s) : Nat) : Int), .int .u64 ((limb 3 (s) : Nat) : Int)] 24)) := (Below.refl _ _).alloc (Nat.le_refl _) _
            have b7 : Blk (w6.alloc (.cells #[.int .u64 ((limb 0 (s) : Nat) : Int), .int .u64 ((limb 1 (s) : Nat) : Int), .int .u64 ((limb 2 (s) : Nat) : Int), .int .u64 ((limb 3 (s) : Nat) : Int)] 24)) 24 w6.heap.size (fun i => limb i s) := Blk.newAt _ _ _ (fun i => limb i s) rfl
            go_upto_region 10 with fail
            obtain ⟨w7, hw7⟩ : ∃ x : World, x = w6.alloc (.cells #[.int .u64 ((limb 0 (s) : Nat) : Int), .int .u64 ((limb 1 (s) : Nat) : Int), .int .u64 ((limb 2 (s) : Nat) : Int), .int .u64 ((limb 3 (s) : Nat) : Int)] 24) := ⟨_, rfl⟩
            obtain ⟨N7, hN7⟩ : ∃ N, N = w6.heap.size := ⟨_, rfl⟩
            have lr7 : w.heap.size + 1 + 1 < N7 := by rw [hN7]; exact br6.lt
            rw [← hw7] at hal b7 ⊢
            rw [← hN7] at b7 ⊢
            have bp7 := bp6.belowAll hal; have bq7 := bq6.belowAll hal; have br7 := br6.belowAll hal
            have hbw7 := bStep hbw6 hal
            have HG7' : Hid (GlobC w7) := HG6'.out.below hal
            clear bp6 bq6 br6 hbw6 HG6' hal
            clear hw7 hN7
            go_cut [8] (fun p wx => ∃ N : Nat, p = .pointer (some ⟨N, 0, none⟩) ∧ w7.heap.size ≤ N ∧ Blk wx 24 N (fun i => limb i X) ∧ Below w7.heap.size w7 wx)
            case first =>
              have HS0 : Hid (Below w7.heap.size w7 w7.drew) := (Below.refl _ _).drew
              refine wp_region_Z (fun w' => Kp w7 w') 99 (by kernel_rfl) ?_
              refine wpZ_take (i := 0) (v := .int .i64 (c : Int)) 43 rfl rfl (by kernel_rfl) (by kernel_rfl) (by kernel_rfl) (Or.inr (by decide)) (fun _ _ _ h => h) (Or.inl ⟨by rfl, fun w hSw => by go_simp⟩) (HS0.out) ?_
              simp only [Act.put, List.setIfInBounds_toArray]
              dsimp only [List.set_cons_zero, List.set_cons_succ]
              refine wpZ_take (i := 1) (v := .int .i64 (c : Int)) 44 rfl rfl (by kernel_rfl) (by kernel_rfl) (by kernel_rfl) (Or.inr (by decide)) (fun _ _ _ h => h) (Or.inl ⟨by rfl, fun w hSw => by go_simp⟩) (HS0.out) ?_
              simp only [Act.put, List.setIfInBounds_toArray]
              dsimp only [List.set_cons_zero, List.set_cons_succ]
              refine wpZ_take (i := 2) (v := .int .i64 (c : Int)) 45 rfl rfl (by kernel_rfl) (by kernel_rfl) (by kernel_rfl) (Or.inr (by decide)) (fun _ _ _ h => h) (Or.inl ⟨by rfl, fun w hSw => by go_simp⟩) (HS0.out) ?_
              simp only [Act.put, List.setIfInBounds_toArray]
              dsimp only [List.set_cons_zero, List.set_cons_succ]
              refine wpZ_take (i := 3) (v := .agg #[.int .u64 ((limb 0 (s) : Nat) : Int), .int .u64 ((limb 1 (s) : Nat) : Int), .int .u64 ((limb 2 (s) : Nat) : Int), .int .u64 ((limb 3 (s) : Nat) : Int)]) 46 rfl rfl (by kernel_rfl) (by kernel_rfl) (by kernel_rfl) (Or.inr (by decide)) (fun _ _ _ h => h) (Or.inl ⟨by rfl, fun w hSw => by (have qq := (b7.belowAll hSw).cell; clear hSw; go_simp)⟩) (HS0.out) ?_
              simp only [Act.put, List.setIfInBounds_toArray]
              dsimp only [List.set_cons_zero, List.set_cons_succ]
              refine wpZ_take (i := 4) (v := .agg #[.int .u64 ((limb 0 (s) : Nat) : Int), .int .u64 ((limb 1 (s) : Nat) : Int), .int .u64 ((limb 2 (s) : Nat) : Int), .int .u64 ((limb 3 (s) : Nat) : Int)]) 47 rfl rfl (by kernel_rfl) (by kernel_rfl) (by kernel_rfl) (Or.inr (by decide)) (fun _ _ _ h => h) (Or.inl ⟨by rfl, fun w hSw => by (have qq := (b7.belowAll hSw).cell; clear hSw; go_simp)⟩) (HS0.out) ?_
              simp only [Act.put, List.setIfInBounds_toArray]
              dsimp only [List.set_cons_zero, List.set_cons_succ]
              refine wpZ_take (i := 6) (v := .pointer (some ⟨w.heap.size, 0, none⟩)) 49 rfl rfl (by kernel_rfl) (by kernel_rfl) (by kernel_rfl) (Or.inr (by decide)) (fun _ _ _ h => h) (Or.inl ⟨by rfl, fun w hSw => by go_simp⟩) (HS0.out) ?_
              simp only [Act.put, List.setIfInBounds_toArray]
              dsimp only [List.set_cons_zero, List.set_cons_succ]
              refine wpZ_take (i := 7) (v := .agg #[.int .u64 ((limb 0 (x) : Nat) : Int), .int .u64 ((limb 1 (x) : Nat) : Int), .int .u64 ((limb 2 (x) : Nat) : Int), .int .u64 ((limb 3 (x) : Nat) : Int)]) 50 rfl rfl (by kernel_rfl) (by kernel_rfl) (by kernel_rfl) (Or.inr (by decide)) (fun _ _ _ h => h) (Or.inl ⟨by rfl, fun w hSw => by (obtain ⟨q0, q1, q2, q3, q4, q5, q6, q7, q8, qf⟩ := (bp7.belowAll hSw).cells; clear hSw; go_simp)⟩) (HS0.out) ?_
              simp only [Act.put, List.setIfInBounds_toArray]
              dsimp only [List.set_cons_zero, List.set_cons_succ]
              refine wpZ_take (i := 9) (v := .pointer (some ⟨(w.heap.size + 1), 0, none⟩)) 52 rfl rfl (by kernel_rfl) (by kernel_rfl) (by kernel_rfl) (Or.inr (by decide)) (fun _ _ _ h => h) (Or.inl ⟨by rfl, fun w hSw => by go_simp⟩) (HS0.out) ?_
              simp only [Act.put, List.setIfInBounds_toArray]
              dsimp only [List.set_cons_zero, List.set_cons_succ]
              refine wpZ_take (i := 10) (v := .agg #[.int .u64 ((limb 0 (u) : Nat) : Int), .int .u64 ((limb 1 (u) : Nat) : Int), .int .u64 ((limb 2 (u) : Nat) : Int), .int .u64 ((limb 3 (u) : Nat) : Int)]) 53 rfl rfl (by kernel_rfl) (by kernel_rfl) (by kernel_rfl) (Or.inr (by decide)) (fun _ _ _ h => h) (Or.inl ⟨by rfl, fun w hSw => by (obtain ⟨q0, q1, q2, q3, q4, q5, q6, q7, q8, qf⟩ := (bq7.belowAll hSw).cells; clear hSw; go_simp)⟩) (HS0.out) ?_
              simp only [Act.put, List.setIfInBounds_toArray]
              dsimp only [List.set_cons_zero, List.set_cons_succ]
              refine wpZ_two (i := 5) (j := 12) (by kernel_rfl) rfl rfl (fun K hK => ?_) (fun K hK => ?_) 
              · go_simp
                refine (HM1.out w7.drew (HG7'.out.below (HS0.out)).1).mono ?_
                rintro e wK1 ⟨rfl, hbK1⟩
                have hSK1 : Below w7.heap.size w7 wK1 := bStep (HS0.out) hbK1
                go_wp2_with fail
                refine hK.out _ _ (fun _ => hSK1) ?_
                clear hK K
                refine wpZ_two (i := 8) (j := 12) (by kernel_rfl) rfl rfl (fun K hK => ?_) (fun K hK => ?_) 
                · go_simp
                  refine (HS1.out wK1 (HG7'.out.below (hSK1)).1).mono ?_
                  rintro e wK2 ⟨rfl, hbK2⟩
                  have hSK2 : Below w7.heap.size w7 wK2 := bStep (hSK1) hbK2
                  go_wp2_with fail
                  refine hK.out _ _ (fun _ => hSK2) ?_
                  clear hK K
                  refine wpZ_two (i := 11) (j := 12) (by kernel_rfl) rfl rfl (fun K hK => ?_) (fun K hK => ?_) 
                  · go_simp
                    refine (HS2'.out wK2 (HG7'.out.below (hSK2)).1).mono ?_
                    rintro e wK3 ⟨rfl, hbK3⟩
                    have hSK3 : Below w7.heap.size w7 wK3 := bStep (hSK2) hbK3
                    go_wp2_with fail
                    refine hK.out _ _ (fun _ => hSK3) ?_
                    clear hK K
                    refine wpZ_one (i := 12) (by kernel_rfl) rfl (fun K hK => ?_)
                    go_simp
                    obtain ⟨N8_4, wK4, hN, hw, hSK4, b8_4, lN8_4, hx⟩ := pkA hSK3
                    rw [hw, hN]
                    refine hK.out _ _ (fun _ => hSK4) ?_
                    clear hK K hw hN hx
                    refine wpZ_one (i := 13) (by kernel_rfl) rfl (fun K hK => ?_)
                    have cS := b8_4.cell; have fS := b8_4.frozen
                    go_simp
                    obtain ⟨wK5, hw, hSK5, b8_5, hx⟩ := pkS b8_4 (hSK4) lN8_4 X
                    rw [hw]
                    refine hK.out _ _ (fun _ => hSK5) ?_
                    clear hK K cS fS hw hx
                    refine wpZ_done (by kernel_rfl) ?_ _
                    go_wp2_with fail
                    go_meet
                    exact ⟨_, rfl, lN8_4, b8_5, hSK5⟩
                  · go_simp
                    obtain ⟨N8_3, wK3, hN, hw, hSK3, b8_3, lN8_3, hx⟩ := pkA hSK2
                    rw [hw, hN]
                    refine hK.out _ _ (fun _ => hSK3) ?_
                    clear hK K hw hN hx
                    refine wpZ_one (i := 11) (by kernel_rfl) rfl (fun K hK => ?_)
                    go_simp
                    refine (HS2'.out wK3 (HG7'.out.below (hSK3)).1).mono ?_
                    rintro e wK4 ⟨rfl, hbK4⟩
                    have hSK4 : Below w7.heap.size w7 wK4 := bStep (hSK3) hbK4
                    go_wp2_with fail
                    refine hK.out _ _ (fun _ => hSK4) ?_
                    clear hK K
                    have b8_4 := b8_3.belowAll hbK4
                    refine wpZ_one (i := 13) (by kernel_rfl) rfl (fun K hK => ?_)
                    have cS := b8_4.cell; have fS := b8_4.frozen
                    go_simp
                    obtain ⟨wK5, hw, hSK5, b8_5, hx⟩ := pkS b8_4 (hSK4) lN8_3 X
                    rw [hw]
                    refine hK.out _ _ (fun _ => hSK5) ?_
                    clear hK K cS fS hw hx
                    refine wpZ_done (by kernel_rfl) ?_ _
                    go_wp2_with fail
                    go_meet
                    exact ⟨_, rfl, lN8_3, b8_5, hSK5⟩
                · go_simp
                  obtain ⟨N8_2, wK2, hN, hw, hSK2, b8_2, lN8_2, hx⟩ := pkA hSK1
                  rw [hw, hN]
                  refine hK.out _ _ (fun _ => hSK2) ?_
                  clear hK K hw hN hx
                  refine wpZ_one (i := 8) (by kernel_rfl) rfl (fun K hK => ?_)
                  go_simp
                  refine (HS1.out wK2 (HG7'.out.below (hSK2)).1).mono ?_
                  rintro e wK3 ⟨rfl, hbK3⟩
                  have hSK3 : Below w7.heap.size w7 wK3 := bStep (hSK2) hbK3
                  go_wp2_with fail
                  refine hK.out _ _ (fun _ => hSK3) ?_
                  clear hK K
                  have b8_3 := b8_2.belowAll hbK3
                  refine wpZ_one (i := 11) (by kernel_rfl) rfl (fun K hK => ?_)
                  go_simp
                  refine (HS2'.out wK3 (HG7'.out.below (hSK3)).1).mono ?_
                  rintro e wK4 ⟨rfl, hbK4⟩
                  have hSK4 : Below w7.heap.size w7 wK4 := bStep (hSK3) hbK4
                  go_wp2_with fail
                  refine hK.out _ _ (fun _ => hSK4) ?_
                  clear hK K
                  have b8_4 := b8_3.belowAll hbK4
                  refine wpZ_one (i := 13) (by kernel_rfl) rfl (fun K hK => ?_)
                  have cS := b8_4.cell; have fS := b8_4.frozen
                  go_simp
                  obtain ⟨wK5, hw, hSK5, b8_5, hx⟩ := pkS b8_4 (hSK4) lN8_2 X
                  rw [hw]
                  refine hK.out _ _ (fun _ => hSK5) ?_
                  clear hK K cS fS hw hx
                  refine wpZ_done (by kernel_rfl) ?_ _
                  go_wp2_with fail
                  go_meet
                  exact ⟨_, rfl, lN8_2, b8_5, hSK5⟩
              · go_simp
                obtain ⟨N8_1, wK1, hN, hw, hSK1, b8_1, lN8_1, hx⟩ := pkD w7
                rw [hw, hN]
                refine hK.out _ _ (fun _ => hSK1) ?_
                clear hK K hw hN hx
                refine wpZ_one (i := 5) (by kernel_rfl) rfl (fun K hK => ?_)
                go_simp
                refine (HM1.out wK1 (HG7'.out.below (hSK1)).1).mono ?_
                rintro e wK2 ⟨rfl, hbK2⟩
                have hSK2 : Below w7.heap.size w7 wK2 := bStep (hSK1) hbK2
                go_wp2_with fail
                refine hK.out _ _ (fun _ => hSK2) ?_
                clear hK K
                have b8_2 := b8_1.belowAll hbK2
                refine wpZ_one (i := 8) (by kernel_rfl) rfl (fun K hK => ?_)
                go_simp
                refine (HS1.out wK2 (HG7'.out.below (hSK2)).1).mono ?_
                rintro e wK3 ⟨rfl, hbK3⟩
                have hSK3 : Below w7.heap.size w7 wK3 := bStep (hSK2) hbK3
                go_wp2_with fail
                refine hK.out _ _ (fun _ => hSK3) ?_
                clear hK K
                have b8_3 := b8_2.belowAll hbK3
                refine wpZ_one (i := 11) (by kernel_rfl) rfl (fun K hK => ?_)
                go_simp
                refine (HS2'.out wK3 (HG7'.out.below (hSK3)).1).mono ?_
                rintro e wK4 ⟨rfl, hbK4⟩
                have hSK4 : Below w7.heap.size w7 wK4 := bStep (hSK3) hbK4
                go_wp2_with fail
                refine hK.out _ _ (fun _ => hSK4) ?_
                clear hK K
                have b8_4 := b8_3.belowAll hbK4
                refine wpZ_one (i := 13) (by kernel_rfl) rfl (fun K hK => ?_)
                have cS := b8_4.cell; have fS := b8_4.frozen
                go_simp
                obtain ⟨wK5, hw, hSK5, b8_5, hx⟩ := pkS b8_4 (hSK4) lN8_1 X
                rw [hw]
                refine hK.out _ _ (fun _ => hSK5) ?_
                clear hK K cS fS hw hx
                refine wpZ_done (by kernel_rfl) ?_ _
                go_wp2_with fail
                go_meet
                exact ⟨_, rfl, lN8_1, b8_5, hSK5⟩
            obtain ⟨N8, rfl, lN8, bN8, hbx⟩ := hcut
            obtain ⟨w8, hwn⟩ : ∃ x, x = wc := ⟨_, rfl⟩
            rw [← hwn] at hbx bN8 ⊢
            clear hwn
            have b7' := b7.belowAll hbx
            clear b7
            have b7 := b7'
            clear b7'
            have bp8 := bp7.belowAll hbx; have bq8 := bq7.belowAll hbx; have br8 := br7.belowAll hbx
            have hbw8 := bStep hbw7 hbx
            have HG8' : Hid (GlobC w8) := HG7'.out.below hbx
            clear bp7 bq7 br7 hbw7 HG7' hbx
            clear HM1 HS1 HS2'
            go_upto_region 11 with fail
            go_cut [9] (fun p wx => ∃ N : Nat, p = .pointer (some ⟨N, 0, none⟩) ∧ w8.heap.size ≤ N ∧ Blk wx 24 N (fun i => limb i Y) ∧ Below w8.heap.size w8 wx)
            case first =>
              have HS0 : Hid (Below w8.heap.size w8 w8.drew) := (Below.refl _ _).drew
              refine wp_region_Z (fun w' => Kp w8 w') 99 (by kernel_rfl) ?_
              refine wpZ_take (i := 0) (v := .int .i64 (c : Int)) 55 rfl rfl (by kernel_rfl) (by kernel_rfl) (by kernel_rfl) (Or.inr (by decide)) (fun _ _ _ h => h) (Or.inl ⟨by rfl, fun w hSw => by go_simp⟩) (HS0.out) ?_
              simp only [Act.put, List.setIfInBounds_toArray]
              dsimp only [List.set_cons_zero, List.set_cons_succ]
              refine wpZ_take (i := 1) (v := .int .i64 (c : Int)) 56 rfl rfl (by kernel_rfl) (by kernel_rfl) (by kernel_rfl) (Or.inr (by decide)) (fun _ _ _ h => h) (Or.inl ⟨by rfl, fun w hSw => by go_simp⟩) (HS0.out) ?_
              simp only [Act.put, List.setIfInBounds_toArray]
              dsimp only [List.set_cons_zero, List.set_cons_succ]
              refine wpZ_take (i := 2) (v := .agg #[.int .u64 ((limb 0 (s) : Nat) : Int), .int .u64 ((limb 1 (s) : Nat) : Int), .int .u64 ((limb 2 (s) : Nat) : Int), .int .u64 ((limb 3 (s) : Nat) : Int)]) 57 rfl rfl (by kernel_rfl) (by kernel_rfl) (by kernel_rfl) (Or.inr (by decide)) (fun _ _ _ h => h) (Or.inl ⟨by rfl, fun w hSw => by (have qq := (b7.belowAll hSw).cell; clear hSw; go_simp)⟩) (HS0.out) ?_
              simp only [Act.put, List.setIfInBounds_toArray]
              dsimp only [List.set_cons_zero, List.set_cons_succ]
              refine wpZ_take (i := 3) (v := .int .i64 (c : Int)) 58 rfl rfl (by kernel_rfl) (by kernel_rfl) (by kernel_rfl) (Or.inr (by decide)) (fun _ _ _ h => h) (Or.inl ⟨by rfl, fun w hSw => by go_simp⟩) (HS0.out) ?_
              simp only [Act.put, List.setIfInBounds_toArray]
              dsimp only [List.set_cons_zero, List.set_cons_succ]
              refine wpZ_take (i := 4) (v := .pointer (some ⟨w.heap.size, 0, none⟩)) 59 rfl rfl (by kernel_rfl) (by kernel_rfl) (by kernel_rfl) (Or.inr (by decide)) (fun _ _ _ h => h) (Or.inl ⟨by rfl, fun w hSw => by go_simp⟩) (HS0.out) ?_
              simp only [Act.put, List.setIfInBounds_toArray]
              dsimp only [List.set_cons_zero, List.set_cons_succ]
              refine wpZ_take (i := 5) (v := .agg #[.int .u64 ((limb 0 (x) : Nat) : Int), .int .u64 ((limb 1 (x) : Nat) : Int), .int .u64 ((limb 2 (x) : Nat) : Int), .int .u64 ((limb 3 (x) : Nat) : Int)]) 60 rfl rfl (by kernel_rfl) (by kernel_rfl) (by kernel_rfl) (Or.inr (by decide)) (fun _ _ _ h => h) (Or.inl ⟨by rfl, fun w hSw => by (obtain ⟨q0, q1, q2, q3, q4, q5, q6, q7, q8, qf⟩ := (bp8.belowAll hSw).cells; clear hSw; go_simp)⟩) (HS0.out) ?_
              simp only [Act.put, List.setIfInBounds_toArray]
              dsimp only [List.set_cons_zero, List.set_cons_succ]
              refine wpZ_take (i := 6) (v := .agg #[.int .u64 ((limb 0 (X) : Nat) : Int), .int .u64 ((limb 1 (X) : Nat) : Int), .int .u64 ((limb 2 (X) : Nat) : Int), .int .u64 ((limb 3 (X) : Nat) : Int)]) 61 rfl rfl (by kernel_rfl) (by kernel_rfl) (by kernel_rfl) (Or.inr (by decide)) (fun _ _ _ h => h) (Or.inl ⟨by rfl, fun w hSw => by (have qq := (bN8.belowAll hSw).cell; clear hSw; go_simp)⟩) (HS0.out) ?_
              simp only [Act.put, List.setIfInBounds_toArray]
              dsimp only [List.set_cons_zero, List.set_cons_succ]
              refine wpZ_take (i := 9) (v := .pointer (some ⟨w.heap.size, 4, none⟩)) 64 rfl rfl (by kernel_rfl) (by kernel_rfl) (by kernel_rfl) (Or.inr (by decide)) (fun _ _ _ h => h) (Or.inl ⟨by rfl, fun w hSw => by go_simp⟩) (HS0.out) ?_
              simp only [Act.put, List.setIfInBounds_toArray]
              dsimp only [List.set_cons_zero, List.set_cons_succ]
              refine wpZ_take (i := 10) (v := .agg #[.int .u64 ((limb 0 (y) : Nat) : Int), .int .u64 ((limb 1 (y) : Nat) : Int), .int .u64 ((limb 2 (y) : Nat) : Int), .int .u64 ((limb 3 (y) : Nat) : Int)]) 65 rfl rfl (by kernel_rfl) (by kernel_rfl) (by kernel_rfl) (Or.inr (by decide)) (fun _ _ _ h => h) (Or.inl ⟨by rfl, fun w hSw => by (obtain ⟨q0, q1, q2, q3, q4, q5, q6, q7, q8, qf⟩ := (bp8.belowAll hSw).cells; clear hSw; go_simp)⟩) (HS0.out) ?_
              simp only [Act.put, List.setIfInBounds_toArray]
              dsimp only [List.set_cons_zero, List.set_cons_succ]
              refine wpZ_two (i := 7) (j := 12) (by kernel_rfl) rfl rfl (fun K hK => ?_) (fun K hK => ?_) 
              · go_simp
                refine (HS3.out w8.drew (HG8'.out.below (HS0.out)).1).mono ?_
                rintro e wK1 ⟨rfl, hbK1⟩
                have hSK1 : Below w8.heap.size w8 wK1 := bStep (HS0.out) hbK1
                go_wp2_with fail
                refine hK.out _ _ (fun _ => hSK1) ?_
                clear hK K
                refine wpZ_two (i := 8) (j := 12) (by kernel_rfl) rfl rfl (fun K hK => ?_) (fun K hK => ?_) 
                · go_simp
                  refine (HM2.out wK1 (HG8'.out.below (hSK1)).1).mono ?_
                  rintro e wK2 ⟨rfl, hbK2⟩
                  have hSK2 : Below w8.heap.size w8 wK2 := bStep (hSK1) hbK2
                  go_wp2_with fail
                  refine hK.out _ _ (fun _ => hSK2) ?_
                  clear hK K
                  refine wpZ_two (i := 11) (j := 12) (by kernel_rfl) rfl rfl (fun K hK => ?_) (fun K hK => ?_) 
                  · go_simp
                    refine (HS4'.out wK2 (HG8'.out.below (hSK2)).1).mono ?_
                    rintro e wK3 ⟨rfl, hbK3⟩
                    have hSK3 : Below w8.heap.size w8 wK3 := bStep (hSK2) hbK3
                    go_wp2_with fail
                    refine hK.out _ _ (fun _ => hSK3) ?_
                    clear hK K
                    refine wpZ_one (i := 12) (by kernel_rfl) rfl (fun K hK => ?_)
                    go_simp
                    obtain ⟨N9_4, wK4, hN, hw, hSK4, b9_4, lN9_4, hx⟩ := pkA hSK3
                    rw [hw, hN]
                    refine hK.out _ _ (fun _ => hSK4) ?_
                    clear hK K hw hN hx
                    refine wpZ_one (i := 13) (by kernel_rfl) rfl (fun K hK => ?_)
                    have cS := b9_4.cell; have fS := b9_4.frozen
                    go_simp
                    obtain ⟨wK5, hw, hSK5, b9_5, hx⟩ := pkS b9_4 (hSK4) lN9_4 Y
                    rw [hw]
                    refine hK.out _ _ (fun _ => hSK5) ?_
                    clear hK K cS fS hw hx
                    refine wpZ_done (by kernel_rfl) ?_ _
                    go_wp2_with fail
                    go_meet
                    exact ⟨_, rfl, lN9_4, b9_5, hSK5⟩
                  · go_simp
                    obtain ⟨N9_3, wK3, hN, hw, hSK3, b9_3, lN9_3, hx⟩ := pkA hSK2
                    rw [hw, hN]
                    refine hK.out _ _ (fun _ => hSK3) ?_
                    clear hK K hw hN hx
                    refine wpZ_one (i := 11) (by kernel_rfl) rfl (fun K hK => ?_)
                    go_simp
                    refine (HS4'.out wK3 (HG8'.out.below (hSK3)).1).mono ?_
                    rintro e wK4 ⟨rfl, hbK4⟩
                    have hSK4 : Below w8.heap.size w8 wK4 := bStep (hSK3) hbK4
                    go_wp2_with fail
                    refine hK.out _ _ (fun _ => hSK4) ?_
                    clear hK K
                    have b9_4 := b9_3.belowAll hbK4
                    refine wpZ_one (i := 13) (by kernel_rfl) rfl (fun K hK => ?_)
                    have cS := b9_4.cell; have fS := b9_4.frozen
                    go_simp
                    obtain ⟨wK5, hw, hSK5, b9_5, hx⟩ := pkS b9_4 (hSK4) lN9_3 Y
                    rw [hw]
                    refine hK.out _ _ (fun _ => hSK5) ?_
                    clear hK K cS fS hw hx
                    refine wpZ_done (by kernel_rfl) ?_ _
                    go_wp2_with fail
                    go_meet
                    exact ⟨_, rfl, lN9_3, b9_5, hSK5⟩
                · go_simp
                  obtain ⟨N9_2, wK2, hN, hw, hSK2, b9_2, lN9_2, hx⟩ := pkA hSK1
                  rw [hw, hN]
                  refine hK.out _ _ (fun _ => hSK2) ?_
                  clear hK K hw hN hx
                  refine wpZ_one (i := 8) (by kernel_rfl) rfl (fun K hK => ?_)
                  go_simp
                  refine (HM2.out wK2 (HG8'.out.below (hSK2)).1).mono ?_
                  rintro e wK3 ⟨rfl, hbK3⟩
                  have hSK3 : Below w8.heap.size w8 wK3 := bStep (hSK2) hbK3
                  go_wp2_with fail
                  refine hK.out _ _ (fun _ => hSK3) ?_
                  clear hK K
                  have b9_3 := b9_2.belowAll hbK3
                  refine wpZ_one (i := 11) (by kernel_rfl) rfl (fun K hK => ?_)
                  go_simp
                  refine (HS4'.out wK3 (HG8'.out.below (hSK3)).1).mono ?_
                  rintro e wK4 ⟨rfl, hbK4⟩
                  have hSK4 : Below w8.heap.size w8 wK4 := bStep (hSK3) hbK4
                  go_wp2_with fail
                  refine hK.out _ _ (fun _ => hSK4) ?_
                  clear hK K
                  have b9_4 := b9_3.belowAll hbK4
                  refine wpZ_one (i := 13) (by kernel_rfl) rfl (fun K hK => ?_)
                  have cS := b9_4.cell; have fS := b9_4.frozen
                  go_simp
                  obtain ⟨wK5, hw, hSK5, b9_5, hx⟩ := pkS b9_4 (hSK4) lN9_2 Y
                  rw [hw]
                  refine hK.out _ _ (fun _ => hSK5) ?_
                  clear hK K cS fS hw hx
                  refine wpZ_done (by kernel_rfl) ?_ _
                  go_wp2_with fail
                  go_meet
                  exact ⟨_, rfl, lN9_2, b9_5, hSK5⟩
              · go_simp
                obtain ⟨N9_1, wK1, hN, hw, hSK1, b9_1, lN9_1, hx⟩ := pkD w8
                rw [hw, hN]
                refine hK.out _ _ (fun _ => hSK1) ?_
                clear hK K hw hN hx
                refine wpZ_one (i := 7) (by kernel_rfl) rfl (fun K hK => ?_)
                go_simp
                refine (HS3.out wK1 (HG8'.out.below (hSK1)).1).mono ?_
                rintro e wK2 ⟨rfl, hbK2⟩
                have hSK2 : Below w8.heap.size w8 wK2 := bStep (hSK1) hbK2
                go_wp2_with fail
                refine hK.out _ _ (fun _ => hSK2) ?_
                clear hK K
                have b9_2 := b9_1.belowAll hbK2
                refine wpZ_one (i := 8) (by kernel_rfl) rfl (fun K hK => ?_)
                go_simp
                refine (HM2.out wK2 (HG8'.out.below (hSK2)).1).mono ?_
                rintro e wK3 ⟨rfl, hbK3⟩
                have hSK3 : Below w8.heap.size w8 wK3 := bStep (hSK2) hbK3
                go_wp2_with fail
                refine hK.out _ _ (fun _ => hSK3) ?_
                clear hK K
                have b9_3 := b9_2.belowAll hbK3
                refine wpZ_one (i := 11) (by kernel_rfl) rfl (fun K hK => ?_)
                go_simp
                refine (HS4'.out wK3 (HG8'.out.below (hSK3)).1).mono ?_
                rintro e wK4 ⟨rfl, hbK4⟩
                have hSK4 : Below w8.heap.size w8 wK4 := bStep (hSK3) hbK4
                go_wp2_with fail
                refine hK.out _ _ (fun _ => hSK4) ?_
                clear hK K
                have b9_4 := b9_3.belowAll hbK4
                refine wpZ_one (i := 13) (by kernel_rfl) rfl (fun K hK => ?_)
                have cS := b9_4.cell; have fS := b9_4.frozen
                go_simp
                obtain ⟨wK5, hw, hSK5, b9_5, hx⟩ := pkS b9_4 (hSK4) lN9_1 Y
                rw [hw]
                refine hK.out _ _ (fun _ => hSK5) ?_
                clear hK K cS fS hw hx
                refine wpZ_done (by kernel_rfl) ?_ _
                go_wp2_with fail
                go_meet
                exact ⟨_, rfl, lN9_1, b9_5, hSK5⟩
            obtain ⟨N9, rfl, lN9, bN9, hbx⟩ := hcut
            obtain ⟨w9, hwn⟩ : ∃ x, x = wc := ⟨_, rfl⟩
            rw [← hwn] at hbx bN9 ⊢
            clear hwn
            have bN8' := bN8.belowAll hbx
            clear bN8
            have bp9 := bp8.belowAll hbx; have bq9 := bq8.belowAll hbx; have br9 := br8.belowAll hbx
            have hbw9 := bStep hbw8 hbx
            have HG9' : Hid (GlobC w9) := HG8'.out.below hbx
            clear bp8 bq8 br8 hbw8 HG8' hbx
            have c8 := bN8'.cell; have c9 := bN9.cell
            obtain ⟨r0, r1, r2, r3, r4, r5, r6, r7, r8, rf⟩ := br9.cells
            go_wp2
            refine bodyPost_ret (v := .agg #[.int .u64 ((limb 0 (X) : Nat) : Int), .int .u64 ((limb 1 (X) : Nat) : Int), .int .u64 ((limb 2 (X) : Nat) : Int), .int .u64 ((limb 3 (X) : Nat) : Int), .int .u64 ((limb 0 (Y) : Nat) : Int), .int .u64 ((limb 1 (Y) : Nat) : Int), .int .u64 ((limb 2 (Y) : Nat) : Int), .int .u64 ((limb 3 (Y) : Nat) : Int), .bool false]) (by simp [results, Tryz.results14, go_sem, r0, r1, r2, r3, r4, r5, r6, r7, r8]) rfl ⟨by rw [HVV.out], ?_⟩
            exact bSet9 hbw9 hrw _ _ _ _ _ _ _ _ _
    · rw [decide_eq_false ho2] at HO2
      have HV := HA1.out (Or.inr ho2)
      have HVV := (show Hid _ from HV)
      clear HV ho1 ho2 HA1 HA2 HA3 HA4 HA5 Q1 Q2 Q3
      go_wp2_with fail
      refine (HO2.out _ HG1'.out).mono ?_
      rintro e w2 ⟨rfl, hb2⟩
      clear q0 q1 q2 q3 q4 q5 q6 q7 q8 qf p0 p1 p2 p3 p4 p5 p6 p7 p8 pf
      have bp2 := bp1.belowAll hb2; have bq2 := bq1.belowAll hb2; have br2 := br1.belowAll hb2
      have hbw2 := bStep hbw1 hb2
      have HG2' : Hid (GlobC w2) := HG1'.out.below hb2
      clear bp1 bq1 br1 hbw1 HG1' hb2
      obtain ⟨q0, q1, q2, q3, q4, q5, q6, q7, q8, qf⟩ := bp2.cells
      obtain ⟨p0, p1, p2, p3, p4, p5, p6, p7, p8, pf⟩ := bq2.cells
      go_wp2_with fail
      refine (HIN.out _).mono ?_
      rintro e wz ⟨rfl, hbz⟩
      clear q0 q1 q2 q3 q4 q5 q6 q7 q8 qf p0 p1 p2 p3 p4 p5 p6 p7 p8 pf
      obtain ⟨r0, r1, r2, r3, r4, r5, r6, r7, r8, rf⟩ := (br2.belowAll hbz).cells
      have hbe := bStep hbw2 hbz
      go_wp2
      refine bodyPost_ret (v := .agg #[.int .u64 ((limb 0 (0) : Nat) : Int), .int .u64 ((limb 1 (0) : Nat) : Int), .int .u64 ((limb 2 (0) : Nat) : Int), .int .u64 ((limb 3 (0) : Nat) : Int), .int .u64 ((limb 0 (0) : Nat) : Int), .int .u64 ((limb 1 (0) : Nat) : Int), .int .u64 ((limb 2 (0) : Nat) : Int), .int .u64 ((limb 3 (0) : Nat) : Int), .bool true]) (by simp [results, Tryz.results14, go_sem, r0, r1, r2, r3, r4, r5, r6, r7, r8]) rfl ⟨by rw [HVV.out], ?_⟩
      exact bSet9 hbe hrw _ _ _ _ _ _ _ _ _
  · rw [decide_eq_false ho1] at HO1
    have HV := HA1.out (Or.inl ho1)
    have HVV := (show Hid _ from HV)
    clear HV ho1 HA1 HA2 HA3 HA4 HA5 Q1 Q2 Q3
    obtain ⟨q0, q1, q2, q3, q4, q5, q6, q7, q8, qf⟩ := bp0.cells
    obtain ⟨p0, p1, p2, p3, p4, p5, p6, p7, p8, pf⟩ := bq0.cells
    go_wp2_with fail
    refine (HO1.out _ HG0'.out).mono ?_
    rintro e w1 ⟨rfl, hb1⟩
    clear q0 q1 q2 q3 q4 q5 q6 q7 q8 qf p0 p1 p2 p3 p4 p5 p6 p7 p8 pf
    have bp1 := bp0.belowAll hb1; have bq1 := bq0.belowAll hb1; have br1 := br0.belowAll hb1
    have hbw1 := bStep hbw0 hb1
    have HG1' : Hid (GlobC w1) := HG0'.out.below hb1
    clear bp0 bq0 br0 hbw0 HG0' hb1
    obtain ⟨q0, q1, q2, q3, q4, q5, q6, q7, q8, qf⟩ := bp1.cells
    obtain ⟨p0, p1, p2, p3, p4, p5, p6, p7, p8, pf⟩ := bq1.cells
    go_wp2_with fail
    refine (HIN.out _).mono ?_
    rintro e wz ⟨rfl, hbz⟩
    clear q0 q1 q2 q3 q4 q5 q6 q7 q8 qf p0 p1 p2 p3 p4 p5 p6 p7 p8 pf
    obtain ⟨r0, r1, r2, r3, r4, r5, r6, r7, r8, rf⟩ := (br1.belowAll hbz).cells
    have hbe := bStep hbw1 hbz
    go_wp2
    refine bodyPost_ret (v := .agg #[.int .u64 ((limb 0 (0) : Nat) : Int), .int .u64 ((limb 1 (0) : Nat) : Int), .int .u64 ((limb 2 (0) : Nat) : Int), .int .u64 ((limb 3 (0) : Nat) : Int), .int .u64 ((limb 0 (0) : Nat) : Int), .int .u64 ((limb 1 (0) : Nat) : Int), .int .u64 ((limb 2 (0) : Nat) : Int), .int .u64 ((limb 3 (0) : Nat) : Int), .bool true]) (by simp [results, Tryz.results14, go_sem, r0, r1, r2, r3, r4, r5, r6, r7, r8]) rfl ⟨by rw [HVV.out], ?_⟩
    exact bSet9 hbe hrw _ _ _ _ _ _ _ _ _
end Go.Proofs.YtjpjnmhjbmmaiaaGreatDoor
