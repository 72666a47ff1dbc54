/- jacobian: Of, Twice, Plus and Plain of any points. -/
import Derived.Test.YtdeijnlbencfdaaGreatDoorVM6
import Derived.Test.YtdeijnlbencfdaaGreatDoorVMA
namespace Go.Proofs.YtdeijnlbencfdaaGreatDoor
open Go.RowKit
theorem zeroJ : (.agg #[.int .u64 (limb 0 (0)), .int .u64 (limb 1 (0)), .int .u64 (limb 2 (0)), .int .u64 (limb 3 (0)), .int .u64 (limb 0 (0)), .int .u64 (limb 1 (0)), .int .u64 (limb 2 (0)), .int .u64 (limb 3 (0)), .int .u64 (limb 0 (0)), .int .u64 (limb 1 (0)), .int .u64 (limb 2 (0)), .int .u64 (limb 3 (0))] : Value) = .agg #[.int .u64 0, .int .u64 0, .int .u64 0, .int .u64 0, .int .u64 0, .int .u64 0, .int .u64 0, .int .u64 0, .int .u64 0, .int .u64 0, .int .u64 0, .int .u64 0] := by rw [limb_zero, limb_zero, limb_zero, limb_zero]; rfl
set_option maxHeartbeats 1000000 in
set_option maxRecDepth 20000 in
theorem jof_inf (x y : Nat) (w : World) : Calls Tryz.prog 69 #[.agg #[.int .u64 (limb 0 (x)), .int .u64 (limb 1 (x)), .int .u64 (limb 2 (x)), .int .u64 (limb 3 (x)), .int .u64 (limb 0 (y)), .int .u64 (limb 1 (y)), .int .u64 (limb 2 (y)), .int .u64 (limb 3 (y)), .bool true]] w fun e w' => e = .returned (.agg #[.int .u64 (limb 0 (0)), .int .u64 (limb 1 (0)), .int .u64 (limb 2 (0)), .int .u64 (limb 3 (0)), .int .u64 (limb 0 (0)), .int .u64 (limb 1 (0)), .int .u64 (limb 2 (0)), .int .u64 (limb 3 (0)), .int .u64 (limb 0 (0)), .int .u64 (limb 1 (0)), .int .u64 (limb 2 (0)), .int .u64 (limb 3 (0))]) ∧ Below w.heap.size w w' := by
 rw [zeroJ]
 go_enter Tryz.func69, Tryz.ntmps69
 go_upto_region 1 with fail
 obtain ⟨w0, hw0⟩ : ∃ w0 : World, w0 = (w.alloc (.cells #[.int .u64 (limb 0 x), .int .u64 (limb 1 x), .int .u64 (limb 2 x), .int .u64 (limb 3 x), .int .u64 (limb 0 y), .int .u64 (limb 1 y), .int .u64 (limb 2 y), .int .u64 (limb 3 y), .bool true] 27)).alloc (.cells #[.int .u64 0, .int .u64 0, .int .u64 0, .int .u64 0, .int .u64 0, .int .u64 0, .int .u64 0, .int .u64 0, .int .u64 0, .int .u64 0, .int .u64 0, .int .u64 0] 99) := ⟨_, rfl⟩
 have bp : Pt w0 w.heap.size x y true := by rw [hw0]; exact (Pt.newAt _ _ _ _ _ rfl).alloc _
 have br : Jt w0 (w.heap.size + 1) 0 0 0 := by rw [hw0]; exact Jt.zeroAt _ _ (by simp)
 have hbw0 : Below w.heap.size w w0 := by rw [hw0]; exact bAlloc ((Below.refl _ _).alloc (Nat.le_refl _) _) _
 have hrw : w.heap.size ≤ w.heap.size + 1 := Nat.le_succ _
 rw [← hw0]
 clear hw0
 have q8 := bp.cells.2.2.2.2.2.2.2.2.1
 obtain ⟨r0, r1, r2, r3, r4, r5, r6, r7, r8, r9, r10, r11, rf⟩ := br.cells
 go_wp2
 refine bodyPost_ret (v := .agg #[.int .u64 0, .int .u64 0, .int .u64 0, .int .u64 0, .int .u64 0, .int .u64 0, .int .u64 0, .int .u64 0, .int .u64 0, .int .u64 0, .int .u64 0, .int .u64 0]) (by simp [results, Tryz.results69, go_sem, r0, r1, r2, r3, r4, r5, r6, r7, r8, r9, r10, r11]) rfl ⟨rfl, ?_⟩
 exact bSet12 hbw0 hrw _ _ _ _ _ _ _ _ _ _ _ _ 
set_option maxHeartbeats 2000000 in
set_option maxRecDepth 20000 in
theorem plus_infq (X Y Z U V T : Nat) (hZ : Z < 115792089237316195423570985008687907853269984665640564039457584007913129639936) (z0 : ¬ Z = 0) (hT : T = 0) (c : Int) (w : World) : Calls Tryz.prog 72 #[.agg #[.int .u64 (limb 0 (X)), .int .u64 (limb 1 (X)), .int .u64 (limb 2 (X)), .int .u64 (limb 3 (X)), .int .u64 (limb 0 (Y)), .int .u64 (limb 1 (Y)), .int .u64 (limb 2 (Y)), .int .u64 (limb 3 (Y)), .int .u64 (limb 0 (Z)), .int .u64 (limb 1 (Z)), .int .u64 (limb 2 (Z)), .int .u64 (limb 3 (Z))], .int .i64 c, .agg #[.int .u64 (limb 0 (U)), .int .u64 (limb 1 (U)), .int .u64 (limb 2 (U)), .int .u64 (limb 3 (U)), .int .u64 (limb 0 (V)), .int .u64 (limb 1 (V)), .int .u64 (limb 2 (V)), .int .u64 (limb 3 (V)), .int .u64 (limb 0 (T)), .int .u64 (limb 1 (T)), .int .u64 (limb 2 (T)), .int .u64 (limb 3 (T))]] w fun e w' => e = .returned (.agg #[.int .u64 (limb 0 (X)), .int .u64 (limb 1 (X)), .int .u64 (limb 2 (X)), .int .u64 (limb 3 (X)), .int .u64 (limb 0 (Y)), .int .u64 (limb 1 (Y)), .int .u64 (limb 2 (Y)), .int .u64 (limb 3 (Y)), .int .u64 (limb 0 (Z)), .int .u64 (limb 1 (Z)), .int .u64 (limb 2 (Z)), .int .u64 (limb 3 (Z))]) ∧ Below w.heap.size w w' := by
 have HI : Hid (∀ w, _) := fun w => isInf_any X Y Z hZ w
 rw [decide_eq_false z0] at HI
 have HI2 : Hid (∀ w, _) := fun w => isInf_any U V T (by rw [hT]; decide) w
 rw [decide_eq_true hT] at HI2
 clear hZ z0 hT
 go_enter Tryz.func72, Tryz.ntmps72
 go_upto_region 1 with fail
 obtain ⟨w0, hw0⟩ : ∃ w0 : World, w0 = ((w.alloc (.cells #[.int .u64 (limb 0 X), .int .u64 (limb 1 X), .int .u64 (limb 2 X), .int .u64 (limb 3 X), .int .u64 (limb 0 Y), .int .u64 (limb 1 Y), .int .u64 (limb 2 Y), .int .u64 (limb 3 Y), .int .u64 (limb 0 Z), .int .u64 (limb 1 Z), .int .u64 (limb 2 Z), .int .u64 (limb 3 Z)] 99)).alloc (.cells #[.int .u64 (limb 0 U), .int .u64 (limb 1 U), .int .u64 (limb 2 U), .int .u64 (limb 3 U), .int .u64 (limb 0 V), .int .u64 (limb 1 V), .int .u64 (limb 2 V), .int .u64 (limb 3 V), .int .u64 (limb 0 T), .int .u64 (limb 1 T), .int .u64 (limb 2 T), .int .u64 (limb 3 T)] 99)).alloc (.cells #[.int .u64 0, .int .u64 0, .int .u64 0, .int .u64 0, .int .u64 0, .int .u64 0, .int .u64 0, .int .u64 0, .int .u64 0, .int .u64 0, .int .u64 0, .int .u64 0] 99) := ⟨_, rfl⟩
 have bp : Jt w0 w.heap.size X Y Z := by rw [hw0]; exact ((Jt.newAt _ _ _ _ _ rfl).alloc _).alloc _
 have bq : Jt w0 (w.heap.size + 1) U V T := by rw [hw0]; exact (Jt.newAt _ _ _ _ _ (by simp)).alloc _
 have br : Jt w0 (w.heap.size + 1 + 1) 0 0 0 := by rw [hw0]; exact Jt.zeroAt _ _ (by simp)
 have hbw0 : Below w.heap.size w w0 := by rw [hw0]; exact bAlloc (bAlloc ((Below.refl _ _).alloc (Nat.le_refl _) _) _) _
 have hrw : w.heap.size ≤ w.heap.size + 1 + 1 := by omega
 rw [← hw0]
 clear hw0
 obtain ⟨q0, q1, q2, q3, q4, q5, q6, q7, q8, q9, q10, q11, qf⟩ := bp.cells
 go_wp2_with fail
 refine (HI.out _).mono ?_
 rintro e w1 ⟨rfl, hb1⟩
 clear q0 q1 q2 q3 q4 q5 q6 q7 q8 q9 q10 q11 qf
 have bp1 := bp.belowAll hb1; have bq1 := bq.belowAll hb1; have br1 := br.belowAll hb1
 have hbw1 := bStep hbw0 hb1
 clear bp bq br hbw0 hb1
 obtain ⟨q0, q1, q2, q3, q4, q5, q6, q7, q8, q9, q10, q11, qf⟩ := bq1.cells
 go_wp2_with fail
 refine (HI2.out _).mono ?_
 rintro e w2 ⟨rfl, hb2⟩
 clear q0 q1 q2 q3 q4 q5 q6 q7 q8 q9 q10 q11 qf
 obtain ⟨q0, q1, q2, q3, q4, q5, q6, q7, q8, q9, q10, q11, qf⟩ := (bp1.belowAll hb2).cells
 obtain ⟨r0, r1, r2, r3, r4, r5, r6, r7, r8, r9, r10, r11, rf⟩ := (br1.belowAll hb2).cells
 go_wp2
 refine bodyPost_ret (v := .agg #[.int .u64 (limb 0 (X)), .int .u64 (limb 1 (X)), .int .u64 (limb 2 (X)), .int .u64 (limb 3 (X)), .int .u64 (limb 0 (Y)), .int .u64 (limb 1 (Y)), .int .u64 (limb 2 (Y)), .int .u64 (limb 3 (Y)), .int .u64 (limb 0 (Z)), .int .u64 (limb 1 (Z)), .int .u64 (limb 2 (Z)), .int .u64 (limb 3 (Z))]) (by simp [results, Tryz.results72, go_sem, r0, r1, r2, r3, r4, r5, r6, r7, r8, r9, r10, r11]) rfl ⟨rfl, ?_⟩
 exact bSet12 (bStep hbw1 hb2) hrw _ _ _ _ _ _ _ _ _ _ _ _ 
set_option maxHeartbeats 1000000 in
set_option maxRecDepth 20000 in
theorem plain_inf (X Y Z : Nat) (hZ : Z = 0) (c : Int) (w : World) : Calls Tryz.prog 73 #[.agg #[.int .u64 (limb 0 (X)), .int .u64 (limb 1 (X)), .int .u64 (limb 2 (X)), .int .u64 (limb 3 (X)), .int .u64 (limb 0 (Y)), .int .u64 (limb 1 (Y)), .int .u64 (limb 2 (Y)), .int .u64 (limb 3 (Y)), .int .u64 (limb 0 (Z)), .int .u64 (limb 1 (Z)), .int .u64 (limb 2 (Z)), .int .u64 (limb 3 (Z))], .int .i64 c] w fun e w' => e = .returned (.agg #[.int .u64 (limb 0 (0)), .int .u64 (limb 1 (0)), .int .u64 (limb 2 (0)), .int .u64 (limb 3 (0)), .int .u64 (limb 0 (0)), .int .u64 (limb 1 (0)), .int .u64 (limb 2 (0)), .int .u64 (limb 3 (0)), .bool true]) ∧ Below w.heap.size w w' := by
 have HI : Hid (∀ w, _) := fun w => isInf_any X Y Z (by rw [hZ]; decide) w
 rw [decide_eq_true hZ] at HI
 rw [infAgg]
 clear hZ
 go_enter Tryz.func73, Tryz.ntmps73
 go_upto_region 1 with fail
 obtain ⟨w0, hw0⟩ : ∃ w0 : World, w0 = (w.alloc (.cells #[.int .u64 (limb 0 X), .int .u64 (limb 1 X), .int .u64 (limb 2 X), .int .u64 (limb 3 X), .int .u64 (limb 0 Y), .int .u64 (limb 1 Y), .int .u64 (limb 2 Y), .int .u64 (limb 3 Y), .int .u64 (limb 0 Z), .int .u64 (limb 1 Z), .int .u64 (limb 2 Z), .int .u64 (limb 3 Z)] 99)).alloc (.cells #[.int .u64 0, .int .u64 0, .int .u64 0, .int .u64 0, .int .u64 0, .int .u64 0, .int .u64 0, .int .u64 0, .bool false] 27) := ⟨_, rfl⟩
 have bp : Jt w0 w.heap.size X Y Z := by rw [hw0]; exact (Jt.newAt _ _ _ _ _ rfl).alloc _
 have br : Pt w0 (w.heap.size + 1) 0 0 false := by rw [hw0]; exact Pt.zeroAt _ _ (by simp)
 have hbw0 : Below w.heap.size w w0 := by rw [hw0]; exact bAlloc ((Below.refl _ _).alloc (Nat.le_refl _) _) _
 have hrw : w.heap.size ≤ w.heap.size + 1 := Nat.le_succ _
 rw [← hw0]
 clear hw0
 obtain ⟨q0, q1, q2, q3, q4, q5, q6, q7, q8, q9, q10, q11, qf⟩ := bp.cells
 go_wp2_with fail
 refine (HI.out _).mono ?_
 rintro e w1 ⟨rfl, hb1⟩
 clear q0 q1 q2 q3 q4 q5 q6 q7 q8 q9 q10 q11 qf
 obtain ⟨r0, r1, r2, r3, r4, r5, r6, r7, r8, rf⟩ := (br.belowAll hb1).cells
 go_wp2
 refine bodyPost_ret (v := .agg #[.int .u64 0, .int .u64 0, .int .u64 0, .int .u64 0, .int .u64 0, .int .u64 0, .int .u64 0, .int .u64 0, .bool true]) (by simp [results, Tryz.results73, go_sem, r0, r1, r2, r3, r4, r5, r6, r7, r8]) rfl ⟨rfl, ?_⟩
 exact bSet9 (bStep hbw0 hb1) hrw _ _ _ _ _ _ _ _ _
theorem twice_any (c X Y Z : Nat) (hc : c < 4) (hX : X < 115792089237316195423570985008687907853269984665640564039457584007913129639936) (hY : Y < 115792089237316195423570985008687907853269984665640564039457584007913129639936) (hZ : Z < 115792089237316195423570985008687907853269984665640564039457584007913129639936) (w : World) (hg : Glob w) :
  Calls Tryz.prog 70 #[.agg #[.int .u64 (limb 0 (X)), .int .u64 (limb 1 (X)), .int .u64 (limb 2 (X)), .int .u64 (limb 3 (X)), .int .u64 (limb 0 (Y)), .int .u64 (limb 1 (Y)), .int .u64 (limb 2 (Y)), .int .u64 (limb 3 (Y)), .int .u64 (limb 0 (Z)), .int .u64 (limb 1 (Z)), .int .u64 (limb 2 (Z)), .int .u64 (limb 3 (Z))], .int .i64 (c : Int)] w fun e w' => e = .returned (.agg #[.int .u64 (limb 0 ((tw c X Y Z).1)), .int .u64 (limb 1 ((tw c X Y Z).1)), .int .u64 (limb 2 ((tw c X Y Z).1)), .int .u64 (limb 3 ((tw c X Y Z).1)), .int .u64 (limb 0 ((tw c X Y Z).2.1)), .int .u64 (limb 1 ((tw c X Y Z).2.1)), .int .u64 (limb 2 ((tw c X Y Z).2.1)), .int .u64 (limb 3 ((tw c X Y Z).2.1)), .int .u64 (limb 0 ((tw c X Y Z).2.2)), .int .u64 (limb 1 ((tw c X Y Z).2.2)), .int .u64 (limb 2 ((tw c X Y Z).2.2)), .int .u64 (limb 3 ((tw c X Y Z).2.2))]) ∧ Below w.heap.size w w' := by
 by_cases h : Z = 0
 ·refine (twice_inf X Y Z h (c : Int) w).mono ?_
  rintro e w' ⟨rfl, hb⟩
  refine ⟨?_, hb⟩
  unfold tw
  rw [if_pos h]
 ·refine (twice_fin c X Y Z hc hX hY hZ h w hg).mono ?_
  rintro e w' ⟨rfl, hb⟩
  refine ⟨?_, hb⟩
  unfold tw
  rw [if_neg h]
theorem plus_any (c X Y Z U V T : Nat) (hc : c < 4) (hX : X < 115792089237316195423570985008687907853269984665640564039457584007913129639936) (hY : Y < 115792089237316195423570985008687907853269984665640564039457584007913129639936) (hZ : Z < 115792089237316195423570985008687907853269984665640564039457584007913129639936) (hU : U < 115792089237316195423570985008687907853269984665640564039457584007913129639936) (hV : V < 115792089237316195423570985008687907853269984665640564039457584007913129639936) (hT : T < 115792089237316195423570985008687907853269984665640564039457584007913129639936) (w : World) (hg : Glob w) :
  Calls Tryz.prog 72 #[.agg #[.int .u64 (limb 0 (X)), .int .u64 (limb 1 (X)), .int .u64 (limb 2 (X)), .int .u64 (limb 3 (X)), .int .u64 (limb 0 (Y)), .int .u64 (limb 1 (Y)), .int .u64 (limb 2 (Y)), .int .u64 (limb 3 (Y)), .int .u64 (limb 0 (Z)), .int .u64 (limb 1 (Z)), .int .u64 (limb 2 (Z)), .int .u64 (limb 3 (Z))], .int .i64 (c : Int), .agg #[.int .u64 (limb 0 (U)), .int .u64 (limb 1 (U)), .int .u64 (limb 2 (U)), .int .u64 (limb 3 (U)), .int .u64 (limb 0 (V)), .int .u64 (limb 1 (V)), .int .u64 (limb 2 (V)), .int .u64 (limb 3 (V)), .int .u64 (limb 0 (T)), .int .u64 (limb 1 (T)), .int .u64 (limb 2 (T)), .int .u64 (limb 3 (T))]] w fun e w' => e = .returned (.agg #[.int .u64 (limb 0 ((pl c X Y Z U V T).1)), .int .u64 (limb 1 ((pl c X Y Z U V T).1)), .int .u64 (limb 2 ((pl c X Y Z U V T).1)), .int .u64 (limb 3 ((pl c X Y Z U V T).1)), .int .u64 (limb 0 ((pl c X Y Z U V T).2.1)), .int .u64 (limb 1 ((pl c X Y Z U V T).2.1)), .int .u64 (limb 2 ((pl c X Y Z U V T).2.1)), .int .u64 (limb 3 ((pl c X Y Z U V T).2.1)), .int .u64 (limb 0 ((pl c X Y Z U V T).2.2)), .int .u64 (limb 1 ((pl c X Y Z U V T).2.2)), .int .u64 (limb 2 ((pl c X Y Z U V T).2.2)), .int .u64 (limb 3 ((pl c X Y Z U V T).2.2))]) ∧ Below w.heap.size w w' := by
 by_cases h : Z = 0
 ·refine (plus_inf X Y Z U V T h (c : Int) w).mono ?_
  rintro e w' ⟨rfl, hb⟩
  refine ⟨?_, hb⟩
  unfold pl
  rw [if_pos h]
 ·by_cases h2 : T = 0
  ·refine (plus_infq X Y Z U V T hZ h h2 (c : Int) w).mono ?_
   rintro e w' ⟨rfl, hb⟩
   refine ⟨?_, hb⟩
   unfold pl
   rw [if_neg h, if_pos h2]
  ·exact plus_fin c X Y Z U V T hc hX hY hZ hU hV hT h h2 w hg
theorem plain_any (c X Y Z x y : Nat) (i : Bool) (hc : c < 4) (hon : onC c x y i) (hJ : JR c X Y Z x y i) (w : World) (hg : GlobC w) :
  Calls Tryz.prog 73 #[.agg #[.int .u64 (limb 0 (X)), .int .u64 (limb 1 (X)), .int .u64 (limb 2 (X)), .int .u64 (limb 3 (X)), .int .u64 (limb 0 (Y)), .int .u64 (limb 1 (Y)), .int .u64 (limb 2 (Y)), .int .u64 (limb 3 (Y)), .int .u64 (limb 0 (Z)), .int .u64 (limb 1 (Z)), .int .u64 (limb 2 (Z)), .int .u64 (limb 3 (Z))], .int .i64 (c : Int)] w fun e w' => e = .returned (.agg #[.int .u64 (limb 0 (x)), .int .u64 (limb 1 (x)), .int .u64 (limb 2 (x)), .int .u64 (limb 3 (x)), .int .u64 (limb 0 (y)), .int .u64 (limb 1 (y)), .int .u64 (limb 2 (y)), .int .u64 (limb 3 (y)), .bool i]) ∧ Below w.heap.size w w' := by
 cases i with
 | true =>
  obtain ⟨rfl, rfl⟩ := on_inf hon
  obtain ⟨_, _, _, h | h⟩ := hJ
  ·exact plain_inf X Y Z h.2 (c : Int) w
  ·cases h.1
 | false =>
  obtain ⟨z0, e1, e2⟩ := plain_ok hon hJ
  have h := plain_fin c X Y Z hc (lt_M c _ hJ.1) (lt_M c _ hJ.2.1) (lt_M c _ hJ.2.2.1) z0 w hg
  unfold plainX at e1
  unfold plainY at e2
  rw [e1, e2] at h
  exact h
theorem on_lt {c x y : Nat} {i : Bool} (h : onC c x y i) : x < modN c ∧ y < modN c := by
 rcases h with ⟨h1, h2, _⟩ | ⟨_, h1, h2, _⟩
 ·rw [h1, h2]; exact ⟨modN_pos c, modN_pos c⟩
 ·exact ⟨h1, h2⟩
/-- What Of answers. -/
def ofJ (x y : Nat) (i : Bool) : Nat × Nat × Nat := if i then (0, 0, 0) else (x, y, 1)
theorem jof_any (x y : Nat) (i : Bool) (w : World) : Calls Tryz.prog 69 #[.agg #[.int .u64 (limb 0 (x)), .int .u64 (limb 1 (x)), .int .u64 (limb 2 (x)), .int .u64 (limb 3 (x)), .int .u64 (limb 0 (y)), .int .u64 (limb 1 (y)), .int .u64 (limb 2 (y)), .int .u64 (limb 3 (y)), .bool i]] w fun e w' => e = .returned (.agg #[.int .u64 (limb 0 ((ofJ x y i).1)), .int .u64 (limb 1 ((ofJ x y i).1)), .int .u64 (limb 2 ((ofJ x y i).1)), .int .u64 (limb 3 ((ofJ x y i).1)), .int .u64 (limb 0 ((ofJ x y i).2.1)), .int .u64 (limb 1 ((ofJ x y i).2.1)), .int .u64 (limb 2 ((ofJ x y i).2.1)), .int .u64 (limb 3 ((ofJ x y i).2.1)), .int .u64 (limb 0 ((ofJ x y i).2.2)), .int .u64 (limb 1 ((ofJ x y i).2.2)), .int .u64 (limb 2 ((ofJ x y i).2.2)), .int .u64 (limb 3 ((ofJ x y i).2.2))]) ∧ Below w.heap.size w w' := by
 cases i with
 | true => exact jof_inf x y w
 | false => exact jof_fin x y w
theorem one_Z (n : Nat) [NeZero n] (a : Fin n) : a * 1 * 1 = a ∧ a * 1 * 1 * 1 = a := by constructor <;> grind
theorem ofJ_ok {c x y : Nat} {i : Bool} (h : onC c x y i) : JR c (ofJ x y i).1 (ofJ x y i).2.1 (ofJ x y i).2.2 x y i := by
 cases i with
 | true => exact ⟨modN_pos c, modN_pos c, modN_pos c, Or.inl ⟨rfl, rfl⟩⟩
 | false =>
  have hl := on_lt h
  refine ⟨hl.1, hl.2, (modN_odd c).2, Or.inr ⟨rfl, Nat.one_ne_zero, ?_, ?_⟩⟩
  ·show fz c x = fz c x * fz c 1 * fz c 1
   rw [fz_one, (one_Z _ _).1]
  ·show fz c y = fz c y * fz c 1 * fz c 1 * fz c 1
   rw [fz_one, (one_Z _ _).2]
end Go.Proofs.YtdeijnlbencfdaaGreatDoor
