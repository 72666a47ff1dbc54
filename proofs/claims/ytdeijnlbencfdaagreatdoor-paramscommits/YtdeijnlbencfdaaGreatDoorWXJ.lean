import Derived.Test.YtdeijnlbencfdaaGreatDoorWM3
import Derived.Test.YtdeijnlbencfdaaGreatDoorWM5
import Derived.Test.YtdeijnlbencfdaaGreatDoorWMA
import Derived.Test.YtdeijnlbencfdaaGreatDoorWM11
set_option maxHeartbeats 16000000
namespace Go.Proofs.YtdeijnlbencfdaaGreatDoor
open Go.RowKit
theorem pk2 (w : World) (a b : Nat) : ∃ (w' : World) (N M : Nat), w.heap.size = N ∧ w.heap.size + 1 = M ∧ (w.alloc (.cells #[.int .u64 (limb 0 a), .int .u64 (limb 1 a), .int .u64 (limb 2 a), .int .u64 (limb 3 a)] 25)).alloc (.cells #[.int .u64 (limb 0 b), .int .u64 (limb 1 b), .int .u64 (limb 2 b), .int .u64 (limb 3 b)] 25) = w' ∧ Below w.heap.size w w' ∧ Blk w' 25 N (fun i => limb i a) ∧ Blk w' 25 M (fun i => limb i b) :=
 ⟨_, _, _, rfl, rfl, rfl, bAlloc ((Below.refl _ _).alloc (Nat.le_refl _) _) _, (Blk.newAt _ _ _ (fun i => limb i a) rfl).alloc _, Blk.newAt _ _ _ (fun i => limb i b) (by simp)⟩
theorem ov_M {c X z : Nat} (h : X < 115792089237316195423570985008687907853269984665640564039457584007913129639936) : ovX c X z < 115792089237316195423570985008687907853269984665640564039457584007913129639936 ∧ ovY c X z < 115792089237316195423570985008687907853269984665640564039457584007913129639936 := by
 unfold ovX ovY
 constructor <;> split
 ·exact h
 ·exact mulP_M _ _ _
 ·exact h
 ·exact mulP_M _ _ _
theorem prd_M {c a b : Nat} (h : a < 115792089237316195423570985008687907853269984665640564039457584007913129639936) : prd c a b < 115792089237316195423570985008687907853269984665640564039457584007913129639936 := by
 unfold prd
 split
 ·exact h
 ·exact mulP_M _ _ _
set_option maxRecDepth 20000 in
theorem plus_fin (c X Y Z U V W : Nat) (hc : c < 4) (hX : X < 115792089237316195423570985008687907853269984665640564039457584007913129639936) (hY : Y < 115792089237316195423570985008687907853269984665640564039457584007913129639936) (hZ : Z < 115792089237316195423570985008687907853269984665640564039457584007913129639936) (hU : U < 115792089237316195423570985008687907853269984665640564039457584007913129639936) (hV : V < 115792089237316195423570985008687907853269984665640564039457584007913129639936) (hW : W < 115792089237316195423570985008687907853269984665640564039457584007913129639936) (z0 : ¬ Z = 0) (w0' : ¬ W = 0) (w : World) (hg : Glob w) :
  Calls Tryz.prog 72 #[.agg #[.int .u64 (limb 0 X), .int .u64 (limb 1 X), .int .u64 (limb 2 X), .int .u64 (limb 3 X), .int .u64 (limb 0 Y), .int .u64 (limb 1 Y), .int .u64 (limb 2 Y), .int .u64 (limb 3 Y), .int .u64 (limb 0 Z), .int .u64 (limb 1 Z), .int .u64 (limb 2 Z), .int .u64 (limb 3 Z)], .int .i64 (c : Int), .agg #[.int .u64 (limb 0 U), .int .u64 (limb 1 U), .int .u64 (limb 2 U), .int .u64 (limb 3 U), .int .u64 (limb 0 V), .int .u64 (limb 1 V), .int .u64 (limb 2 V), .int .u64 (limb 3 V), .int .u64 (limb 0 W), .int .u64 (limb 1 W), .int .u64 (limb 2 W), .int .u64 (limb 3 W)]] w fun e w' => e = .returned (.agg #[.int .u64 (limb 0 ((pl c X Y Z U V W).1)), .int .u64 (limb 1 ((pl c X Y Z U V W).1)), .int .u64 (limb 2 ((pl c X Y Z U V W).1)), .int .u64 (limb 3 ((pl c X Y Z U V W).1)), .int .u64 (limb 0 ((pl c X Y Z U V W).2.1)), .int .u64 (limb 1 ((pl c X Y Z U V W).2.1)), .int .u64 (limb 2 ((pl c X Y Z U V W).2.1)), .int .u64 (limb 3 ((pl c X Y Z U V W).2.1)), .int .u64 (limb 0 ((pl c X Y Z U V W).2.2)), .int .u64 (limb 1 ((pl c X Y Z U V W).2.2)), .int .u64 (limb 2 ((pl c X Y Z U V W).2.2)), .int .u64 (limb 3 ((pl c X Y Z U V W).2.2))]) ∧ Below w.heap.size w w' := by
 have HG0 : Hid (Glob w) := hg
 have HI1 : Hid (∀ w, _) := fun w => isInf_any X Y Z hZ w
 have HI2 : Hid (∀ w, _) := fun w => isInf_any U V W hW w
 rw [decide_eq_false z0] at HI1
 rw [decide_eq_false w0'] at HI2
 have HV1 : Hid (rnJ c X U Z W ≠ 0 → (.agg #[.int .u64 (limb 0 ((pl c X Y Z U V W).1)), .int .u64 (limb 1 ((pl c X Y Z U V W).1)), .int .u64 (limb 2 ((pl c X Y Z U V W).1)), .int .u64 (limb 3 ((pl c X Y Z U V W).1)), .int .u64 (limb 0 ((pl c X Y Z U V W).2.1)), .int .u64 (limb 1 ((pl c X Y Z U V W).2.1)), .int .u64 (limb 2 ((pl c X Y Z U V W).2.1)), .int .u64 (limb 3 ((pl c X Y Z U V W).2.1)), .int .u64 (limb 0 ((pl c X Y Z U V W).2.2)), .int .u64 (limb 1 ((pl c X Y Z U V W).2.2)), .int .u64 (limb 2 ((pl c X Y Z U V W).2.2)), .int .u64 (limb 3 ((pl c X Y Z U V W).2.2))] : Value) = .agg #[.int .u64 (limb 0 ((cX c (ovX c X W) (rsJ c Y V Z W) (rnJ c X U Z W)))), .int .u64 (limb 1 ((cX c (ovX c X W) (rsJ c Y V Z W) (rnJ c X U Z W)))), .int .u64 (limb 2 ((cX c (ovX c X W) (rsJ c Y V Z W) (rnJ c X U Z W)))), .int .u64 (limb 3 ((cX c (ovX c X W) (rsJ c Y V Z W) (rnJ c X U Z W)))), .int .u64 (limb 0 ((cY c (ovX c X W) (ovY c Y W) (rsJ c Y V Z W) (rnJ c X U Z W)))), .int .u64 (limb 1 ((cY c (ovX c X W) (ovY c Y W) (rsJ c Y V Z W) (rnJ c X U Z W)))), .int .u64 (limb 2 ((cY c (ovX c X W) (ovY c Y W) (rsJ c Y V Z W) (rnJ c X U Z W)))), .int .u64 (limb 3 ((cY c (ovX c X W) (ovY c Y W) (rsJ c Y V Z W) (rnJ c X U Z W)))), .int .u64 (limb 0 ((mulP c (prd c Z W) (rnJ c X U Z W)))), .int .u64 (limb 1 ((mulP c (prd c Z W) (rnJ c X U Z W)))), .int .u64 (limb 2 ((mulP c (prd c Z W) (rnJ c X U Z W)))), .int .u64 (limb 3 ((mulP c (prd c Z W) (rnJ c X U Z W))))]) := fun h => by unfold pl; rw [if_neg z0, if_neg w0', if_pos h]
 have HV2 : Hid (rnJ c X U Z W = 0 → rsJ c Y V Z W ≠ 0 → (.agg #[.int .u64 (limb 0 ((pl c X Y Z U V W).1)), .int .u64 (limb 1 ((pl c X Y Z U V W).1)), .int .u64 (limb 2 ((pl c X Y Z U V W).1)), .int .u64 (limb 3 ((pl c X Y Z U V W).1)), .int .u64 (limb 0 ((pl c X Y Z U V W).2.1)), .int .u64 (limb 1 ((pl c X Y Z U V W).2.1)), .int .u64 (limb 2 ((pl c X Y Z U V W).2.1)), .int .u64 (limb 3 ((pl c X Y Z U V W).2.1)), .int .u64 (limb 0 ((pl c X Y Z U V W).2.2)), .int .u64 (limb 1 ((pl c X Y Z U V W).2.2)), .int .u64 (limb 2 ((pl c X Y Z U V W).2.2)), .int .u64 (limb 3 ((pl c X Y Z U V W).2.2))] : Value) = .agg #[.int .u64 0, .int .u64 0, .int .u64 0, .int .u64 0, .int .u64 0, .int .u64 0, .int .u64 0, .int .u64 0, .int .u64 0, .int .u64 0, .int .u64 0, .int .u64 0]) := fun h h2 => by unfold pl; rw [if_neg z0, if_neg w0', if_neg (fun k => k h), if_pos h2, limb_zero, limb_zero, limb_zero, limb_zero]; rfl
 have HV3 : Hid (rnJ c X U Z W = 0 → rsJ c Y V Z W = 0 → (.agg #[.int .u64 (limb 0 ((pl c X Y Z U V W).1)), .int .u64 (limb 1 ((pl c X Y Z U V W).1)), .int .u64 (limb 2 ((pl c X Y Z U V W).1)), .int .u64 (limb 3 ((pl c X Y Z U V W).1)), .int .u64 (limb 0 ((pl c X Y Z U V W).2.1)), .int .u64 (limb 1 ((pl c X Y Z U V W).2.1)), .int .u64 (limb 2 ((pl c X Y Z U V W).2.1)), .int .u64 (limb 3 ((pl c X Y Z U V W).2.1)), .int .u64 (limb 0 ((pl c X Y Z U V W).2.2)), .int .u64 (limb 1 ((pl c X Y Z U V W).2.2)), .int .u64 (limb 2 ((pl c X Y Z U V W).2.2)), .int .u64 (limb 3 ((pl c X Y Z U V W).2.2))] : Value) = .agg #[.int .u64 (limb 0 ((jX2 c X Y))), .int .u64 (limb 1 ((jX2 c X Y))), .int .u64 (limb 2 ((jX2 c X Y))), .int .u64 (limb 3 ((jX2 c X Y))), .int .u64 (limb 0 ((jY2 c X Y))), .int .u64 (limb 1 ((jY2 c X Y))), .int .u64 (limb 2 ((jY2 c X Y))), .int .u64 (limb 3 ((jY2 c X Y))), .int .u64 (limb 0 ((jZ2 c Y Z))), .int .u64 (limb 1 ((jZ2 c Y Z))), .int .u64 (limb 2 ((jZ2 c Y Z))), .int .u64 (limb 3 ((jZ2 c Y Z)))]) := fun h h2 => by unfold pl tw; rw [if_neg z0, if_neg w0', if_neg (fun k => k h), if_neg (fun k => k h2), if_neg z0]
 have HO1 : Hid (∀ w, Glob w → _) := fun w hg => over_any c X Y Z W hc hX hY hW w hg
 have HO2 : Hid (∀ w, Glob w → _) := fun w hg => over_any c U V W Z hc hU hV hZ w hg
 have HS1 : Hid (∀ w, Glob w → _) := fun w hg => fSub_any c (ovY c V Z) (ovY c Y W) hc (ov_M hV).2 (ov_M hY).2 w hg
 have HS2 : Hid (∀ w, Glob w → _) := fun w hg => fSub_any c (ovX c U Z) (ovX c X W) hc (ov_M hU).1 (ov_M hX).1 w hg
 have HP : Hid (∀ w, Glob w → _) := fun w hg => jprod_any c Z W hc hZ hW w hg
 have HC : Hid (∀ w, Glob w → _) := fun w hg => chord_any c (ovX c X W) (ovY c Y W) (prd c Z W) (rsJ c Y V Z W) (rnJ c X U Z W) hc (ov_M hX).1 (ov_M hY).2 (prd_M hZ) (subP_M _ _ _) (subP_M _ _ _) w hg
 have HT : Hid (∀ w, Glob w → _) := fun w hg => twice_fin c X Y Z hc hX hY hZ z0 w hg
 have Q1 := fun w => neqZ (rnJ c X U Z W) (subP_M _ _ _) w
 have Q2 := fun w => neqZ (rsJ c Y V Z W) (subP_M _ _ _) w
 obtain ⟨Va, eVa⟩ : ∃ V' : Value, V' = .agg #[.int .u64 (limb 0 ((pl c X Y Z U V W).1)), .int .u64 (limb 1 ((pl c X Y Z U V W).1)), .int .u64 (limb 2 ((pl c X Y Z U V W).1)), .int .u64 (limb 3 ((pl c X Y Z U V W).1)), .int .u64 (limb 0 ((pl c X Y Z U V W).2.1)), .int .u64 (limb 1 ((pl c X Y Z U V W).2.1)), .int .u64 (limb 2 ((pl c X Y Z U V W).2.1)), .int .u64 (limb 3 ((pl c X Y Z U V W).2.1)), .int .u64 (limb 0 ((pl c X Y Z U V W).2.2)), .int .u64 (limb 1 ((pl c X Y Z U V W).2.2)), .int .u64 (limb 2 ((pl c X Y Z U V W).2.2)), .int .u64 (limb 3 ((pl c X Y Z U V W).2.2))] := ⟨_, rfl⟩
 rw [← eVa] at HV1 HV2 HV3 ⊢
 obtain ⟨rs, ers⟩ : ∃ x, x = rsJ c Y V Z W := ⟨_, rfl⟩
 obtain ⟨rn, ern⟩ : ∃ x, x = rnJ c X U Z W := ⟨_, rfl⟩
 have HS1' : Hid (∀ w, Glob w → Calls Tryz.prog 37 #[.int .i64 (c : Int), .agg #[.int .u64 (limb 0 (ovY c V Z)), .int .u64 (limb 1 (ovY c V Z)), .int .u64 (limb 2 (ovY c V Z)), .int .u64 (limb 3 (ovY c V Z))], .agg #[.int .u64 (limb 0 (ovY c Y W)), .int .u64 (limb 1 (ovY c Y W)), .int .u64 (limb 2 (ovY c Y W)), .int .u64 (limb 3 (ovY c Y W))]] w fun e w' => e = .returned (.agg #[.int .u64 (limb 0 rs), .int .u64 (limb 1 rs), .int .u64 (limb 2 rs), .int .u64 (limb 3 rs)]) ∧ Below w.heap.size w w') := by rw [ers]; exact HS1
 have HS2' : Hid (∀ w, Glob w → Calls Tryz.prog 37 #[.int .i64 (c : Int), .agg #[.int .u64 (limb 0 (ovX c U Z)), .int .u64 (limb 1 (ovX c U Z)), .int .u64 (limb 2 (ovX c U Z)), .int .u64 (limb 3 (ovX c U Z))], .agg #[.int .u64 (limb 0 (ovX c X W)), .int .u64 (limb 1 (ovX c X W)), .int .u64 (limb 2 (ovX c X W)), .int .u64 (limb 3 (ovX c X W))]] w fun e w' => e = .returned (.agg #[.int .u64 (limb 0 rn), .int .u64 (limb 1 rn), .int .u64 (limb 2 rn), .int .u64 (limb 3 rn)]) ∧ Below w.heap.size w w') := by rw [ern]; exact HS2
 rw [← ers] at HV1 HV2 HV3 HC Q2
 rw [← ern] at HV1 HV2 HV3 HC Q1
 obtain ⟨ax, eax⟩ : ∃ x, x = ovX c X W := ⟨_, rfl⟩
 obtain ⟨ay, eay⟩ : ∃ x, x = ovY c Y W := ⟨_, rfl⟩
 obtain ⟨bx, ebx⟩ : ∃ x, x = ovX c U Z := ⟨_, rfl⟩
 obtain ⟨by', eby⟩ : ∃ x, x = ovY c V Z := ⟨_, rfl⟩
 obtain ⟨pz, epz⟩ : ∃ x, x = prd c Z W := ⟨_, rfl⟩
 rw [← eax] at HV1 HO1 HS2' HC
 rw [← eay] at HV1 HO1 HS1' HC
 rw [← ebx] at HO2 HS2'
 rw [← eby] at HO2 HS1'
 rw [← epz] at HV1 HP HC
 obtain ⟨x1, e1⟩ : ∃ x, x = cX c ax rs rn := ⟨_, rfl⟩
 obtain ⟨y1, e2⟩ : ∃ x, x = cY c ax ay rs rn := ⟨_, rfl⟩
 obtain ⟨z1, e3⟩ : ∃ x, x = mulP c pz rn := ⟨_, rfl⟩
 rw [← e1, ← e2, ← e3] at HV1 HC
 obtain ⟨x2, e4⟩ : ∃ x, x = jX2 c X Y := ⟨_, rfl⟩
 obtain ⟨y2, e5⟩ : ∃ x, x = jY2 c X Y := ⟨_, rfl⟩
 obtain ⟨z2, e6⟩ : ∃ x, x = jZ2 c Y Z := ⟨_, rfl⟩
 rw [← e4, ← e5, ← e6] at HV3 HT
 clear HS1 HS2 eVa ers ern eax eay ebx eby epz e1 e2 e3 e4 e5 e6 hg hX hY hZ hU hV hW z0 w0'
 go_enter Tryz.func72, Tryz.ntmps72
 go_upto_region 1 with fail
 obtain ⟨w0, hw0⟩ : ∃ w0 : World, w0 = ((w.alloc (.cells #[.int .u64 (limb 0 X), .int .u64 (limb 1 X), .int .u64 (limb 2 X), .int .u64 (limb 3 X), .int .u64 (limb 0 Y), .int .u64 (limb 1 Y), .int .u64 (limb 2 Y), .int .u64 (limb 3 Y), .int .u64 (limb 0 Z), .int .u64 (limb 1 Z), .int .u64 (limb 2 Z), .int .u64 (limb 3 Z)] 99)).alloc (.cells #[.int .u64 (limb 0 U), .int .u64 (limb 1 U), .int .u64 (limb 2 U), .int .u64 (limb 3 U), .int .u64 (limb 0 V), .int .u64 (limb 1 V), .int .u64 (limb 2 V), .int .u64 (limb 3 V), .int .u64 (limb 0 W), .int .u64 (limb 1 W), .int .u64 (limb 2 W), .int .u64 (limb 3 W)] 99)).alloc (.cells #[.int .u64 0, .int .u64 0, .int .u64 0, .int .u64 0, .int .u64 0, .int .u64 0, .int .u64 0, .int .u64 0, .int .u64 0, .int .u64 0, .int .u64 0, .int .u64 0] 99) := ⟨_, rfl⟩
 have bp0 : Jt w0 w.heap.size X Y Z := by rw [hw0]; exact ((Jt.newAt _ _ _ _ _ rfl).alloc _).alloc _
 have bq0 : Jt w0 (w.heap.size + 1) U V W := by rw [hw0]; exact (Jt.newAt _ _ _ _ _ (by simp)).alloc _
 have br0 : Jt w0 (w.heap.size + 1 + 1) 0 0 0 := by rw [hw0]; exact Jt.zeroAt _ _ (by simp)
 have hbw0 : Below w.heap.size w w0 := by rw [hw0]; exact bAlloc (bAlloc ((Below.refl _ _).alloc (Nat.le_refl _) _) _) _
 have hrw : w.heap.size ≤ w.heap.size + 1 + 1 := by omega
 rw [← hw0]
 clear hw0
 obtain ⟨q0, q1, q2, q3, q4, q5, q6, q7, q8, q9, q10, q11, qf⟩ := bp0.cells
 obtain ⟨p0, p1, p2, p3, p4, p5, p6, p7, p8, p9, p10, p11, pf⟩ := bq0.cells
 go_wp2_with fail
 refine (HI1.out _).mono ?_
 rintro e w1 ⟨rfl, hbx⟩
 clear q0 q1 q2 q3 q4 q5 q6 q7 q8 q9 q10 q11 qf p0 p1 p2 p3 p4 p5 p6 p7 p8 p9 p10 p11 pf
 have bp1 := bp0.belowAll hbx
 have bq1 := bq0.belowAll hbx
 have br1 := br0.belowAll hbx
 have hbw1 := bStep hbw0 hbx
 clear bp0 bq0 br0  hbw0 hbx
 obtain ⟨q0, q1, q2, q3, q4, q5, q6, q7, q8, q9, q10, q11, qf⟩ := bp1.cells
 obtain ⟨p0, p1, p2, p3, p4, p5, p6, p7, p8, p9, p10, p11, pf⟩ := bq1.cells
 go_wp2_with fail
 refine (HI2.out _).mono ?_
 rintro e w2 ⟨rfl, hbx⟩
 clear q0 q1 q2 q3 q4 q5 q6 q7 q8 q9 q10 q11 qf p0 p1 p2 p3 p4 p5 p6 p7 p8 p9 p10 p11 pf
 have bp2 := bp1.belowAll hbx
 have bq2 := bq1.belowAll hbx
 have br2 := br1.belowAll hbx
 have hbw2 := bStep hbw1 hbx
 clear bp1 bq1 br1  hbw1 hbx
 obtain ⟨q0, q1, q2, q3, q4, q5, q6, q7, q8, q9, q10, q11, qf⟩ := bp2.cells
 obtain ⟨p0, p1, p2, p3, p4, p5, p6, p7, p8, p9, p10, p11, pf⟩ := bq2.cells
 go_wp2_with fail
 refine (HO1.out _ (HG0.out.below hbw2)).mono ?_
 rintro e w3 ⟨rfl, hbx⟩
 clear q0 q1 q2 q3 q4 q5 q6 q7 q8 q9 q10 q11 qf p0 p1 p2 p3 p4 p5 p6 p7 p8 p9 p10 p11 pf
 have bp3 := bp2.belowAll hbx
 have bq3 := bq2.belowAll hbx
 have br3 := br2.belowAll hbx
 have hbw3 := bStep hbw2 hbx
 clear bp2 bq2 br2  hbw2 hbx
 clear HI1 HI2 HO1
 go_upto_region 6 with fail
 obtain ⟨w4, N7, N8, hN1, hN2, hw, hbx, v7_4, v8_4⟩ := pk2 w3 ax ay
 rw [hw, hN2, hN1]
 clear hw hN1 hN2
 have bp4 := bp3.belowAll hbx
 have bq4 := bq3.belowAll hbx
 have br4 := br3.belowAll hbx
 have hbw4 := bStep hbw3 hbx
 clear bp3 bq3 br3  hbw3 hbx
 obtain ⟨q0, q1, q2, q3, q4, q5, q6, q7, q8, q9, q10, q11, qf⟩ := bp4.cells
 obtain ⟨p0, p1, p2, p3, p4, p5, p6, p7, p8, p9, p10, p11, pf⟩ := bq4.cells
 go_wp2_with fail
 refine (HO2.out _ (HG0.out.below hbw4)).mono ?_
 rintro e w5 ⟨rfl, hbx⟩
 clear q0 q1 q2 q3 q4 q5 q6 q7 q8 q9 q10 q11 qf p0 p1 p2 p3 p4 p5 p6 p7 p8 p9 p10 p11 pf
 have bp5 := bp4.belowAll hbx
 have bq5 := bq4.belowAll hbx
 have br5 := br4.belowAll hbx
 have v7_5 := v7_4.belowAll hbx
 have v8_5 := v8_4.belowAll hbx
 have hbw5 := bStep hbw4 hbx
 clear bp4 bq4 br4 v7_4 v8_4 hbw4 hbx
 clear HO2
 go_upto_region 7 with fail
 obtain ⟨w6, N9, N10, hN1, hN2, hw, hbx, v9_6, v10_6⟩ := pk2 w5 bx by'
 rw [hw, hN2, hN1]
 clear hw hN1 hN2
 have bp6 := bp5.belowAll hbx
 have bq6 := bq5.belowAll hbx
 have br6 := br5.belowAll hbx
 have v7_6 := v7_5.belowAll hbx
 have v8_6 := v8_5.belowAll hbx
 have hbw6 := bStep hbw5 hbx
 clear bp5 bq5 br5 v7_5 v8_5 hbw5 hbx
 have HG6 : Hid (Glob w6) := HG0.out.below hbw6
 go_cut [11, 12] (fun p11 p12 wx => ∃ N11 N12 : Nat, p11 = .pointer (some ⟨N11, 0, none⟩) ∧ p12 = .pointer (some ⟨N12, 0, none⟩) ∧ Blk wx 25 N11 (fun i => limb i rs) ∧ Blk wx 25 N12 (fun i => limb i rn) ∧ Below w6.heap.size w6 wx)
 case first =>
  have HS0 : Hid (Below w6.heap.size w6 w6.drew) := (Below.refl _ _).drew
  refine wp_region_Z (fun w' => Kp w6 w') 99 (by kernel_rfl) ?_
  refine zs 0 35 (.int .i64 (c : Int)) (HS0.out) ?_
  refine zT 1 36 (.agg #[.int .u64 (limb 0 by'), .int .u64 (limb 1 by'), .int .u64 (limb 2 by'), .int .u64 (limb 3 by')]) rfl rfl (fun w hSw => by (have qq := (v10_6.belowAll hSw).cell; clear hSw; go_simp)) (HS0.out) ?_
  refine zT 2 37 (.agg #[.int .u64 (limb 0 ay), .int .u64 (limb 1 ay), .int .u64 (limb 2 ay), .int .u64 (limb 3 ay)]) rfl rfl (fun w hSw => by (have qq := (v8_6.belowAll hSw).cell; clear hSw; go_simp)) (HS0.out) ?_
  refine zs 4 39 (.int .i64 (c : Int)) (HS0.out) ?_
  refine zT 5 40 (.agg #[.int .u64 (limb 0 bx), .int .u64 (limb 1 bx), .int .u64 (limb 2 bx), .int .u64 (limb 3 bx)]) rfl rfl (fun w hSw => by (have qq := (v9_6.belowAll hSw).cell; clear hSw; go_simp)) (HS0.out) ?_
  refine zT 6 41 (.agg #[.int .u64 (limb 0 ax), .int .u64 (limb 1 ax), .int .u64 (limb 2 ax), .int .u64 (limb 3 ax)]) rfl rfl (fun w hSw => by (have qq := (v7_6.belowAll hSw).cell; clear hSw; go_simp)) (HS0.out) ?_
  refine wpZ_three (i := 3) (j := 8) (l := 9) (by kernel_rfl) rfl rfl rfl (fun K hK => ?_) (fun K hK => ?_) (fun K hK => ?_) 
  ·go_simp
   refine (HS1'.out w6.drew (HG6.out.below (HS0.out))).mono ?_
   rintro e wK1 ⟨rfl, hbK1⟩
   have hSK1 := bStep HS0.out hbK1
   go_wp2_with fail
   refine hK.out _ _ (fun _ => hSK1) ?_
   clear hK K
   refine wpZ_three (i := 7) (j := 8) (l := 9) (by kernel_rfl) rfl rfl rfl (fun K hK => ?_) (fun K hK => ?_) (fun K hK => ?_) 
   ·go_simp
    refine (HS2'.out wK1 (HG6.out.below (hSK1))).mono ?_
    rintro e wK2 ⟨rfl, hbK2⟩
    have hSK2 := bStep hSK1 hbK2
    go_wp2_with fail
    refine hK.out _ _ (fun _ => hSK2) ?_
    clear hK K
    refine zw 8 9 rfl rfl (fun K hK => ?_) (fun K hK => ?_) 
    ·go_simp
     obtain ⟨N11_3, wK3, hN, hw, hSK3, b11_3, lN11_3, hx⟩ := pkA hSK2
     rw [hw, hN]
     refine hK.out _ _ (fun _ => hSK3) ?_
     clear hK K hw hN hx
     refine zo 9 rfl (fun K hK => ?_)
     go_simp
     obtain ⟨N12_4, wK4, hN, hw, hSK4, b12_4, lN12_4, hx⟩ := pkA hSK3
     rw [hw, hN]
     refine hK.out _ _ (fun _ => hSK4) ?_
     have b11_4 := b11_3.belowAll hx
     have neN11_3_N12_4 : N11_3 ≠ N12_4 := by have := b11_3.lt; omega
     clear hK K hw hN hx
     refine zo 10 rfl (fun K hK => ?_)
     have cS := b11_4.cell; have fS := b11_4.frozen
     go_simp
     obtain ⟨wK5, hw, hSK5, b11_5, hx⟩ := pkS b11_4 (hSK4) lN11_3 rs
     rw [hw]
     refine hK.out _ _ (fun _ => hSK5) ?_
     have b12_5 := hx b12_4 (by omega)
     clear hK K cS fS hw hx
     refine zo 11 rfl (fun K hK => ?_)
     have cS := b12_5.cell; have fS := b12_5.frozen
     go_simp
     obtain ⟨wK6, hw, hSK6, b12_6, hx⟩ := pkS b12_5 (hSK5) lN12_4 rn
     rw [hw]
     refine hK.out _ _ (fun _ => hSK6) ?_
     have b11_6 := hx b11_5 (by omega)
     clear hK K cS fS hw hx
     refine zd ?_ _
     go_wp2_with fail
     go_meet
     exact ⟨_, _, rfl, rfl, b11_6, b12_6, hSK6⟩
    ·go_simp
     obtain ⟨N12_3, wK3, hN, hw, hSK3, b12_3, lN12_3, hx⟩ := pkA hSK2
     rw [hw, hN]
     refine hK.out _ _ (fun _ => hSK3) ?_
     clear hK K hw hN hx
     refine zo 8 rfl (fun K hK => ?_)
     go_simp
     obtain ⟨N11_4, wK4, hN, hw, hSK4, b11_4, lN11_4, hx⟩ := pkA hSK3
     rw [hw, hN]
     refine hK.out _ _ (fun _ => hSK4) ?_
     have b12_4 := b12_3.belowAll hx
     have neN12_3_N11_4 : N12_3 ≠ N11_4 := by have := b12_3.lt; omega
     clear hK K hw hN hx
     refine zo 10 rfl (fun K hK => ?_)
     have cS := b11_4.cell; have fS := b11_4.frozen
     go_simp
     obtain ⟨wK5, hw, hSK5, b11_5, hx⟩ := pkS b11_4 (hSK4) lN11_4 rs
     rw [hw]
     refine hK.out _ _ (fun _ => hSK5) ?_
     have b12_5 := hx b12_4 (by omega)
     clear hK K cS fS hw hx
     refine zo 11 rfl (fun K hK => ?_)
     have cS := b12_5.cell; have fS := b12_5.frozen
     go_simp
     obtain ⟨wK6, hw, hSK6, b12_6, hx⟩ := pkS b12_5 (hSK5) lN12_3 rn
     rw [hw]
     refine hK.out _ _ (fun _ => hSK6) ?_
     have b11_6 := hx b11_5 (by omega)
     clear hK K cS fS hw hx
     refine zd ?_ _
     go_wp2_with fail
     go_meet
     exact ⟨_, _, rfl, rfl, b11_6, b12_6, hSK6⟩
   ·go_simp
    obtain ⟨N11_2, wK2, hN, hw, hSK2, b11_2, lN11_2, hx⟩ := pkA hSK1
    rw [hw, hN]
    refine hK.out _ _ (fun _ => hSK2) ?_
    clear hK K hw hN hx
    refine zw 7 9 rfl rfl (fun K hK => ?_) (fun K hK => ?_) 
    ·go_simp
     refine (HS2'.out wK2 (HG6.out.below (hSK2))).mono ?_
     rintro e wK3 ⟨rfl, hbK3⟩
     have hSK3 := bStep hSK2 hbK3
     go_wp2_with fail
     refine hK.out _ _ (fun _ => hSK3) ?_
     clear hK K
     have b11_3 := b11_2.belowAll hbK3
     refine zo 9 rfl (fun K hK => ?_)
     go_simp
     obtain ⟨N12_4, wK4, hN, hw, hSK4, b12_4, lN12_4, hx⟩ := pkA hSK3
     rw [hw, hN]
     refine hK.out _ _ (fun _ => hSK4) ?_
     have b11_4 := b11_3.belowAll hx
     have neN11_2_N12_4 : N11_2 ≠ N12_4 := by have := b11_3.lt; omega
     clear hK K hw hN hx
     refine zo 10 rfl (fun K hK => ?_)
     have cS := b11_4.cell; have fS := b11_4.frozen
     go_simp
     obtain ⟨wK5, hw, hSK5, b11_5, hx⟩ := pkS b11_4 (hSK4) lN11_2 rs
     rw [hw]
     refine hK.out _ _ (fun _ => hSK5) ?_
     have b12_5 := hx b12_4 (by omega)
     clear hK K cS fS hw hx
     refine zo 11 rfl (fun K hK => ?_)
     have cS := b12_5.cell; have fS := b12_5.frozen
     go_simp
     obtain ⟨wK6, hw, hSK6, b12_6, hx⟩ := pkS b12_5 (hSK5) lN12_4 rn
     rw [hw]
     refine hK.out _ _ (fun _ => hSK6) ?_
     have b11_6 := hx b11_5 (by omega)
     clear hK K cS fS hw hx
     refine zd ?_ _
     go_wp2_with fail
     go_meet
     exact ⟨_, _, rfl, rfl, b11_6, b12_6, hSK6⟩
    ·go_simp
     obtain ⟨N12_3, wK3, hN, hw, hSK3, b12_3, lN12_3, hx⟩ := pkA hSK2
     rw [hw, hN]
     refine hK.out _ _ (fun _ => hSK3) ?_
     have b11_3 := b11_2.belowAll hx
     have neN11_2_N12_3 : N11_2 ≠ N12_3 := by have := b11_2.lt; omega
     clear hK K hw hN hx
     refine zo 7 rfl (fun K hK => ?_)
     go_simp
     refine (HS2'.out wK3 (HG6.out.below (hSK3))).mono ?_
     rintro e wK4 ⟨rfl, hbK4⟩
     have hSK4 := bStep hSK3 hbK4
     go_wp2_with fail
     refine hK.out _ _ (fun _ => hSK4) ?_
     clear hK K
     have b11_4 := b11_3.belowAll hbK4
     have b12_4 := b12_3.belowAll hbK4
     refine zo 10 rfl (fun K hK => ?_)
     have cS := b11_4.cell; have fS := b11_4.frozen
     go_simp
     obtain ⟨wK5, hw, hSK5, b11_5, hx⟩ := pkS b11_4 (hSK4) lN11_2 rs
     rw [hw]
     refine hK.out _ _ (fun _ => hSK5) ?_
     have b12_5 := hx b12_4 (by omega)
     clear hK K cS fS hw hx
     refine zo 11 rfl (fun K hK => ?_)
     have cS := b12_5.cell; have fS := b12_5.frozen
     go_simp
     obtain ⟨wK6, hw, hSK6, b12_6, hx⟩ := pkS b12_5 (hSK5) lN12_3 rn
     rw [hw]
     refine hK.out _ _ (fun _ => hSK6) ?_
     have b11_6 := hx b11_5 (by omega)
     clear hK K cS fS hw hx
     refine zd ?_ _
     go_wp2_with fail
     go_meet
     exact ⟨_, _, rfl, rfl, b11_6, b12_6, hSK6⟩
   ·go_simp
    obtain ⟨N12_2, wK2, hN, hw, hSK2, b12_2, lN12_2, hx⟩ := pkA hSK1
    rw [hw, hN]
    refine hK.out _ _ (fun _ => hSK2) ?_
    clear hK K hw hN hx
    refine zw 7 8 rfl rfl (fun K hK => ?_) (fun K hK => ?_) 
    ·go_simp
     refine (HS2'.out wK2 (HG6.out.below (hSK2))).mono ?_
     rintro e wK3 ⟨rfl, hbK3⟩
     have hSK3 := bStep hSK2 hbK3
     go_wp2_with fail
     refine hK.out _ _ (fun _ => hSK3) ?_
     clear hK K
     have b12_3 := b12_2.belowAll hbK3
     refine zo 8 rfl (fun K hK => ?_)
     go_simp
     obtain ⟨N11_4, wK4, hN, hw, hSK4, b11_4, lN11_4, hx⟩ := pkA hSK3
     rw [hw, hN]
     refine hK.out _ _ (fun _ => hSK4) ?_
     have b12_4 := b12_3.belowAll hx
     have neN12_2_N11_4 : N12_2 ≠ N11_4 := by have := b12_3.lt; omega
     clear hK K hw hN hx
     refine zo 10 rfl (fun K hK => ?_)
     have cS := b11_4.cell; have fS := b11_4.frozen
     go_simp
     obtain ⟨wK5, hw, hSK5, b11_5, hx⟩ := pkS b11_4 (hSK4) lN11_4 rs
     rw [hw]
     refine hK.out _ _ (fun _ => hSK5) ?_
     have b12_5 := hx b12_4 (by omega)
     clear hK K cS fS hw hx
     refine zo 11 rfl (fun K hK => ?_)
     have cS := b12_5.cell; have fS := b12_5.frozen
     go_simp
     obtain ⟨wK6, hw, hSK6, b12_6, hx⟩ := pkS b12_5 (hSK5) lN12_2 rn
     rw [hw]
     refine hK.out _ _ (fun _ => hSK6) ?_
     have b11_6 := hx b11_5 (by omega)
     clear hK K cS fS hw hx
     refine zd ?_ _
     go_wp2_with fail
     go_meet
     exact ⟨_, _, rfl, rfl, b11_6, b12_6, hSK6⟩
    ·go_simp
     obtain ⟨N11_3, wK3, hN, hw, hSK3, b11_3, lN11_3, hx⟩ := pkA hSK2
     rw [hw, hN]
     refine hK.out _ _ (fun _ => hSK3) ?_
     have b12_3 := b12_2.belowAll hx
     have neN12_2_N11_3 : N12_2 ≠ N11_3 := by have := b12_2.lt; omega
     clear hK K hw hN hx
     refine zo 7 rfl (fun K hK => ?_)
     go_simp
     refine (HS2'.out wK3 (HG6.out.below (hSK3))).mono ?_
     rintro e wK4 ⟨rfl, hbK4⟩
     have hSK4 := bStep hSK3 hbK4
     go_wp2_with fail
     refine hK.out _ _ (fun _ => hSK4) ?_
     clear hK K
     have b12_4 := b12_3.belowAll hbK4
     have b11_4 := b11_3.belowAll hbK4
     refine zo 10 rfl (fun K hK => ?_)
     have cS := b11_4.cell; have fS := b11_4.frozen
     go_simp
     obtain ⟨wK5, hw, hSK5, b11_5, hx⟩ := pkS b11_4 (hSK4) lN11_3 rs
     rw [hw]
     refine hK.out _ _ (fun _ => hSK5) ?_
     have b12_5 := hx b12_4 (by omega)
     clear hK K cS fS hw hx
     refine zo 11 rfl (fun K hK => ?_)
     have cS := b12_5.cell; have fS := b12_5.frozen
     go_simp
     obtain ⟨wK6, hw, hSK6, b12_6, hx⟩ := pkS b12_5 (hSK5) lN12_2 rn
     rw [hw]
     refine hK.out _ _ (fun _ => hSK6) ?_
     have b11_6 := hx b11_5 (by omega)
     clear hK K cS fS hw hx
     refine zd ?_ _
     go_wp2_with fail
     go_meet
     exact ⟨_, _, rfl, rfl, b11_6, b12_6, hSK6⟩
  ·go_simp
   obtain ⟨N11_1, wK1, hN, hw, hSK1, b11_1, lN11_1, hx⟩ := pkD w6
   rw [hw, hN]
   refine hK.out _ _ (fun _ => hSK1) ?_
   clear hK K hw hN hx
   refine zw 3 9 rfl rfl (fun K hK => ?_) (fun K hK => ?_) 
   ·go_simp
    refine (HS1'.out wK1 (HG6.out.below (hSK1))).mono ?_
    rintro e wK2 ⟨rfl, hbK2⟩
    have hSK2 := bStep hSK1 hbK2
    go_wp2_with fail
    refine hK.out _ _ (fun _ => hSK2) ?_
    clear hK K
    have b11_2 := b11_1.belowAll hbK2
    refine zw 7 9 rfl rfl (fun K hK => ?_) (fun K hK => ?_) 
    ·go_simp
     refine (HS2'.out wK2 (HG6.out.below (hSK2))).mono ?_
     rintro e wK3 ⟨rfl, hbK3⟩
     have hSK3 := bStep hSK2 hbK3
     go_wp2_with fail
     refine hK.out _ _ (fun _ => hSK3) ?_
     clear hK K
     have b11_3 := b11_2.belowAll hbK3
     refine zo 9 rfl (fun K hK => ?_)
     go_simp
     obtain ⟨N12_4, wK4, hN, hw, hSK4, b12_4, lN12_4, hx⟩ := pkA hSK3
     rw [hw, hN]
     refine hK.out _ _ (fun _ => hSK4) ?_
     have b11_4 := b11_3.belowAll hx
     have neN11_1_N12_4 : N11_1 ≠ N12_4 := by have := b11_3.lt; omega
     clear hK K hw hN hx
     refine zo 10 rfl (fun K hK => ?_)
     have cS := b11_4.cell; have fS := b11_4.frozen
     go_simp
     obtain ⟨wK5, hw, hSK5, b11_5, hx⟩ := pkS b11_4 (hSK4) lN11_1 rs
     rw [hw]
     refine hK.out _ _ (fun _ => hSK5) ?_
     have b12_5 := hx b12_4 (by omega)
     clear hK K cS fS hw hx
     refine zo 11 rfl (fun K hK => ?_)
     have cS := b12_5.cell; have fS := b12_5.frozen
     go_simp
     obtain ⟨wK6, hw, hSK6, b12_6, hx⟩ := pkS b12_5 (hSK5) lN12_4 rn
     rw [hw]
     refine hK.out _ _ (fun _ => hSK6) ?_
     have b11_6 := hx b11_5 (by omega)
     clear hK K cS fS hw hx
     refine zd ?_ _
     go_wp2_with fail
     go_meet
     exact ⟨_, _, rfl, rfl, b11_6, b12_6, hSK6⟩
    ·go_simp
     obtain ⟨N12_3, wK3, hN, hw, hSK3, b12_3, lN12_3, hx⟩ := pkA hSK2
     rw [hw, hN]
     refine hK.out _ _ (fun _ => hSK3) ?_
     have b11_3 := b11_2.belowAll hx
     have neN11_1_N12_3 : N11_1 ≠ N12_3 := by have := b11_2.lt; omega
     clear hK K hw hN hx
     refine zo 7 rfl (fun K hK => ?_)
     go_simp
     refine (HS2'.out wK3 (HG6.out.below (hSK3))).mono ?_
     rintro e wK4 ⟨rfl, hbK4⟩
     have hSK4 := bStep hSK3 hbK4
     go_wp2_with fail
     refine hK.out _ _ (fun _ => hSK4) ?_
     clear hK K
     have b11_4 := b11_3.belowAll hbK4
     have b12_4 := b12_3.belowAll hbK4
     refine zo 10 rfl (fun K hK => ?_)
     have cS := b11_4.cell; have fS := b11_4.frozen
     go_simp
     obtain ⟨wK5, hw, hSK5, b11_5, hx⟩ := pkS b11_4 (hSK4) lN11_1 rs
     rw [hw]
     refine hK.out _ _ (fun _ => hSK5) ?_
     have b12_5 := hx b12_4 (by omega)
     clear hK K cS fS hw hx
     refine zo 11 rfl (fun K hK => ?_)
     have cS := b12_5.cell; have fS := b12_5.frozen
     go_simp
     obtain ⟨wK6, hw, hSK6, b12_6, hx⟩ := pkS b12_5 (hSK5) lN12_3 rn
     rw [hw]
     refine hK.out _ _ (fun _ => hSK6) ?_
     have b11_6 := hx b11_5 (by omega)
     clear hK K cS fS hw hx
     refine zd ?_ _
     go_wp2_with fail
     go_meet
     exact ⟨_, _, rfl, rfl, b11_6, b12_6, hSK6⟩
   ·go_simp
    obtain ⟨N12_2, wK2, hN, hw, hSK2, b12_2, lN12_2, hx⟩ := pkA hSK1
    rw [hw, hN]
    refine hK.out _ _ (fun _ => hSK2) ?_
    have b11_2 := b11_1.belowAll hx
    have neN11_1_N12_2 : N11_1 ≠ N12_2 := by have := b11_1.lt; omega
    clear hK K hw hN hx
    refine zo 3 rfl (fun K hK => ?_)
    go_simp
    refine (HS1'.out wK2 (HG6.out.below (hSK2))).mono ?_
    rintro e wK3 ⟨rfl, hbK3⟩
    have hSK3 := bStep hSK2 hbK3
    go_wp2_with fail
    refine hK.out _ _ (fun _ => hSK3) ?_
    clear hK K
    have b11_3 := b11_2.belowAll hbK3
    have b12_3 := b12_2.belowAll hbK3
    refine zo 7 rfl (fun K hK => ?_)
    go_simp
    refine (HS2'.out wK3 (HG6.out.below (hSK3))).mono ?_
    rintro e wK4 ⟨rfl, hbK4⟩
    have hSK4 := bStep hSK3 hbK4
    go_wp2_with fail
    refine hK.out _ _ (fun _ => hSK4) ?_
    clear hK K
    have b11_4 := b11_3.belowAll hbK4
    have b12_4 := b12_3.belowAll hbK4
    refine zo 10 rfl (fun K hK => ?_)
    have cS := b11_4.cell; have fS := b11_4.frozen
    go_simp
    obtain ⟨wK5, hw, hSK5, b11_5, hx⟩ := pkS b11_4 (hSK4) lN11_1 rs
    rw [hw]
    refine hK.out _ _ (fun _ => hSK5) ?_
    have b12_5 := hx b12_4 (by omega)
    clear hK K cS fS hw hx
    refine zo 11 rfl (fun K hK => ?_)
    have cS := b12_5.cell; have fS := b12_5.frozen
    go_simp
    obtain ⟨wK6, hw, hSK6, b12_6, hx⟩ := pkS b12_5 (hSK5) lN12_2 rn
    rw [hw]
    refine hK.out _ _ (fun _ => hSK6) ?_
    have b11_6 := hx b11_5 (by omega)
    clear hK K cS fS hw hx
    refine zd ?_ _
    go_wp2_with fail
    go_meet
    exact ⟨_, _, rfl, rfl, b11_6, b12_6, hSK6⟩
  ·go_simp
   obtain ⟨N12_1, wK1, hN, hw, hSK1, b12_1, lN12_1, hx⟩ := pkD w6
   rw [hw, hN]
   refine hK.out _ _ (fun _ => hSK1) ?_
   clear hK K hw hN hx
   refine zw 3 8 rfl rfl (fun K hK => ?_) (fun K hK => ?_) 
   ·go_simp
    refine (HS1'.out wK1 (HG6.out.below (hSK1))).mono ?_
    rintro e wK2 ⟨rfl, hbK2⟩
    have hSK2 := bStep hSK1 hbK2
    go_wp2_with fail
    refine hK.out _ _ (fun _ => hSK2) ?_
    clear hK K
    have b12_2 := b12_1.belowAll hbK2
    refine zw 7 8 rfl rfl (fun K hK => ?_) (fun K hK => ?_) 
    ·go_simp
     refine (HS2'.out wK2 (HG6.out.below (hSK2))).mono ?_
     rintro e wK3 ⟨rfl, hbK3⟩
     have hSK3 := bStep hSK2 hbK3
     go_wp2_with fail
     refine hK.out _ _ (fun _ => hSK3) ?_
     clear hK K
     have b12_3 := b12_2.belowAll hbK3
     refine zo 8 rfl (fun K hK => ?_)
     go_simp
     obtain ⟨N11_4, wK4, hN, hw, hSK4, b11_4, lN11_4, hx⟩ := pkA hSK3
     rw [hw, hN]
     refine hK.out _ _ (fun _ => hSK4) ?_
     have b12_4 := b12_3.belowAll hx
     have neN12_1_N11_4 : N12_1 ≠ N11_4 := by have := b12_3.lt; omega
     clear hK K hw hN hx
     refine zo 10 rfl (fun K hK => ?_)
     have cS := b11_4.cell; have fS := b11_4.frozen
     go_simp
     obtain ⟨wK5, hw, hSK5, b11_5, hx⟩ := pkS b11_4 (hSK4) lN11_4 rs
     rw [hw]
     refine hK.out _ _ (fun _ => hSK5) ?_
     have b12_5 := hx b12_4 (by omega)
     clear hK K cS fS hw hx
     refine zo 11 rfl (fun K hK => ?_)
     have cS := b12_5.cell; have fS := b12_5.frozen
     go_simp
     obtain ⟨wK6, hw, hSK6, b12_6, hx⟩ := pkS b12_5 (hSK5) lN12_1 rn
     rw [hw]
     refine hK.out _ _ (fun _ => hSK6) ?_
     have b11_6 := hx b11_5 (by omega)
     clear hK K cS fS hw hx
     refine zd ?_ _
     go_wp2_with fail
     go_meet
     exact ⟨_, _, rfl, rfl, b11_6, b12_6, hSK6⟩
    ·go_simp
     obtain ⟨N11_3, wK3, hN, hw, hSK3, b11_3, lN11_3, hx⟩ := pkA hSK2
     rw [hw, hN]
     refine hK.out _ _ (fun _ => hSK3) ?_
     have b12_3 := b12_2.belowAll hx
     have neN12_1_N11_3 : N12_1 ≠ N11_3 := by have := b12_2.lt; omega
     clear hK K hw hN hx
     refine zo 7 rfl (fun K hK => ?_)
     go_simp
     refine (HS2'.out wK3 (HG6.out.below (hSK3))).mono ?_
     rintro e wK4 ⟨rfl, hbK4⟩
     have hSK4 := bStep hSK3 hbK4
     go_wp2_with fail
     refine hK.out _ _ (fun _ => hSK4) ?_
     clear hK K
     have b12_4 := b12_3.belowAll hbK4
     have b11_4 := b11_3.belowAll hbK4
     refine zo 10 rfl (fun K hK => ?_)
     have cS := b11_4.cell; have fS := b11_4.frozen
     go_simp
     obtain ⟨wK5, hw, hSK5, b11_5, hx⟩ := pkS b11_4 (hSK4) lN11_3 rs
     rw [hw]
     refine hK.out _ _ (fun _ => hSK5) ?_
     have b12_5 := hx b12_4 (by omega)
     clear hK K cS fS hw hx
     refine zo 11 rfl (fun K hK => ?_)
     have cS := b12_5.cell; have fS := b12_5.frozen
     go_simp
     obtain ⟨wK6, hw, hSK6, b12_6, hx⟩ := pkS b12_5 (hSK5) lN12_1 rn
     rw [hw]
     refine hK.out _ _ (fun _ => hSK6) ?_
     have b11_6 := hx b11_5 (by omega)
     clear hK K cS fS hw hx
     refine zd ?_ _
     go_wp2_with fail
     go_meet
     exact ⟨_, _, rfl, rfl, b11_6, b12_6, hSK6⟩
   ·go_simp
    obtain ⟨N11_2, wK2, hN, hw, hSK2, b11_2, lN11_2, hx⟩ := pkA hSK1
    rw [hw, hN]
    refine hK.out _ _ (fun _ => hSK2) ?_
    have b12_2 := b12_1.belowAll hx
    have neN12_1_N11_2 : N12_1 ≠ N11_2 := by have := b12_1.lt; omega
    clear hK K hw hN hx
    refine zo 3 rfl (fun K hK => ?_)
    go_simp
    refine (HS1'.out wK2 (HG6.out.below (hSK2))).mono ?_
    rintro e wK3 ⟨rfl, hbK3⟩
    have hSK3 := bStep hSK2 hbK3
    go_wp2_with fail
    refine hK.out _ _ (fun _ => hSK3) ?_
    clear hK K
    have b12_3 := b12_2.belowAll hbK3
    have b11_3 := b11_2.belowAll hbK3
    refine zo 7 rfl (fun K hK => ?_)
    go_simp
    refine (HS2'.out wK3 (HG6.out.below (hSK3))).mono ?_
    rintro e wK4 ⟨rfl, hbK4⟩
    have hSK4 := bStep hSK3 hbK4
    go_wp2_with fail
    refine hK.out _ _ (fun _ => hSK4) ?_
    clear hK K
    have b12_4 := b12_3.belowAll hbK4
    have b11_4 := b11_3.belowAll hbK4
    refine zo 10 rfl (fun K hK => ?_)
    have cS := b11_4.cell; have fS := b11_4.frozen
    go_simp
    obtain ⟨wK5, hw, hSK5, b11_5, hx⟩ := pkS b11_4 (hSK4) lN11_2 rs
    rw [hw]
    refine hK.out _ _ (fun _ => hSK5) ?_
    have b12_5 := hx b12_4 (by omega)
    clear hK K cS fS hw hx
    refine zo 11 rfl (fun K hK => ?_)
    have cS := b12_5.cell; have fS := b12_5.frozen
    go_simp
    obtain ⟨wK6, hw, hSK6, b12_6, hx⟩ := pkS b12_5 (hSK5) lN12_1 rn
    rw [hw]
    refine hK.out _ _ (fun _ => hSK6) ?_
    have b11_6 := hx b11_5 (by omega)
    clear hK K cS fS hw hx
    refine zd ?_ _
    go_wp2_with fail
    go_meet
    exact ⟨_, _, rfl, rfl, b11_6, b12_6, hSK6⟩
 obtain ⟨N11, N12, rfl, rfl, v11_7, v12_7, hbx⟩ := hcut
 obtain ⟨w7, hwn⟩ : ∃ x, x = wc := ⟨_, rfl⟩
 rw [← hwn] at hbx v11_7 v12_7 ⊢
 clear hwn HG6 HS1' HS2'
 have bp7 := bp6.belowAll hbx
 have bq7 := bq6.belowAll hbx
 have br7 := br6.belowAll hbx
 have v7_7 := v7_6.belowAll hbx
 have v8_7 := v8_6.belowAll hbx
 have v9_7 := v9_6.belowAll hbx
 have v10_7 := v10_6.belowAll hbx
 have hbw7 := bStep hbw6 hbx
 clear bp6 bq6 br6 v7_6 v8_6 v9_6 v10_6 hbw6 hbx
 have HG7 : Hid (Glob w7) := HG0.out.below hbw7
 clear HG0
 by_cases h1 : rn = 0
 ·rw [decide_eq_true h1, Bool.not_true] at Q1
  by_cases h2 : rs = 0
  ·rw [decide_eq_true h2, Bool.not_true] at Q2
   have HVV := (show Hid _ from HV3.out h1 h2)
   clear h1 h2 HV1 HV2 HV3 HP HC
   have cn := v12_7.cell; have cs := v11_7.cell
   obtain ⟨q0, q1, q2, q3, q4, q5, q6, q7, q8, q9, q10, q11, qf⟩ := bp7.cells
   obtain ⟨p0, p1, p2, p3, p4, p5, p6, p7, p8, p9, p10, p11, pf⟩ := bq7.cells
   go_wp2_with fail
   refine (HT.out _ HG7.out).mono ?_
   rintro e w8 ⟨rfl, hb8⟩
   clear q0 q1 q2 q3 q4 q5 q6 q7 q8 q9 q10 q11 qf p0 p1 p2 p3 p4 p5 p6 p7 p8 p9 p10 p11 pf cn cs
   obtain ⟨r0, r1, r2, r3, r4, r5, r6, r7, r8, r9, r10, r11, rf⟩ := (br7.belowAll hb8).cells
   go_wp2
   refine bodyPost_ret (v := .agg #[.int .u64 (limb 0 x2), .int .u64 (limb 1 x2), .int .u64 (limb 2 x2), .int .u64 (limb 3 x2), .int .u64 (limb 0 y2), .int .u64 (limb 1 y2), .int .u64 (limb 2 y2), .int .u64 (limb 3 y2), .int .u64 (limb 0 z2), .int .u64 (limb 1 z2), .int .u64 (limb 2 z2), .int .u64 (limb 3 z2)]) (by simp [results, Tryz.results72, go_sem, r0, r1, r2, r3, r4, r5, r6, r7, r8, r9, r10, r11]) rfl ⟨by rw [HVV.out], ?_⟩
   exact bSet12 (bStep hbw7 hb8) hrw _ _ _ _ _ _ _ _ _ _ _ _
  ·rw [decide_eq_false h2, Bool.not_false] at Q2
   have HVV := (show Hid _ from HV2.out h1 h2)
   clear h1 h2 HV1 HV2 HV3 HP HC HT
   have cn := v12_7.cell; have cs := v11_7.cell
   obtain ⟨r0, r1, r2, r3, r4, r5, r6, r7, r8, r9, r10, r11, rf⟩ := br7.cells
   go_wp2
   refine bodyPost_ret (v := .agg #[.int .u64 0, .int .u64 0, .int .u64 0, .int .u64 0, .int .u64 0, .int .u64 0, .int .u64 0, .int .u64 0, .int .u64 0, .int .u64 0, .int .u64 0, .int .u64 0]) (by simp [results, Tryz.results72, go_sem, r0, r1, r2, r3, r4, r5, r6, r7, r8, r9, r10, r11]) rfl ⟨by rw [HVV.out], ?_⟩
   exact bSet12 hbw7 hrw _ _ _ _ _ _ _ _ _ _ _ _
 ·rw [decide_eq_false h1, Bool.not_false] at Q1
  have HVV := (show Hid _ from HV1.out h1)
  clear h1 HV1 HV2 HV3 Q2 HT
  have cn := v12_7.cell
  go_upto_region 9 with fail
  clear cn Q1
  have HS0 : Hid (Below w7.heap.size w7 w7.drew) := (Below.refl _ _).drew
  refine wp_region_Z (fun w' => Below w7.heap.size w7 w') 13 (by kernel_rfl) ?_
  refine zs 0 46 (.int .i64 (c : Int)) HS0.out ?_
  refine zT 1 47 (.agg #[.int .u64 (limb 0 ax), .int .u64 (limb 1 ax), .int .u64 (limb 2 ax), .int .u64 (limb 3 ax)]) rfl rfl (fun w hSw => by (have qq := (v7_7.belowAll hSw).cell; clear hSw; go_simp)) HS0.out ?_
  refine zT 2 48 (.agg #[.int .u64 (limb 0 ay), .int .u64 (limb 1 ay), .int .u64 (limb 2 ay), .int .u64 (limb 3 ay)]) rfl rfl (fun w hSw => by (have qq := (v8_7.belowAll hSw).cell; clear hSw; go_simp)) HS0.out ?_
  refine zs 3 49 (.int .i64 (c : Int)) HS0.out ?_
  refine zs 4 50 (.pointer (some ⟨w.heap.size, 8, none⟩)) HS0.out ?_
  refine zT 5 51 (.agg #[.int .u64 (limb 0 Z), .int .u64 (limb 1 Z), .int .u64 (limb 2 Z), .int .u64 (limb 3 Z)]) rfl rfl (fun w hSw => by (obtain ⟨q0, q1, q2, q3, q4, q5, q6, q7, q8, q9, q10, q11, qf⟩ := (bp7.belowAll hSw).cells; clear hSw; go_simp)) HS0.out ?_
  refine zs 6 52 (.pointer (some ⟨(w.heap.size + 1), 8, none⟩)) HS0.out ?_
  refine zT 7 53 (.agg #[.int .u64 (limb 0 W), .int .u64 (limb 1 W), .int .u64 (limb 2 W), .int .u64 (limb 3 W)]) rfl rfl (fun w hSw => by (obtain ⟨q0, q1, q2, q3, q4, q5, q6, q7, q8, q9, q10, q11, qf⟩ := (bq7.belowAll hSw).cells; clear hSw; go_simp)) HS0.out ?_
  refine zT 10 56 (.agg #[.int .u64 (limb 0 rs), .int .u64 (limb 1 rs), .int .u64 (limb 2 rs), .int .u64 (limb 3 rs)]) rfl rfl (fun w hSw => by (have qq := (v11_7.belowAll hSw).cell; clear hSw; go_simp)) HS0.out ?_
  refine zT 11 57 (.agg #[.int .u64 (limb 0 rn), .int .u64 (limb 1 rn), .int .u64 (limb 2 rn), .int .u64 (limb 3 rn)]) rfl rfl (fun w hSw => by (have qq := (v12_7.belowAll hSw).cell; clear hSw; go_simp)) HS0.out ?_
  refine zo 8 rfl (fun K hK => ?_)
  go_simp
  refine (HP.out w7.drew (HG7.out.below (HS0.out))).mono ?_
  rintro e wK1 ⟨rfl, hbK1⟩
  have hSK1 := bStep HS0.out hbK1
  go_wp2_with fail
  refine hK.out _ _ (fun _ => hSK1) ?_
  clear hK K
  refine zs 9 55 (.agg #[.int .u64 (limb 0 ax), .int .u64 (limb 1 ax), .int .u64 (limb 2 ax), .int .u64 (limb 3 ax), .int .u64 (limb 0 ay), .int .u64 (limb 1 ay), .int .u64 (limb 2 ay), .int .u64 (limb 3 ay), .int .u64 (limb 0 pz), .int .u64 (limb 1 pz), .int .u64 (limb 2 pz), .int .u64 (limb 3 pz)]) hSK1 ?_
  refine zo 12 rfl (fun K hK => ?_)
  go_simp
  refine (HC.out wK1 (HG7.out.below (hSK1))).mono ?_
  rintro e wK2 ⟨rfl, hbK2⟩
  have hSK2 := bStep hSK1 hbK2
  go_wp2_with fail
  refine hK.out _ _ (fun _ => hSK2) ?_
  clear hK K
  refine zo 13 rfl (fun K hK => ?_)
  obtain ⟨r0, r1, r2, r3, r4, r5, r6, r7, r8, r9, r10, r11, rf⟩ := (br7.belowAll (hSK2)).cells
  go_simp
  refine hK.out _ _ (fun h => absurd rfl h) ?_
  clear hK K
  refine zd ?_ _
  go_wp2
  refine bodyPost_ret (v := .agg #[.int .u64 (limb 0 x1), .int .u64 (limb 1 x1), .int .u64 (limb 2 x1), .int .u64 (limb 3 x1), .int .u64 (limb 0 y1), .int .u64 (limb 1 y1), .int .u64 (limb 2 y1), .int .u64 (limb 3 y1), .int .u64 (limb 0 z1), .int .u64 (limb 1 z1), .int .u64 (limb 2 z1), .int .u64 (limb 3 z1)]) (by simp [results, Tryz.results72, go_sem, r0, r1, r2, r3, r4, r5, r6, r7, r8, r9, r10, r11]) rfl ⟨by rw [HVV.out], ?_⟩
  exact bSet12 (bStep hbw7 (hSK2)) hrw _ _ _ _ _ _ _ _ _ _ _ _
end Go.Proofs.YtdeijnlbencfdaaGreatDoor
namespace Go.Proofs.YtdeijnlbencfdaaGreatDoor
open Go.RowKit
theorem zeroJ : (.agg #[.int .u64 (limb 0 0), .int .u64 (limb 1 0), .int .u64 (limb 2 0), .int .u64 (limb 3 0), .int .u64 (limb 0 0), .int .u64 (limb 1 0), .int .u64 (limb 2 0), .int .u64 (limb 3 0), .int .u64 (limb 0 0), .int .u64 (limb 1 0), .int .u64 (limb 2 0), .int .u64 (limb 3 0)] : Value) = .agg #[.int .u64 0, .int .u64 0, .int .u64 0, .int .u64 0, .int .u64 0, .int .u64 0, .int .u64 0, .int .u64 0, .int .u64 0, .int .u64 0, .int .u64 0, .int .u64 0] := by rw [limb_zero, limb_zero, limb_zero, limb_zero]; rfl
set_option maxRecDepth 20000 in
theorem jof_inf (x y : Nat) (w : World) : Calls Tryz.prog 69 #[.agg #[.int .u64 (limb 0 x), .int .u64 (limb 1 x), .int .u64 (limb 2 x), .int .u64 (limb 3 x), .int .u64 (limb 0 y), .int .u64 (limb 1 y), .int .u64 (limb 2 y), .int .u64 (limb 3 y), .bool true]] w fun e w' => e = .returned (.agg #[.int .u64 (limb 0 0), .int .u64 (limb 1 0), .int .u64 (limb 2 0), .int .u64 (limb 3 0), .int .u64 (limb 0 0), .int .u64 (limb 1 0), .int .u64 (limb 2 0), .int .u64 (limb 3 0), .int .u64 (limb 0 0), .int .u64 (limb 1 0), .int .u64 (limb 2 0), .int .u64 (limb 3 0)]) ∧ Below w.heap.size w w' := by
 rw [zeroJ]
 go_enter Tryz.func69, Tryz.ntmps69
 go_upto_region 1 with fail
 obtain ⟨w0, hw0⟩ : ∃ w0 : World, w0 = (w.alloc (.cells #[.int .u64 (limb 0 x), .int .u64 (limb 1 x), .int .u64 (limb 2 x), .int .u64 (limb 3 x), .int .u64 (limb 0 y), .int .u64 (limb 1 y), .int .u64 (limb 2 y), .int .u64 (limb 3 y), .bool true] 27)).alloc (.cells #[.int .u64 0, .int .u64 0, .int .u64 0, .int .u64 0, .int .u64 0, .int .u64 0, .int .u64 0, .int .u64 0, .int .u64 0, .int .u64 0, .int .u64 0, .int .u64 0] 99) := ⟨_, rfl⟩
 have bp : Pt w0 w.heap.size x y true := by rw [hw0]; exact (Pt.newAt _ _ _ _ _ rfl).alloc _
 have br : Jt w0 (w.heap.size + 1) 0 0 0 := by rw [hw0]; exact Jt.zeroAt _ _ (by simp)
 have hbw0 : Below w.heap.size w w0 := by rw [hw0]; exact bAlloc ((Below.refl _ _).alloc (Nat.le_refl _) _) _
 have hrw : w.heap.size ≤ w.heap.size + 1 := Nat.le_succ _
 rw [← hw0]
 clear hw0
 have q8 := bp.cells.2.2.2.2.2.2.2.2.1
 obtain ⟨r0, r1, r2, r3, r4, r5, r6, r7, r8, r9, r10, r11, rf⟩ := br.cells
 go_wp2
 refine bodyPost_ret (v := .agg #[.int .u64 0, .int .u64 0, .int .u64 0, .int .u64 0, .int .u64 0, .int .u64 0, .int .u64 0, .int .u64 0, .int .u64 0, .int .u64 0, .int .u64 0, .int .u64 0]) (by simp [results, Tryz.results69, go_sem, r0, r1, r2, r3, r4, r5, r6, r7, r8, r9, r10, r11]) rfl ⟨rfl, ?_⟩
 exact bSet12 hbw0 hrw _ _ _ _ _ _ _ _ _ _ _ _ 
set_option maxRecDepth 20000 in
theorem plus_infq (X Y Z U V T : Nat) (hZ : Z < 115792089237316195423570985008687907853269984665640564039457584007913129639936) (z0 : ¬ Z = 0) (hT : T = 0) (c : Int) (w : World) : Calls Tryz.prog 72 #[.agg #[.int .u64 (limb 0 X), .int .u64 (limb 1 X), .int .u64 (limb 2 X), .int .u64 (limb 3 X), .int .u64 (limb 0 Y), .int .u64 (limb 1 Y), .int .u64 (limb 2 Y), .int .u64 (limb 3 Y), .int .u64 (limb 0 Z), .int .u64 (limb 1 Z), .int .u64 (limb 2 Z), .int .u64 (limb 3 Z)], .int .i64 c, .agg #[.int .u64 (limb 0 U), .int .u64 (limb 1 U), .int .u64 (limb 2 U), .int .u64 (limb 3 U), .int .u64 (limb 0 V), .int .u64 (limb 1 V), .int .u64 (limb 2 V), .int .u64 (limb 3 V), .int .u64 (limb 0 T), .int .u64 (limb 1 T), .int .u64 (limb 2 T), .int .u64 (limb 3 T)]] w fun e w' => e = .returned (.agg #[.int .u64 (limb 0 X), .int .u64 (limb 1 X), .int .u64 (limb 2 X), .int .u64 (limb 3 X), .int .u64 (limb 0 Y), .int .u64 (limb 1 Y), .int .u64 (limb 2 Y), .int .u64 (limb 3 Y), .int .u64 (limb 0 Z), .int .u64 (limb 1 Z), .int .u64 (limb 2 Z), .int .u64 (limb 3 Z)]) ∧ Below w.heap.size w w' := by
 have HI : Hid (∀ w, _) := fun w => isInf_any X Y Z hZ w
 rw [decide_eq_false z0] at HI
 have HI2 : Hid (∀ w, _) := fun w => isInf_any U V T (by rw [hT]; decide) w
 rw [decide_eq_true hT] at HI2
 clear hZ z0 hT
 go_enter Tryz.func72, Tryz.ntmps72
 go_upto_region 1 with fail
 obtain ⟨w0, hw0⟩ : ∃ w0 : World, w0 = ((w.alloc (.cells #[.int .u64 (limb 0 X), .int .u64 (limb 1 X), .int .u64 (limb 2 X), .int .u64 (limb 3 X), .int .u64 (limb 0 Y), .int .u64 (limb 1 Y), .int .u64 (limb 2 Y), .int .u64 (limb 3 Y), .int .u64 (limb 0 Z), .int .u64 (limb 1 Z), .int .u64 (limb 2 Z), .int .u64 (limb 3 Z)] 99)).alloc (.cells #[.int .u64 (limb 0 U), .int .u64 (limb 1 U), .int .u64 (limb 2 U), .int .u64 (limb 3 U), .int .u64 (limb 0 V), .int .u64 (limb 1 V), .int .u64 (limb 2 V), .int .u64 (limb 3 V), .int .u64 (limb 0 T), .int .u64 (limb 1 T), .int .u64 (limb 2 T), .int .u64 (limb 3 T)] 99)).alloc (.cells #[.int .u64 0, .int .u64 0, .int .u64 0, .int .u64 0, .int .u64 0, .int .u64 0, .int .u64 0, .int .u64 0, .int .u64 0, .int .u64 0, .int .u64 0, .int .u64 0] 99) := ⟨_, rfl⟩
 have bp : Jt w0 w.heap.size X Y Z := by rw [hw0]; exact ((Jt.newAt _ _ _ _ _ rfl).alloc _).alloc _
 have bq : Jt w0 (w.heap.size + 1) U V T := by rw [hw0]; exact (Jt.newAt _ _ _ _ _ (by simp)).alloc _
 have br : Jt w0 (w.heap.size + 1 + 1) 0 0 0 := by rw [hw0]; exact Jt.zeroAt _ _ (by simp)
 have hbw0 : Below w.heap.size w w0 := by rw [hw0]; exact bAlloc (bAlloc ((Below.refl _ _).alloc (Nat.le_refl _) _) _) _
 have hrw : w.heap.size ≤ w.heap.size + 1 + 1 := by omega
 rw [← hw0]
 clear hw0
 obtain ⟨q0, q1, q2, q3, q4, q5, q6, q7, q8, q9, q10, q11, qf⟩ := bp.cells
 go_wp2_with fail
 refine (HI.out _).mono ?_
 rintro e w1 ⟨rfl, hb1⟩
 clear q0 q1 q2 q3 q4 q5 q6 q7 q8 q9 q10 q11 qf
 have bp1 := bp.belowAll hb1; have bq1 := bq.belowAll hb1; have br1 := br.belowAll hb1
 have hbw1 := bStep hbw0 hb1
 clear bp bq br hbw0 hb1
 obtain ⟨q0, q1, q2, q3, q4, q5, q6, q7, q8, q9, q10, q11, qf⟩ := bq1.cells
 go_wp2_with fail
 refine (HI2.out _).mono ?_
 rintro e w2 ⟨rfl, hb2⟩
 clear q0 q1 q2 q3 q4 q5 q6 q7 q8 q9 q10 q11 qf
 obtain ⟨q0, q1, q2, q3, q4, q5, q6, q7, q8, q9, q10, q11, qf⟩ := (bp1.belowAll hb2).cells
 obtain ⟨r0, r1, r2, r3, r4, r5, r6, r7, r8, r9, r10, r11, rf⟩ := (br1.belowAll hb2).cells
 go_wp2
 refine bodyPost_ret (v := .agg #[.int .u64 (limb 0 X), .int .u64 (limb 1 X), .int .u64 (limb 2 X), .int .u64 (limb 3 X), .int .u64 (limb 0 Y), .int .u64 (limb 1 Y), .int .u64 (limb 2 Y), .int .u64 (limb 3 Y), .int .u64 (limb 0 Z), .int .u64 (limb 1 Z), .int .u64 (limb 2 Z), .int .u64 (limb 3 Z)]) (by simp [results, Tryz.results72, go_sem, r0, r1, r2, r3, r4, r5, r6, r7, r8, r9, r10, r11]) rfl ⟨rfl, ?_⟩
 exact bSet12 (bStep hbw1 hb2) hrw _ _ _ _ _ _ _ _ _ _ _ _ 
set_option maxRecDepth 20000 in
theorem plain_inf (X Y Z : Nat) (hZ : Z = 0) (c : Int) (w : World) : Calls Tryz.prog 73 #[.agg #[.int .u64 (limb 0 X), .int .u64 (limb 1 X), .int .u64 (limb 2 X), .int .u64 (limb 3 X), .int .u64 (limb 0 Y), .int .u64 (limb 1 Y), .int .u64 (limb 2 Y), .int .u64 (limb 3 Y), .int .u64 (limb 0 Z), .int .u64 (limb 1 Z), .int .u64 (limb 2 Z), .int .u64 (limb 3 Z)], .int .i64 c] w fun e w' => e = .returned (.agg #[.int .u64 (limb 0 0), .int .u64 (limb 1 0), .int .u64 (limb 2 0), .int .u64 (limb 3 0), .int .u64 (limb 0 0), .int .u64 (limb 1 0), .int .u64 (limb 2 0), .int .u64 (limb 3 0), .bool true]) ∧ Below w.heap.size w w' := by
 have HI : Hid (∀ w, _) := fun w => isInf_any X Y Z (by rw [hZ]; decide) w
 rw [decide_eq_true hZ] at HI
 rw [infAgg]
 clear hZ
 go_enter Tryz.func73, Tryz.ntmps73
 go_upto_region 1 with fail
 obtain ⟨w0, hw0⟩ : ∃ w0 : World, w0 = (w.alloc (.cells #[.int .u64 (limb 0 X), .int .u64 (limb 1 X), .int .u64 (limb 2 X), .int .u64 (limb 3 X), .int .u64 (limb 0 Y), .int .u64 (limb 1 Y), .int .u64 (limb 2 Y), .int .u64 (limb 3 Y), .int .u64 (limb 0 Z), .int .u64 (limb 1 Z), .int .u64 (limb 2 Z), .int .u64 (limb 3 Z)] 99)).alloc (.cells #[.int .u64 0, .int .u64 0, .int .u64 0, .int .u64 0, .int .u64 0, .int .u64 0, .int .u64 0, .int .u64 0, .bool false] 27) := ⟨_, rfl⟩
 have bp : Jt w0 w.heap.size X Y Z := by rw [hw0]; exact (Jt.newAt _ _ _ _ _ rfl).alloc _
 have br : Pt w0 (w.heap.size + 1) 0 0 false := by rw [hw0]; exact Pt.zeroAt _ _ (by simp)
 have hbw0 : Below w.heap.size w w0 := by rw [hw0]; exact bAlloc ((Below.refl _ _).alloc (Nat.le_refl _) _) _
 have hrw : w.heap.size ≤ w.heap.size + 1 := Nat.le_succ _
 rw [← hw0]
 clear hw0
 obtain ⟨q0, q1, q2, q3, q4, q5, q6, q7, q8, q9, q10, q11, qf⟩ := bp.cells
 go_wp2_with fail
 refine (HI.out _).mono ?_
 rintro e w1 ⟨rfl, hb1⟩
 clear q0 q1 q2 q3 q4 q5 q6 q7 q8 q9 q10 q11 qf
 obtain ⟨r0, r1, r2, r3, r4, r5, r6, r7, r8, rf⟩ := (br.belowAll hb1).cells
 go_wp2
 refine bodyPost_ret (v := .agg #[.int .u64 0, .int .u64 0, .int .u64 0, .int .u64 0, .int .u64 0, .int .u64 0, .int .u64 0, .int .u64 0, .bool true]) (by simp [results, Tryz.results73, go_sem, r0, r1, r2, r3, r4, r5, r6, r7, r8]) rfl ⟨rfl, ?_⟩
 exact bSet9 (bStep hbw0 hb1) hrw _ _ _ _ _ _ _ _ _
theorem twice_any (c X Y Z : Nat) (hc : c < 4) (hX : X < 115792089237316195423570985008687907853269984665640564039457584007913129639936) (hY : Y < 115792089237316195423570985008687907853269984665640564039457584007913129639936) (hZ : Z < 115792089237316195423570985008687907853269984665640564039457584007913129639936) (w : World) (hg : Glob w) :
  Calls Tryz.prog 70 #[.agg #[.int .u64 (limb 0 X), .int .u64 (limb 1 X), .int .u64 (limb 2 X), .int .u64 (limb 3 X), .int .u64 (limb 0 Y), .int .u64 (limb 1 Y), .int .u64 (limb 2 Y), .int .u64 (limb 3 Y), .int .u64 (limb 0 Z), .int .u64 (limb 1 Z), .int .u64 (limb 2 Z), .int .u64 (limb 3 Z)], .int .i64 (c : Int)] w fun e w' => e = .returned (.agg #[.int .u64 (limb 0 ((tw c X Y Z).1)), .int .u64 (limb 1 ((tw c X Y Z).1)), .int .u64 (limb 2 ((tw c X Y Z).1)), .int .u64 (limb 3 ((tw c X Y Z).1)), .int .u64 (limb 0 ((tw c X Y Z).2.1)), .int .u64 (limb 1 ((tw c X Y Z).2.1)), .int .u64 (limb 2 ((tw c X Y Z).2.1)), .int .u64 (limb 3 ((tw c X Y Z).2.1)), .int .u64 (limb 0 ((tw c X Y Z).2.2)), .int .u64 (limb 1 ((tw c X Y Z).2.2)), .int .u64 (limb 2 ((tw c X Y Z).2.2)), .int .u64 (limb 3 ((tw c X Y Z).2.2))]) ∧ Below w.heap.size w w' := by
 by_cases h : Z = 0
 ·refine (twice_inf X Y Z h (c : Int) w).mono ?_
  rintro e w' ⟨rfl, hb⟩
  refine ⟨?_, hb⟩
  unfold tw
  rw [if_pos h]
 ·refine (twice_fin c X Y Z hc hX hY hZ h w hg).mono ?_
  rintro e w' ⟨rfl, hb⟩
  refine ⟨?_, hb⟩
  unfold tw
  rw [if_neg h]
theorem plus_any (c X Y Z U V T : Nat) (hc : c < 4) (hX : X < 115792089237316195423570985008687907853269984665640564039457584007913129639936) (hY : Y < 115792089237316195423570985008687907853269984665640564039457584007913129639936) (hZ : Z < 115792089237316195423570985008687907853269984665640564039457584007913129639936) (hU : U < 115792089237316195423570985008687907853269984665640564039457584007913129639936) (hV : V < 115792089237316195423570985008687907853269984665640564039457584007913129639936) (hT : T < 115792089237316195423570985008687907853269984665640564039457584007913129639936) (w : World) (hg : Glob w) :
  Calls Tryz.prog 72 #[.agg #[.int .u64 (limb 0 X), .int .u64 (limb 1 X), .int .u64 (limb 2 X), .int .u64 (limb 3 X), .int .u64 (limb 0 Y), .int .u64 (limb 1 Y), .int .u64 (limb 2 Y), .int .u64 (limb 3 Y), .int .u64 (limb 0 Z), .int .u64 (limb 1 Z), .int .u64 (limb 2 Z), .int .u64 (limb 3 Z)], .int .i64 (c : Int), .agg #[.int .u64 (limb 0 U), .int .u64 (limb 1 U), .int .u64 (limb 2 U), .int .u64 (limb 3 U), .int .u64 (limb 0 V), .int .u64 (limb 1 V), .int .u64 (limb 2 V), .int .u64 (limb 3 V), .int .u64 (limb 0 T), .int .u64 (limb 1 T), .int .u64 (limb 2 T), .int .u64 (limb 3 T)]] w fun e w' => e = .returned (.agg #[.int .u64 (limb 0 ((pl c X Y Z U V T).1)), .int .u64 (limb 1 ((pl c X Y Z U V T).1)), .int .u64 (limb 2 ((pl c X Y Z U V T).1)), .int .u64 (limb 3 ((pl c X Y Z U V T).1)), .int .u64 (limb 0 ((pl c X Y Z U V T).2.1)), .int .u64 (limb 1 ((pl c X Y Z U V T).2.1)), .int .u64 (limb 2 ((pl c X Y Z U V T).2.1)), .int .u64 (limb 3 ((pl c X Y Z U V T).2.1)), .int .u64 (limb 0 ((pl c X Y Z U V T).2.2)), .int .u64 (limb 1 ((pl c X Y Z U V T).2.2)), .int .u64 (limb 2 ((pl c X Y Z U V T).2.2)), .int .u64 (limb 3 ((pl c X Y Z U V T).2.2))]) ∧ Below w.heap.size w w' := by
 by_cases h : Z = 0
 ·refine (plus_inf X Y Z U V T h (c : Int) w).mono ?_
  rintro e w' ⟨rfl, hb⟩
  refine ⟨?_, hb⟩
  unfold pl
  rw [if_pos h]
 ·by_cases h2 : T = 0
  ·refine (plus_infq X Y Z U V T hZ h h2 (c : Int) w).mono ?_
   rintro e w' ⟨rfl, hb⟩
   refine ⟨?_, hb⟩
   unfold pl
   rw [if_neg h, if_pos h2]
  ·exact plus_fin c X Y Z U V T hc hX hY hZ hU hV hT h h2 w hg
theorem plain_any (c X Y Z x y : Nat) (i : Bool) (hc : c < 4) (hon : onC c x y i) (hJ : JR c X Y Z x y i) (w : World) (hg : GlobC w) :
  Calls Tryz.prog 73 #[.agg #[.int .u64 (limb 0 X), .int .u64 (limb 1 X), .int .u64 (limb 2 X), .int .u64 (limb 3 X), .int .u64 (limb 0 Y), .int .u64 (limb 1 Y), .int .u64 (limb 2 Y), .int .u64 (limb 3 Y), .int .u64 (limb 0 Z), .int .u64 (limb 1 Z), .int .u64 (limb 2 Z), .int .u64 (limb 3 Z)], .int .i64 (c : Int)] w fun e w' => e = .returned (.agg #[.int .u64 (limb 0 x), .int .u64 (limb 1 x), .int .u64 (limb 2 x), .int .u64 (limb 3 x), .int .u64 (limb 0 y), .int .u64 (limb 1 y), .int .u64 (limb 2 y), .int .u64 (limb 3 y), .bool i]) ∧ Below w.heap.size w w' := by
 cases i with
 | true =>
  obtain ⟨rfl, rfl⟩ := on_inf hon
  obtain ⟨_, _, _, h | h⟩ := hJ
  ·exact plain_inf X Y Z h.2 (c : Int) w
  ·cases h.1
 | false =>
  obtain ⟨z0, e1, e2⟩ := plain_ok hon hJ
  have h := plain_fin c X Y Z hc (lt_M c _ hJ.1) (lt_M c _ hJ.2.1) (lt_M c _ hJ.2.2.1) z0 w hg
  unfold plainX at e1
  unfold plainY at e2
  rw [e1, e2] at h
  exact h
def dblPt (c : Nat) (Q : Nat × Nat × Bool) : Nat × Nat × Bool := sumPt c Q.1 Q.2.1 Q.2.2 Q.1 Q.2.1 Q.2.2
def stepPt (c x y : Nat) (i b : Bool) (Q : Nat × Nat × Bool) : Nat × Nat × Bool := if b then sumPt c (dblPt c Q).1 (dblPt c Q).2.1 (dblPt c Q).2.2 x y i else dblPt c Q
def mulUp (c x y : Nat) (i : Bool) (k : Nat) : Nat → Nat × Nat × Bool
 | 0 => (0, 0, true)
 | j + 1 => stepPt c x y i (decide (bitN k (255 - j) = 1)) (mulUp c x y i k j)
theorem dbl_on {c : Nat} {Q : Nat × Nat × Bool} (h : onC c Q.1 Q.2.1 Q.2.2) : onC c (dblPt c Q).1 (dblPt c Q).2.1 (dblPt c Q).2.2 := sum_onC h h
theorem mulUp_on {c x y : Nat} {i : Bool} (k : Nat) (h : onC c x y i) : ∀ j, onC c (mulUp c x y i k j).1 (mulUp c x y i k j).2.1 (mulUp c x y i k j).2.2
 | 0 => Or.inl ⟨rfl, rfl, rfl⟩
 | j + 1 => by
  have ih := mulUp_on k h j
  show onC c (stepPt c x y i (decide (bitN k (255 - j) = 1)) (mulUp c x y i k j)).1 (stepPt c x y i (decide (bitN k (255 - j) = 1)) (mulUp c x y i k j)).2.1 (stepPt c x y i (decide (bitN k (255 - j) = 1)) (mulUp c x y i k j)).2.2
  unfold stepPt
  split
  ·exact sum_onC (dbl_on ih) h
  ·exact dbl_on ih
theorem on_lt {c x y : Nat} {i : Bool} (h : onC c x y i) : x < modN c ∧ y < modN c := by
 rcases h with ⟨h1, h2, _⟩ | ⟨_, h1, h2, _⟩
 ·rw [h1, h2]; exact ⟨modN_pos c, modN_pos c⟩
 ·exact ⟨h1, h2⟩
def ofJ (x y : Nat) (i : Bool) : Nat × Nat × Nat := if i then (0, 0, 0) else (x, y, 1)
theorem jof_any (x y : Nat) (i : Bool) (w : World) : Calls Tryz.prog 69 #[.agg #[.int .u64 (limb 0 x), .int .u64 (limb 1 x), .int .u64 (limb 2 x), .int .u64 (limb 3 x), .int .u64 (limb 0 y), .int .u64 (limb 1 y), .int .u64 (limb 2 y), .int .u64 (limb 3 y), .bool i]] w fun e w' => e = .returned (.agg #[.int .u64 (limb 0 ((ofJ x y i).1)), .int .u64 (limb 1 ((ofJ x y i).1)), .int .u64 (limb 2 ((ofJ x y i).1)), .int .u64 (limb 3 ((ofJ x y i).1)), .int .u64 (limb 0 ((ofJ x y i).2.1)), .int .u64 (limb 1 ((ofJ x y i).2.1)), .int .u64 (limb 2 ((ofJ x y i).2.1)), .int .u64 (limb 3 ((ofJ x y i).2.1)), .int .u64 (limb 0 ((ofJ x y i).2.2)), .int .u64 (limb 1 ((ofJ x y i).2.2)), .int .u64 (limb 2 ((ofJ x y i).2.2)), .int .u64 (limb 3 ((ofJ x y i).2.2))]) ∧ Below w.heap.size w w' := by
 cases i with
 | true => exact jof_inf x y w
 | false => exact jof_fin x y w
theorem one_Z (n : Nat) [NeZero n] (a : Fin n) : a * 1 * 1 = a ∧ a * 1 * 1 * 1 = a := by constructor <;> grind
theorem ofJ_ok {c x y : Nat} {i : Bool} (h : onC c x y i) : JR c (ofJ x y i).1 (ofJ x y i).2.1 (ofJ x y i).2.2 x y i := by
 cases i with
 | true => exact ⟨modN_pos c, modN_pos c, modN_pos c, Or.inl ⟨rfl, rfl⟩⟩
 | false =>
  have hl := on_lt h
  refine ⟨hl.1, hl.2, (modN_odd c).2, Or.inr ⟨rfl, Nat.one_ne_zero, ?_, ?_⟩⟩
  ·show fz c x = fz c x * fz c 1 * fz c 1
   rw [fz_one, (one_Z _ _).1]
  ·show fz c y = fz c y * fz c 1 * fz c 1 * fz c 1
   rw [fz_one, (one_Z _ _).2]
end Go.Proofs.YtdeijnlbencfdaaGreatDoor
namespace Go.Proofs.YtdeijnlbencfdaaGreatDoor
open Go.RowKit
def xc (c : Nat) : Nat := if c % 2 = 0 then c + 1 else c - 1
theorem xc_lt {c : Nat} (h : c < 4) : xc c < 4 := by unfold xc; split <;> omega
theorem xor_c (c : Nat) (h : c < 4) : bits BinOp.xor IntKind.i64 (c : Int) 1 = ((xc c : Nat) : Int) := by
 have : c = 0 ∨ c = 1 ∨ c = 2 ∨ c = 3 := by omega
 rcases this with rfl | rfl | rfl | rfl <;> decide
end Go.Proofs.YtdeijnlbencfdaaGreatDoor
namespace Go.Proofs.YtdeijnlbencfdaaGreatDoor
def oT : Nat × Nat × Bool := (0, 0, true)
def onT (c : Nat) (Q : Nat × Nat × Bool) : Prop := onC c Q.1 Q.2.1 Q.2.2
def ad (c : Nat) (Q R : Nat × Nat × Bool) : Nat × Nat × Bool := sumPt c Q.1 Q.2.1 Q.2.2 R.1 R.2.1 R.2.2
section
variable {c : Nat} {Q R S : Nat × Nat × Bool}
theorem oT_on : onT c oT := Or.inl ⟨rfl, rfl, rfl⟩
theorem ad_on (h1 : onT c Q) (h2 : onT c R) : onT c (ad c Q R) := sum_onC h1 h2
theorem ad_comm (h1 : onT c Q) (h2 : onT c R) : ad c Q R = ad c R Q := sum_comm h1 h2
theorem ad_assoc (h1 : onT c Q) (h2 : onT c R) (h3 : onT c S) : ad c (ad c Q R) S = ad c Q (ad c R S) := sum_assoc h1 h2 h3
theorem o_ad : ad c oT Q = Q := by
 obtain ⟨x, y, i⟩ := Q
 exact inf_fin
theorem ad_o (h : onT c Q) : ad c Q oT = Q := by rw [ad_comm h oT_on, o_ad]
end
def sm (c : Nat) (Q : Nat × Nat × Bool) : Nat → Nat × Nat × Bool
 | 0 => oT
 | n + 1 => ad c (sm c Q n) Q
section
variable {c : Nat} {Q R : Nat × Nat × Bool}
theorem sm_on (h : onT c Q) : ∀ n, onT c (sm c Q n)
 | 0 => oT_on
 | n + 1 => ad_on (sm_on h n) h
theorem sm_one : sm c Q 1 = Q := o_ad
theorem sm_add (h : onT c Q) (a : Nat) : ∀ b, sm c Q (a + b) = ad c (sm c Q a) (sm c Q b)
 | 0 => (ad_o (sm_on h a)).symm
 | b + 1 => by
  show ad c (sm c Q (a + b)) Q = ad c (sm c Q a) (ad c (sm c Q b) Q)
  rw [sm_add h a b, ad_assoc (sm_on h a) (sm_on h b) h]
theorem sm_mul (h : onT c Q) (a : Nat) : ∀ b, sm c (sm c Q a) b = sm c Q (a * b)
 | 0 => rfl
 | b + 1 => by
  show ad c (sm c (sm c Q a) b) (sm c Q a) = sm c Q (a * (b + 1))
  rw [sm_mul h a b, Nat.mul_succ, sm_add h]
theorem sm_o : ∀ n, sm c oT n = oT
 | 0 => rfl
 | n + 1 => by
  show ad c (sm c oT n) oT = oT
  rw [sm_o n, o_ad]
end
theorem mulUp_sm {c x y : Nat} {i : Bool} (h : onC c x y i) (k : Nat) (hk : k < 2 ^ 256) : ∀ j, j ≤ 256 → mulUp c x y i k j = sm c (x, y, i) (k / 2 ^ (256 - j))
 | 0, _ => by
  rw [Nat.sub_zero, Nat.div_eq_of_lt hk]
  rfl
 | j + 1, hj => by
  have ih := mulUp_sm h k hk j (by omega)
  have hP : onT c (x, y, i) := h
  have hb := bit_halves k (256 - (j + 1))
  rw [show 256 - (j + 1) + 1 = 256 - j from by omega] at hb
  show stepPt c x y i (decide (bitN k (255 - j) = 1)) (mulUp c x y i k j) = _
  rw [ih, show 255 - j = 256 - (j + 1) from by omega, hb]
  generalize k / 2 ^ (256 - j) = n
  have hd : dblPt c (sm c (x, y, i) n) = sm c (x, y, i) (2 * n) := by
   rw [Nat.two_mul, sm_add hP]
   rfl
  unfold stepPt
  rw [hd]
  rcases bitN_01 k (256 - (j + 1)) with e | e
  ·rw [e, decide_eq_false (by decide), Nat.add_zero]
   rfl
  ·rw [e, decide_eq_true rfl]
   rfl
theorem mulUp_all {c x y : Nat} {i : Bool} (h : onC c x y i) (k : Nat) (hk : k < 2 ^ 256) : mulUp c x y i k 256 = sm c (x, y, i) k := by
 rw [mulUp_sm h k hk 256 (Nat.le_refl _), Nat.sub_self, Nat.pow_zero, Nat.div_one]
def place (c : Nat) (Q : Nat × Nat × Bool) : Nat := if Q.2.2 = true then 2 * modN c else 2 * Q.1 + Q.2.1 % 2
def gx : Nat → Nat
 | 0 => 1
 | 1 => 1
 | 2 => 28948022309329048855892746252171976963363056481941560715954676764349967630336
 | _ => 28948022309329048855892746252171976963363056481941647379679742748393362948096
def gy : Nat → Nat
 | 0 => 2487377
 | 1 => 7286451
 | _ => 2
end Go.Proofs.YtdeijnlbencfdaaGreatDoor
