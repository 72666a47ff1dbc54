import Derived.Test.YtokoknacolmhgaaGreatDoorWM3
import Derived.Test.YtokoknacolmhgaaGreatDoorWM5
import Derived.Test.YtokoknacolmhgaaGreatDoorWXH
set_option maxHeartbeats 16000000
namespace Go.Proofs.YtokoknacolmhgaaGreatDoor
open Go.RowKit
theorem pk2 (w : World) (a b : Nat) : ∃ (w' : World) (N M : Nat), w.heap.size = N ∧ w.heap.size + 1 = M ∧ (w.alloc (.cells #[.int .u64 (limb 0 a), .int .u64 (limb 1 a), .int .u64 (limb 2 a), .int .u64 (limb 3 a)] 28)).alloc (.cells #[.int .u64 (limb 0 b), .int .u64 (limb 1 b), .int .u64 (limb 2 b), .int .u64 (limb 3 b)] 28) = w' ∧ Below w.heap.size w w' ∧ Blk w' 28 N (fun i => limb i a) ∧ Blk w' 28 M (fun i => limb i b) :=
 ⟨_, _, _, rfl, rfl, rfl, bAlloc ((Below.refl _ _).alloc (Nat.le_refl _) _) _, (Blk.newAt _ _ _ (fun i => limb i a) rfl).alloc _, Blk.newAt _ _ _ (fun i => limb i b) (by simp)⟩
theorem ov_M {c X z : Nat} (h : X < 115792089237316195423570985008687907853269984665640564039457584007913129639936) : ovX c X z < 115792089237316195423570985008687907853269984665640564039457584007913129639936 ∧ ovY c X z < 115792089237316195423570985008687907853269984665640564039457584007913129639936 := by
 unfold ovX ovY
 constructor <;> split
 ·exact h
 ·exact mulP_M _ _ _
 ·exact h
 ·exact mulP_M _ _ _
theorem prd_M {c a b : Nat} (h : a < 115792089237316195423570985008687907853269984665640564039457584007913129639936) : prd c a b < 115792089237316195423570985008687907853269984665640564039457584007913129639936 := by
 unfold prd
 split
 ·exact h
 ·exact mulP_M _ _ _
set_option maxRecDepth 20000 in
theorem plus_fin (c X Y Z U V W : Nat) (hc : c < 4) (hX : X < 115792089237316195423570985008687907853269984665640564039457584007913129639936) (hY : Y < 115792089237316195423570985008687907853269984665640564039457584007913129639936) (hZ : Z < 115792089237316195423570985008687907853269984665640564039457584007913129639936) (hU : U < 115792089237316195423570985008687907853269984665640564039457584007913129639936) (hV : V < 115792089237316195423570985008687907853269984665640564039457584007913129639936) (hW : W < 115792089237316195423570985008687907853269984665640564039457584007913129639936) (z0 : ¬ Z = 0) (w0' : ¬ W = 0) (w : World) (hg : Glob w) :
  Calls Tryz.prog 56 #[.agg #[.int .u64 (limb 0 X), .int .u64 (limb 1 X), .int .u64 (limb 2 X), .int .u64 (limb 3 X), .int .u64 (limb 0 Y), .int .u64 (limb 1 Y), .int .u64 (limb 2 Y), .int .u64 (limb 3 Y), .int .u64 (limb 0 Z), .int .u64 (limb 1 Z), .int .u64 (limb 2 Z), .int .u64 (limb 3 Z)], .int .i64 (c : Int), .agg #[.int .u64 (limb 0 U), .int .u64 (limb 1 U), .int .u64 (limb 2 U), .int .u64 (limb 3 U), .int .u64 (limb 0 V), .int .u64 (limb 1 V), .int .u64 (limb 2 V), .int .u64 (limb 3 V), .int .u64 (limb 0 W), .int .u64 (limb 1 W), .int .u64 (limb 2 W), .int .u64 (limb 3 W)]] w fun e w' => e = .returned (.agg #[.int .u64 (limb 0 ((pl c X Y Z U V W).1)), .int .u64 (limb 1 ((pl c X Y Z U V W).1)), .int .u64 (limb 2 ((pl c X Y Z U V W).1)), .int .u64 (limb 3 ((pl c X Y Z U V W).1)), .int .u64 (limb 0 ((pl c X Y Z U V W).2.1)), .int .u64 (limb 1 ((pl c X Y Z U V W).2.1)), .int .u64 (limb 2 ((pl c X Y Z U V W).2.1)), .int .u64 (limb 3 ((pl c X Y Z U V W).2.1)), .int .u64 (limb 0 ((pl c X Y Z U V W).2.2)), .int .u64 (limb 1 ((pl c X Y Z U V W).2.2)), .int .u64 (limb 2 ((pl c X Y Z U V W).2.2)), .int .u64 (limb 3 ((pl c X Y Z U V W).2.2))]) ∧ Below w.heap.size w w' := by
 have HG0 : Hid (Glob w) := hg
 have HI1 : Hid (∀ w, _) := fun w => isInf_any X Y Z hZ w
 have HI2 : Hid (∀ w, _) := fun w => isInf_any U V W hW w
 rw [decide_eq_false z0] at HI1
 rw [decide_eq_false w0'] at HI2
 have HV1 : Hid (rnJ c X U Z W ≠ 0 → (.agg #[.int .u64 (limb 0 ((pl c X Y Z U V W).1)), .int .u64 (limb 1 ((pl c X Y Z U V W).1)), .int .u64 (limb 2 ((pl c X Y Z U V W).1)), .int .u64 (limb 3 ((pl c X Y Z U V W).1)), .int .u64 (limb 0 ((pl c X Y Z U V W).2.1)), .int .u64 (limb 1 ((pl c X Y Z U V W).2.1)), .int .u64 (limb 2 ((pl c X Y Z U V W).2.1)), .int .u64 (limb 3 ((pl c X Y Z U V W).2.1)), .int .u64 (limb 0 ((pl c X Y Z U V W).2.2)), .int .u64 (limb 1 ((pl c X Y Z U V W).2.2)), .int .u64 (limb 2 ((pl c X Y Z U V W).2.2)), .int .u64 (limb 3 ((pl c X Y Z U V W).2.2))] : Value) = .agg #[.int .u64 (limb 0 ((cX c (ovX c X W) (rsJ c Y V Z W) (rnJ c X U Z W)))), .int .u64 (limb 1 ((cX c (ovX c X W) (rsJ c Y V Z W) (rnJ c X U Z W)))), .int .u64 (limb 2 ((cX c (ovX c X W) (rsJ c Y V Z W) (rnJ c X U Z W)))), .int .u64 (limb 3 ((cX c (ovX c X W) (rsJ c Y V Z W) (rnJ c X U Z W)))), .int .u64 (limb 0 ((cY c (ovX c X W) (ovY c Y W) (rsJ c Y V Z W) (rnJ c X U Z W)))), .int .u64 (limb 1 ((cY c (ovX c X W) (ovY c Y W) (rsJ c Y V Z W) (rnJ c X U Z W)))), .int .u64 (limb 2 ((cY c (ovX c X W) (ovY c Y W) (rsJ c Y V Z W) (rnJ c X U Z W)))), .int .u64 (limb 3 ((cY c (ovX c X W) (ovY c Y W) (rsJ c Y V Z W) (rnJ c X U Z W)))), .int .u64 (limb 0 ((mulP c (prd c Z W) (rnJ c X U Z W)))), .int .u64 (limb 1 ((mulP c (prd c Z W) (rnJ c X U Z W)))), .int .u64 (limb 2 ((mulP c (prd c Z W) (rnJ c X U Z W)))), .int .u64 (limb 3 ((mulP c (prd c Z W) (rnJ c X U Z W))))]) := fun h => by unfold pl; rw [if_neg z0, if_neg w0', if_pos h]
 have HV2 : Hid (rnJ c X U Z W = 0 → rsJ c Y V Z W ≠ 0 → (.agg #[.int .u64 (limb 0 ((pl c X Y Z U V W).1)), .int .u64 (limb 1 ((pl c X Y Z U V W).1)), .int .u64 (limb 2 ((pl c X Y Z U V W).1)), .int .u64 (limb 3 ((pl c X Y Z U V W).1)), .int .u64 (limb 0 ((pl c X Y Z U V W).2.1)), .int .u64 (limb 1 ((pl c X Y Z U V W).2.1)), .int .u64 (limb 2 ((pl c X Y Z U V W).2.1)), .int .u64 (limb 3 ((pl c X Y Z U V W).2.1)), .int .u64 (limb 0 ((pl c X Y Z U V W).2.2)), .int .u64 (limb 1 ((pl c X Y Z U V W).2.2)), .int .u64 (limb 2 ((pl c X Y Z U V W).2.2)), .int .u64 (limb 3 ((pl c X Y Z U V W).2.2))] : Value) = .agg #[.int .u64 0, .int .u64 0, .int .u64 0, .int .u64 0, .int .u64 0, .int .u64 0, .int .u64 0, .int .u64 0, .int .u64 0, .int .u64 0, .int .u64 0, .int .u64 0]) := fun h h2 => by unfold pl; rw [if_neg z0, if_neg w0', if_neg (fun k => k h), if_pos h2, limb_zero, limb_zero, limb_zero, limb_zero]; rfl
 have HV3 : Hid (rnJ c X U Z W = 0 → rsJ c Y V Z W = 0 → (.agg #[.int .u64 (limb 0 ((pl c X Y Z U V W).1)), .int .u64 (limb 1 ((pl c X Y Z U V W).1)), .int .u64 (limb 2 ((pl c X Y Z U V W).1)), .int .u64 (limb 3 ((pl c X Y Z U V W).1)), .int .u64 (limb 0 ((pl c X Y Z U V W).2.1)), .int .u64 (limb 1 ((pl c X Y Z U V W).2.1)), .int .u64 (limb 2 ((pl c X Y Z U V W).2.1)), .int .u64 (limb 3 ((pl c X Y Z U V W).2.1)), .int .u64 (limb 0 ((pl c X Y Z U V W).2.2)), .int .u64 (limb 1 ((pl c X Y Z U V W).2.2)), .int .u64 (limb 2 ((pl c X Y Z U V W).2.2)), .int .u64 (limb 3 ((pl c X Y Z U V W).2.2))] : Value) = .agg #[.int .u64 (limb 0 ((jX2 c X Y))), .int .u64 (limb 1 ((jX2 c X Y))), .int .u64 (limb 2 ((jX2 c X Y))), .int .u64 (limb 3 ((jX2 c X Y))), .int .u64 (limb 0 ((jY2 c X Y))), .int .u64 (limb 1 ((jY2 c X Y))), .int .u64 (limb 2 ((jY2 c X Y))), .int .u64 (limb 3 ((jY2 c X Y))), .int .u64 (limb 0 ((jZ2 c Y Z))), .int .u64 (limb 1 ((jZ2 c Y Z))), .int .u64 (limb 2 ((jZ2 c Y Z))), .int .u64 (limb 3 ((jZ2 c Y Z)))]) := fun h h2 => by unfold pl tw; rw [if_neg z0, if_neg w0', if_neg (fun k => k h), if_neg (fun k => k h2), if_neg z0]
 have HO1 : Hid (∀ w, Glob w → _) := fun w hg => over_any c X Y Z W hc hX hY hW w hg
 have HO2 : Hid (∀ w, Glob w → _) := fun w hg => over_any c U V W Z hc hU hV hZ w hg
 have HS1 : Hid (∀ w, Glob w → _) := fun w hg => fSub_any c (ovY c V Z) (ovY c Y W) hc (ov_M hV).2 (ov_M hY).2 w hg
 have HS2 : Hid (∀ w, Glob w → _) := fun w hg => fSub_any c (ovX c U Z) (ovX c X W) hc (ov_M hU).1 (ov_M hX).1 w hg
 have HP : Hid (∀ w, Glob w → _) := fun w hg => jprod_any c Z W hc hZ hW w hg
 have HC : Hid (∀ w, Glob w → _) := fun w hg => chord_any c (ovX c X W) (ovY c Y W) (prd c Z W) (rsJ c Y V Z W) (rnJ c X U Z W) hc (ov_M hX).1 (ov_M hY).2 (prd_M hZ) (subP_M _ _ _) (subP_M _ _ _) w hg
 have HT : Hid (∀ w, Glob w → _) := fun w hg => twice_fin c X Y Z hc hX hY hZ z0 w hg
 have Q1 := fun w => neqZ (rnJ c X U Z W) (subP_M _ _ _) w
 have Q2 := fun w => neqZ (rsJ c Y V Z W) (subP_M _ _ _) w
 obtain ⟨Va, eVa⟩ : ∃ V' : Value, V' = .agg #[.int .u64 (limb 0 ((pl c X Y Z U V W).1)), .int .u64 (limb 1 ((pl c X Y Z U V W).1)), .int .u64 (limb 2 ((pl c X Y Z U V W).1)), .int .u64 (limb 3 ((pl c X Y Z U V W).1)), .int .u64 (limb 0 ((pl c X Y Z U V W).2.1)), .int .u64 (limb 1 ((pl c X Y Z U V W).2.1)), .int .u64 (limb 2 ((pl c X Y Z U V W).2.1)), .int .u64 (limb 3 ((pl c X Y Z U V W).2.1)), .int .u64 (limb 0 ((pl c X Y Z U V W).2.2)), .int .u64 (limb 1 ((pl c X Y Z U V W).2.2)), .int .u64 (limb 2 ((pl c X Y Z U V W).2.2)), .int .u64 (limb 3 ((pl c X Y Z U V W).2.2))] := ⟨_, rfl⟩
 rw [← eVa] at HV1 HV2 HV3 ⊢
 obtain ⟨rs, ers⟩ : ∃ x, x = rsJ c Y V Z W := ⟨_, rfl⟩
 obtain ⟨rn, ern⟩ : ∃ x, x = rnJ c X U Z W := ⟨_, rfl⟩
 have HS1' : Hid (∀ w, Glob w → Calls Tryz.prog 45 #[.int .i64 (c : Int), .agg #[.int .u64 (limb 0 (ovY c V Z)), .int .u64 (limb 1 (ovY c V Z)), .int .u64 (limb 2 (ovY c V Z)), .int .u64 (limb 3 (ovY c V Z))], .agg #[.int .u64 (limb 0 (ovY c Y W)), .int .u64 (limb 1 (ovY c Y W)), .int .u64 (limb 2 (ovY c Y W)), .int .u64 (limb 3 (ovY c Y W))]] w fun e w' => e = .returned (.agg #[.int .u64 (limb 0 rs), .int .u64 (limb 1 rs), .int .u64 (limb 2 rs), .int .u64 (limb 3 rs)]) ∧ Below w.heap.size w w') := by rw [ers]; exact HS1
 have HS2' : Hid (∀ w, Glob w → Calls Tryz.prog 45 #[.int .i64 (c : Int), .agg #[.int .u64 (limb 0 (ovX c U Z)), .int .u64 (limb 1 (ovX c U Z)), .int .u64 (limb 2 (ovX c U Z)), .int .u64 (limb 3 (ovX c U Z))], .agg #[.int .u64 (limb 0 (ovX c X W)), .int .u64 (limb 1 (ovX c X W)), .int .u64 (limb 2 (ovX c X W)), .int .u64 (limb 3 (ovX c X W))]] w fun e w' => e = .returned (.agg #[.int .u64 (limb 0 rn), .int .u64 (limb 1 rn), .int .u64 (limb 2 rn), .int .u64 (limb 3 rn)]) ∧ Below w.heap.size w w') := by rw [ern]; exact HS2
 rw [← ers] at HV1 HV2 HV3 HC Q2
 rw [← ern] at HV1 HV2 HV3 HC Q1
 obtain ⟨ax, eax⟩ : ∃ x, x = ovX c X W := ⟨_, rfl⟩
 obtain ⟨ay, eay⟩ : ∃ x, x = ovY c Y W := ⟨_, rfl⟩
 obtain ⟨bx, ebx⟩ : ∃ x, x = ovX c U Z := ⟨_, rfl⟩
 obtain ⟨by', eby⟩ : ∃ x, x = ovY c V Z := ⟨_, rfl⟩
 obtain ⟨pz, epz⟩ : ∃ x, x = prd c Z W := ⟨_, rfl⟩
 rw [← eax] at HV1 HO1 HS2' HC
 rw [← eay] at HV1 HO1 HS1' HC
 rw [← ebx] at HO2 HS2'
 rw [← eby] at HO2 HS1'
 rw [← epz] at HV1 HP HC
 obtain ⟨x1, e1⟩ : ∃ x, x = cX c ax rs rn := ⟨_, rfl⟩
 obtain ⟨y1, e2⟩ : ∃ x, x = cY c ax ay rs rn := ⟨_, rfl⟩
 obtain ⟨z1, e3⟩ : ∃ x, x = mulP c pz rn := ⟨_, rfl⟩
 rw [← e1, ← e2, ← e3] at HV1 HC
 obtain ⟨x2, e4⟩ : ∃ x, x = jX2 c X Y := ⟨_, rfl⟩
 obtain ⟨y2, e5⟩ : ∃ x, x = jY2 c X Y := ⟨_, rfl⟩
 obtain ⟨z2, e6⟩ : ∃ x, x = jZ2 c Y Z := ⟨_, rfl⟩
 rw [← e4, ← e5, ← e6] at HV3 HT
 clear HS1 HS2 eVa ers ern eax eay ebx eby epz e1 e2 e3 e4 e5 e6 hg hX hY hZ hU hV hW z0 w0'
 go_enter Tryz.func56, Tryz.ntmps56
 go_upto_region 1 with fail
 obtain ⟨w0, hw0⟩ : ∃ w0 : World, w0 = ((w.alloc (.cells #[.int .u64 (limb 0 X), .int .u64 (limb 1 X), .int .u64 (limb 2 X), .int .u64 (limb 3 X), .int .u64 (limb 0 Y), .int .u64 (limb 1 Y), .int .u64 (limb 2 Y), .int .u64 (limb 3 Y), .int .u64 (limb 0 Z), .int .u64 (limb 1 Z), .int .u64 (limb 2 Z), .int .u64 (limb 3 Z)] 76)).alloc (.cells #[.int .u64 (limb 0 U), .int .u64 (limb 1 U), .int .u64 (limb 2 U), .int .u64 (limb 3 U), .int .u64 (limb 0 V), .int .u64 (limb 1 V), .int .u64 (limb 2 V), .int .u64 (limb 3 V), .int .u64 (limb 0 W), .int .u64 (limb 1 W), .int .u64 (limb 2 W), .int .u64 (limb 3 W)] 76)).alloc (.cells #[.int .u64 0, .int .u64 0, .int .u64 0, .int .u64 0, .int .u64 0, .int .u64 0, .int .u64 0, .int .u64 0, .int .u64 0, .int .u64 0, .int .u64 0, .int .u64 0] 76) := ⟨_, rfl⟩
 have bp0 : Jt w0 w.heap.size X Y Z := by rw [hw0]; exact ((Jt.newAt _ _ _ _ _ rfl).alloc _).alloc _
 have bq0 : Jt w0 (w.heap.size + 1) U V W := by rw [hw0]; exact (Jt.newAt _ _ _ _ _ (by simp)).alloc _
 have br0 : Jt w0 (w.heap.size + 1 + 1) 0 0 0 := by rw [hw0]; exact Jt.zeroAt _ _ (by simp)
 have hbw0 : Below w.heap.size w w0 := by rw [hw0]; exact bAlloc (bAlloc ((Below.refl _ _).alloc (Nat.le_refl _) _) _) _
 have hrw : w.heap.size ≤ w.heap.size + 1 + 1 := by omega
 rw [← hw0]
 clear hw0
 obtain ⟨q0, q1, q2, q3, q4, q5, q6, q7, q8, q9, q10, q11, qf⟩ := bp0.cells
 obtain ⟨p0, p1, p2, p3, p4, p5, p6, p7, p8, p9, p10, p11, pf⟩ := bq0.cells
 go_wp2_with fail
 refine (HI1.out _).mono ?_
 rintro e w1 ⟨rfl, hbx⟩
 clear q0 q1 q2 q3 q4 q5 q6 q7 q8 q9 q10 q11 qf p0 p1 p2 p3 p4 p5 p6 p7 p8 p9 p10 p11 pf
 have bp1 := bp0.belowAll hbx
 have bq1 := bq0.belowAll hbx
 have br1 := br0.belowAll hbx
 have hbw1 := bStep hbw0 hbx
 clear bp0 bq0 br0  hbw0 hbx
 obtain ⟨q0, q1, q2, q3, q4, q5, q6, q7, q8, q9, q10, q11, qf⟩ := bp1.cells
 obtain ⟨p0, p1, p2, p3, p4, p5, p6, p7, p8, p9, p10, p11, pf⟩ := bq1.cells
 go_wp2_with fail
 refine (HI2.out _).mono ?_
 rintro e w2 ⟨rfl, hbx⟩
 clear q0 q1 q2 q3 q4 q5 q6 q7 q8 q9 q10 q11 qf p0 p1 p2 p3 p4 p5 p6 p7 p8 p9 p10 p11 pf
 have bp2 := bp1.belowAll hbx
 have bq2 := bq1.belowAll hbx
 have br2 := br1.belowAll hbx
 have hbw2 := bStep hbw1 hbx
 clear bp1 bq1 br1  hbw1 hbx
 obtain ⟨q0, q1, q2, q3, q4, q5, q6, q7, q8, q9, q10, q11, qf⟩ := bp2.cells
 obtain ⟨p0, p1, p2, p3, p4, p5, p6, p7, p8, p9, p10, p11, pf⟩ := bq2.cells
 go_wp2_with fail
 refine (HO1.out _ (HG0.out.below hbw2)).mono ?_
 rintro e w3 ⟨rfl, hbx⟩
 clear q0 q1 q2 q3 q4 q5 q6 q7 q8 q9 q10 q11 qf p0 p1 p2 p3 p4 p5 p6 p7 p8 p9 p10 p11 pf
 have bp3 := bp2.belowAll hbx
 have bq3 := bq2.belowAll hbx
 have br3 := br2.belowAll hbx
 have hbw3 := bStep hbw2 hbx
 clear bp2 bq2 br2  hbw2 hbx
 clear HI1 HI2 HO1
 go_upto_region 6 with fail
 obtain ⟨w4, N7, N8, hN1, hN2, hw, hbx, v7_4, v8_4⟩ := pk2 w3 ax ay
 rw [hw, hN2, hN1]
 clear hw hN1 hN2
 have bp4 := bp3.belowAll hbx
 have bq4 := bq3.belowAll hbx
 have br4 := br3.belowAll hbx
 have hbw4 := bStep hbw3 hbx
 clear bp3 bq3 br3  hbw3 hbx
 obtain ⟨q0, q1, q2, q3, q4, q5, q6, q7, q8, q9, q10, q11, qf⟩ := bp4.cells
 obtain ⟨p0, p1, p2, p3, p4, p5, p6, p7, p8, p9, p10, p11, pf⟩ := bq4.cells
 go_wp2_with fail
 refine (HO2.out _ (HG0.out.below hbw4)).mono ?_
 rintro e w5 ⟨rfl, hbx⟩
 clear q0 q1 q2 q3 q4 q5 q6 q7 q8 q9 q10 q11 qf p0 p1 p2 p3 p4 p5 p6 p7 p8 p9 p10 p11 pf
 have bp5 := bp4.belowAll hbx
 have bq5 := bq4.belowAll hbx
 have br5 := br4.belowAll hbx
 have v7_5 := v7_4.belowAll hbx
 have v8_5 := v8_4.belowAll hbx
 have hbw5 := bStep hbw4 hbx
 clear bp4 bq4 br4 v7_4 v8_4 hbw4 hbx
 clear HO2
 go_upto_region 7 with fail
 obtain ⟨w6, N9, N10, hN1, hN2, hw, hbx, v9_6, v10_6⟩ := pk2 w5 bx by'
 rw [hw, hN2, hN1]
 clear hw hN1 hN2
 have bp6 := bp5.belowAll hbx
 have bq6 := bq5.belowAll hbx
 have br6 := br5.belowAll hbx
 have v7_6 := v7_5.belowAll hbx
 have v8_6 := v8_5.belowAll hbx
 have hbw6 := bStep hbw5 hbx
 clear bp5 bq5 br5 v7_5 v8_5 hbw5 hbx
 have HG6 : Hid (Glob w6) := HG0.out.below hbw6
 go_cut [11, 12] (fun p11 p12 wx => ∃ N11 N12 : Nat, p11 = .pointer (some ⟨N11, 0, none⟩) ∧ p12 = .pointer (some ⟨N12, 0, none⟩) ∧ Blk wx 28 N11 (fun i => limb i rs) ∧ Blk wx 28 N12 (fun i => limb i rn) ∧ Below w6.heap.size w6 wx)
 case first =>
  have HS0 : Hid (Below w6.heap.size w6 w6.drew) := (Below.refl _ _).drew
  refine wp_region_Z (fun w' => Kp w6 w') 99 (by kernel_rfl) ?_
  refine zs 0 35 (.int .i64 (c : Int)) (HS0.out) ?_
  refine zT 1 36 (.agg #[.int .u64 (limb 0 by'), .int .u64 (limb 1 by'), .int .u64 (limb 2 by'), .int .u64 (limb 3 by')]) rfl rfl (fun w hSw => by (have qq := (v10_6.belowAll hSw).cell; clear hSw; go_simp)) (HS0.out) ?_
  refine zT 2 37 (.agg #[.int .u64 (limb 0 ay), .int .u64 (limb 1 ay), .int .u64 (limb 2 ay), .int .u64 (limb 3 ay)]) rfl rfl (fun w hSw => by (have qq := (v8_6.belowAll hSw).cell; clear hSw; go_simp)) (HS0.out) ?_
  refine zs 4 39 (.int .i64 (c : Int)) (HS0.out) ?_
  refine zT 5 40 (.agg #[.int .u64 (limb 0 bx), .int .u64 (limb 1 bx), .int .u64 (limb 2 bx), .int .u64 (limb 3 bx)]) rfl rfl (fun w hSw => by (have qq := (v9_6.belowAll hSw).cell; clear hSw; go_simp)) (HS0.out) ?_
  refine zT 6 41 (.agg #[.int .u64 (limb 0 ax), .int .u64 (limb 1 ax), .int .u64 (limb 2 ax), .int .u64 (limb 3 ax)]) rfl rfl (fun w hSw => by (have qq := (v7_6.belowAll hSw).cell; clear hSw; go_simp)) (HS0.out) ?_
  refine wpZ_three (i := 3) (j := 8) (l := 9) (by kernel_rfl) rfl rfl rfl (fun K hK => ?_) (fun K hK => ?_) (fun K hK => ?_) 
  ·go_simp
   refine (HS1'.out w6.drew (HG6.out.below (HS0.out))).mono ?_
   rintro e wK1 ⟨rfl, hbK1⟩
   have hSK1 := bStep HS0.out hbK1
   go_wp2_with fail
   refine hK.out _ _ (fun _ => hSK1) ?_
   clear hK K
   refine wpZ_three (i := 7) (j := 8) (l := 9) (by kernel_rfl) rfl rfl rfl (fun K hK => ?_) (fun K hK => ?_) (fun K hK => ?_) 
   ·go_simp
    refine (HS2'.out wK1 (HG6.out.below (hSK1))).mono ?_
    rintro e wK2 ⟨rfl, hbK2⟩
    have hSK2 := bStep hSK1 hbK2
    go_wp2_with fail
    refine hK.out _ _ (fun _ => hSK2) ?_
    clear hK K
    refine zw 8 9 rfl rfl (fun K hK => ?_) (fun K hK => ?_) 
    ·go_simp
     obtain ⟨N11_3, wK3, hN, hw, hSK3, b11_3, lN11_3, hx⟩ := pkA hSK2
     rw [hw, hN]
     refine hK.out _ _ (fun _ => hSK3) ?_
     clear hK K hw hN hx
     refine zo 9 rfl (fun K hK => ?_)
     go_simp
     obtain ⟨N12_4, wK4, hN, hw, hSK4, b12_4, lN12_4, hx⟩ := pkA hSK3
     rw [hw, hN]
     refine hK.out _ _ (fun _ => hSK4) ?_
     have b11_4 := b11_3.belowAll hx
     have neN11_3_N12_4 : N11_3 ≠ N12_4 := by have := b11_3.lt; omega
     clear hK K hw hN hx
     refine zo 10 rfl (fun K hK => ?_)
     have cS := b11_4.cell; have fS := b11_4.frozen
     go_simp
     obtain ⟨wK5, hw, hSK5, b11_5, hx⟩ := pkS b11_4 (hSK4) lN11_3 rs
     rw [hw]
     refine hK.out _ _ (fun _ => hSK5) ?_
     have b12_5 := hx b12_4 (by omega)
     clear hK K cS fS hw hx
     refine zo 11 rfl (fun K hK => ?_)
     have cS := b12_5.cell; have fS := b12_5.frozen
     go_simp
     obtain ⟨wK6, hw, hSK6, b12_6, hx⟩ := pkS b12_5 (hSK5) lN12_4 rn
     rw [hw]
     refine hK.out _ _ (fun _ => hSK6) ?_
     have b11_6 := hx b11_5 (by omega)
     clear hK K cS fS hw hx
     refine zd ?_ _
     go_wp2_with fail
     go_meet
     exact ⟨_, _, rfl, rfl, b11_6, b12_6, hSK6⟩
    ·go_simp
     obtain ⟨N12_3, wK3, hN, hw, hSK3, b12_3, lN12_3, hx⟩ := pkA hSK2
     rw [hw, hN]
     refine hK.out _ _ (fun _ => hSK3) ?_
     clear hK K hw hN hx
     refine zo 8 rfl (fun K hK => ?_)
     go_simp
     obtain ⟨N11_4, wK4, hN, hw, hSK4, b11_4, lN11_4, hx⟩ := pkA hSK3
     rw [hw, hN]
     refine hK.out _ _ (fun _ => hSK4) ?_
     have b12_4 := b12_3.belowAll hx
     have neN12_3_N11_4 : N12_3 ≠ N11_4 := by have := b12_3.lt; omega
     clear hK K hw hN hx
     refine zo 10 rfl (fun K hK => ?_)
     have cS := b11_4.cell; have fS := b11_4.frozen
     go_simp
     obtain ⟨wK5, hw, hSK5, b11_5, hx⟩ := pkS b11_4 (hSK4) lN11_4 rs
     rw [hw]
     refine hK.out _ _ (fun _ => hSK5) ?_
     have b12_5 := hx b12_4 (by omega)
     clear hK K cS fS hw hx
     refine zo 11 rfl (fun K hK => ?_)
     have cS := b12_5.cell; have fS := b12_5.frozen
     go_simp
     obtain ⟨wK6, hw, hSK6, b12_6, hx⟩ := pkS b12_5 (hSK5) lN12_3 rn
     rw [hw]
     refine hK.out _ _ (fun _ => hSK6) ?_
     have b11_6 := hx b11_5 (by omega)
     clear hK K cS fS hw hx
     refine zd ?_ _
     go_wp2_with fail
     go_meet
     exact ⟨_, _, rfl, rfl, b11_6, b12_6, hSK6⟩
   ·go_simp
    obtain ⟨N11_2, wK2, hN, hw, hSK2, b11_2, lN11_2, hx⟩ := pkA hSK1
    rw [hw, hN]
    refine hK.out _ _ (fun _ => hSK2) ?_
    clear hK K hw hN hx
    refine zw 7 9 rfl rfl (fun K hK => ?_) (fun K hK => ?_) 
    ·go_simp
     refine (HS2'.out wK2 (HG6.out.below (hSK2))).mono ?_
     rintro e wK3 ⟨rfl, hbK3⟩
     have hSK3 := bStep hSK2 hbK3
     go_wp2_with fail
     refine hK.out _ _ (fun _ => hSK3) ?_
     clear hK K
     have b11_3 := b11_2.belowAll hbK3
     refine zo 9 rfl (fun K hK => ?_)
     go_simp
     obtain ⟨N12_4, wK4, hN, hw, hSK4, b12_4, lN12_4, hx⟩ := pkA hSK3
     rw [hw, hN]
     refine hK.out _ _ (fun _ => hSK4) ?_
     have b11_4 := b11_3.belowAll hx
     have neN11_2_N12_4 : N11_2 ≠ N12_4 := by have := b11_3.lt; omega
     clear hK K hw hN hx
     refine zo 10 rfl (fun K hK => ?_)
     have cS := b11_4.cell; have fS := b11_4.frozen
     go_simp
     obtain ⟨wK5, hw, hSK5, b11_5, hx⟩ := pkS b11_4 (hSK4) lN11_2 rs
     rw [hw]
     refine hK.out _ _ (fun _ => hSK5) ?_
     have b12_5 := hx b12_4 (by omega)
     clear hK K cS fS hw hx
     refine zo 11 rfl (fun K hK => ?_)
     have cS := b12_5.cell; have fS := b12_5.frozen
     go_simp
     obtain ⟨wK6, hw, hSK6, b12_6, hx⟩ := pkS b12_5 (hSK5) lN12_4 rn
     rw [hw]
     refine hK.out _ _ (fun _ => hSK6) ?_
     have b11_6 := hx b11_5 (by omega)
     clear hK K cS fS hw hx
     refine zd ?_ _
     go_wp2_with fail
     go_meet
     exact ⟨_, _, rfl, rfl, b11_6, b12_6, hSK6⟩
    ·go_simp
     obtain ⟨N12_3, wK3, hN, hw, hSK3, b12_3, lN12_3, hx⟩ := pkA hSK2
     rw [hw, hN]
     refine hK.out _ _ (fun _ => hSK3) ?_
     have b11_3 := b11_2.belowAll hx
     have neN11_2_N12_3 : N11_2 ≠ N12_3 := by have := b11_2.lt; omega
     clear hK K hw hN hx
     refine zo 7 rfl (fun K hK => ?_)
     go_simp
     refine (HS2'.out wK3 (HG6.out.below (hSK3))).mono ?_
     rintro e wK4 ⟨rfl, hbK4⟩
     have hSK4 := bStep hSK3 hbK4
     go_wp2_with fail
     refine hK.out _ _ (fun _ => hSK4) ?_
     clear hK K
     have b11_4 := b11_3.belowAll hbK4
     have b12_4 := b12_3.belowAll hbK4
     refine zo 10 rfl (fun K hK => ?_)
     have cS := b11_4.cell; have fS := b11_4.frozen
     go_simp
     obtain ⟨wK5, hw, hSK5, b11_5, hx⟩ := pkS b11_4 (hSK4) lN11_2 rs
     rw [hw]
     refine hK.out _ _ (fun _ => hSK5) ?_
     have b12_5 := hx b12_4 (by omega)
     clear hK K cS fS hw hx
     refine zo 11 rfl (fun K hK => ?_)
     have cS := b12_5.cell; have fS := b12_5.frozen
     go_simp
     obtain ⟨wK6, hw, hSK6, b12_6, hx⟩ := pkS b12_5 (hSK5) lN12_3 rn
     rw [hw]
     refine hK.out _ _ (fun _ => hSK6) ?_
     have b11_6 := hx b11_5 (by omega)
     clear hK K cS fS hw hx
     refine zd ?_ _
     go_wp2_with fail
     go_meet
     exact ⟨_, _, rfl, rfl, b11_6, b12_6, hSK6⟩
   ·go_simp
    obtain ⟨N12_2, wK2, hN, hw, hSK2, b12_2, lN12_2, hx⟩ := pkA hSK1
    rw [hw, hN]
    refine hK.out _ _ (fun _ => hSK2) ?_
    clear hK K hw hN hx
    refine zw 7 8 rfl rfl (fun K hK => ?_) (fun K hK => ?_) 
    ·go_simp
     refine (HS2'.out wK2 (HG6.out.below (hSK2))).mono ?_
     rintro e wK3 ⟨rfl, hbK3⟩
     have hSK3 := bStep hSK2 hbK3
     go_wp2_with fail
     refine hK.out _ _ (fun _ => hSK3) ?_
     clear hK K
     have b12_3 := b12_2.belowAll hbK3
     refine zo 8 rfl (fun K hK => ?_)
     go_simp
     obtain ⟨N11_4, wK4, hN, hw, hSK4, b11_4, lN11_4, hx⟩ := pkA hSK3
     rw [hw, hN]
     refine hK.out _ _ (fun _ => hSK4) ?_
     have b12_4 := b12_3.belowAll hx
     have neN12_2_N11_4 : N12_2 ≠ N11_4 := by have := b12_3.lt; omega
     clear hK K hw hN hx
     refine zo 10 rfl (fun K hK => ?_)
     have cS := b11_4.cell; have fS := b11_4.frozen
     go_simp
     obtain ⟨wK5, hw, hSK5, b11_5, hx⟩ := pkS b11_4 (hSK4) lN11_4 rs
     rw [hw]
     refine hK.out _ _ (fun _ => hSK5) ?_
     have b12_5 := hx b12_4 (by omega)
     clear hK K cS fS hw hx
     refine zo 11 rfl (fun K hK => ?_)
     have cS := b12_5.cell; have fS := b12_5.frozen
     go_simp
     obtain ⟨wK6, hw, hSK6, b12_6, hx⟩ := pkS b12_5 (hSK5) lN12_2 rn
     rw [hw]
     refine hK.out _ _ (fun _ => hSK6) ?_
     have b11_6 := hx b11_5 (by omega)
     clear hK K cS fS hw hx
     refine zd ?_ _
     go_wp2_with fail
     go_meet
     exact ⟨_, _, rfl, rfl, b11_6, b12_6, hSK6⟩
    ·go_simp
     obtain ⟨N11_3, wK3, hN, hw, hSK3, b11_3, lN11_3, hx⟩ := pkA hSK2
     rw [hw, hN]
     refine hK.out _ _ (fun _ => hSK3) ?_
     have b12_3 := b12_2.belowAll hx
     have neN12_2_N11_3 : N12_2 ≠ N11_3 := by have := b12_2.lt; omega
     clear hK K hw hN hx
     refine zo 7 rfl (fun K hK => ?_)
     go_simp
     refine (HS2'.out wK3 (HG6.out.below (hSK3))).mono ?_
     rintro e wK4 ⟨rfl, hbK4⟩
     have hSK4 := bStep hSK3 hbK4
     go_wp2_with fail
     refine hK.out _ _ (fun _ => hSK4) ?_
     clear hK K
     have b12_4 := b12_3.belowAll hbK4
     have b11_4 := b11_3.belowAll hbK4
     refine zo 10 rfl (fun K hK => ?_)
     have cS := b11_4.cell; have fS := b11_4.frozen
     go_simp
     obtain ⟨wK5, hw, hSK5, b11_5, hx⟩ := pkS b11_4 (hSK4) lN11_3 rs
     rw [hw]
     refine hK.out _ _ (fun _ => hSK5) ?_
     have b12_5 := hx b12_4 (by omega)
     clear hK K cS fS hw hx
     refine zo 11 rfl (fun K hK => ?_)
     have cS := b12_5.cell; have fS := b12_5.frozen
     go_simp
     obtain ⟨wK6, hw, hSK6, b12_6, hx⟩ := pkS b12_5 (hSK5) lN12_2 rn
     rw [hw]
     refine hK.out _ _ (fun _ => hSK6) ?_
     have b11_6 := hx b11_5 (by omega)
     clear hK K cS fS hw hx
     refine zd ?_ _
     go_wp2_with fail
     go_meet
     exact ⟨_, _, rfl, rfl, b11_6, b12_6, hSK6⟩
  ·go_simp
   obtain ⟨N11_1, wK1, hN, hw, hSK1, b11_1, lN11_1, hx⟩ := pkD w6
   rw [hw, hN]
   refine hK.out _ _ (fun _ => hSK1) ?_
   clear hK K hw hN hx
   refine zw 3 9 rfl rfl (fun K hK => ?_) (fun K hK => ?_) 
   ·go_simp
    refine (HS1'.out wK1 (HG6.out.below (hSK1))).mono ?_
    rintro e wK2 ⟨rfl, hbK2⟩
    have hSK2 := bStep hSK1 hbK2
    go_wp2_with fail
    refine hK.out _ _ (fun _ => hSK2) ?_
    clear hK K
    have b11_2 := b11_1.belowAll hbK2
    refine zw 7 9 rfl rfl (fun K hK => ?_) (fun K hK => ?_) 
    ·go_simp
     refine (HS2'.out wK2 (HG6.out.below (hSK2))).mono ?_
     rintro e wK3 ⟨rfl, hbK3⟩
     have hSK3 := bStep hSK2 hbK3
     go_wp2_with fail
     refine hK.out _ _ (fun _ => hSK3) ?_
     clear hK K
     have b11_3 := b11_2.belowAll hbK3
     refine zo 9 rfl (fun K hK => ?_)
     go_simp
     obtain ⟨N12_4, wK4, hN, hw, hSK4, b12_4, lN12_4, hx⟩ := pkA hSK3
     rw [hw, hN]
     refine hK.out _ _ (fun _ => hSK4) ?_
     have b11_4 := b11_3.belowAll hx
     have neN11_1_N12_4 : N11_1 ≠ N12_4 := by have := b11_3.lt; omega
     clear hK K hw hN hx
     refine zo 10 rfl (fun K hK => ?_)
     have cS := b11_4.cell; have fS := b11_4.frozen
     go_simp
     obtain ⟨wK5, hw, hSK5, b11_5, hx⟩ := pkS b11_4 (hSK4) lN11_1 rs
     rw [hw]
     refine hK.out _ _ (fun _ => hSK5) ?_
     have b12_5 := hx b12_4 (by omega)
     clear hK K cS fS hw hx
     refine zo 11 rfl (fun K hK => ?_)
     have cS := b12_5.cell; have fS := b12_5.frozen
     go_simp
     obtain ⟨wK6, hw, hSK6, b12_6, hx⟩ := pkS b12_5 (hSK5) lN12_4 rn
     rw [hw]
     refine hK.out _ _ (fun _ => hSK6) ?_
     have b11_6 := hx b11_5 (by omega)
     clear hK K cS fS hw hx
     refine zd ?_ _
     go_wp2_with fail
     go_meet
     exact ⟨_, _, rfl, rfl, b11_6, b12_6, hSK6⟩
    ·go_simp
     obtain ⟨N12_3, wK3, hN, hw, hSK3, b12_3, lN12_3, hx⟩ := pkA hSK2
     rw [hw, hN]
     refine hK.out _ _ (fun _ => hSK3) ?_
     have b11_3 := b11_2.belowAll hx
     have neN11_1_N12_3 : N11_1 ≠ N12_3 := by have := b11_2.lt; omega
     clear hK K hw hN hx
     refine zo 7 rfl (fun K hK => ?_)
     go_simp
     refine (HS2'.out wK3 (HG6.out.below (hSK3))).mono ?_
     rintro e wK4 ⟨rfl, hbK4⟩
     have hSK4 := bStep hSK3 hbK4
     go_wp2_with fail
     refine hK.out _ _ (fun _ => hSK4) ?_
     clear hK K
     have b11_4 := b11_3.belowAll hbK4
     have b12_4 := b12_3.belowAll hbK4
     refine zo 10 rfl (fun K hK => ?_)
     have cS := b11_4.cell; have fS := b11_4.frozen
     go_simp
     obtain ⟨wK5, hw, hSK5, b11_5, hx⟩ := pkS b11_4 (hSK4) lN11_1 rs
     rw [hw]
     refine hK.out _ _ (fun _ => hSK5) ?_
     have b12_5 := hx b12_4 (by omega)
     clear hK K cS fS hw hx
     refine zo 11 rfl (fun K hK => ?_)
     have cS := b12_5.cell; have fS := b12_5.frozen
     go_simp
     obtain ⟨wK6, hw, hSK6, b12_6, hx⟩ := pkS b12_5 (hSK5) lN12_3 rn
     rw [hw]
     refine hK.out _ _ (fun _ => hSK6) ?_
     have b11_6 := hx b11_5 (by omega)
     clear hK K cS fS hw hx
     refine zd ?_ _
     go_wp2_with fail
     go_meet
     exact ⟨_, _, rfl, rfl, b11_6, b12_6, hSK6⟩
   ·go_simp
    obtain ⟨N12_2, wK2, hN, hw, hSK2, b12_2, lN12_2, hx⟩ := pkA hSK1
    rw [hw, hN]
    refine hK.out _ _ (fun _ => hSK2) ?_
    have b11_2 := b11_1.belowAll hx
    have neN11_1_N12_2 : N11_1 ≠ N12_2 := by have := b11_1.lt; omega
    clear hK K hw hN hx
    refine zo 3 rfl (fun K hK => ?_)
    go_simp
    refine (HS1'.out wK2 (HG6.out.below (hSK2))).mono ?_
    rintro e wK3 ⟨rfl, hbK3⟩
    have hSK3 := bStep hSK2 hbK3
    go_wp2_with fail
    refine hK.out _ _ (fun _ => hSK3) ?_
    clear hK K
    have b11_3 := b11_2.belowAll hbK3
    have b12_3 := b12_2.belowAll hbK3
    refine zo 7 rfl (fun K hK => ?_)
    go_simp
    refine (HS2'.out wK3 (HG6.out.below (hSK3))).mono ?_
    rintro e wK4 ⟨rfl, hbK4⟩
    have hSK4 := bStep hSK3 hbK4
    go_wp2_with fail
    refine hK.out _ _ (fun _ => hSK4) ?_
    clear hK K
    have b11_4 := b11_3.belowAll hbK4
    have b12_4 := b12_3.belowAll hbK4
    refine zo 10 rfl (fun K hK => ?_)
    have cS := b11_4.cell; have fS := b11_4.frozen
    go_simp
    obtain ⟨wK5, hw, hSK5, b11_5, hx⟩ := pkS b11_4 (hSK4) lN11_1 rs
    rw [hw]
    refine hK.out _ _ (fun _ => hSK5) ?_
    have b12_5 := hx b12_4 (by omega)
    clear hK K cS fS hw hx
    refine zo 11 rfl (fun K hK => ?_)
    have cS := b12_5.cell; have fS := b12_5.frozen
    go_simp
    obtain ⟨wK6, hw, hSK6, b12_6, hx⟩ := pkS b12_5 (hSK5) lN12_2 rn
    rw [hw]
    refine hK.out _ _ (fun _ => hSK6) ?_
    have b11_6 := hx b11_5 (by omega)
    clear hK K cS fS hw hx
    refine zd ?_ _
    go_wp2_with fail
    go_meet
    exact ⟨_, _, rfl, rfl, b11_6, b12_6, hSK6⟩
  ·go_simp
   obtain ⟨N12_1, wK1, hN, hw, hSK1, b12_1, lN12_1, hx⟩ := pkD w6
   rw [hw, hN]
   refine hK.out _ _ (fun _ => hSK1) ?_
   clear hK K hw hN hx
   refine zw 3 8 rfl rfl (fun K hK => ?_) (fun K hK => ?_) 
   ·go_simp
    refine (HS1'.out wK1 (HG6.out.below (hSK1))).mono ?_
    rintro e wK2 ⟨rfl, hbK2⟩
    have hSK2 := bStep hSK1 hbK2
    go_wp2_with fail
    refine hK.out _ _ (fun _ => hSK2) ?_
    clear hK K
    have b12_2 := b12_1.belowAll hbK2
    refine zw 7 8 rfl rfl (fun K hK => ?_) (fun K hK => ?_) 
    ·go_simp
     refine (HS2'.out wK2 (HG6.out.below (hSK2))).mono ?_
     rintro e wK3 ⟨rfl, hbK3⟩
     have hSK3 := bStep hSK2 hbK3
     go_wp2_with fail
     refine hK.out _ _ (fun _ => hSK3) ?_
     clear hK K
     have b12_3 := b12_2.belowAll hbK3
     refine zo 8 rfl (fun K hK => ?_)
     go_simp
     obtain ⟨N11_4, wK4, hN, hw, hSK4, b11_4, lN11_4, hx⟩ := pkA hSK3
     rw [hw, hN]
     refine hK.out _ _ (fun _ => hSK4) ?_
     have b12_4 := b12_3.belowAll hx
     have neN12_1_N11_4 : N12_1 ≠ N11_4 := by have := b12_3.lt; omega
     clear hK K hw hN hx
     refine zo 10 rfl (fun K hK => ?_)
     have cS := b11_4.cell; have fS := b11_4.frozen
     go_simp
     obtain ⟨wK5, hw, hSK5, b11_5, hx⟩ := pkS b11_4 (hSK4) lN11_4 rs
     rw [hw]
     refine hK.out _ _ (fun _ => hSK5) ?_
     have b12_5 := hx b12_4 (by omega)
     clear hK K cS fS hw hx
     refine zo 11 rfl (fun K hK => ?_)
     have cS := b12_5.cell; have fS := b12_5.frozen
     go_simp
     obtain ⟨wK6, hw, hSK6, b12_6, hx⟩ := pkS b12_5 (hSK5) lN12_1 rn
     rw [hw]
     refine hK.out _ _ (fun _ => hSK6) ?_
     have b11_6 := hx b11_5 (by omega)
     clear hK K cS fS hw hx
     refine zd ?_ _
     go_wp2_with fail
     go_meet
     exact ⟨_, _, rfl, rfl, b11_6, b12_6, hSK6⟩
    ·go_simp
     obtain ⟨N11_3, wK3, hN, hw, hSK3, b11_3, lN11_3, hx⟩ := pkA hSK2
     rw [hw, hN]
     refine hK.out _ _ (fun _ => hSK3) ?_
     have b12_3 := b12_2.belowAll hx
     have neN12_1_N11_3 : N12_1 ≠ N11_3 := by have := b12_2.lt; omega
     clear hK K hw hN hx
     refine zo 7 rfl (fun K hK => ?_)
     go_simp
     refine (HS2'.out wK3 (HG6.out.below (hSK3))).mono ?_
     rintro e wK4 ⟨rfl, hbK4⟩
     have hSK4 := bStep hSK3 hbK4
     go_wp2_with fail
     refine hK.out _ _ (fun _ => hSK4) ?_
     clear hK K
     have b12_4 := b12_3.belowAll hbK4
     have b11_4 := b11_3.belowAll hbK4
     refine zo 10 rfl (fun K hK => ?_)
     have cS := b11_4.cell; have fS := b11_4.frozen
     go_simp
     obtain ⟨wK5, hw, hSK5, b11_5, hx⟩ := pkS b11_4 (hSK4) lN11_3 rs
     rw [hw]
     refine hK.out _ _ (fun _ => hSK5) ?_
     have b12_5 := hx b12_4 (by omega)
     clear hK K cS fS hw hx
     refine zo 11 rfl (fun K hK => ?_)
     have cS := b12_5.cell; have fS := b12_5.frozen
     go_simp
     obtain ⟨wK6, hw, hSK6, b12_6, hx⟩ := pkS b12_5 (hSK5) lN12_1 rn
     rw [hw]
     refine hK.out _ _ (fun _ => hSK6) ?_
     have b11_6 := hx b11_5 (by omega)
     clear hK K cS fS hw hx
     refine zd ?_ _
     go_wp2_with fail
     go_meet
     exact ⟨_, _, rfl, rfl, b11_6, b12_6, hSK6⟩
   ·go_simp
    obtain ⟨N11_2, wK2, hN, hw, hSK2, b11_2, lN11_2, hx⟩ := pkA hSK1
    rw [hw, hN]
    refine hK.out _ _ (fun _ => hSK2) ?_
    have b12_2 := b12_1.belowAll hx
    have neN12_1_N11_2 : N12_1 ≠ N11_2 := by have := b12_1.lt; omega
    clear hK K hw hN hx
    refine zo 3 rfl (fun K hK => ?_)
    go_simp
    refine (HS1'.out wK2 (HG6.out.below (hSK2))).mono ?_
    rintro e wK3 ⟨rfl, hbK3⟩
    have hSK3 := bStep hSK2 hbK3
    go_wp2_with fail
    refine hK.out _ _ (fun _ => hSK3) ?_
    clear hK K
    have b12_3 := b12_2.belowAll hbK3
    have b11_3 := b11_2.belowAll hbK3
    refine zo 7 rfl (fun K hK => ?_)
    go_simp
    refine (HS2'.out wK3 (HG6.out.below (hSK3))).mono ?_
    rintro e wK4 ⟨rfl, hbK4⟩
    have hSK4 := bStep hSK3 hbK4
    go_wp2_with fail
    refine hK.out _ _ (fun _ => hSK4) ?_
    clear hK K
    have b12_4 := b12_3.belowAll hbK4
    have b11_4 := b11_3.belowAll hbK4
    refine zo 10 rfl (fun K hK => ?_)
    have cS := b11_4.cell; have fS := b11_4.frozen
    go_simp
    obtain ⟨wK5, hw, hSK5, b11_5, hx⟩ := pkS b11_4 (hSK4) lN11_2 rs
    rw [hw]
    refine hK.out _ _ (fun _ => hSK5) ?_
    have b12_5 := hx b12_4 (by omega)
    clear hK K cS fS hw hx
    refine zo 11 rfl (fun K hK => ?_)
    have cS := b12_5.cell; have fS := b12_5.frozen
    go_simp
    obtain ⟨wK6, hw, hSK6, b12_6, hx⟩ := pkS b12_5 (hSK5) lN12_1 rn
    rw [hw]
    refine hK.out _ _ (fun _ => hSK6) ?_
    have b11_6 := hx b11_5 (by omega)
    clear hK K cS fS hw hx
    refine zd ?_ _
    go_wp2_with fail
    go_meet
    exact ⟨_, _, rfl, rfl, b11_6, b12_6, hSK6⟩
 obtain ⟨N11, N12, rfl, rfl, v11_7, v12_7, hbx⟩ := hcut
 obtain ⟨w7, hwn⟩ : ∃ x, x = wc := ⟨_, rfl⟩
 rw [← hwn] at hbx v11_7 v12_7 ⊢
 clear hwn HG6 HS1' HS2'
 have bp7 := bp6.belowAll hbx
 have bq7 := bq6.belowAll hbx
 have br7 := br6.belowAll hbx
 have v7_7 := v7_6.belowAll hbx
 have v8_7 := v8_6.belowAll hbx
 have v9_7 := v9_6.belowAll hbx
 have v10_7 := v10_6.belowAll hbx
 have hbw7 := bStep hbw6 hbx
 clear bp6 bq6 br6 v7_6 v8_6 v9_6 v10_6 hbw6 hbx
 have HG7 : Hid (Glob w7) := HG0.out.below hbw7
 clear HG0
 by_cases h1 : rn = 0
 ·rw [decide_eq_true h1, Bool.not_true] at Q1
  by_cases h2 : rs = 0
  ·rw [decide_eq_true h2, Bool.not_true] at Q2
   have HVV := (show Hid _ from HV3.out h1 h2)
   clear h1 h2 HV1 HV2 HV3 HP HC
   have cn := v12_7.cell; have cs := v11_7.cell
   obtain ⟨q0, q1, q2, q3, q4, q5, q6, q7, q8, q9, q10, q11, qf⟩ := bp7.cells
   obtain ⟨p0, p1, p2, p3, p4, p5, p6, p7, p8, p9, p10, p11, pf⟩ := bq7.cells
   go_wp2_with fail
   refine (HT.out _ HG7.out).mono ?_
   rintro e w8 ⟨rfl, hb8⟩
   clear q0 q1 q2 q3 q4 q5 q6 q7 q8 q9 q10 q11 qf p0 p1 p2 p3 p4 p5 p6 p7 p8 p9 p10 p11 pf cn cs
   obtain ⟨r0, r1, r2, r3, r4, r5, r6, r7, r8, r9, r10, r11, rf⟩ := (br7.belowAll hb8).cells
   go_wp2
   refine bodyPost_ret (v := .agg #[.int .u64 (limb 0 x2), .int .u64 (limb 1 x2), .int .u64 (limb 2 x2), .int .u64 (limb 3 x2), .int .u64 (limb 0 y2), .int .u64 (limb 1 y2), .int .u64 (limb 2 y2), .int .u64 (limb 3 y2), .int .u64 (limb 0 z2), .int .u64 (limb 1 z2), .int .u64 (limb 2 z2), .int .u64 (limb 3 z2)]) (by simp [results, Tryz.results56, go_sem, r0, r1, r2, r3, r4, r5, r6, r7, r8, r9, r10, r11]) rfl ⟨by rw [HVV.out], ?_⟩
   exact bSet12 (bStep hbw7 hb8) hrw _ _ _ _ _ _ _ _ _ _ _ _
  ·rw [decide_eq_false h2, Bool.not_false] at Q2
   have HVV := (show Hid _ from HV2.out h1 h2)
   clear h1 h2 HV1 HV2 HV3 HP HC HT
   have cn := v12_7.cell; have cs := v11_7.cell
   obtain ⟨r0, r1, r2, r3, r4, r5, r6, r7, r8, r9, r10, r11, rf⟩ := br7.cells
   go_wp2
   refine bodyPost_ret (v := .agg #[.int .u64 0, .int .u64 0, .int .u64 0, .int .u64 0, .int .u64 0, .int .u64 0, .int .u64 0, .int .u64 0, .int .u64 0, .int .u64 0, .int .u64 0, .int .u64 0]) (by simp [results, Tryz.results56, go_sem, r0, r1, r2, r3, r4, r5, r6, r7, r8, r9, r10, r11]) rfl ⟨by rw [HVV.out], ?_⟩
   exact bSet12 hbw7 hrw _ _ _ _ _ _ _ _ _ _ _ _
 ·rw [decide_eq_false h1, Bool.not_false] at Q1
  have HVV := (show Hid _ from HV1.out h1)
  clear h1 HV1 HV2 HV3 Q2 HT
  have cn := v12_7.cell
  go_upto_region 9 with fail
  clear cn Q1
  have HS0 : Hid (Below w7.heap.size w7 w7.drew) := (Below.refl _ _).drew
  refine wp_region_Z (fun w' => Below w7.heap.size w7 w') 13 (by kernel_rfl) ?_
  refine zs 0 46 (.int .i64 (c : Int)) HS0.out ?_
  refine zT 1 47 (.agg #[.int .u64 (limb 0 ax), .int .u64 (limb 1 ax), .int .u64 (limb 2 ax), .int .u64 (limb 3 ax)]) rfl rfl (fun w hSw => by (have qq := (v7_7.belowAll hSw).cell; clear hSw; go_simp)) HS0.out ?_
  refine zT 2 48 (.agg #[.int .u64 (limb 0 ay), .int .u64 (limb 1 ay), .int .u64 (limb 2 ay), .int .u64 (limb 3 ay)]) rfl rfl (fun w hSw => by (have qq := (v8_7.belowAll hSw).cell; clear hSw; go_simp)) HS0.out ?_
  refine zs 3 49 (.int .i64 (c : Int)) HS0.out ?_
  refine zs 4 50 (.pointer (some ⟨w.heap.size, 8, none⟩)) HS0.out ?_
  refine zT 5 51 (.agg #[.int .u64 (limb 0 Z), .int .u64 (limb 1 Z), .int .u64 (limb 2 Z), .int .u64 (limb 3 Z)]) rfl rfl (fun w hSw => by (obtain ⟨q0, q1, q2, q3, q4, q5, q6, q7, q8, q9, q10, q11, qf⟩ := (bp7.belowAll hSw).cells; clear hSw; go_simp)) HS0.out ?_
  refine zs 6 52 (.pointer (some ⟨(w.heap.size + 1), 8, none⟩)) HS0.out ?_
  refine zT 7 53 (.agg #[.int .u64 (limb 0 W), .int .u64 (limb 1 W), .int .u64 (limb 2 W), .int .u64 (limb 3 W)]) rfl rfl (fun w hSw => by (obtain ⟨q0, q1, q2, q3, q4, q5, q6, q7, q8, q9, q10, q11, qf⟩ := (bq7.belowAll hSw).cells; clear hSw; go_simp)) HS0.out ?_
  refine zT 10 56 (.agg #[.int .u64 (limb 0 rs), .int .u64 (limb 1 rs), .int .u64 (limb 2 rs), .int .u64 (limb 3 rs)]) rfl rfl (fun w hSw => by (have qq := (v11_7.belowAll hSw).cell; clear hSw; go_simp)) HS0.out ?_
  refine zT 11 57 (.agg #[.int .u64 (limb 0 rn), .int .u64 (limb 1 rn), .int .u64 (limb 2 rn), .int .u64 (limb 3 rn)]) rfl rfl (fun w hSw => by (have qq := (v12_7.belowAll hSw).cell; clear hSw; go_simp)) HS0.out ?_
  refine zo 8 rfl (fun K hK => ?_)
  go_simp
  refine (HP.out w7.drew (HG7.out.below (HS0.out))).mono ?_
  rintro e wK1 ⟨rfl, hbK1⟩
  have hSK1 := bStep HS0.out hbK1
  go_wp2_with fail
  refine hK.out _ _ (fun _ => hSK1) ?_
  clear hK K
  refine zs 9 55 (.agg #[.int .u64 (limb 0 ax), .int .u64 (limb 1 ax), .int .u64 (limb 2 ax), .int .u64 (limb 3 ax), .int .u64 (limb 0 ay), .int .u64 (limb 1 ay), .int .u64 (limb 2 ay), .int .u64 (limb 3 ay), .int .u64 (limb 0 pz), .int .u64 (limb 1 pz), .int .u64 (limb 2 pz), .int .u64 (limb 3 pz)]) hSK1 ?_
  refine zo 12 rfl (fun K hK => ?_)
  go_simp
  refine (HC.out wK1 (HG7.out.below (hSK1))).mono ?_
  rintro e wK2 ⟨rfl, hbK2⟩
  have hSK2 := bStep hSK1 hbK2
  go_wp2_with fail
  refine hK.out _ _ (fun _ => hSK2) ?_
  clear hK K
  refine zo 13 rfl (fun K hK => ?_)
  obtain ⟨r0, r1, r2, r3, r4, r5, r6, r7, r8, r9, r10, r11, rf⟩ := (br7.belowAll (hSK2)).cells
  go_simp
  refine hK.out _ _ (fun h => absurd rfl h) ?_
  clear hK K
  refine zd ?_ _
  go_wp2
  refine bodyPost_ret (v := .agg #[.int .u64 (limb 0 x1), .int .u64 (limb 1 x1), .int .u64 (limb 2 x1), .int .u64 (limb 3 x1), .int .u64 (limb 0 y1), .int .u64 (limb 1 y1), .int .u64 (limb 2 y1), .int .u64 (limb 3 y1), .int .u64 (limb 0 z1), .int .u64 (limb 1 z1), .int .u64 (limb 2 z1), .int .u64 (limb 3 z1)]) (by simp [results, Tryz.results56, go_sem, r0, r1, r2, r3, r4, r5, r6, r7, r8, r9, r10, r11]) rfl ⟨by rw [HVV.out], ?_⟩
  exact bSet12 (bStep hbw7 (hSK2)) hrw _ _ _ _ _ _ _ _ _ _ _ _
end Go.Proofs.YtokoknacolmhgaaGreatDoor
namespace Go.Proofs.YtokoknacolmhgaaGreatDoor
open Go.RowKit
theorem zeroJ : (.agg #[.int .u64 (limb 0 0), .int .u64 (limb 1 0), .int .u64 (limb 2 0), .int .u64 (limb 3 0), .int .u64 (limb 0 0), .int .u64 (limb 1 0), .int .u64 (limb 2 0), .int .u64 (limb 3 0), .int .u64 (limb 0 0), .int .u64 (limb 1 0), .int .u64 (limb 2 0), .int .u64 (limb 3 0)] : Value) = .agg #[.int .u64 0, .int .u64 0, .int .u64 0, .int .u64 0, .int .u64 0, .int .u64 0, .int .u64 0, .int .u64 0, .int .u64 0, .int .u64 0, .int .u64 0, .int .u64 0] := by rw [limb_zero, limb_zero, limb_zero, limb_zero]; rfl
set_option maxRecDepth 20000 in
theorem jof_inf (x y : Nat) (w : World) : Calls Tryz.prog 80 #[.agg #[.int .u64 (limb 0 x), .int .u64 (limb 1 x), .int .u64 (limb 2 x), .int .u64 (limb 3 x), .int .u64 (limb 0 y), .int .u64 (limb 1 y), .int .u64 (limb 2 y), .int .u64 (limb 3 y), .bool true]] w fun e w' => e = .returned (.agg #[.int .u64 (limb 0 0), .int .u64 (limb 1 0), .int .u64 (limb 2 0), .int .u64 (limb 3 0), .int .u64 (limb 0 0), .int .u64 (limb 1 0), .int .u64 (limb 2 0), .int .u64 (limb 3 0), .int .u64 (limb 0 0), .int .u64 (limb 1 0), .int .u64 (limb 2 0), .int .u64 (limb 3 0)]) ∧ Below w.heap.size w w' := by
 rw [zeroJ]
 go_enter Tryz.func80, Tryz.ntmps80
 go_upto_region 1 with fail
 obtain ⟨w0, hw0⟩ : ∃ w0 : World, w0 = (w.alloc (.cells #[.int .u64 (limb 0 x), .int .u64 (limb 1 x), .int .u64 (limb 2 x), .int .u64 (limb 3 x), .int .u64 (limb 0 y), .int .u64 (limb 1 y), .int .u64 (limb 2 y), .int .u64 (limb 3 y), .bool true] 30)).alloc (.cells #[.int .u64 0, .int .u64 0, .int .u64 0, .int .u64 0, .int .u64 0, .int .u64 0, .int .u64 0, .int .u64 0, .int .u64 0, .int .u64 0, .int .u64 0, .int .u64 0] 76) := ⟨_, rfl⟩
 have bp : Pt w0 w.heap.size x y true := by rw [hw0]; exact (Pt.newAt _ _ _ _ _ rfl).alloc _
 have br : Jt w0 (w.heap.size + 1) 0 0 0 := by rw [hw0]; exact Jt.zeroAt _ _ (by simp)
 have hbw0 : Below w.heap.size w w0 := by rw [hw0]; exact bAlloc ((Below.refl _ _).alloc (Nat.le_refl _) _) _
 have hrw : w.heap.size ≤ w.heap.size + 1 := Nat.le_succ _
 rw [← hw0]
 clear hw0
 have q8 := bp.cells.2.2.2.2.2.2.2.2.1
 obtain ⟨r0, r1, r2, r3, r4, r5, r6, r7, r8, r9, r10, r11, rf⟩ := br.cells
 go_wp2
 refine bodyPost_ret (v := .agg #[.int .u64 0, .int .u64 0, .int .u64 0, .int .u64 0, .int .u64 0, .int .u64 0, .int .u64 0, .int .u64 0, .int .u64 0, .int .u64 0, .int .u64 0, .int .u64 0]) (by simp [results, Tryz.results80, go_sem, r0, r1, r2, r3, r4, r5, r6, r7, r8, r9, r10, r11]) rfl ⟨rfl, ?_⟩
 exact bSet12 hbw0 hrw _ _ _ _ _ _ _ _ _ _ _ _ 
set_option maxRecDepth 20000 in
theorem plus_infq (X Y Z U V T : Nat) (hZ : Z < 115792089237316195423570985008687907853269984665640564039457584007913129639936) (z0 : ¬ Z = 0) (hT : T = 0) (c : Int) (w : World) : Calls Tryz.prog 56 #[.agg #[.int .u64 (limb 0 X), .int .u64 (limb 1 X), .int .u64 (limb 2 X), .int .u64 (limb 3 X), .int .u64 (limb 0 Y), .int .u64 (limb 1 Y), .int .u64 (limb 2 Y), .int .u64 (limb 3 Y), .int .u64 (limb 0 Z), .int .u64 (limb 1 Z), .int .u64 (limb 2 Z), .int .u64 (limb 3 Z)], .int .i64 c, .agg #[.int .u64 (limb 0 U), .int .u64 (limb 1 U), .int .u64 (limb 2 U), .int .u64 (limb 3 U), .int .u64 (limb 0 V), .int .u64 (limb 1 V), .int .u64 (limb 2 V), .int .u64 (limb 3 V), .int .u64 (limb 0 T), .int .u64 (limb 1 T), .int .u64 (limb 2 T), .int .u64 (limb 3 T)]] w fun e w' => e = .returned (.agg #[.int .u64 (limb 0 X), .int .u64 (limb 1 X), .int .u64 (limb 2 X), .int .u64 (limb 3 X), .int .u64 (limb 0 Y), .int .u64 (limb 1 Y), .int .u64 (limb 2 Y), .int .u64 (limb 3 Y), .int .u64 (limb 0 Z), .int .u64 (limb 1 Z), .int .u64 (limb 2 Z), .int .u64 (limb 3 Z)]) ∧ Below w.heap.size w w' := by
 have HI : Hid (∀ w, _) := fun w => isInf_any X Y Z hZ w
 rw [decide_eq_false z0] at HI
 have HI2 : Hid (∀ w, _) := fun w => isInf_any U V T (by rw [hT]; decide) w
 rw [decide_eq_true hT] at HI2
 clear hZ z0 hT
 go_enter Tryz.func56, Tryz.ntmps56
 go_upto_region 1 with fail
 obtain ⟨w0, hw0⟩ : ∃ w0 : World, w0 = ((w.alloc (.cells #[.int .u64 (limb 0 X), .int .u64 (limb 1 X), .int .u64 (limb 2 X), .int .u64 (limb 3 X), .int .u64 (limb 0 Y), .int .u64 (limb 1 Y), .int .u64 (limb 2 Y), .int .u64 (limb 3 Y), .int .u64 (limb 0 Z), .int .u64 (limb 1 Z), .int .u64 (limb 2 Z), .int .u64 (limb 3 Z)] 76)).alloc (.cells #[.int .u64 (limb 0 U), .int .u64 (limb 1 U), .int .u64 (limb 2 U), .int .u64 (limb 3 U), .int .u64 (limb 0 V), .int .u64 (limb 1 V), .int .u64 (limb 2 V), .int .u64 (limb 3 V), .int .u64 (limb 0 T), .int .u64 (limb 1 T), .int .u64 (limb 2 T), .int .u64 (limb 3 T)] 76)).alloc (.cells #[.int .u64 0, .int .u64 0, .int .u64 0, .int .u64 0, .int .u64 0, .int .u64 0, .int .u64 0, .int .u64 0, .int .u64 0, .int .u64 0, .int .u64 0, .int .u64 0] 76) := ⟨_, rfl⟩
 have bp : Jt w0 w.heap.size X Y Z := by rw [hw0]; exact ((Jt.newAt _ _ _ _ _ rfl).alloc _).alloc _
 have bq : Jt w0 (w.heap.size + 1) U V T := by rw [hw0]; exact (Jt.newAt _ _ _ _ _ (by simp)).alloc _
 have br : Jt w0 (w.heap.size + 1 + 1) 0 0 0 := by rw [hw0]; exact Jt.zeroAt _ _ (by simp)
 have hbw0 : Below w.heap.size w w0 := by rw [hw0]; exact bAlloc (bAlloc ((Below.refl _ _).alloc (Nat.le_refl _) _) _) _
 have hrw : w.heap.size ≤ w.heap.size + 1 + 1 := by omega
 rw [← hw0]
 clear hw0
 obtain ⟨q0, q1, q2, q3, q4, q5, q6, q7, q8, q9, q10, q11, qf⟩ := bp.cells
 go_wp2_with fail
 refine (HI.out _).mono ?_
 rintro e w1 ⟨rfl, hb1⟩
 clear q0 q1 q2 q3 q4 q5 q6 q7 q8 q9 q10 q11 qf
 have bp1 := bp.belowAll hb1; have bq1 := bq.belowAll hb1; have br1 := br.belowAll hb1
 have hbw1 := bStep hbw0 hb1
 clear bp bq br hbw0 hb1
 obtain ⟨q0, q1, q2, q3, q4, q5, q6, q7, q8, q9, q10, q11, qf⟩ := bq1.cells
 go_wp2_with fail
 refine (HI2.out _).mono ?_
 rintro e w2 ⟨rfl, hb2⟩
 clear q0 q1 q2 q3 q4 q5 q6 q7 q8 q9 q10 q11 qf
 obtain ⟨q0, q1, q2, q3, q4, q5, q6, q7, q8, q9, q10, q11, qf⟩ := (bp1.belowAll hb2).cells
 obtain ⟨r0, r1, r2, r3, r4, r5, r6, r7, r8, r9, r10, r11, rf⟩ := (br1.belowAll hb2).cells
 go_wp2
 refine bodyPost_ret (v := .agg #[.int .u64 (limb 0 X), .int .u64 (limb 1 X), .int .u64 (limb 2 X), .int .u64 (limb 3 X), .int .u64 (limb 0 Y), .int .u64 (limb 1 Y), .int .u64 (limb 2 Y), .int .u64 (limb 3 Y), .int .u64 (limb 0 Z), .int .u64 (limb 1 Z), .int .u64 (limb 2 Z), .int .u64 (limb 3 Z)]) (by simp [results, Tryz.results56, go_sem, r0, r1, r2, r3, r4, r5, r6, r7, r8, r9, r10, r11]) rfl ⟨rfl, ?_⟩
 exact bSet12 (bStep hbw1 hb2) hrw _ _ _ _ _ _ _ _ _ _ _ _ 
set_option maxRecDepth 20000 in
theorem plain_inf (X Y Z : Nat) (hZ : Z = 0) (c : Int) (w : World) : Calls Tryz.prog 58 #[.agg #[.int .u64 (limb 0 X), .int .u64 (limb 1 X), .int .u64 (limb 2 X), .int .u64 (limb 3 X), .int .u64 (limb 0 Y), .int .u64 (limb 1 Y), .int .u64 (limb 2 Y), .int .u64 (limb 3 Y), .int .u64 (limb 0 Z), .int .u64 (limb 1 Z), .int .u64 (limb 2 Z), .int .u64 (limb 3 Z)], .int .i64 c] w fun e w' => e = .returned (.agg #[.int .u64 (limb 0 0), .int .u64 (limb 1 0), .int .u64 (limb 2 0), .int .u64 (limb 3 0), .int .u64 (limb 0 0), .int .u64 (limb 1 0), .int .u64 (limb 2 0), .int .u64 (limb 3 0), .bool true]) ∧ Below w.heap.size w w' := by
 have HI : Hid (∀ w, _) := fun w => isInf_any X Y Z (by rw [hZ]; decide) w
 rw [decide_eq_true hZ] at HI
 rw [infAgg]
 clear hZ
 go_enter Tryz.func58, Tryz.ntmps58
 go_upto_region 1 with fail
 obtain ⟨w0, hw0⟩ : ∃ w0 : World, w0 = (w.alloc (.cells #[.int .u64 (limb 0 X), .int .u64 (limb 1 X), .int .u64 (limb 2 X), .int .u64 (limb 3 X), .int .u64 (limb 0 Y), .int .u64 (limb 1 Y), .int .u64 (limb 2 Y), .int .u64 (limb 3 Y), .int .u64 (limb 0 Z), .int .u64 (limb 1 Z), .int .u64 (limb 2 Z), .int .u64 (limb 3 Z)] 76)).alloc (.cells #[.int .u64 0, .int .u64 0, .int .u64 0, .int .u64 0, .int .u64 0, .int .u64 0, .int .u64 0, .int .u64 0, .bool false] 30) := ⟨_, rfl⟩
 have bp : Jt w0 w.heap.size X Y Z := by rw [hw0]; exact (Jt.newAt _ _ _ _ _ rfl).alloc _
 have br : Pt w0 (w.heap.size + 1) 0 0 false := by rw [hw0]; exact Pt.zeroAt _ _ (by simp)
 have hbw0 : Below w.heap.size w w0 := by rw [hw0]; exact bAlloc ((Below.refl _ _).alloc (Nat.le_refl _) _) _
 have hrw : w.heap.size ≤ w.heap.size + 1 := Nat.le_succ _
 rw [← hw0]
 clear hw0
 obtain ⟨q0, q1, q2, q3, q4, q5, q6, q7, q8, q9, q10, q11, qf⟩ := bp.cells
 go_wp2_with fail
 refine (HI.out _).mono ?_
 rintro e w1 ⟨rfl, hb1⟩
 clear q0 q1 q2 q3 q4 q5 q6 q7 q8 q9 q10 q11 qf
 obtain ⟨r0, r1, r2, r3, r4, r5, r6, r7, r8, rf⟩ := (br.belowAll hb1).cells
 go_wp2
 refine bodyPost_ret (v := .agg #[.int .u64 0, .int .u64 0, .int .u64 0, .int .u64 0, .int .u64 0, .int .u64 0, .int .u64 0, .int .u64 0, .bool true]) (by simp [results, Tryz.results58, go_sem, r0, r1, r2, r3, r4, r5, r6, r7, r8]) rfl ⟨rfl, ?_⟩
 exact bSet9 (bStep hbw0 hb1) hrw _ _ _ _ _ _ _ _ _
theorem twice_any (c X Y Z : Nat) (hc : c < 4) (hX : X < 115792089237316195423570985008687907853269984665640564039457584007913129639936) (hY : Y < 115792089237316195423570985008687907853269984665640564039457584007913129639936) (hZ : Z < 115792089237316195423570985008687907853269984665640564039457584007913129639936) (w : World) (hg : Glob w) :
  Calls Tryz.prog 55 #[.agg #[.int .u64 (limb 0 X), .int .u64 (limb 1 X), .int .u64 (limb 2 X), .int .u64 (limb 3 X), .int .u64 (limb 0 Y), .int .u64 (limb 1 Y), .int .u64 (limb 2 Y), .int .u64 (limb 3 Y), .int .u64 (limb 0 Z), .int .u64 (limb 1 Z), .int .u64 (limb 2 Z), .int .u64 (limb 3 Z)], .int .i64 (c : Int)] w fun e w' => e = .returned (.agg #[.int .u64 (limb 0 ((tw c X Y Z).1)), .int .u64 (limb 1 ((tw c X Y Z).1)), .int .u64 (limb 2 ((tw c X Y Z).1)), .int .u64 (limb 3 ((tw c X Y Z).1)), .int .u64 (limb 0 ((tw c X Y Z).2.1)), .int .u64 (limb 1 ((tw c X Y Z).2.1)), .int .u64 (limb 2 ((tw c X Y Z).2.1)), .int .u64 (limb 3 ((tw c X Y Z).2.1)), .int .u64 (limb 0 ((tw c X Y Z).2.2)), .int .u64 (limb 1 ((tw c X Y Z).2.2)), .int .u64 (limb 2 ((tw c X Y Z).2.2)), .int .u64 (limb 3 ((tw c X Y Z).2.2))]) ∧ Below w.heap.size w w' := by
 by_cases h : Z = 0
 ·refine (twice_inf X Y Z h (c : Int) w).mono ?_
  rintro e w' ⟨rfl, hb⟩
  refine ⟨?_, hb⟩
  unfold tw
  rw [if_pos h]
 ·refine (twice_fin c X Y Z hc hX hY hZ h w hg).mono ?_
  rintro e w' ⟨rfl, hb⟩
  refine ⟨?_, hb⟩
  unfold tw
  rw [if_neg h]
theorem plus_any (c X Y Z U V T : Nat) (hc : c < 4) (hX : X < 115792089237316195423570985008687907853269984665640564039457584007913129639936) (hY : Y < 115792089237316195423570985008687907853269984665640564039457584007913129639936) (hZ : Z < 115792089237316195423570985008687907853269984665640564039457584007913129639936) (hU : U < 115792089237316195423570985008687907853269984665640564039457584007913129639936) (hV : V < 115792089237316195423570985008687907853269984665640564039457584007913129639936) (hT : T < 115792089237316195423570985008687907853269984665640564039457584007913129639936) (w : World) (hg : Glob w) :
  Calls Tryz.prog 56 #[.agg #[.int .u64 (limb 0 X), .int .u64 (limb 1 X), .int .u64 (limb 2 X), .int .u64 (limb 3 X), .int .u64 (limb 0 Y), .int .u64 (limb 1 Y), .int .u64 (limb 2 Y), .int .u64 (limb 3 Y), .int .u64 (limb 0 Z), .int .u64 (limb 1 Z), .int .u64 (limb 2 Z), .int .u64 (limb 3 Z)], .int .i64 (c : Int), .agg #[.int .u64 (limb 0 U), .int .u64 (limb 1 U), .int .u64 (limb 2 U), .int .u64 (limb 3 U), .int .u64 (limb 0 V), .int .u64 (limb 1 V), .int .u64 (limb 2 V), .int .u64 (limb 3 V), .int .u64 (limb 0 T), .int .u64 (limb 1 T), .int .u64 (limb 2 T), .int .u64 (limb 3 T)]] w fun e w' => e = .returned (.agg #[.int .u64 (limb 0 ((pl c X Y Z U V T).1)), .int .u64 (limb 1 ((pl c X Y Z U V T).1)), .int .u64 (limb 2 ((pl c X Y Z U V T).1)), .int .u64 (limb 3 ((pl c X Y Z U V T).1)), .int .u64 (limb 0 ((pl c X Y Z U V T).2.1)), .int .u64 (limb 1 ((pl c X Y Z U V T).2.1)), .int .u64 (limb 2 ((pl c X Y Z U V T).2.1)), .int .u64 (limb 3 ((pl c X Y Z U V T).2.1)), .int .u64 (limb 0 ((pl c X Y Z U V T).2.2)), .int .u64 (limb 1 ((pl c X Y Z U V T).2.2)), .int .u64 (limb 2 ((pl c X Y Z U V T).2.2)), .int .u64 (limb 3 ((pl c X Y Z U V T).2.2))]) ∧ Below w.heap.size w w' := by
 by_cases h : Z = 0
 ·refine (plus_inf X Y Z U V T h (c : Int) w).mono ?_
  rintro e w' ⟨rfl, hb⟩
  refine ⟨?_, hb⟩
  unfold pl
  rw [if_pos h]
 ·by_cases h2 : T = 0
  ·refine (plus_infq X Y Z U V T hZ h h2 (c : Int) w).mono ?_
   rintro e w' ⟨rfl, hb⟩
   refine ⟨?_, hb⟩
   unfold pl
   rw [if_neg h, if_pos h2]
  ·exact plus_fin c X Y Z U V T hc hX hY hZ hU hV hT h h2 w hg
theorem plain_any (c X Y Z x y : Nat) (i : Bool) (hc : c < 4) (hon : onC c x y i) (hJ : JR c X Y Z x y i) (w : World) (hg : GlobC w) :
  Calls Tryz.prog 58 #[.agg #[.int .u64 (limb 0 X), .int .u64 (limb 1 X), .int .u64 (limb 2 X), .int .u64 (limb 3 X), .int .u64 (limb 0 Y), .int .u64 (limb 1 Y), .int .u64 (limb 2 Y), .int .u64 (limb 3 Y), .int .u64 (limb 0 Z), .int .u64 (limb 1 Z), .int .u64 (limb 2 Z), .int .u64 (limb 3 Z)], .int .i64 (c : Int)] w fun e w' => e = .returned (.agg #[.int .u64 (limb 0 x), .int .u64 (limb 1 x), .int .u64 (limb 2 x), .int .u64 (limb 3 x), .int .u64 (limb 0 y), .int .u64 (limb 1 y), .int .u64 (limb 2 y), .int .u64 (limb 3 y), .bool i]) ∧ Below w.heap.size w w' := by
 cases i with
 | true =>
  obtain ⟨rfl, rfl⟩ := on_inf hon
  obtain ⟨_, _, _, h | h⟩ := hJ
  ·exact plain_inf X Y Z h.2 (c : Int) w
  ·cases h.1
 | false =>
  obtain ⟨z0, e1, e2⟩ := plain_ok hon hJ
  have h := plain_fin c X Y Z hc (lt_M c _ hJ.1) (lt_M c _ hJ.2.1) (lt_M c _ hJ.2.2.1) z0 w hg
  unfold plainX at e1
  unfold plainY at e2
  rw [e1, e2] at h
  exact h
def dblPt (c : Nat) (Q : Nat × Nat × Bool) : Nat × Nat × Bool := sumPt c Q.1 Q.2.1 Q.2.2 Q.1 Q.2.1 Q.2.2
def stepPt (c x y : Nat) (i b : Bool) (Q : Nat × Nat × Bool) : Nat × Nat × Bool := if b then sumPt c (dblPt c Q).1 (dblPt c Q).2.1 (dblPt c Q).2.2 x y i else dblPt c Q
def mulUp (c x y : Nat) (i : Bool) (k : Nat) : Nat → Nat × Nat × Bool
 | 0 => (0, 0, true)
 | j + 1 => stepPt c x y i (decide (bitN k (255 - j) = 1)) (mulUp c x y i k j)
theorem dbl_on {c : Nat} {Q : Nat × Nat × Bool} (h : onC c Q.1 Q.2.1 Q.2.2) : onC c (dblPt c Q).1 (dblPt c Q).2.1 (dblPt c Q).2.2 := sum_onC h h
theorem mulUp_on {c x y : Nat} {i : Bool} (k : Nat) (h : onC c x y i) : ∀ j, onC c (mulUp c x y i k j).1 (mulUp c x y i k j).2.1 (mulUp c x y i k j).2.2
 | 0 => Or.inl ⟨rfl, rfl, rfl⟩
 | j + 1 => by
  have ih := mulUp_on k h j
  show onC c (stepPt c x y i (decide (bitN k (255 - j) = 1)) (mulUp c x y i k j)).1 (stepPt c x y i (decide (bitN k (255 - j) = 1)) (mulUp c x y i k j)).2.1 (stepPt c x y i (decide (bitN k (255 - j) = 1)) (mulUp c x y i k j)).2.2
  unfold stepPt
  split
  ·exact sum_onC (dbl_on ih) h
  ·exact dbl_on ih
theorem on_lt {c x y : Nat} {i : Bool} (h : onC c x y i) : x < modN c ∧ y < modN c := by
 rcases h with ⟨h1, h2, _⟩ | ⟨_, h1, h2, _⟩
 ·rw [h1, h2]; exact ⟨modN_pos c, modN_pos c⟩
 ·exact ⟨h1, h2⟩
def ofJ (x y : Nat) (i : Bool) : Nat × Nat × Nat := if i then (0, 0, 0) else (x, y, 1)
theorem jof_any (x y : Nat) (i : Bool) (w : World) : Calls Tryz.prog 80 #[.agg #[.int .u64 (limb 0 x), .int .u64 (limb 1 x), .int .u64 (limb 2 x), .int .u64 (limb 3 x), .int .u64 (limb 0 y), .int .u64 (limb 1 y), .int .u64 (limb 2 y), .int .u64 (limb 3 y), .bool i]] w fun e w' => e = .returned (.agg #[.int .u64 (limb 0 ((ofJ x y i).1)), .int .u64 (limb 1 ((ofJ x y i).1)), .int .u64 (limb 2 ((ofJ x y i).1)), .int .u64 (limb 3 ((ofJ x y i).1)), .int .u64 (limb 0 ((ofJ x y i).2.1)), .int .u64 (limb 1 ((ofJ x y i).2.1)), .int .u64 (limb 2 ((ofJ x y i).2.1)), .int .u64 (limb 3 ((ofJ x y i).2.1)), .int .u64 (limb 0 ((ofJ x y i).2.2)), .int .u64 (limb 1 ((ofJ x y i).2.2)), .int .u64 (limb 2 ((ofJ x y i).2.2)), .int .u64 (limb 3 ((ofJ x y i).2.2))]) ∧ Below w.heap.size w w' := by
 cases i with
 | true => exact jof_inf x y w
 | false => exact jof_fin x y w
theorem one_Z (n : Nat) [NeZero n] (a : Fin n) : a * 1 * 1 = a ∧ a * 1 * 1 * 1 = a := by constructor <;> grind
theorem ofJ_ok {c x y : Nat} {i : Bool} (h : onC c x y i) : JR c (ofJ x y i).1 (ofJ x y i).2.1 (ofJ x y i).2.2 x y i := by
 cases i with
 | true => exact ⟨modN_pos c, modN_pos c, modN_pos c, Or.inl ⟨rfl, rfl⟩⟩
 | false =>
  have hl := on_lt h
  refine ⟨hl.1, hl.2, (modN_odd c).2, Or.inr ⟨rfl, Nat.one_ne_zero, ?_, ?_⟩⟩
  ·show fz c x = fz c x * fz c 1 * fz c 1
   rw [fz_one, (one_Z _ _).1]
  ·show fz c y = fz c y * fz c 1 * fz c 1 * fz c 1
   rw [fz_one, (one_Z _ _).2]
end Go.Proofs.YtokoknacolmhgaaGreatDoor
namespace Go.Proofs.YtokoknacolmhgaaGreatDoor
open Go.RowKit
set_option maxRecDepth 20000 in
theorem ctimes_any (c k x y : Nat) (i : Bool) (hc : c < 4) (hon : onC c x y i) (w : World) (hg : GlobC w) :
  Calls Tryz.prog 48 #[.int .i64 (c : Int), .agg #[.int .u64 (limb 0 k), .int .u64 (limb 1 k), .int .u64 (limb 2 k), .int .u64 (limb 3 k)], .agg #[.int .u64 (limb 0 x), .int .u64 (limb 1 x), .int .u64 (limb 2 x), .int .u64 (limb 3 x), .int .u64 (limb 0 y), .int .u64 (limb 1 y), .int .u64 (limb 2 y), .int .u64 (limb 3 y), .bool i]] w fun e w' => e = .returned (.agg #[.int .u64 (limb 0 ((mulUp c x y i k 256).1)), .int .u64 (limb 1 ((mulUp c x y i k 256).1)), .int .u64 (limb 2 ((mulUp c x y i k 256).1)), .int .u64 (limb 3 ((mulUp c x y i k 256).1)), .int .u64 (limb 0 ((mulUp c x y i k 256).2.1)), .int .u64 (limb 1 ((mulUp c x y i k 256).2.1)), .int .u64 (limb 2 ((mulUp c x y i k 256).2.1)), .int .u64 (limb 3 ((mulUp c x y i k 256).2.1)), .bool (mulUp c x y i k 256).2.2]) ∧ Below w.heap.size w w' := by
 have HG0 : Hid (GlobC w) := hg
 have HO : Hid (∀ w, _) := fun w => jof_any x y i w
 have hJ1 := ofJ_ok hon
 have HT : Hid (∀ X Y Z, X < modN c → Y < modN c → Z < modN c → ∀ w, Glob w → _) := fun X Y Z h1 h2 h3 w hg => twice_any c X Y Z hc (lt_M c _ h1) (lt_M c _ h2) (lt_M c _ h3) w hg
 have HP : Hid (∀ X Y Z, X < modN c → Y < modN c → Z < modN c → ∀ w, Glob w → _) := fun X Y Z h1 h2 h3 w hg => plus_any c X Y Z (ofJ x y i).1 (ofJ x y i).2.1 (ofJ x y i).2.2 hc (lt_M c _ h1) (lt_M c _ h2) (lt_M c _ h3) (lt_M c _ hJ1.1) (lt_M c _ hJ1.2.1) (lt_M c _ hJ1.2.2.1) w hg
 have HB : Hid (∀ (i : Int), 0 ≤ i → i < 256 → ∀ w, _) := fun i h0 h1 w => bit_any k i h0 h1 w
 have HN : Hid (∀ X Y Z, JR c X Y Z (mulUp c x y i k 256).1 (mulUp c x y i k 256).2.1 (mulUp c x y i k 256).2.2 → ∀ w, GlobC w → _) := fun X Y Z h w hg => plain_any c X Y Z (mulUp c x y i k 256).1 (mulUp c x y i k 256).2.1 (mulUp c x y i k 256).2.2 hc (mulUp_on k hon 256) h w hg
 have HJ0 : Hid (JR c 0 0 0 (mulUp c x y i k 0).1 (mulUp c x y i k 0).2.1 (mulUp c x y i k 0).2.2) := ⟨modN_pos c, modN_pos c, modN_pos c, Or.inl ⟨rfl, rfl⟩⟩
 have HST : Hid (∀ j X Y Z, JR c X Y Z (mulUp c x y i k j).1 (mulUp c x y i k j).2.1 (mulUp c x y i k j).2.2 → ¬ bitN k (255 - j) = 1 → JR c (tw c X Y Z).1 (tw c X Y Z).2.1 (tw c X Y Z).2.2 (mulUp c x y i k (j + 1)).1 (mulUp c x y i k (j + 1)).2.1 (mulUp c x y i k (j + 1)).2.2) := fun j X Y Z h hb => by
  have := tw_ok (mulUp_on k hon j) h
  show JR c _ _ _ (stepPt c x y i (decide (bitN k (255 - j) = 1)) (mulUp c x y i k j)).1 (stepPt c x y i (decide (bitN k (255 - j) = 1)) (mulUp c x y i k j)).2.1 (stepPt c x y i (decide (bitN k (255 - j) = 1)) (mulUp c x y i k j)).2.2
  rw [decide_eq_false hb]
  exact this
 have HSP : Hid (∀ j X Y Z, JR c X Y Z (mulUp c x y i k j).1 (mulUp c x y i k j).2.1 (mulUp c x y i k j).2.2 → bitN k (255 - j) = 1 → ∀ X1 Y1 Z1, X1 = (tw c X Y Z).1 → Y1 = (tw c X Y Z).2.1 → Z1 = (tw c X Y Z).2.2 → JR c (pl c X1 Y1 Z1 (ofJ x y i).1 (ofJ x y i).2.1 (ofJ x y i).2.2).1 (pl c X1 Y1 Z1 (ofJ x y i).1 (ofJ x y i).2.1 (ofJ x y i).2.2).2.1 (pl c X1 Y1 Z1 (ofJ x y i).1 (ofJ x y i).2.1 (ofJ x y i).2.2).2.2 (mulUp c x y i k (j + 1)).1 (mulUp c x y i k (j + 1)).2.1 (mulUp c x y i k (j + 1)).2.2) := fun j X Y Z h hb X1 Y1 Z1 e1 e2 e3 => by
  have h1 := tw_ok (mulUp_on k hon j) h
  subst e1 e2 e3
  have := pl_ok (dbl_on (mulUp_on k hon j)) hon h1 hJ1
  show JR c _ _ _ (stepPt c x y i (decide (bitN k (255 - j) = 1)) (mulUp c x y i k j)).1 (stepPt c x y i (decide (bitN k (255 - j) = 1)) (mulUp c x y i k j)).2.1 (stepPt c x y i (decide (bitN k (255 - j) = 1)) (mulUp c x y i k j)).2.2
  rw [decide_eq_true hb]
  exact this
 have HTL : Hid (∀ j X Y Z, JR c X Y Z (mulUp c x y i k j).1 (mulUp c x y i k j).2.1 (mulUp c x y i k j).2.2 → (tw c X Y Z).1 < modN c ∧ (tw c X Y Z).2.1 < modN c ∧ (tw c X Y Z).2.2 < modN c) := fun j X Y Z h => by
  have h1 := tw_ok (mulUp_on k hon j) h
  exact ⟨h1.1, h1.2.1, h1.2.2.1⟩
 obtain ⟨MX, eMX⟩ : ∃ z, z = (mulUp c x y i k 256).1 := ⟨_, rfl⟩
 obtain ⟨MY, eMY⟩ : ∃ z, z = (mulUp c x y i k 256).2.1 := ⟨_, rfl⟩
 obtain ⟨MI, eMI⟩ : ∃ z, z = (mulUp c x y i k 256).2.2 := ⟨_, rfl⟩
 have HEM : Hid (MX = (mulUp c x y i k 256).1 ∧ MY = (mulUp c x y i k 256).2.1 ∧ MI = (mulUp c x y i k 256).2.2) := ⟨eMX, eMY, eMI⟩
 rw [← eMX, ← eMY, ← eMI] at HN ⊢
 clear eMX eMY eMI
 obtain ⟨U, eU⟩ : ∃ z, z = (ofJ x y i).1 := ⟨_, rfl⟩
 obtain ⟨V, eV⟩ : ∃ z, z = (ofJ x y i).2.1 := ⟨_, rfl⟩
 obtain ⟨T, eT⟩ : ∃ z, z = (ofJ x y i).2.2 := ⟨_, rfl⟩
 rw [← eU, ← eV, ← eT] at HO HP HSP
 clear hg hon hJ1 eU eV eT
 go_enter Tryz.func48, Tryz.ntmps48
 go_upto_region 1 with fail
 obtain ⟨w0, hw0⟩ : ∃ w0 : World, w0 = ((w.alloc (.cells #[.int .u64 (limb 0 k), .int .u64 (limb 1 k), .int .u64 (limb 2 k), .int .u64 (limb 3 k)] 28)).alloc (.cells #[.int .u64 (limb 0 x), .int .u64 (limb 1 x), .int .u64 (limb 2 x), .int .u64 (limb 3 x), .int .u64 (limb 0 y), .int .u64 (limb 1 y), .int .u64 (limb 2 y), .int .u64 (limb 3 y), .bool i] 30)).alloc (.cells #[.int .u64 0, .int .u64 0, .int .u64 0, .int .u64 0, .int .u64 0, .int .u64 0, .int .u64 0, .int .u64 0, .bool false] 30) := ⟨_, rfl⟩
 have bk0 : Blk w0 28 w.heap.size (fun i => limb i k) := by rw [hw0]; exact ((Blk.newAt _ _ _ (fun i => limb i k) rfl).alloc _).alloc _
 have bp0 : Pt w0 (w.heap.size + 1) x y i := by rw [hw0]; exact (Pt.newAt _ _ _ _ _ (by simp)).alloc _
 have br0 : Pt w0 (w.heap.size + 1 + 1) 0 0 false := by rw [hw0]; exact Pt.zeroAt _ _ (by simp)
 have hs0 : w0.heap.size = w.heap.size + 1 + 1 + 1 := by rw [hw0]; simp
 have hbw0 : Below w.heap.size w w0 := by rw [hw0]; exact bAlloc (bAlloc ((Below.refl _ _).alloc (Nat.le_refl _) _) _) _
 rw [← hw0]
 have HS0 := (show Hid _ from hs0)
 clear hw0 hs0
 have b71 := Jt.zeroAt w0 _ rfl
 have bk1 := bk0.alloc (.cells #[.int .u64 0, .int .u64 0, .int .u64 0, .int .u64 0, .int .u64 0, .int .u64 0, .int .u64 0, .int .u64 0, .int .u64 0, .int .u64 0, .int .u64 0, .int .u64 0] 76); have bp1 := bp0.alloc (.cells #[.int .u64 0, .int .u64 0, .int .u64 0, .int .u64 0, .int .u64 0, .int .u64 0, .int .u64 0, .int .u64 0, .int .u64 0, .int .u64 0, .int .u64 0, .int .u64 0] 76); have br1 := br0.alloc (.cells #[.int .u64 0, .int .u64 0, .int .u64 0, .int .u64 0, .int .u64 0, .int .u64 0, .int .u64 0, .int .u64 0, .int .u64 0, .int .u64 0, .int .u64 0, .int .u64 0] 76)
 have hbw1 := bAlloc hbw0 (.cells #[.int .u64 0, .int .u64 0, .int .u64 0, .int .u64 0, .int .u64 0, .int .u64 0, .int .u64 0, .int .u64 0, .int .u64 0, .int .u64 0, .int .u64 0, .int .u64 0] 76)
 go_upto_region 2 with fail
 obtain ⟨N7, hN7⟩ : ∃ N, N = w0.heap.size := ⟨_, rfl⟩
 obtain ⟨w1, hw1⟩ : ∃ WW : World, WW = w0.alloc (.cells #[.int .u64 0, .int .u64 0, .int .u64 0, .int .u64 0, .int .u64 0, .int .u64 0, .int .u64 0, .int .u64 0, .int .u64 0, .int .u64 0, .int .u64 0, .int .u64 0] 76) := ⟨_, rfl⟩
 rw [← hw1] at b71 bk1 bp1 br1 hbw1 ⊢
 rw [← hN7] at b71 ⊢
 have lN7 : w.heap.size + 1 + 1 < N7 := by have := HS0.out; omega
 clear hw1 hN7 bk0 bp0 br0 hbw0 HS0
 obtain ⟨p0, p1, p2, p3, p4, p5, p6, p7, p8, pf⟩ := bp1.cells
 go_wp2_with fail
 refine (HO.out _).mono ?_
 rintro e w2 ⟨rfl, hb2⟩
 clear p0 p1 p2 p3 p4 p5 p6 p7 p8 pf bp1 HO
 have b73 := (b71.belowAll hb2).alloc (.cells #[.int .u64 (limb 0 U), .int .u64 (limb 1 U), .int .u64 (limb 2 U), .int .u64 (limb 3 U), .int .u64 (limb 0 V), .int .u64 (limb 1 V), .int .u64 (limb 2 V), .int .u64 (limb 3 V), .int .u64 (limb 0 T), .int .u64 (limb 1 T), .int .u64 (limb 2 T), .int .u64 (limb 3 T)] 76); have bk3 := (bk1.belowAll hb2).alloc (.cells #[.int .u64 (limb 0 U), .int .u64 (limb 1 U), .int .u64 (limb 2 U), .int .u64 (limb 3 U), .int .u64 (limb 0 V), .int .u64 (limb 1 V), .int .u64 (limb 2 V), .int .u64 (limb 3 V), .int .u64 (limb 0 T), .int .u64 (limb 1 T), .int .u64 (limb 2 T), .int .u64 (limb 3 T)] 76); have br3 := (br1.belowAll hb2).alloc (.cells #[.int .u64 (limb 0 U), .int .u64 (limb 1 U), .int .u64 (limb 2 U), .int .u64 (limb 3 U), .int .u64 (limb 0 V), .int .u64 (limb 1 V), .int .u64 (limb 2 V), .int .u64 (limb 3 V), .int .u64 (limb 0 T), .int .u64 (limb 1 T), .int .u64 (limb 2 T), .int .u64 (limb 3 T)] 76)
 have b83 : Jt (w2.alloc (.cells #[.int .u64 (limb 0 U), .int .u64 (limb 1 U), .int .u64 (limb 2 U), .int .u64 (limb 3 U), .int .u64 (limb 0 V), .int .u64 (limb 1 V), .int .u64 (limb 2 V), .int .u64 (limb 3 V), .int .u64 (limb 0 T), .int .u64 (limb 1 T), .int .u64 (limb 2 T), .int .u64 (limb 3 T)] 76)) w2.heap.size U V T := Jt.newAt _ _ _ _ _ rfl
 have lN8 := (b71.belowAll hb2).lt
 have hbw3 := bAlloc (bStep hbw1 hb2) (.cells #[.int .u64 (limb 0 U), .int .u64 (limb 1 U), .int .u64 (limb 2 U), .int .u64 (limb 3 U), .int .u64 (limb 0 V), .int .u64 (limb 1 V), .int .u64 (limb 2 V), .int .u64 (limb 3 V), .int .u64 (limb 0 T), .int .u64 (limb 1 T), .int .u64 (limb 2 T), .int .u64 (limb 3 T)] 76)
 go_upto_region 3 with fail
 obtain ⟨N8, hN8⟩ : ∃ N, N = w2.heap.size := ⟨_, rfl⟩
 obtain ⟨w3, hw3⟩ : ∃ WW : World, WW = w2.alloc (.cells #[.int .u64 (limb 0 U), .int .u64 (limb 1 U), .int .u64 (limb 2 U), .int .u64 (limb 3 U), .int .u64 (limb 0 V), .int .u64 (limb 1 V), .int .u64 (limb 2 V), .int .u64 (limb 3 V), .int .u64 (limb 0 T), .int .u64 (limb 1 T), .int .u64 (limb 2 T), .int .u64 (limb 3 T)] 76) := ⟨_, rfl⟩
 rw [← hw3] at b73 bk3 br3 b83 hbw3 ⊢
 rw [← hN8] at b83 lN8 ⊢
 clear hw3 hN8 b71 bk1 br1 hbw1 hb2
 go_wp2
 go_loopw [12] (fun iv wr => ∃ (j X Y Z : Nat), iv = .int .i64 (j : Int) ∧ j ≤ 256 ∧ Hid (JR c X Y Z (mulUp c x y i k j).1 (mulUp c x y i k j).2.1 (mulUp c x y i k j).2.2) ∧ Below w.heap.size w wr ∧ Jt wr N7 X Y Z ∧ Blk wr 28 w.heap.size (fun i => limb i k) ∧ Pt wr (w.heap.size + 1 + 1) 0 0 false ∧ Jt wr N8 U V T) (fun iv _ => 256 - (intOf iv).toNat)
 case atStart => exact ⟨0, 0, 0, 0, rfl, by decide, HJ0.out, hbw3, b73, bk3, br3, b83⟩
 case round =>
  obtain ⟨j, X, Y, Z, rfl, hj, HX, hbr, b7, bk, br, b8⟩ := hrel
  clear b73 bk3 br3 b83 hbw3 HJ0
  by_cases hlt : j < 256
  ·have hki : (j : Int) < 256 := by omega
   have HT1 := (show Hid _ from HT.out X Y Z HX.out.1 HX.out.2.1 HX.out.2.2.1)
   obtain ⟨X1, e1⟩ : ∃ z, z = (tw c X Y Z).1 := ⟨_, rfl⟩
   obtain ⟨Y1, e2⟩ : ∃ z, z = (tw c X Y Z).2.1 := ⟨_, rfl⟩
   obtain ⟨Z1, e3⟩ : ∃ z, z = (tw c X Y Z).2.2 := ⟨_, rfl⟩
   have HTL1 := (show Hid _ from HTL.out j X Y Z HX.out)
   have HE1 : Hid (X1 = (tw c X Y Z).1 ∧ Y1 = (tw c X Y Z).2.1 ∧ Z1 = (tw c X Y Z).2.2) := ⟨e1, e2, e3⟩
   rw [← e1, ← e2, ← e3] at HT1 HTL1
   clear e1 e2 e3
   have HGr : Hid (Glob wr) := (HG0.out.below hbr).1
   obtain ⟨q0, q1, q2, q3, q4, q5, q6, q7, q8, q9, q10, q11, qf⟩ := b7.cells
   go_wp2_with fail
   refine (HT1.out _ HGr.out).mono ?_
   rintro e w4 ⟨rfl, hb4⟩
   clear q0 q1 q2 q3 q4 q5 q6 q7 q8 q9 q10 q11 qf HGr HT1
   have b74 := b7.belowAll hb4; have bk4 := bk.belowAll hb4; have br4 := br.belowAll hb4; have b84 := b8.belowAll hb4
   have hbw4 := bStep hbr hb4
   clear b7 bk br b8 hbr hb4
   obtain ⟨q0, q1, q2, q3, q4, q5, q6, q7, q8, q9, q10, q11, qf⟩ := b74.cells
   go_upto_region 7 with fail
   clear q0 q1 q2 q3 q4 q5 q6 q7 q8 q9 q10 q11 qf
   obtain ⟨w5, hw5⟩ : ∃ WW : World, WW = ((((((((((((w4.setCell ⟨N7, 0, none⟩ (.int .u64 (limb 0 X1))).setCell ⟨N7, 1, none⟩ (.int .u64 (limb 1 X1))).setCell ⟨N7, 2, none⟩ (.int .u64 (limb 2 X1))).setCell ⟨N7, 3, none⟩ (.int .u64 (limb 3 X1))).setCell ⟨N7, 4, none⟩ (.int .u64 (limb 0 Y1))).setCell ⟨N7, 5, none⟩ (.int .u64 (limb 1 Y1))).setCell ⟨N7, 6, none⟩ (.int .u64 (limb 2 Y1))).setCell ⟨N7, 7, none⟩ (.int .u64 (limb 3 Y1))).setCell ⟨N7, 8, none⟩ (.int .u64 (limb 0 Z1))).setCell ⟨N7, 9, none⟩ (.int .u64 (limb 1 Z1))).setCell ⟨N7, 10, none⟩ (.int .u64 (limb 2 Z1))).setCell ⟨N7, 11, none⟩ (.int .u64 (limb 3 Z1))) := ⟨_, rfl⟩
   have b75 : Jt w5 N7 X1 Y1 Z1 := by rw [hw5]; exact b74.set12 X1 Y1 Z1
   have bk5 : Blk w5 28 w.heap.size (fun i => limb i k) := by rw [hw5]; exact bk4.other12 (by omega) _ _ _ _ _ _ _ _ _ _ _ _ 
   have br5 : Pt w5 (w.heap.size + 1 + 1) 0 0 false := by rw [hw5]; exact br4.other12 (by omega) _ _ _ _ _ _ _ _ _ _ _ _ 
   have b85 : Jt w5 N8 U V T := by rw [hw5]; exact b84.other12 (by omega) _ _ _ _ _ _ _ _ _ _ _ _ 
   have hbw5 : Below w.heap.size w w5 := by rw [hw5]; exact bSet12 hbw4 (by omega) _ _ _ _ _ _ _ _ _ _ _ _ 
   rw [← hw5]
   clear hw5 b74 bk4 br4 b84 hbw4
   have ck := bk5.cell
   have hsub : (255 : Int) - (j : Int) = ((255 - j : Nat) : Int) := by omega
   have HBi := HB.out ((255 - j : Nat) : Int) (by omega) (by omega)
   rw [Int.toNat_natCast] at HBi
   obtain ⟨d, ed⟩ : ∃ d, d = 255 - j := ⟨_, rfl⟩
   rw [← ed] at hsub HBi
   have hd : d ≤ 255 := by omega
   have HD := (show Hid _ from ed)
   have HBB := (show Hid _ from HBi)
   clear HBi ed
   by_cases hd0 : bitN k d = 1
   ·rw [decide_eq_true hd0] at HBB
    have HJ2 : Hid (JR c (pl c X1 Y1 Z1 U V T).1 (pl c X1 Y1 Z1 U V T).2.1 (pl c X1 Y1 Z1 U V T).2.2 (mulUp c x y i k (j + 1)).1 (mulUp c x y i k (j + 1)).2.1 (mulUp c x y i k (j + 1)).2.2) := HSP.out j X Y Z HX.out (by rw [← HD.out]; exact hd0) X1 Y1 Z1 HE1.out.1 HE1.out.2.1 HE1.out.2.2
    have HP1 := (show Hid _ from HP.out X1 Y1 Z1 HTL1.out.1 HTL1.out.2.1 HTL1.out.2.2)
    obtain ⟨X2, e4⟩ : ∃ z, z = (pl c X1 Y1 Z1 U V T).1 := ⟨_, rfl⟩
    obtain ⟨Y2, e5⟩ : ∃ z, z = (pl c X1 Y1 Z1 U V T).2.1 := ⟨_, rfl⟩
    obtain ⟨Z2, e6⟩ : ∃ z, z = (pl c X1 Y1 Z1 U V T).2.2 := ⟨_, rfl⟩
    rw [← e4, ← e5, ← e6] at HJ2 HP1
    clear e4 e5 e6 hd0 HD HE1 HTL1 HX
    go_wp2_with fail
    refine (HBB.out _).mono ?_
    rintro e w6 ⟨rfl, hb6⟩
    clear ck
    have b76 := b75.belowAll hb6; have bk6 := bk5.belowAll hb6; have br6 := br5.belowAll hb6; have b86 := b85.belowAll hb6
    have hbw6 := bStep hbw5 hb6
    clear b75 bk5 br5 b85 hbw5 hb6
    have HG6 : Hid (Glob w6) := (HG0.out.below hbw6).1
    obtain ⟨q0, q1, q2, q3, q4, q5, q6, q7, q8, q9, q10, q11, qf⟩ := b76.cells
    obtain ⟨s0, s1, s2, s3, s4, s5, s6, s7, s8, s9, s10, s11, sf⟩ := b86.cells
    go_wp2_with fail
    refine (HP1.out _ HG6.out).mono ?_
    rintro e w7 ⟨rfl, hb7⟩
    clear q0 q1 q2 q3 q4 q5 q6 q7 q8 q9 q10 q11 qf s0 s1 s2 s3 s4 s5 s6 s7 s8 s9 s10 s11 sf HG6 HP1
    obtain ⟨q0, q1, q2, q3, q4, q5, q6, q7, q8, q9, q10, q11, qf⟩ := (b76.belowAll hb7).cells
    go_upto_region 9 with fail
    clear q0 q1 q2 q3 q4 q5 q6 q7 q8 q9 q10 q11 qf
    obtain ⟨w8, hw8⟩ : ∃ WW : World, WW = ((((((((((((w7.setCell ⟨N7, 0, none⟩ (.int .u64 (limb 0 X2))).setCell ⟨N7, 1, none⟩ (.int .u64 (limb 1 X2))).setCell ⟨N7, 2, none⟩ (.int .u64 (limb 2 X2))).setCell ⟨N7, 3, none⟩ (.int .u64 (limb 3 X2))).setCell ⟨N7, 4, none⟩ (.int .u64 (limb 0 Y2))).setCell ⟨N7, 5, none⟩ (.int .u64 (limb 1 Y2))).setCell ⟨N7, 6, none⟩ (.int .u64 (limb 2 Y2))).setCell ⟨N7, 7, none⟩ (.int .u64 (limb 3 Y2))).setCell ⟨N7, 8, none⟩ (.int .u64 (limb 0 Z2))).setCell ⟨N7, 9, none⟩ (.int .u64 (limb 1 Z2))).setCell ⟨N7, 10, none⟩ (.int .u64 (limb 2 Z2))).setCell ⟨N7, 11, none⟩ (.int .u64 (limb 3 Z2))) := ⟨_, rfl⟩
    have b78 : Jt w8 N7 X2 Y2 Z2 := by rw [hw8]; exact (b76.belowAll hb7).set12 X2 Y2 Z2
    have bk8 : Blk w8 28 w.heap.size (fun i => limb i k) := by rw [hw8]; exact (bk6.belowAll hb7).other12 (by omega) _ _ _ _ _ _ _ _ _ _ _ _ 
    have br8 : Pt w8 (w.heap.size + 1 + 1) 0 0 false := by rw [hw8]; exact (br6.belowAll hb7).other12 (by omega) _ _ _ _ _ _ _ _ _ _ _ _ 
    have b88 : Jt w8 N8 U V T := by rw [hw8]; exact (b86.belowAll hb7).other12 (by omega) _ _ _ _ _ _ _ _ _ _ _ _ 
    have hbw8 : Below w.heap.size w w8 := by rw [hw8]; exact bSet12 (bStep hbw6 hb7) (by omega) _ _ _ _ _ _ _ _ _ _ _ _ 
    rw [← hw8]
    clear hw8 b76 bk6 br6 b86 hbw6 hb7
    go_wp2
    go_roundw
    case measure => simp [intOf]; omega
    case rel => exact ⟨j + 1, X2, Y2, Z2, by go_num, by omega, HJ2, hbw8, b78, bk8, br8, b88⟩
   ·rw [decide_eq_false hd0] at HBB
    have HJ1 : Hid (JR c (tw c X Y Z).1 (tw c X Y Z).2.1 (tw c X Y Z).2.2 (mulUp c x y i k (j + 1)).1 (mulUp c x y i k (j + 1)).2.1 (mulUp c x y i k (j + 1)).2.2) := HST.out j X Y Z HX.out (by rw [← HD.out]; exact hd0)
    rw [← HE1.out.1, ← HE1.out.2.1, ← HE1.out.2.2] at HJ1
    clear hd0 HD HX HE1 HTL1
    go_wp2_with fail
    refine (HBB.out _).mono ?_
    rintro e w6 ⟨rfl, hb6⟩
    clear ck
    have b76 := b75.belowAll hb6; have bk6 := bk5.belowAll hb6; have br6 := br5.belowAll hb6; have b86 := b85.belowAll hb6
    have hbw6 := bStep hbw5 hb6
    clear b75 bk5 br5 b85 hbw5 hb6
    go_wp2
    go_roundw
    case measure => simp [intOf]; omega
    case rel => exact ⟨j + 1, X1, Y1, Z1, by go_num, by omega, HJ1, hbw6, b76, bk6, br6, b86⟩
  ·have hki : ¬ (j : Int) < 256 := by omega
   have HGr : Hid (GlobC wr) := HG0.out.below hbr
   have hj2 : j = 256 := by omega
   rw [hj2] at HX
   have HN1 := (show Hid _ from HN.out X Y Z (by rw [HEM.out.1, HEM.out.2.1, HEM.out.2.2]; exact HX.out))
   clear HX hlt hj2 HEM
   obtain ⟨q0, q1, q2, q3, q4, q5, q6, q7, q8, q9, q10, q11, qf⟩ := b7.cells
   go_wp2_with fail
   refine (HN1.out _ HGr.out).mono ?_
   rintro e w5 ⟨rfl, hb5⟩
   clear q0 q1 q2 q3 q4 q5 q6 q7 q8 q9 q10 q11 qf
   obtain ⟨r0, r1, r2, r3, r4, r5, r6, r7, r8, rf⟩ := (br.belowAll hb5).cells
   go_wp2
   (try simp only [Exit.inBlock, Exit.then])
   refine bodyPost_ret (v := .agg #[.int .u64 (limb 0 MX), .int .u64 (limb 1 MX), .int .u64 (limb 2 MX), .int .u64 (limb 3 MX), .int .u64 (limb 0 MY), .int .u64 (limb 1 MY), .int .u64 (limb 2 MY), .int .u64 (limb 3 MY), .bool MI]) (by simp [results, Tryz.results48, go_sem, r0, r1, r2, r3, r4, r5, r6, r7, r8]) rfl ⟨rfl, ?_⟩
   exact bSet9 (bStep hbr hb5) (by omega) _ _ _ _ _ _ _ _ _
def xc (c : Nat) : Nat := if c % 2 = 0 then c + 1 else c - 1
theorem xc_lt {c : Nat} (h : c < 4) : xc c < 4 := by unfold xc; split <;> omega
theorem xor_c (c : Nat) (h : c < 4) : bits BinOp.xor IntKind.i64 (c : Int) 1 = ((xc c : Nat) : Int) := by
 have : c = 0 ∨ c = 1 ∨ c = 2 ∨ c = 3 := by omega
 rcases this with rfl | rfl | rfl | rfl <;> decide
set_option maxRecDepth 20000 in
theorem mul_on (c k x y : Nat) (i : Bool) (hc : c < 4) (hk : k < 115792089237316195423570985008687907853269984665640564039457584007913129639936) (hx : x < 115792089237316195423570985008687907853269984665640564039457584007913129639936) (hy : y < 115792089237316195423570985008687907853269984665640564039457584007913129639936) (hon : onC c x y i) (w : World) (hg : GlobC w) :
  Calls Tryz.prog 25 #[.int .i64 (c : Int), .agg #[.int .u64 (limb 0 k), .int .u64 (limb 1 k), .int .u64 (limb 2 k), .int .u64 (limb 3 k)], .agg #[.int .u64 (limb 0 x), .int .u64 (limb 1 x), .int .u64 (limb 2 x), .int .u64 (limb 3 x), .int .u64 (limb 0 y), .int .u64 (limb 1 y), .int .u64 (limb 2 y), .int .u64 (limb 3 y), .bool i]] w fun e w' => e = .returned (.agg #[.int .u64 ((limb 0 ((mulUp c x y i (k % modN (xc c)) 256).1) : Nat) : Int), .int .u64 ((limb 1 ((mulUp c x y i (k % modN (xc c)) 256).1) : Nat) : Int), .int .u64 ((limb 2 ((mulUp c x y i (k % modN (xc c)) 256).1) : Nat) : Int), .int .u64 ((limb 3 ((mulUp c x y i (k % modN (xc c)) 256).1) : Nat) : Int), .int .u64 ((limb 0 ((mulUp c x y i (k % modN (xc c)) 256).2.1) : Nat) : Int), .int .u64 ((limb 1 ((mulUp c x y i (k % modN (xc c)) 256).2.1) : Nat) : Int), .int .u64 ((limb 2 ((mulUp c x y i (k % modN (xc c)) 256).2.1) : Nat) : Int), .int .u64 ((limb 3 ((mulUp c x y i (k % modN (xc c)) 256).2.1) : Nat) : Int), .bool (mulUp c x y i (k % modN (xc c)) 256).2.2]) ∧ Below w.heap.size w w' := by
 have HG0 : Hid (GlobC w) := hg
 have HON : Hid (∀ w, GlobC w → _) := fun w hg => on_in c x y i hc hx hy w hg
 rw [decide_eq_true hon] at HON
 have HM : Hid (∀ w, Glob w → _) := fun w hg => fModulus_any (xc c) (xc_lt hc) w hg
 have HR : Hid (∀ w, _) := fun w => rem_low k (modN (xc c)) hk (modN_good (xc c)).lt.2.2 (by have := modN_pos (xc c); omega) w
 have HT : Hid (∀ w, GlobC w → _) := fun w hg => ctimes_any c (k % modN (xc c)) x y i hc hon w hg
 have X01 := xor_c c hc
 obtain ⟨MX, eMX⟩ : ∃ z, z = (mulUp c x y i (k % modN (xc c)) 256).1 := ⟨_, rfl⟩
 obtain ⟨MY, eMY⟩ : ∃ z, z = (mulUp c x y i (k % modN (xc c)) 256).2.1 := ⟨_, rfl⟩
 obtain ⟨MI, eMI⟩ : ∃ z, z = (mulUp c x y i (k % modN (xc c)) 256).2.2 := ⟨_, rfl⟩
 rw [← eMX, ← eMY, ← eMI] at HT ⊢
 obtain ⟨m, em⟩ : ∃ m, m = modN (xc c) := ⟨_, rfl⟩
 rw [← em] at HM HR HT
 obtain ⟨u, eu⟩ : ∃ u, u = k % m := ⟨_, rfl⟩
 rw [← eu] at HR HT
 obtain ⟨d, ed⟩ : ∃ d, d = xc c := ⟨_, rfl⟩
 rw [← ed] at HM X01
 clear eMX eMY eMI em eu ed hg hc hk hx hy hon
 go_enter Tryz.func25, Tryz.ntmps25
 go_upto_region 1 with fail
 obtain ⟨w0, hw0⟩ : ∃ w0 : World, w0 = ((w.alloc (.cells #[.int .u64 (limb 0 k), .int .u64 (limb 1 k), .int .u64 (limb 2 k), .int .u64 (limb 3 k)] 28)).alloc (.cells #[.int .u64 (limb 0 x), .int .u64 (limb 1 x), .int .u64 (limb 2 x), .int .u64 (limb 3 x), .int .u64 (limb 0 y), .int .u64 (limb 1 y), .int .u64 (limb 2 y), .int .u64 (limb 3 y), .bool i] 30)).alloc (.cells #[.int .u64 0, .int .u64 0, .int .u64 0, .int .u64 0, .int .u64 0, .int .u64 0, .int .u64 0, .int .u64 0, .bool false] 30) := ⟨_, rfl⟩
 have bk0 : Blk w0 28 w.heap.size (fun i => limb i k) := by rw [hw0]; exact ((Blk.newAt _ _ _ (fun i => limb i k) rfl).alloc _).alloc _
 have bp0 : Pt w0 (w.heap.size + 1) x y i := by rw [hw0]; exact (Pt.newAt _ _ _ _ _ (by simp)).alloc _
 have br0 : Pt w0 (w.heap.size + 1 + 1) 0 0 false := by rw [hw0]; exact Pt.zeroAt _ _ (by simp)
 have hbw0 : Below w.heap.size w w0 := by rw [hw0]; exact bAlloc (bAlloc ((Below.refl _ _).alloc (Nat.le_refl _) _) _) _
 have HGa : Hid (GlobC w0) := HG0.out.below hbw0
 rw [← hw0]
 clear hw0
 obtain ⟨p0, p1, p2, p3, p4, p5, p6, p7, p8, pf⟩ := bp0.cells
 go_wp2_with fail
 refine (HON.out _ HGa.out).mono ?_
 rintro e w1 ⟨rfl, hb1⟩
 clear p0 p1 p2 p3 p4 p5 p6 p7 p8 pf HON
 have bk1 := bk0.belowAll hb1; have bp1 := bp0.belowAll hb1; have br1 := br0.belowAll hb1
 have hbw1 := bStep hbw0 hb1
 have HG1 : Hid (GlobC w1) := HG0.out.below hbw1
 clear bk0 bp0 br0 hbw0 hb1 HGa
 go_wp2_with fail
 refine (HM.out _ HG1.out.1).mono ?_
 rintro e w2 ⟨rfl, hb2⟩
 have bk3 := (bk1.belowAll hb2).alloc (.cells #[.int .u64 (limb 0 m), .int .u64 (limb 1 m), .int .u64 (limb 2 m), .int .u64 (limb 3 m)] 28); have bp3 := (bp1.belowAll hb2).alloc (.cells #[.int .u64 (limb 0 m), .int .u64 (limb 1 m), .int .u64 (limb 2 m), .int .u64 (limb 3 m)] 28); have br3 := (br1.belowAll hb2).alloc (.cells #[.int .u64 (limb 0 m), .int .u64 (limb 1 m), .int .u64 (limb 2 m), .int .u64 (limb 3 m)] 28)
 have bm3 : Blk (w2.alloc (.cells #[.int .u64 (limb 0 m), .int .u64 (limb 1 m), .int .u64 (limb 2 m), .int .u64 (limb 3 m)] 28)) 28 w2.heap.size (fun i => limb i m) := Blk.newAt _ _ _ (fun i => limb i m) rfl
 have hbw3 := bAlloc (bStep hbw1 hb2) (.cells #[.int .u64 (limb 0 m), .int .u64 (limb 1 m), .int .u64 (limb 2 m), .int .u64 (limb 3 m)] 28)
 clear bk1 bp1 br1 hbw1 hb2 HG1 HM X01
 go_upto_region 4 with fail
 obtain ⟨w3, hw3⟩ : ∃ WW : World, WW = w2.alloc (.cells #[.int .u64 (limb 0 m), .int .u64 (limb 1 m), .int .u64 (limb 2 m), .int .u64 (limb 3 m)] 28) := ⟨_, rfl⟩
 obtain ⟨N7, hN7⟩ : ∃ N, N = w2.heap.size := ⟨_, rfl⟩
 rw [← hw3] at bk3 bp3 br3 bm3 hbw3 ⊢
 rw [← hN7] at bm3 ⊢
 clear hw3 hN7
 have ck := bk3.cell; have cm := bm3.cell
 go_wp2_with fail
 refine (HR.out _).mono ?_
 rintro e w4 ⟨rfl, hb4⟩
 clear ck cm
 have bp5 := (bp3.belowAll hb4).alloc (.cells #[.int .u64 (limb 0 u), .int .u64 (limb 1 u), .int .u64 (limb 2 u), .int .u64 (limb 3 u)] 28); have br5 := (br3.belowAll hb4).alloc (.cells #[.int .u64 (limb 0 u), .int .u64 (limb 1 u), .int .u64 (limb 2 u), .int .u64 (limb 3 u)] 28)
 have bu5 : Blk (w4.alloc (.cells #[.int .u64 (limb 0 u), .int .u64 (limb 1 u), .int .u64 (limb 2 u), .int .u64 (limb 3 u)] 28)) 28 w4.heap.size (fun i => limb i u) := Blk.newAt _ _ _ (fun i => limb i u) rfl
 have hbw5 := bAlloc (bStep hbw3 hb4) (.cells #[.int .u64 (limb 0 u), .int .u64 (limb 1 u), .int .u64 (limb 2 u), .int .u64 (limb 3 u)] 28)
 clear bk3 bp3 br3 bm3 hbw3 hb4 HR
 go_upto_region 5 with fail
 obtain ⟨w5, hw5⟩ : ∃ WW : World, WW = w4.alloc (.cells #[.int .u64 (limb 0 u), .int .u64 (limb 1 u), .int .u64 (limb 2 u), .int .u64 (limb 3 u)] 28) := ⟨_, rfl⟩
 obtain ⟨N9, hN9⟩ : ∃ N, N = w4.heap.size := ⟨_, rfl⟩
 rw [← hw5] at bp5 br5 bu5 hbw5 ⊢
 rw [← hN9] at bu5 ⊢
 clear hw5 hN9
 have HG5 : Hid (GlobC w5) := HG0.out.below hbw5
 have cu := bu5.cell
 obtain ⟨p0, p1, p2, p3, p4, p5, p6, p7, p8, pf⟩ := bp5.cells
 go_wp2_with fail
 refine (HT.out _ HG5.out).mono ?_
 rintro e w6 ⟨rfl, hb6⟩
 clear p0 p1 p2 p3 p4 p5 p6 p7 p8 pf cu
 obtain ⟨r0, r1, r2, r3, r4, r5, r6, r7, r8, rf⟩ := (br5.belowAll hb6).cells
 go_wp2
 refine bodyPost_ret (v := .agg #[.int .u64 (limb 0 MX), .int .u64 (limb 1 MX), .int .u64 (limb 2 MX), .int .u64 (limb 3 MX), .int .u64 (limb 0 MY), .int .u64 (limb 1 MY), .int .u64 (limb 2 MY), .int .u64 (limb 3 MY), .bool MI]) (by simp [results, Tryz.results25, go_sem, r0, r1, r2, r3, r4, r5, r6, r7, r8]) rfl ⟨rfl, ?_⟩
 exact bSet9 (bStep hbw5 hb6) (by omega) _ _ _ _ _ _ _ _ _
end Go.Proofs.YtokoknacolmhgaaGreatDoor
namespace Go.Proofs.YtokoknacolmhgaaGreatDoor
def oT : Nat × Nat × Bool := (0, 0, true)
def onT (c : Nat) (Q : Nat × Nat × Bool) : Prop := onC c Q.1 Q.2.1 Q.2.2
def ad (c : Nat) (Q R : Nat × Nat × Bool) : Nat × Nat × Bool := sumPt c Q.1 Q.2.1 Q.2.2 R.1 R.2.1 R.2.2
section
variable {c : Nat} {Q R S : Nat × Nat × Bool}
theorem oT_on : onT c oT := Or.inl ⟨rfl, rfl, rfl⟩
theorem ad_on (h1 : onT c Q) (h2 : onT c R) : onT c (ad c Q R) := sum_onC h1 h2
theorem ad_comm (h1 : onT c Q) (h2 : onT c R) : ad c Q R = ad c R Q := sum_comm h1 h2
theorem ad_assoc (h1 : onT c Q) (h2 : onT c R) (h3 : onT c S) : ad c (ad c Q R) S = ad c Q (ad c R S) := sum_assoc h1 h2 h3
theorem o_ad : ad c oT Q = Q := by
 obtain ⟨x, y, i⟩ := Q
 exact inf_fin
theorem ad_o (h : onT c Q) : ad c Q oT = Q := by rw [ad_comm h oT_on, o_ad]
def ngT (c : Nat) (Q : Nat × Nat × Bool) : Nat × Nat × Bool := if Q.2.2 = true then Q else (Q.1, ng c Q.2.1, false)
theorem ngT_ok (h : onT c Q) : onT c (ngT c Q) ∧ ad c Q (ngT c Q) = oT := by
 obtain ⟨x, y, i⟩ := Q
 cases i with
 | true =>
  obtain ⟨h1, h2⟩ := on_inf h
  dsimp only at h1 h2
  subst h1 h2
  exact ⟨oT_on, inf_fin⟩
 | false => exact ⟨ng_on h, sum_opp (ng_ne h)⟩
theorem ad_cancel (h1 : onT c Q) (h2 : onT c R) (h3 : onT c S) (h : ad c Q R = ad c Q S) : R = S := by
 obtain ⟨hn, hz⟩ := ngT_ok h1
 have e : ∀ T, onT c T → ad c (ngT c Q) (ad c Q T) = T := fun T hT => by
  rw [← ad_assoc hn h1 hT, ad_comm hn h1, hz, o_ad]
 rw [← e R h2, h, e S h3]
end
def sm (c : Nat) (Q : Nat × Nat × Bool) : Nat → Nat × Nat × Bool
 | 0 => oT
 | n + 1 => ad c (sm c Q n) Q
section
variable {c : Nat} {Q R : Nat × Nat × Bool}
theorem sm_on (h : onT c Q) : ∀ n, onT c (sm c Q n)
 | 0 => oT_on
 | n + 1 => ad_on (sm_on h n) h
theorem sm_one : sm c Q 1 = Q := o_ad
theorem sm_add (h : onT c Q) (a : Nat) : ∀ b, sm c Q (a + b) = ad c (sm c Q a) (sm c Q b)
 | 0 => (ad_o (sm_on h a)).symm
 | b + 1 => by
  show ad c (sm c Q (a + b)) Q = ad c (sm c Q a) (ad c (sm c Q b) Q)
  rw [sm_add h a b, ad_assoc (sm_on h a) (sm_on h b) h]
theorem sm_mul (h : onT c Q) (a : Nat) : ∀ b, sm c (sm c Q a) b = sm c Q (a * b)
 | 0 => rfl
 | b + 1 => by
  show ad c (sm c (sm c Q a) b) (sm c Q a) = sm c Q (a * (b + 1))
  rw [sm_mul h a b, Nat.mul_succ, sm_add h]
theorem sm_o : ∀ n, sm c oT n = oT
 | 0 => rfl
 | n + 1 => by
  show ad c (sm c oT n) oT = oT
  rw [sm_o n, o_ad]
end
theorem mulUp_sm {c x y : Nat} {i : Bool} (h : onC c x y i) (k : Nat) (hk : k < 2 ^ 256) : ∀ j, j ≤ 256 → mulUp c x y i k j = sm c (x, y, i) (k / 2 ^ (256 - j))
 | 0, _ => by
  rw [Nat.sub_zero, Nat.div_eq_of_lt hk]
  rfl
 | j + 1, hj => by
  have ih := mulUp_sm h k hk j (by omega)
  have hP : onT c (x, y, i) := h
  have hb := bit_halves k (256 - (j + 1))
  rw [show 256 - (j + 1) + 1 = 256 - j from by omega] at hb
  show stepPt c x y i (decide (bitN k (255 - j) = 1)) (mulUp c x y i k j) = _
  rw [ih, show 255 - j = 256 - (j + 1) from by omega, hb]
  generalize k / 2 ^ (256 - j) = n
  have hd : dblPt c (sm c (x, y, i) n) = sm c (x, y, i) (2 * n) := by
   rw [Nat.two_mul, sm_add hP]
   rfl
  unfold stepPt
  rw [hd]
  rcases bitN_01 k (256 - (j + 1)) with e | e
  ·rw [e, decide_eq_false (by decide), Nat.add_zero]
   rfl
  ·rw [e, decide_eq_true rfl]
   rfl
theorem mulUp_all {c x y : Nat} {i : Bool} (h : onC c x y i) (k : Nat) (hk : k < 2 ^ 256) : mulUp c x y i k 256 = sm c (x, y, i) k := by
 rw [mulUp_sm h k hk 256 (Nat.le_refl _), Nat.sub_self, Nat.pow_zero, Nat.div_one]
def jrun (c U V T k : Nat) : Nat → Nat × Nat × Nat
 | 0 => (0, 0, 0)
 | j + 1 =>
  match jrun c U V T k j with
  | (X, Y, Z) => match tw c X Y Z with
   | (X1, Y1, Z1) => if bitN k (255 - j) = 1 then pl c X1 Y1 Z1 U V T else (X1, Y1, Z1)
theorem jrun_succ (c U V T k j : Nat) : jrun c U V T k (j + 1) = if bitN k (255 - j) = 1 then pl c (tw c (jrun c U V T k j).1 (jrun c U V T k j).2.1 (jrun c U V T k j).2.2).1 (tw c (jrun c U V T k j).1 (jrun c U V T k j).2.1 (jrun c U V T k j).2.2).2.1 (tw c (jrun c U V T k j).1 (jrun c U V T k j).2.1 (jrun c U V T k j).2.2).2.2 U V T else tw c (jrun c U V T k j).1 (jrun c U V T k j).2.1 (jrun c U V T k j).2.2 := rfl
theorem jrun_ok {c x y : Nat} (h : onC c x y false) (k : Nat) : ∀ j, JR c (jrun c x y 1 k j).1 (jrun c x y 1 k j).2.1 (jrun c x y 1 k j).2.2 (mulUp c x y false k j).1 (mulUp c x y false k j).2.1 (mulUp c x y false k j).2.2
 | 0 => ⟨modN_pos c, modN_pos c, modN_pos c, Or.inl ⟨rfl, rfl⟩⟩
 | j + 1 => by
  have ih := jrun_ok h k j
  have h1 := tw_ok (mulUp_on k h j) ih
  rw [jrun_succ]
  show JR c _ _ _ (stepPt c x y false (decide (bitN k (255 - j) = 1)) (mulUp c x y false k j)).1 (stepPt c x y false (decide (bitN k (255 - j) = 1)) (mulUp c x y false k j)).2.1 (stepPt c x y false (decide (bitN k (255 - j) = 1)) (mulUp c x y false k j)).2.2
  by_cases hb : bitN k (255 - j) = 1
  ·rw [if_pos hb, decide_eq_true hb]
   exact pl_ok (dbl_on (mulUp_on k h j)) h h1 (ofJ_ok h)
  ·rw [if_neg hb, decide_eq_false hb]
   exact h1
theorem order_of {c x y k : Nat} (h : onC c x y false) (hk : k < 2 ^ 256) (hz : (jrun c x y 1 k 256).2.2 = 0) : sm c (x, y, false) k = oT := by
 have hJ := jrun_ok h k 256
 have hon := mulUp_on k h 256
 rw [mulUp_all h k hk] at hJ hon
 obtain ⟨_, _, _, hJ⟩ := hJ
 rcases hJ with ⟨hi, _⟩ | ⟨_, hne, _⟩
 ·generalize sm c (x, y, false) k = S at hi hon
  obtain ⟨a, b, i⟩ := S
  dsimp only at hi hon
  subst hi
  obtain ⟨h1, h2⟩ := on_inf hon
  rw [h1, h2]; rfl
 ·exact absurd hz hne
theorem order_least {c x y r : Nat} (h : onC c x y false) (hr : IsPrime r) (hz : sm c (x, y, false) r = oT) : ∀ d, 0 < d → d < r → sm c (x, y, false) d ≠ oT := by
 have hP : onT c (x, y, false) := h
 intro d
 induction d using Nat.strongRecOn with
 | ind d ih =>
  intro h0 hd he
  have e : sm c (x, y, false) r = sm c (x, y, false) (r % d) := by
   have h1 : r = d * (r / d) + r % d := (Nat.div_add_mod r d).symm
   have h2 : sm c (x, y, false) (d * (r / d)) = oT := by rw [← sm_mul hP, he, sm_o]
   rw [show sm c (x, y, false) r = sm c (x, y, false) (d * (r / d) + r % d) from by rw [← h1], sm_add hP, h2, o_ad]
  by_cases hm : r % d = 0
  ·rcases hr.2 d (Nat.dvd_of_mod_eq_zero hm) with k | k
   ·rw [k, sm_one] at he
    have := congrArg (fun q => q.2.2) he
    cases this
   ·omega
  ·exact ih (r % d) (Nat.mod_lt _ h0) (Nat.pos_of_ne_zero hm) (Nat.lt_trans (Nat.mod_lt _ h0) hd) (by rw [← e]; exact hz)
theorem pigeonN : ∀ (m n : Nat) (f : Nat → Nat), (∀ i, i < n → f i < m) → (∀ i j, i < n → j < n → f i = f j → i = j) → n ≤ m
 | 0, n, f, hf, _ => by
  rcases Nat.eq_zero_or_pos n with h | h
  ·omega
  ·have := hf 0 h
   omega
 | m + 1, n, f, hf, inj => by
  rcases Nat.eq_zero_or_pos n with h | h
  ·omega
  ·obtain ⟨k, rfl⟩ : ∃ k, n = k + 1 := ⟨n - 1, by omega⟩
   have hk := hf k (by omega)
   have := pigeonN m k (fun i => if f i = m then f k else f i) (fun i hi => by
    have h1 := hf i (by omega)
    have h2 : f i ≠ f k := fun q => by have := inj i k (by omega) (by omega) q; omega
    show (if f i = m then f k else f i) < m
    split <;> omega) (fun i j hi hj hij => by
    have h1 : f i ≠ f k := fun q => by have := inj i k (by omega) (by omega) q; omega
    have h2 : f j ≠ f k := fun q => by have := inj j k (by omega) (by omega) q; omega
    have hij' : (if f i = m then f k else f i) = (if f j = m then f k else f j) := hij
    by_cases e1 : f i = m
    ·by_cases e2 : f j = m
     ·exact inj i j (by omega) (by omega) (by rw [e1, e2])
     ·rw [if_pos e1, if_neg e2] at hij'
      exact absurd hij'.symm h2
    ·by_cases e2 : f j = m
     ·rw [if_neg e1, if_pos e2] at hij'
      exact absurd hij' h1
     ·rw [if_neg e1, if_neg e2] at hij'
      exact inj i j (by omega) (by omega) hij')
   omega
def place (c : Nat) (Q : Nat × Nat × Bool) : Nat := if Q.2.2 = true then 2 * modN c else 2 * Q.1 + Q.2.1 % 2
theorem place_lt {c : Nat} {Q : Nat × Nat × Bool} (h : onT c Q) : place c Q < 2 * modN c + 1 := by
 obtain ⟨x, y, i⟩ := Q
 unfold place
 cases i with
 | true => rw [if_pos rfl]; omega
 | false =>
  rw [if_neg (fun q => by cases q)]
  have := (on_fin' h).1
  dsimp only at this ⊢
  omega
theorem place_inj {c : Nat} {Q R : Nat × Nat × Bool} (h1 : onT c Q) (h2 : onT c R) (h : place c Q = place c R) : Q = R := by
 obtain ⟨x, y, i⟩ := Q
 obtain ⟨u, v, j⟩ := R
 unfold place at h
 cases i with
 | true =>
  obtain ⟨a1, a2⟩ := on_inf h1
  cases j with
  | true =>
   obtain ⟨b1, b2⟩ := on_inf h2
   dsimp only at a1 a2 b1 b2
   rw [a1, a2, b1, b2]
  | false =>
   have := (on_fin' h2).1
   rw [if_pos rfl, if_neg (fun q => by cases q)] at h
   dsimp only at this h
   omega
 | false =>
  have hx := on_fin' h1
  cases j with
  | true =>
   rw [if_neg (fun q => by cases q), if_pos rfl] at h
   have := hx.1
   dsimp only at this h
   omega
  | false =>
   have hu := on_fin' h2
   rw [if_neg (fun q => by cases q), if_neg (fun q => by cases q)] at h
   dsimp only at h hx hu
   have e1 : x = u := by omega
   have e2 : y % 2 = v % 2 := by omega
   subst e1
   have ho := (modN_odd c).1
   have e3 : y = v := by
    rcases two_roots (modN_prime c) hx.2.1 hu.2.1 (by have := hx.2.2.trans hu.2.2.symm; exact this) with k | k | k
    ·exact k
    ·omega
    ·omega
   rw [e3]
theorem sm_two {c : Nat} {Q : Nat × Nat × Bool} : sm c Q 2 = ad c Q Q := by
 show ad c (ad c oT Q) Q = _
 rw [o_ad]
theorem two_zero {c : Nat} {Q : Nat × Nat × Bool} (h : onT c Q) (hz : ad c Q Q = oT) : Q = oT := by
 obtain ⟨x, y, i⟩ := Q
 cases i with
 | true =>
  obtain ⟨h1, h2⟩ := on_inf h
  dsimp only at h1 h2
  rw [h1, h2]; rfl
 | false =>
  obtain ⟨X, Y, s, e, _, _⟩ := sum_fin h h (fun k => k.2 rfl)
  have : ad c (x, y, false) (x, y, false) = (X, Y, false) := e
  rw [this] at hz
  have := congrArg (fun q => q.2.2) hz
  cases this
theorem in_group {c x y r : Nat} {Q : Nat × Nat × Bool} (h : onC c x y false) (hr : IsPrime r) (hz : sm c (x, y, false) r = oT) (hQ : onT c Q) (hm : 2 * modN c + 1 < 3 * r) : ∃ d, (d = 1 ∨ d = 2) ∧ ∃ k, sm c Q d = sm c (x, y, false) k := by
 have hG : onT c (x, y, false) := h
 apply Classical.byContradiction
 intro hno
 have r2 := hr.1
 have key : ∀ j j' t t', j < j' → j' < 3 → t < r → t' < r → ad c (sm c Q j) (sm c (x, y, false) t) = ad c (sm c Q j') (sm c (x, y, false) t') → False := by
  intro j j' t t' hj hj' ht ht' he
  refine hno ⟨j' - j, by omega, t + (r - t'), ?_⟩
  rw [show j' = j + (j' - j) from by omega, sm_add hQ, ad_assoc (sm_on hQ _) (sm_on hQ _) (sm_on hG _)] at he
  have e1 := ad_cancel (sm_on hQ j) (sm_on hG t) (ad_on (sm_on hQ _) (sm_on hG _)) he
  rw [sm_add hG, e1, ad_assoc (sm_on hQ _) (sm_on hG _) (sm_on hG _), ← sm_add hG, show t' + (r - t') = r from by omega, hz, ad_o (sm_on hQ _)]
 have key2 : ∀ t t', t < t' → t' < r → sm c (x, y, false) t = sm c (x, y, false) t' → False := by
  intro t t' ht ht' he
  rw [show t' = t + (t' - t) from by omega, sm_add hG] at he
  have e0 : ad c (sm c (x, y, false) t) oT = ad c (sm c (x, y, false) t) (sm c (x, y, false) (t' - t)) := by rw [ad_o (sm_on hG t)]; exact he
  have e1 := ad_cancel (sm_on hG t) oT_on (sm_on hG (t' - t)) e0
  exact order_least h hr hz (t' - t) (by omega) (by omega) e1.symm
 have hp := pigeonN (2 * modN c + 1) (3 * r) (fun i => place c (ad c (sm c Q (i / r)) (sm c (x, y, false) (i % r)))) (fun i _ => place_lt (ad_on (sm_on hQ _) (sm_on hG _))) (fun i i' hi hi' he => by
  have e := place_inj (ad_on (sm_on hQ _) (sm_on hG _)) (ad_on (sm_on hQ _) (sm_on hG _)) he
  have q1 : i / r < 3 := (Nat.div_lt_iff_lt_mul (by omega)).2 hi
  have q2 : i' / r < 3 := (Nat.div_lt_iff_lt_mul (by omega)).2 hi'
  have m1 := Nat.mod_lt i (show 0 < r by omega)
  have m2 := Nat.mod_lt i' (show 0 < r by omega)
  rcases Nat.lt_trichotomy (i / r) (i' / r) with k | k | k
  ·exact absurd e (fun e => key _ _ _ _ k q2 m1 m2 e)
  ·rw [k] at e
   have e1 := ad_cancel (sm_on hQ _) (sm_on hG _) (sm_on hG _) e
   rcases Nat.lt_trichotomy (i % r) (i' % r) with l | l | l
   ·exact absurd e1 (fun e => key2 _ _ l m2 e)
   ·rw [← Nat.div_add_mod i r, ← Nat.div_add_mod i' r, k, l]
   ·exact absurd e1.symm (fun e => key2 _ _ l m1 e)
  ·exact absurd e.symm (fun e => key _ _ _ _ k q1 m2 m1 e))
 omega
theorem kills {c x y r : Nat} {Q : Nat × Nat × Bool} (h : onC c x y false) (hr : IsPrime r) (hz : sm c (x, y, false) r = oT) (hQ : onT c Q) (hm : 2 * modN c + 1 < 3 * r) : sm c Q r = oT := by
 have hG : onT c (x, y, false) := h
 obtain ⟨d, hd, k, e⟩ := in_group h hr hz hQ hm
 have e1 : sm c (sm c Q r) d = oT := by
  rw [sm_mul hQ, Nat.mul_comm, ← sm_mul hQ, e, sm_mul hG, Nat.mul_comm, ← sm_mul hG, hz, sm_o]
 rcases hd with rfl | rfl
 ·rw [sm_one] at e1; exact e1
 ·rw [sm_two] at e1
  exact two_zero (sm_on hQ r) e1
def gx : Nat → Nat
 | 0 => 1
 | 1 => 1
 | 2 => 28948022309329048855892746252171976963363056481941560715954676764349967630336
 | _ => 28948022309329048855892746252171976963363056481941647379679742748393362948096
def gy : Nat → Nat
 | 0 => 2487377
 | 1 => 7286451
 | _ => 2
def oth : Nat → Nat
 | 0 => 1
 | 1 => 0
 | 2 => 3
 | _ => 2
theorem g_on (c : Nat) (hc : c < 4) : onC c (gx c) (gy c) false ∧ (jrun c (gx c) (gy c) 1 (modN (oth c)) 256).2.2 = 0 ∧ 2 * modN c + 1 < 3 * modN (oth c) := by
 have : c = 0 ∨ c = 1 ∨ c = 2 ∨ c = 3 := by omega
 rcases this with rfl | rfl | rfl | rfl
 ·exact ⟨Or.inr ⟨rfl, by decide, by decide, by decide +kernel⟩, by decide +kernel, by decide⟩
 ·exact ⟨Or.inr ⟨rfl, by decide, by decide, by decide +kernel⟩, by decide +kernel, by decide⟩
 ·exact ⟨Or.inr ⟨rfl, by decide, by decide, by decide +kernel⟩, by decide +kernel, by decide⟩
 ·exact ⟨Or.inr ⟨rfl, by decide, by decide, by decide +kernel⟩, by decide +kernel, by decide⟩
theorem order_all {c : Nat} (hc : c < 4) {Q : Nat × Nat × Bool} (hQ : onT c Q) : sm c Q (modN (oth c)) = oT := by
 obtain ⟨h1, h2, h3⟩ := g_on c hc
 have hl : modN (oth c) < 2 ^ 256 := modN_lt (oth c)
 exact kills h1 (modN_prime (oth c)) (order_of h1 hl h2) hQ h3
end Go.Proofs.YtokoknacolmhgaaGreatDoor
