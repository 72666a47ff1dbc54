import Derived.Test.YtdeijnlbencfdaaGreatDoorWXI
set_option maxHeartbeats 16000000
namespace Go.Proofs.YtdeijnlbencfdaaGreatDoor
open Go.RowKit
set_option maxRecDepth 20000 in
theorem rsumP_in (c x y u v : Nat) (i j : Bool) (hc : c < 4) (hx : x < 115792089237316195423570985008687907853269984665640564039457584007913129639936) (hy : y < 115792089237316195423570985008687907853269984665640564039457584007913129639936) (hu : u < 115792089237316195423570985008687907853269984665640564039457584007913129639936) (hv : v < 115792089237316195423570985008687907853269984665640564039457584007913129639936) (w : World) :
  Calls Tryz.prog 138 #[.int .i64 (c : Int), .agg #[.int .u64 (limb 0 x), .int .u64 (limb 1 x), .int .u64 (limb 2 x), .int .u64 (limb 3 x), .int .u64 (limb 0 y), .int .u64 (limb 1 y), .int .u64 (limb 2 y), .int .u64 (limb 3 y), .bool i], .agg #[.int .u64 (limb 0 u), .int .u64 (limb 1 u), .int .u64 (limb 2 u), .int .u64 (limb 3 u), .int .u64 (limb 0 v), .int .u64 (limb 1 v), .int .u64 (limb 2 v), .int .u64 (limb 3 v), .bool j]] w fun e w' => e = .returned (.agg #[.int .u64 (limb 0 ((sumPt c x y i u v j).1)), .int .u64 (limb 1 ((sumPt c x y i u v j).1)), .int .u64 (limb 2 ((sumPt c x y i u v j).1)), .int .u64 (limb 3 ((sumPt c x y i u v j).1)), .int .u64 (limb 0 ((sumPt c x y i u v j).2.1)), .int .u64 (limb 1 ((sumPt c x y i u v j).2.1)), .int .u64 (limb 2 ((sumPt c x y i u v j).2.1)), .int .u64 (limb 3 ((sumPt c x y i u v j).2.1)), .bool (sumPt c x y i u v j).2.2]) ∧ Below w.heap.size w w' := by
 have HIN : Hid (∀ w, _) := rInfinity_any
 have QX := fun w => eqlE x u hx hu w
 have QY := fun w => neqE y v hy hv w
 have HS1 : Hid (∀ w, _) := fun w => ref2Sub_any c v y hc hv hy w
 have HS2 : Hid (∀ w, _) := fun w => ref2Sub_any c u x hc hu hx w
 have HM1 : Hid (∀ w, _) := fun w => ref2Mul_any c x x hc hx hx w
 have HM2 : Hid (∀ w, _) := fun w => ref2Mul_any c 3 (mulP c x x) hc (by decide) (mulP_M _ _ _) w
 rw [three_agg] at HM2
 have HA : Hid (∀ w, _) := fun w => ref2Add_any c y y hc hy hy w
 have HBT : Hid (∀ w, _) := fun w => rby_any c (mulP c 3 (mulP c x x)) (addP c y y) hc (mulP_M _ _ _) (addP_M _ _ _) w
 have HBF : Hid (∀ w, _) := fun w => rby_any c (subP c v y) (subP c u x) hc (subP_M _ _ _) (subP_M _ _ _) w
 have RT : Hid (slopeC c x y u v true = mulP c (mulP c 3 (mulP c x x)) (invC c (addP c y y))) := rfl
 have RF : Hid (slopeC c x y u v false = mulP c (subP c v y) (invC c (subP c u x))) := rfl
 rw [← RT.out] at HBT
 rw [← RF.out] at HBF
 have HA1 : Hid (i = true → (.agg #[.int .u64 (limb 0 ((sumPt c x y i u v j).1)), .int .u64 (limb 1 ((sumPt c x y i u v j).1)), .int .u64 (limb 2 ((sumPt c x y i u v j).1)), .int .u64 (limb 3 ((sumPt c x y i u v j).1)), .int .u64 (limb 0 ((sumPt c x y i u v j).2.1)), .int .u64 (limb 1 ((sumPt c x y i u v j).2.1)), .int .u64 (limb 2 ((sumPt c x y i u v j).2.1)), .int .u64 (limb 3 ((sumPt c x y i u v j).2.1)), .bool (sumPt c x y i u v j).2.2] : Value) = .agg #[.int .u64 (limb 0 u), .int .u64 (limb 1 u), .int .u64 (limb 2 u), .int .u64 (limb 3 u), .int .u64 (limb 0 v), .int .u64 (limb 1 v), .int .u64 (limb 2 v), .int .u64 (limb 3 v), .bool j]) := fun h => by unfold sumPt; rw [if_pos h]
 have HA2 : Hid (i = false → j = true → (.agg #[.int .u64 (limb 0 ((sumPt c x y i u v j).1)), .int .u64 (limb 1 ((sumPt c x y i u v j).1)), .int .u64 (limb 2 ((sumPt c x y i u v j).1)), .int .u64 (limb 3 ((sumPt c x y i u v j).1)), .int .u64 (limb 0 ((sumPt c x y i u v j).2.1)), .int .u64 (limb 1 ((sumPt c x y i u v j).2.1)), .int .u64 (limb 2 ((sumPt c x y i u v j).2.1)), .int .u64 (limb 3 ((sumPt c x y i u v j).2.1)), .bool (sumPt c x y i u v j).2.2] : Value) = .agg #[.int .u64 (limb 0 x), .int .u64 (limb 1 x), .int .u64 (limb 2 x), .int .u64 (limb 3 x), .int .u64 (limb 0 y), .int .u64 (limb 1 y), .int .u64 (limb 2 y), .int .u64 (limb 3 y), .bool i]) := fun h h2 => by unfold sumPt; rw [if_neg (by rw [h]; decide), if_pos h2]
 have HA3 : Hid (i = false → j = false → (x = u ∧ y ≠ v) → (.agg #[.int .u64 (limb 0 ((sumPt c x y i u v j).1)), .int .u64 (limb 1 ((sumPt c x y i u v j).1)), .int .u64 (limb 2 ((sumPt c x y i u v j).1)), .int .u64 (limb 3 ((sumPt c x y i u v j).1)), .int .u64 (limb 0 ((sumPt c x y i u v j).2.1)), .int .u64 (limb 1 ((sumPt c x y i u v j).2.1)), .int .u64 (limb 2 ((sumPt c x y i u v j).2.1)), .int .u64 (limb 3 ((sumPt c x y i u v j).2.1)), .bool (sumPt c x y i u v j).2.2] : Value) = .agg #[.int .u64 (limb 0 0), .int .u64 (limb 1 0), .int .u64 (limb 2 0), .int .u64 (limb 3 0), .int .u64 (limb 0 0), .int .u64 (limb 1 0), .int .u64 (limb 2 0), .int .u64 (limb 3 0), .bool true]) := fun h h2 h3 => by unfold sumPt; rw [if_neg (by rw [h]; decide), if_neg (by rw [h2]; decide), if_pos h3]
 have HA4 : Hid (i = false → j = false → ¬ (x = u ∧ y ≠ v) → (.agg #[.int .u64 (limb 0 ((sumPt c x y i u v j).1)), .int .u64 (limb 1 ((sumPt c x y i u v j).1)), .int .u64 (limb 2 ((sumPt c x y i u v j).1)), .int .u64 (limb 3 ((sumPt c x y i u v j).1)), .int .u64 (limb 0 ((sumPt c x y i u v j).2.1)), .int .u64 (limb 1 ((sumPt c x y i u v j).2.1)), .int .u64 (limb 2 ((sumPt c x y i u v j).2.1)), .int .u64 (limb 3 ((sumPt c x y i u v j).2.1)), .bool (sumPt c x y i u v j).2.2] : Value) = .agg #[.int .u64 (limb 0 ((sumXC c x y u v))), .int .u64 (limb 1 ((sumXC c x y u v))), .int .u64 (limb 2 ((sumXC c x y u v))), .int .u64 (limb 3 ((sumXC c x y u v))), .int .u64 (limb 0 ((sumYC c x y u v))), .int .u64 (limb 1 ((sumYC c x y u v))), .int .u64 (limb 2 ((sumYC c x y u v))), .int .u64 (limb 3 ((sumYC c x y u v))), .bool false]) := fun h h2 h3 => by unfold sumPt; rw [if_neg (by rw [h]; decide), if_neg (by rw [h2]; decide), if_neg h3]
 obtain ⟨V, eV⟩ : ∃ V : Value, V = .agg #[.int .u64 (limb 0 ((sumPt c x y i u v j).1)), .int .u64 (limb 1 ((sumPt c x y i u v j).1)), .int .u64 (limb 2 ((sumPt c x y i u v j).1)), .int .u64 (limb 3 ((sumPt c x y i u v j).1)), .int .u64 (limb 0 ((sumPt c x y i u v j).2.1)), .int .u64 (limb 1 ((sumPt c x y i u v j).2.1)), .int .u64 (limb 2 ((sumPt c x y i u v j).2.1)), .int .u64 (limb 3 ((sumPt c x y i u v j).2.1)), .bool (sumPt c x y i u v j).2.2] := ⟨_, rfl⟩
 rw [← eV] at HA1 HA2 HA3 HA4 ⊢
 clear eV
 obtain ⟨d1, e1⟩ : ∃ z, z = subP c v y := ⟨_, rfl⟩
 obtain ⟨d2, e2⟩ : ∃ z, z = subP c u x := ⟨_, rfl⟩
 obtain ⟨xx, e3⟩ : ∃ z, z = mulP c x x := ⟨_, rfl⟩
 rw [← e3] at HM1 HM2 HBT
 obtain ⟨x3, e4⟩ : ∃ z, z = mulP c 3 xx := ⟨_, rfl⟩
 obtain ⟨yy, e5⟩ : ∃ z, z = addP c y y := ⟨_, rfl⟩
 rw [← e1] at HS1 HBF
 rw [← e2] at HS2 HBF
 rw [← e4] at HM2 HBT
 rw [← e5] at HA HBT
 obtain ⟨s, es⟩ : ∃ z, z = slopeC c x y u v (decide (x = u ∧ y = v)) := ⟨_, rfl⟩
 have EX : Hid (sumXC c x y u v = subP c (subP c (mulP c s s) x) u) := by show _ = _; rw [es]; rfl
 have EY : Hid (sumYC c x y u v = subP c (mulP c s (subP c x (sumXC c x y u v))) y) := by show _ = _; rw [es]; rfl
 have ls : s < 115792089237316195423570985008687907853269984665640564039457584007913129639936 := by rw [es]; exact mulP_M _ _ _
 have EST : Hid (x = u ∧ y = v → slopeC c x y u v true = s) := fun h => by rw [es, decide_eq_true h]
 have ESF : Hid (¬ (x = u ∧ y = v) → slopeC c x y u v false = s) := fun h => by rw [es, decide_eq_false h]
 obtain ⟨X, eX⟩ : ∃ z, z = sumXC c x y u v := ⟨_, rfl⟩
 obtain ⟨Y, eY⟩ : ∃ z, z = sumYC c x y u v := ⟨_, rfl⟩
 rw [← eX] at EX EY HA4
 rw [← eY] at EY HA4
 have lX : X < 115792089237316195423570985008687907853269984665640564039457584007913129639936 := by rw [EX.out]; exact subP_M _ _ _
 have HN1 : Hid (∀ w, _) := fun w => ref2Mul_any c s s hc ls ls w
 have HN2 : Hid (∀ w, _) := fun w => ref2Sub_any c (mulP c s s) x hc (mulP_M _ _ _) hx w
 have HN3 : Hid (∀ w, _) := fun w => ref2Sub_any c (subP c (mulP c s s) x) u hc (subP_M _ _ _) hu w
 have HN4 : Hid (∀ w, _) := fun w => ref2Sub_any c x X hc hx lX w
 have HN5 : Hid (∀ w, _) := fun w => ref2Mul_any c s (subP c x X) hc ls (subP_M _ _ _) w
 have HN6 : Hid (∀ w, _) := fun w => ref2Sub_any c (mulP c s (subP c x X)) y hc (mulP_M _ _ _) hy w
 rw [← EX.out] at HN3
 rw [← EY.out] at HN6
 obtain ⟨ss, f1⟩ : ∃ z, z = mulP c s s := ⟨_, rfl⟩
 rw [← f1] at HN1 HN2
 obtain ⟨t1, f2⟩ : ∃ z, z = subP c ss x := ⟨_, rfl⟩
 rw [← f2] at HN2
 have HN3' : Hid (∀ w, Calls Tryz.prog 148 #[.int .i64 (c : Int), .agg #[.int .u64 (limb 0 t1), .int .u64 (limb 1 t1), .int .u64 (limb 2 t1), .int .u64 (limb 3 t1)], .agg #[.int .u64 (limb 0 u), .int .u64 (limb 1 u), .int .u64 (limb 2 u), .int .u64 (limb 3 u)]] w fun e w' => e = .returned (.agg #[.int .u64 (limb 0 X), .int .u64 (limb 1 X), .int .u64 (limb 2 X), .int .u64 (limb 3 X)]) ∧ Below w.heap.size w w') := by rw [f2, f1]; exact HN3
 obtain ⟨t2, f3⟩ : ∃ z, z = subP c x X := ⟨_, rfl⟩
 rw [← f3] at HN4 HN5
 obtain ⟨t3, f4⟩ : ∃ z, z = mulP c s t2 := ⟨_, rfl⟩
 rw [← f4] at HN5
 have HN6' : Hid (∀ w, Calls Tryz.prog 148 #[.int .i64 (c : Int), .agg #[.int .u64 (limb 0 t3), .int .u64 (limb 1 t3), .int .u64 (limb 2 t3), .int .u64 (limb 3 t3)], .agg #[.int .u64 (limb 0 y), .int .u64 (limb 1 y), .int .u64 (limb 2 y), .int .u64 (limb 3 y)]] w fun e w' => e = .returned (.agg #[.int .u64 (limb 0 Y), .int .u64 (limb 1 Y), .int .u64 (limb 2 Y), .int .u64 (limb 3 Y)]) ∧ Below w.heap.size w w') := by rw [f4, f3]; exact HN6
 clear es e1 e2 e3 e4 e5 f1 f2 f3 f4 eX eY EX EY HN3 HN6 lX ls RT RF
 go_enter Tryz.func138, Tryz.ntmps138
 go_upto_region 1 with fail
 obtain ⟨w0, hw0⟩ : ∃ w0 : World, w0 = ((w.alloc (.cells #[.int .u64 (limb 0 x), .int .u64 (limb 1 x), .int .u64 (limb 2 x), .int .u64 (limb 3 x), .int .u64 (limb 0 y), .int .u64 (limb 1 y), .int .u64 (limb 2 y), .int .u64 (limb 3 y), .bool i] 27)).alloc (.cells #[.int .u64 (limb 0 u), .int .u64 (limb 1 u), .int .u64 (limb 2 u), .int .u64 (limb 3 u), .int .u64 (limb 0 v), .int .u64 (limb 1 v), .int .u64 (limb 2 v), .int .u64 (limb 3 v), .bool j] 27)).alloc (.cells #[.int .u64 0, .int .u64 0, .int .u64 0, .int .u64 0, .int .u64 0, .int .u64 0, .int .u64 0, .int .u64 0, .bool false] 27) := ⟨_, rfl⟩
 have bp0 : Pt w0 w.heap.size x y i := by rw [hw0]; exact ((Pt.newAt _ _ _ _ _ rfl).alloc _).alloc _
 have bq0 : Pt w0 (w.heap.size + 1) u v j := by rw [hw0]; exact (Pt.newAt _ _ _ _ _ (by simp)).alloc _
 have br0 : Pt w0 (w.heap.size + 1 + 1) 0 0 false := by rw [hw0]; exact Pt.zeroAt _ _ (by simp)
 have hbw0 : Below w.heap.size w w0 := by rw [hw0]; exact bAlloc (bAlloc ((Below.refl _ _).alloc (Nat.le_refl _) _) _) _
 have hrw : w.heap.size ≤ w.heap.size + 1 + 1 := by omega
 rw [← hw0]
 clear hw0
 cases i with
 | true =>
  have HV := HA1.out rfl
  have HVV := (show Hid _ from HV)
  clear HV HA1 HA2 HA3 HA4 QX QY
  obtain ⟨q0, q1, q2, q3, q4, q5, q6, q7, q8, qf⟩ := bp0.cells
  obtain ⟨p0, p1, p2, p3, p4, p5, p6, p7, p8, pf⟩ := bq0.cells
  obtain ⟨r0, r1, r2, r3, r4, r5, r6, r7, r8, rf⟩ := br0.cells
  have hbe := hbw0
  go_wp2
  refine bodyPost_ret (v := .agg #[.int .u64 (limb 0 u), .int .u64 (limb 1 u), .int .u64 (limb 2 u), .int .u64 (limb 3 u), .int .u64 (limb 0 v), .int .u64 (limb 1 v), .int .u64 (limb 2 v), .int .u64 (limb 3 v), .bool j]) (by simp [results, Tryz.results138, go_sem, r0, r1, r2, r3, r4, r5, r6, r7, r8]) rfl ⟨by rw [HVV.out], ?_⟩
  exact bSet9 hbe hrw _ _ _ _ _ _ _ _ _
 | false =>
  cases j with
  | true =>
   have HV := HA2.out rfl rfl
   have HVV := (show Hid _ from HV)
   clear HV HA1 HA2 HA3 HA4 QX QY
   obtain ⟨q0, q1, q2, q3, q4, q5, q6, q7, q8, qf⟩ := bp0.cells
   obtain ⟨p0, p1, p2, p3, p4, p5, p6, p7, p8, pf⟩ := bq0.cells
   obtain ⟨r0, r1, r2, r3, r4, r5, r6, r7, r8, rf⟩ := br0.cells
   have hbe := hbw0
   go_wp2
   refine bodyPost_ret (v := .agg #[.int .u64 (limb 0 x), .int .u64 (limb 1 x), .int .u64 (limb 2 x), .int .u64 (limb 3 x), .int .u64 (limb 0 y), .int .u64 (limb 1 y), .int .u64 (limb 2 y), .int .u64 (limb 3 y), .bool false]) (by simp [results, Tryz.results138, go_sem, r0, r1, r2, r3, r4, r5, r6, r7, r8]) rfl ⟨by rw [HVV.out], ?_⟩
   exact bSet9 hbe hrw _ _ _ _ _ _ _ _ _
  | false =>
   have HB3 := HA3.out rfl rfl
   have HB4 := HA4.out rfl rfl
   have HC3 := (show Hid _ from HB3); have HC4 := (show Hid _ from HB4)
   clear HA1 HA2 HA3 HA4 HB3 HB4
   obtain ⟨q0, q1, q2, q3, q4, q5, q6, q7, q8, qf⟩ := bp0.cells
   obtain ⟨p0, p1, p2, p3, p4, p5, p6, p7, p8, pf⟩ := bq0.cells
   go_wp2_with fail
   refine (HS1.out _).mono ?_
   rintro e wz ⟨rfl, hbz⟩
   clear q0 q1 q2 q3 q4 q5 q6 q7 q8 qf p0 p1 p2 p3 p4 p5 p6 p7 p8 pf
   obtain ⟨w1, hwn⟩ : ∃ x : World, x = wz := ⟨_, rfl⟩
   rw [← hwn] at hbz ⊢
   clear hwn
   have bp1 := bp0.belowAll hbz; have bq1 := bq0.belowAll hbz; have br1 := br0.belowAll hbz
   have hbw1 := bStep hbw0 hbz
   clear bp0 bq0 br0 hbw0  hbz
   have hal : Below w1.heap.size w1 (w1.alloc (.cells #[.int .u64 (limb 0 d1), .int .u64 (limb 1 d1), .int .u64 (limb 2 d1), .int .u64 (limb 3 d1)] 25)) := (Below.refl _ _).alloc (Nat.le_refl _) _
   have ba : Blk (w1.alloc (.cells #[.int .u64 (limb 0 d1), .int .u64 (limb 1 d1), .int .u64 (limb 2 d1), .int .u64 (limb 3 d1)] 25)) 25 w1.heap.size (fun i => limb i d1) := Blk.newAt _ _ _ (fun i => limb i d1) rfl
   go_upto_region 6 with fail
   obtain ⟨w2, hwn⟩ : ∃ x : World, x = w1.alloc (.cells #[.int .u64 (limb 0 d1), .int .u64 (limb 1 d1), .int .u64 (limb 2 d1), .int .u64 (limb 3 d1)] 25) := ⟨_, rfl⟩
   obtain ⟨N7, hN7⟩ : ∃ N, N = w1.heap.size := ⟨_, rfl⟩
   have lN7 : w.heap.size + 1 + 1 < N7 := by rw [hN7]; exact br1.lt
   rw [← hwn] at hal ba ⊢
   rw [← hN7] at ba ⊢
   have bp2 := bp1.belowAll hal; have bq2 := bq1.belowAll hal; have br2 := br1.belowAll hal
   have hbw2 := bStep hbw1 hal
   clear bp1 bq1 br1 hbw1  hal
   have ba2 := ba
   clear ba hwn hN7
   obtain ⟨q0, q1, q2, q3, q4, q5, q6, q7, q8, qf⟩ := bp2.cells
   obtain ⟨p0, p1, p2, p3, p4, p5, p6, p7, p8, pf⟩ := bq2.cells
   go_wp2_with fail
   refine (HS2.out _).mono ?_
   rintro e wz ⟨rfl, hbz⟩
   clear q0 q1 q2 q3 q4 q5 q6 q7 q8 qf p0 p1 p2 p3 p4 p5 p6 p7 p8 pf
   obtain ⟨w3, hwn⟩ : ∃ x : World, x = wz := ⟨_, rfl⟩
   rw [← hwn] at hbz ⊢
   clear hwn
   have bp3 := bp2.belowAll hbz; have bq3 := bq2.belowAll hbz; have br3 := br2.belowAll hbz
   have ba3 := ba2.belowAll hbz
   have hbw3 := bStep hbw2 hbz
   clear bp2 bq2 br2 hbw2 ba2 hbz
   have hal : Below w3.heap.size w3 (w3.alloc (.cells #[.int .u64 (limb 0 d2), .int .u64 (limb 1 d2), .int .u64 (limb 2 d2), .int .u64 (limb 3 d2)] 25)) := (Below.refl _ _).alloc (Nat.le_refl _) _
   have bb : Blk (w3.alloc (.cells #[.int .u64 (limb 0 d2), .int .u64 (limb 1 d2), .int .u64 (limb 2 d2), .int .u64 (limb 3 d2)] 25)) 25 w3.heap.size (fun i => limb i d2) := Blk.newAt _ _ _ (fun i => limb i d2) rfl
   go_upto_region 7 with fail
   obtain ⟨w4, hwn⟩ : ∃ x : World, x = w3.alloc (.cells #[.int .u64 (limb 0 d2), .int .u64 (limb 1 d2), .int .u64 (limb 2 d2), .int .u64 (limb 3 d2)] 25) := ⟨_, rfl⟩
   obtain ⟨N8, hN8⟩ : ∃ N, N = w3.heap.size := ⟨_, rfl⟩
   have lN8 : w.heap.size + 1 + 1 < N8 := by rw [hN8]; exact br3.lt
   have nbaN8 := ba3.lt
   rw [← hN8] at nbaN8
   rw [← hwn] at hal bb ⊢
   rw [← hN8] at bb ⊢
   have bp4 := bp3.belowAll hal; have bq4 := bq3.belowAll hal; have br4 := br3.belowAll hal
   have ba4 := ba3.belowAll hal
   have hbw4 := bStep hbw3 hal
   clear bp3 bq3 br3 hbw3 ba3 hal
   have bb4 := bb
   clear bb hwn hN8
   clear HS1 HS2
   have ne78 : N7 ≠ N8 := Nat.ne_of_lt nbaN8
   by_cases hxu : x = u
   ·rw [decide_eq_true hxu] at QX
    obtain ⟨q0, q1, q2, q3, q4, q5, q6, q7, q8, qf⟩ := bp4.cells
    obtain ⟨p0, p1, p2, p3, p4, p5, p6, p7, p8, pf⟩ := bq4.cells
    by_cases hyv : y = v
    ·rw [show (!decide (y = v)) = false from by simp [hyv]] at QY
     have HV := HC4.out (fun h => h.2 hyv)
     have HVV := (show Hid _ from HV)
     rw [EST.out ⟨hxu, hyv⟩] at HBT
     clear HV HC3 HC4 EST ESF hxu hyv HBF
     go_wp2_with fail
     refine (HM1.out _).mono ?_
     rintro e wy ⟨rfl, hby⟩
     clear q0 q1 q2 q3 q4 q5 q6 q7 q8 qf p0 p1 p2 p3 p4 p5 p6 p7 p8 pf
     go_wp2_with fail
     refine (HM2.out _).mono ?_
     rintro e wz ⟨rfl, hbz'⟩
     have hbz := bStep hby hbz'
     clear hby hbz' HM1 HM2
     have cS := (ba4.belowAll hbz).cell; have fS := (ba4.belowAll hbz).frozen
     go_upto_region 11 with fail
     obtain ⟨w5, hwn⟩ : ∃ x : World, x = ((((wz.setCell ⟨N7, 0, none⟩ (.int .u64 (limb 0 x3))).setCell ⟨N7, 1, none⟩ (.int .u64 (limb 1 x3))).setCell ⟨N7, 2, none⟩ (.int .u64 (limb 2 x3))).setCell ⟨N7, 3, none⟩ (.int .u64 (limb 3 x3))) := ⟨_, rfl⟩
     have ba5 : Blk w5 25 N7 (fun i => limb i x3) := by rw [hwn]; exact (ba4.belowAll hbz).set4 (fun i => limb i x3)
     have bb5 : Blk w5 25 N8 (fun i => limb i d2) := by rw [hwn]; exact (bb4.belowAll hbz).other4 (by omega) _ _ _ _
     have bp5 : Pt w5 w.heap.size x y false := by rw [hwn]; exact ((((bp4.belowAll hbz).other (by dsimp only; omega) _).other (by dsimp only; omega) _).other (by dsimp only; omega) _).other (by dsimp only; omega) _
     have bq5 : Pt w5 (w.heap.size + 1) u v false := by rw [hwn]; exact ((((bq4.belowAll hbz).other (by dsimp only; omega) _).other (by dsimp only; omega) _).other (by dsimp only; omega) _).other (by dsimp only; omega) _
     have br5 : Pt w5 (w.heap.size + 1 + 1) 0 0 false := by rw [hwn]; exact ((((br4.belowAll hbz).other (by dsimp only; omega) _).other (by dsimp only; omega) _).other (by dsimp only; omega) _).other (by dsimp only; omega) _
     have hbw5 : Below w.heap.size w w5 := by rw [hwn]; exact bSet4 (bStep hbw4 hbz) (by omega) _ _ _ _
     rw [← hwn]
     clear hwn cS fS hbz bp4 bq4 br4 hbw4 ba4 bb4
     obtain ⟨q0, q1, q2, q3, q4, q5, q6, q7, q8, qf⟩ := bp5.cells
     obtain ⟨p0, p1, p2, p3, p4, p5, p6, p7, p8, pf⟩ := bq5.cells
     go_wp2_with fail
     refine (HA.out _).mono ?_
     rintro e wz ⟨rfl, hbz⟩
     clear q0 q1 q2 q3 q4 q5 q6 q7 q8 qf p0 p1 p2 p3 p4 p5 p6 p7 p8 pf
     have cS := (bb5.belowAll hbz).cell; have fS := (bb5.belowAll hbz).frozen
     go_upto_region 12 with fail
     obtain ⟨w6, hwn⟩ : ∃ x : World, x = ((((wz.setCell ⟨N8, 0, none⟩ (.int .u64 (limb 0 yy))).setCell ⟨N8, 1, none⟩ (.int .u64 (limb 1 yy))).setCell ⟨N8, 2, none⟩ (.int .u64 (limb 2 yy))).setCell ⟨N8, 3, none⟩ (.int .u64 (limb 3 yy))) := ⟨_, rfl⟩
     have bb6 : Blk w6 25 N8 (fun i => limb i yy) := by rw [hwn]; exact (bb5.belowAll hbz).set4 (fun i => limb i yy)
     have ba6 : Blk w6 25 N7 (fun i => limb i x3) := by rw [hwn]; exact (ba5.belowAll hbz).other4 (by omega) _ _ _ _
     have bp6 : Pt w6 w.heap.size x y false := by rw [hwn]; exact ((((bp5.belowAll hbz).other (by dsimp only; omega) _).other (by dsimp only; omega) _).other (by dsimp only; omega) _).other (by dsimp only; omega) _
     have bq6 : Pt w6 (w.heap.size + 1) u v false := by rw [hwn]; exact ((((bq5.belowAll hbz).other (by dsimp only; omega) _).other (by dsimp only; omega) _).other (by dsimp only; omega) _).other (by dsimp only; omega) _
     have br6 : Pt w6 (w.heap.size + 1 + 1) 0 0 false := by rw [hwn]; exact ((((br5.belowAll hbz).other (by dsimp only; omega) _).other (by dsimp only; omega) _).other (by dsimp only; omega) _).other (by dsimp only; omega) _
     have hbw6 : Below w.heap.size w w6 := by rw [hwn]; exact bSet4 (bStep hbw5 hbz) (by omega) _ _ _ _
     rw [← hwn]
     clear hwn cS fS hbz bp5 bq5 br5 hbw5 bb5 ba5
     have c7 := ba6.cell; have c8 := bb6.cell
     go_wp2_with fail
     refine (HBT.out _).mono ?_
     rintro e wz ⟨rfl, hbz⟩
     clear c7 c8
     obtain ⟨w7, hwn⟩ : ∃ x : World, x = wz := ⟨_, rfl⟩
     rw [← hwn] at hbz ⊢
     clear hwn ba6 bb6
     have bp7 := bp6.belowAll hbz; have bq7 := bq6.belowAll hbz; have br7 := br6.belowAll hbz
     have hbw7 := bStep hbw6 hbz
     clear bp6 bq6 br6 hbw6  hbz
     have hal : Below w7.heap.size w7 (w7.alloc (.cells #[.int .u64 (limb 0 s), .int .u64 (limb 1 s), .int .u64 (limb 2 s), .int .u64 (limb 3 s)] 25)) := (Below.refl _ _).alloc (Nat.le_refl _) _
     have b9 : Blk (w7.alloc (.cells #[.int .u64 (limb 0 s), .int .u64 (limb 1 s), .int .u64 (limb 2 s), .int .u64 (limb 3 s)] 25)) 25 w7.heap.size (fun i => limb i s) := Blk.newAt _ _ _ (fun i => limb i s) rfl
     go_upto_region 13 with fail
     obtain ⟨w8, hwn⟩ : ∃ x : World, x = w7.alloc (.cells #[.int .u64 (limb 0 s), .int .u64 (limb 1 s), .int .u64 (limb 2 s), .int .u64 (limb 3 s)] 25) := ⟨_, rfl⟩
     obtain ⟨N9, hN9⟩ : ∃ N, N = w7.heap.size := ⟨_, rfl⟩
     rw [← hwn] at hal b9 ⊢
     rw [← hN9] at b9 ⊢
     have bp8 := bp7.belowAll hal; have bq8 := bq7.belowAll hal; have br8 := br7.belowAll hal
     have hbw8 := bStep hbw7 hal
     clear bp7 bq7 br7 hbw7  hal
     clear hwn hN9
     go_cut [10] (fun p wx => ∃ N : Nat, p = .pointer (some ⟨N, 0, none⟩) ∧ w8.heap.size ≤ N ∧ Blk wx 25 N (fun i => limb i X) ∧ Below w8.heap.size w8 wx)
     case first =>
      have HS0 : Hid (Below w8.heap.size w8 w8.drew) := (Below.refl _ _).drew
      refine wp_region_Z (fun w' => Kp w8 w') 99 (by kernel_rfl) ?_
      refine zs 0 59 (.int .i64 (c : Int)) (HS0.out) ?_
      refine zs 1 60 (.int .i64 (c : Int)) (HS0.out) ?_
      refine zs 2 61 (.int .i64 (c : Int)) (HS0.out) ?_
      refine zT 3 62 (.agg #[.int .u64 (limb 0 s), .int .u64 (limb 1 s), .int .u64 (limb 2 s), .int .u64 (limb 3 s)]) rfl rfl (fun w hSw => by (have qq := (b9.belowAll hSw).cell; clear hSw; go_simp)) (HS0.out) ?_
      refine zT 4 63 (.agg #[.int .u64 (limb 0 s), .int .u64 (limb 1 s), .int .u64 (limb 2 s), .int .u64 (limb 3 s)]) rfl rfl (fun w hSw => by (have qq := (b9.belowAll hSw).cell; clear hSw; go_simp)) (HS0.out) ?_
      refine zs 6 65 (.pointer (some ⟨w.heap.size, 0, none⟩)) (HS0.out) ?_
      refine zT 7 66 (.agg #[.int .u64 (limb 0 x), .int .u64 (limb 1 x), .int .u64 (limb 2 x), .int .u64 (limb 3 x)]) rfl rfl (fun w hSw => by (obtain ⟨q0, q1, q2, q3, q4, q5, q6, q7, q8, qf⟩ := (bp8.belowAll hSw).cells; clear hSw; go_simp)) (HS0.out) ?_
      refine zs 9 68 (.pointer (some ⟨(w.heap.size + 1), 0, none⟩)) (HS0.out) ?_
      refine zT 10 69 (.agg #[.int .u64 (limb 0 u), .int .u64 (limb 1 u), .int .u64 (limb 2 u), .int .u64 (limb 3 u)]) rfl rfl (fun w hSw => by (obtain ⟨q0, q1, q2, q3, q4, q5, q6, q7, q8, qf⟩ := (bq8.belowAll hSw).cells; clear hSw; go_simp)) (HS0.out) ?_
      refine zw 5 12 rfl rfl (fun K hK => ?_) (fun K hK => ?_) 
      ·go_simp
       refine (HN1.out w8.drew).mono ?_
       rintro e wK1 ⟨rfl, hbK1⟩
       have hSK1 := bStep HS0.out hbK1
       go_wp2_with fail
       refine hK.out _ _ (fun _ => hSK1) ?_
       clear hK K
       refine zw 8 12 rfl rfl (fun K hK => ?_) (fun K hK => ?_) 
       ·go_simp
        refine (HN2.out wK1).mono ?_
        rintro e wK2 ⟨rfl, hbK2⟩
        have hSK2 := bStep hSK1 hbK2
        go_wp2_with fail
        refine hK.out _ _ (fun _ => hSK2) ?_
        clear hK K
        refine zw 11 12 rfl rfl (fun K hK => ?_) (fun K hK => ?_) 
        ·go_simp
         refine (HN3'.out wK2).mono ?_
         rintro e wK3 ⟨rfl, hbK3⟩
         have hSK3 := bStep hSK2 hbK3
         go_wp2_with fail
         refine hK.out _ _ (fun _ => hSK3) ?_
         clear hK K
         refine zo 12 rfl (fun K hK => ?_)
         go_simp
         have hSK4' : Below w8.heap.size w8 (wK3.alloc (.cells #[.int .u64 0, .int .u64 0, .int .u64 0, .int .u64 0] 25)) := bAlloc (hSK3) _
         refine hK.out _ _ (fun _ => hSK4') ?_
         clear hK K
         obtain ⟨N10_4, hN10_4⟩ : ∃ N, N = wK3.heap.size := ⟨_, rfl⟩
         obtain ⟨wK4, hwK4⟩ : ∃ x : World, x = wK3.alloc (.cells #[.int .u64 0, .int .u64 0, .int .u64 0, .int .u64 0] 25) := ⟨_, rfl⟩
         have hSK4 : Below w8.heap.size w8 wK4 := by rw [hwK4]; exact hSK4'
         have b10_4 : Blk wK4 25 N10_4 (fun _ => 0) := by rw [hwK4, hN10_4]; exact Blk.new wK3 25 (fun _ => 0)
         have lN10_4 : w8.heap.size ≤ N10_4 := by rw [hN10_4]; exact (hSK3).size
         rw [← hwK4, ← hN10_4]
         clear hwK4 hSK4' hN10_4
         refine zo 13 rfl (fun K hK => ?_)
         have cS := b10_4.cell; have fS := b10_4.frozen
         go_simp
         refine hK.out _ _ (fun _ => bSet4 (hSK4) lN10_4 _ _ _ _) ?_
         clear hK K cS fS
         obtain ⟨wK5, hwK5⟩ : ∃ x : World, x = ((((wK4.setCell ⟨N10_4, 0, none⟩ (.int .u64 (limb 0 X))).setCell ⟨N10_4, 1, none⟩ (.int .u64 (limb 1 X))).setCell ⟨N10_4, 2, none⟩ (.int .u64 (limb 2 X))).setCell ⟨N10_4, 3, none⟩ (.int .u64 (limb 3 X))) := ⟨_, rfl⟩
         have hSK5 : Below w8.heap.size w8 wK5 := by rw [hwK5]; exact bSet4 (hSK4) lN10_4 _ _ _ _
         have b10_5 : Blk wK5 25 N10_4 (fun i => limb i X) := by rw [hwK5]; exact b10_4.set4 (fun i => limb i X)
         rw [← hwK5]
         clear hwK5
         refine zd ?_ _
         go_wp2_with fail
         go_meet
         exact ⟨_, rfl, lN10_4, b10_5, hSK5⟩
        ·go_simp
         have hSK3' : Below w8.heap.size w8 (wK2.alloc (.cells #[.int .u64 0, .int .u64 0, .int .u64 0, .int .u64 0] 25)) := bAlloc (hSK2) _
         refine hK.out _ _ (fun _ => hSK3') ?_
         clear hK K
         obtain ⟨N10_3, hN10_3⟩ : ∃ N, N = wK2.heap.size := ⟨_, rfl⟩
         obtain ⟨wK3, hwK3⟩ : ∃ x : World, x = wK2.alloc (.cells #[.int .u64 0, .int .u64 0, .int .u64 0, .int .u64 0] 25) := ⟨_, rfl⟩
         have hSK3 : Below w8.heap.size w8 wK3 := by rw [hwK3]; exact hSK3'
         have b10_3 : Blk wK3 25 N10_3 (fun _ => 0) := by rw [hwK3, hN10_3]; exact Blk.new wK2 25 (fun _ => 0)
         have lN10_3 : w8.heap.size ≤ N10_3 := by rw [hN10_3]; exact (hSK2).size
         rw [← hwK3, ← hN10_3]
         clear hwK3 hSK3' hN10_3
         refine zo 11 rfl (fun K hK => ?_)
         go_simp
         refine (HN3'.out wK3).mono ?_
         rintro e wK4 ⟨rfl, hbK4⟩
         have hSK4 := bStep hSK3 hbK4
         go_wp2_with fail
         refine hK.out _ _ (fun _ => hSK4) ?_
         clear hK K
         have b10_4 := b10_3.belowAll hbK4
         refine zo 13 rfl (fun K hK => ?_)
         have cS := b10_4.cell; have fS := b10_4.frozen
         go_simp
         refine hK.out _ _ (fun _ => bSet4 (hSK4) lN10_3 _ _ _ _) ?_
         clear hK K cS fS
         obtain ⟨wK5, hwK5⟩ : ∃ x : World, x = ((((wK4.setCell ⟨N10_3, 0, none⟩ (.int .u64 (limb 0 X))).setCell ⟨N10_3, 1, none⟩ (.int .u64 (limb 1 X))).setCell ⟨N10_3, 2, none⟩ (.int .u64 (limb 2 X))).setCell ⟨N10_3, 3, none⟩ (.int .u64 (limb 3 X))) := ⟨_, rfl⟩
         have hSK5 : Below w8.heap.size w8 wK5 := by rw [hwK5]; exact bSet4 (hSK4) lN10_3 _ _ _ _
         have b10_5 : Blk wK5 25 N10_3 (fun i => limb i X) := by rw [hwK5]; exact b10_4.set4 (fun i => limb i X)
         rw [← hwK5]
         clear hwK5
         refine zd ?_ _
         go_wp2_with fail
         go_meet
         exact ⟨_, rfl, lN10_3, b10_5, hSK5⟩
       ·go_simp
        have hSK2' : Below w8.heap.size w8 (wK1.alloc (.cells #[.int .u64 0, .int .u64 0, .int .u64 0, .int .u64 0] 25)) := bAlloc (hSK1) _
        refine hK.out _ _ (fun _ => hSK2') ?_
        clear hK K
        obtain ⟨N10_2, hN10_2⟩ : ∃ N, N = wK1.heap.size := ⟨_, rfl⟩
        obtain ⟨wK2, hwK2⟩ : ∃ x : World, x = wK1.alloc (.cells #[.int .u64 0, .int .u64 0, .int .u64 0, .int .u64 0] 25) := ⟨_, rfl⟩
        have hSK2 : Below w8.heap.size w8 wK2 := by rw [hwK2]; exact hSK2'
        have b10_2 : Blk wK2 25 N10_2 (fun _ => 0) := by rw [hwK2, hN10_2]; exact Blk.new wK1 25 (fun _ => 0)
        have lN10_2 : w8.heap.size ≤ N10_2 := by rw [hN10_2]; exact (hSK1).size
        rw [← hwK2, ← hN10_2]
        clear hwK2 hSK2' hN10_2
        refine zo 8 rfl (fun K hK => ?_)
        go_simp
        refine (HN2.out wK2).mono ?_
        rintro e wK3 ⟨rfl, hbK3⟩
        have hSK3 := bStep hSK2 hbK3
        go_wp2_with fail
        refine hK.out _ _ (fun _ => hSK3) ?_
        clear hK K
        have b10_3 := b10_2.belowAll hbK3
        refine zo 11 rfl (fun K hK => ?_)
        go_simp
        refine (HN3'.out wK3).mono ?_
        rintro e wK4 ⟨rfl, hbK4⟩
        have hSK4 := bStep hSK3 hbK4
        go_wp2_with fail
        refine hK.out _ _ (fun _ => hSK4) ?_
        clear hK K
        have b10_4 := b10_3.belowAll hbK4
        refine zo 13 rfl (fun K hK => ?_)
        have cS := b10_4.cell; have fS := b10_4.frozen
        go_simp
        refine hK.out _ _ (fun _ => bSet4 (hSK4) lN10_2 _ _ _ _) ?_
        clear hK K cS fS
        obtain ⟨wK5, hwK5⟩ : ∃ x : World, x = ((((wK4.setCell ⟨N10_2, 0, none⟩ (.int .u64 (limb 0 X))).setCell ⟨N10_2, 1, none⟩ (.int .u64 (limb 1 X))).setCell ⟨N10_2, 2, none⟩ (.int .u64 (limb 2 X))).setCell ⟨N10_2, 3, none⟩ (.int .u64 (limb 3 X))) := ⟨_, rfl⟩
        have hSK5 : Below w8.heap.size w8 wK5 := by rw [hwK5]; exact bSet4 (hSK4) lN10_2 _ _ _ _
        have b10_5 : Blk wK5 25 N10_2 (fun i => limb i X) := by rw [hwK5]; exact b10_4.set4 (fun i => limb i X)
        rw [← hwK5]
        clear hwK5
        refine zd ?_ _
        go_wp2_with fail
        go_meet
        exact ⟨_, rfl, lN10_2, b10_5, hSK5⟩
      ·go_simp
       have hSK1' : Below w8.heap.size w8 ((w8.alloc (.cells #[.int .u64 0, .int .u64 0, .int .u64 0, .int .u64 0] 25)).drew) := (bAlloc (Below.refl _ _) _).drew
       refine hK.out _ _ (fun _ => hSK1') ?_
       clear hK K
       obtain ⟨N10_1, hN10_1⟩ : ∃ N, N = w8.heap.size := ⟨_, rfl⟩
       obtain ⟨wK1, hwK1⟩ : ∃ x : World, x = (w8.alloc (.cells #[.int .u64 0, .int .u64 0, .int .u64 0, .int .u64 0] 25)).drew := ⟨_, rfl⟩
       have hSK1 : Below w8.heap.size w8 wK1 := by rw [hwK1]; exact hSK1'
       have b10_1 : Blk wK1 25 N10_1 (fun _ => 0) := by rw [hwK1, hN10_1]; exact (Blk.new w8 25 (fun _ => 0)).drew
       have lN10_1 : w8.heap.size ≤ N10_1 := by rw [hN10_1]; exact (HS0.out).size
       rw [← hwK1, ← hN10_1]
       clear hwK1 hSK1' hN10_1
       refine zo 5 rfl (fun K hK => ?_)
       go_simp
       refine (HN1.out wK1).mono ?_
       rintro e wK2 ⟨rfl, hbK2⟩
       have hSK2 := bStep hSK1 hbK2
       go_wp2_with fail
       refine hK.out _ _ (fun _ => hSK2) ?_
       clear hK K
       have b10_2 := b10_1.belowAll hbK2
       refine zo 8 rfl (fun K hK => ?_)
       go_simp
       refine (HN2.out wK2).mono ?_
       rintro e wK3 ⟨rfl, hbK3⟩
       have hSK3 := bStep hSK2 hbK3
       go_wp2_with fail
       refine hK.out _ _ (fun _ => hSK3) ?_
       clear hK K
       have b10_3 := b10_2.belowAll hbK3
       refine zo 11 rfl (fun K hK => ?_)
       go_simp
       refine (HN3'.out wK3).mono ?_
       rintro e wK4 ⟨rfl, hbK4⟩
       have hSK4 := bStep hSK3 hbK4
       go_wp2_with fail
       refine hK.out _ _ (fun _ => hSK4) ?_
       clear hK K
       have b10_4 := b10_3.belowAll hbK4
       refine zo 13 rfl (fun K hK => ?_)
       have cS := b10_4.cell; have fS := b10_4.frozen
       go_simp
       refine hK.out _ _ (fun _ => bSet4 (hSK4) lN10_1 _ _ _ _) ?_
       clear hK K cS fS
       obtain ⟨wK5, hwK5⟩ : ∃ x : World, x = ((((wK4.setCell ⟨N10_1, 0, none⟩ (.int .u64 (limb 0 X))).setCell ⟨N10_1, 1, none⟩ (.int .u64 (limb 1 X))).setCell ⟨N10_1, 2, none⟩ (.int .u64 (limb 2 X))).setCell ⟨N10_1, 3, none⟩ (.int .u64 (limb 3 X))) := ⟨_, rfl⟩
       have hSK5 : Below w8.heap.size w8 wK5 := by rw [hwK5]; exact bSet4 (hSK4) lN10_1 _ _ _ _
       have b10_5 : Blk wK5 25 N10_1 (fun i => limb i X) := by rw [hwK5]; exact b10_4.set4 (fun i => limb i X)
       rw [← hwK5]
       clear hwK5
       refine zd ?_ _
       go_wp2_with fail
       go_meet
       exact ⟨_, rfl, lN10_1, b10_5, hSK5⟩
     obtain ⟨N10, rfl, l10, b10, hbx⟩ := hcut
     obtain ⟨w9, hwn⟩ : ∃ x, x = wc := ⟨_, rfl⟩
     rw [← hwn] at hbx b10 ⊢
     clear hwn
     have b9' := b9.belowAll hbx
     clear b9
     have bp9 := bp8.belowAll hbx; have bq9 := bq8.belowAll hbx; have br9 := br8.belowAll hbx
     have hbw9 := bStep hbw8 hbx
     clear bp8 bq8 br8 hbw8  hbx
     clear HN1 HN2 HN3'
     go_upto_region 14 with fail
     have HS0 : Hid (Below w9.heap.size w9 w9.drew) := (Below.refl _ _).drew
     refine wp_region_Z (fun w' => Below w9.heap.size w9 w') 14 (by kernel_rfl) ?_
     refine zT 0 71 (.agg #[.int .u64 (limb 0 X), .int .u64 (limb 1 X), .int .u64 (limb 2 X), .int .u64 (limb 3 X)]) rfl rfl (fun w hSw => by (have qq := (b10.belowAll hSw).cell; clear hSw; go_simp)) HS0.out ?_
     refine zs 1 72 (.int .i64 (c : Int)) HS0.out ?_
     refine zs 2 73 (.int .i64 (c : Int)) HS0.out ?_
     refine zT 3 74 (.agg #[.int .u64 (limb 0 s), .int .u64 (limb 1 s), .int .u64 (limb 2 s), .int .u64 (limb 3 s)]) rfl rfl (fun w hSw => by (have qq := (b9'.belowAll hSw).cell; clear hSw; go_simp)) HS0.out ?_
     refine zs 4 75 (.int .i64 (c : Int)) HS0.out ?_
     refine zs 5 76 (.pointer (some ⟨w.heap.size, 0, none⟩)) HS0.out ?_
     refine zT 6 77 (.agg #[.int .u64 (limb 0 x), .int .u64 (limb 1 x), .int .u64 (limb 2 x), .int .u64 (limb 3 x)]) rfl rfl (fun w hSw => by (obtain ⟨q0, q1, q2, q3, q4, q5, q6, q7, q8, qf⟩ := (bp9.belowAll hSw).cells; clear hSw; go_simp)) HS0.out ?_
     refine zT 7 78 (.agg #[.int .u64 (limb 0 X), .int .u64 (limb 1 X), .int .u64 (limb 2 X), .int .u64 (limb 3 X)]) rfl rfl (fun w hSw => by (have qq := (b10.belowAll hSw).cell; clear hSw; go_simp)) HS0.out ?_
     refine zs 10 81 (.pointer (some ⟨w.heap.size, 4, none⟩)) HS0.out ?_
     refine zT 11 82 (.agg #[.int .u64 (limb 0 y), .int .u64 (limb 1 y), .int .u64 (limb 2 y), .int .u64 (limb 3 y)]) rfl rfl (fun w hSw => by (obtain ⟨q0, q1, q2, q3, q4, q5, q6, q7, q8, qf⟩ := (bp9.belowAll hSw).cells; clear hSw; go_simp)) HS0.out ?_
     refine zo 8 rfl (fun K hK => ?_)
     go_simp
     refine (HN4.out w9.drew).mono ?_
     rintro e wK1 ⟨rfl, hbK1⟩
     have hSK1 := bStep HS0.out hbK1
     go_wp2_with fail
     refine hK.out _ _ (fun _ => hSK1) ?_
     clear hK K
     refine zo 9 rfl (fun K hK => ?_)
     go_simp
     refine (HN5.out wK1).mono ?_
     rintro e wK2 ⟨rfl, hbK2⟩
     have hSK2 := bStep hSK1 hbK2
     go_wp2_with fail
     refine hK.out _ _ (fun _ => hSK2) ?_
     clear hK K
     refine zo 12 rfl (fun K hK => ?_)
     go_simp
     refine (HN6'.out wK2).mono ?_
     rintro e wK3 ⟨rfl, hbK3⟩
     have hSK3 := bStep hSK2 hbK3
     go_wp2_with fail
     refine hK.out _ _ (fun _ => hSK3) ?_
     clear hK K
     refine zs 13 84 (.agg #[.int .u64 (limb 0 X), .int .u64 (limb 1 X), .int .u64 (limb 2 X), .int .u64 (limb 3 X), .int .u64 (limb 0 Y), .int .u64 (limb 1 Y), .int .u64 (limb 2 Y), .int .u64 (limb 3 Y), .bool false]) hSK3 ?_
     refine zo 14 rfl (fun K hK => ?_)
     obtain ⟨r0, r1, r2, r3, r4, r5, r6, r7, r8, rf⟩ := (br9.belowAll (hSK3)).cells
     go_simp
     refine hK.out _ _ (fun h => absurd rfl h) ?_
     clear hK K
     refine zd ?_ _
     go_wp2
     refine bodyPost_ret (v := .agg #[.int .u64 (limb 0 X), .int .u64 (limb 1 X), .int .u64 (limb 2 X), .int .u64 (limb 3 X), .int .u64 (limb 0 Y), .int .u64 (limb 1 Y), .int .u64 (limb 2 Y), .int .u64 (limb 3 Y), .bool false]) (by simp [results, Tryz.results138, go_sem, r0, r1, r2, r3, r4, r5, r6, r7, r8]) rfl ⟨by rw [HVV.out], ?_⟩
     exact bSet9 (bStep hbw9 (hSK3)) hrw _ _ _ _ _ _ _ _ _
    ·rw [show (!decide (y = v)) = true from by simp [hyv]] at QY
     have HV := HC3.out ⟨hxu, hyv⟩
     have HVV := (show Hid _ from HV)
     clear HV HC3 HC4 EST ESF hxu hyv
     clear q0 q1 q2 q3 q4 q5 q6 q7 q8 qf p0 p1 p2 p3 p4 p5 p6 p7 p8 pf
     obtain ⟨q0, q1, q2, q3, q4, q5, q6, q7, q8, qf⟩ := bp4.cells
     obtain ⟨p0, p1, p2, p3, p4, p5, p6, p7, p8, pf⟩ := bq4.cells
     go_wp2_with fail
     refine (HIN.out _).mono ?_
     rintro e wz ⟨rfl, hbz⟩
     clear q0 q1 q2 q3 q4 q5 q6 q7 q8 qf p0 p1 p2 p3 p4 p5 p6 p7 p8 pf
     obtain ⟨r0, r1, r2, r3, r4, r5, r6, r7, r8, rf⟩ := (br4.belowAll hbz).cells
     have hbe := bStep hbw4 hbz
     go_wp2
     refine bodyPost_ret (v := .agg #[.int .u64 (limb 0 0), .int .u64 (limb 1 0), .int .u64 (limb 2 0), .int .u64 (limb 3 0), .int .u64 (limb 0 0), .int .u64 (limb 1 0), .int .u64 (limb 2 0), .int .u64 (limb 3 0), .bool true]) (by simp [results, Tryz.results138, go_sem, r0, r1, r2, r3, r4, r5, r6, r7, r8]) rfl ⟨by rw [HVV.out], ?_⟩
     exact bSet9 hbe hrw _ _ _ _ _ _ _ _ _
   ·rw [decide_eq_false hxu] at QX
    have HV := HC4.out (fun h => hxu h.1)
    have HVV := (show Hid _ from HV)
    rw [ESF.out (fun h => hxu h.1)] at HBF
    clear HV HC3 HC4 EST ESF hxu HBT QY
    obtain ⟨q0, q1, q2, q3, q4, q5, q6, q7, q8, qf⟩ := bp4.cells
    obtain ⟨p0, p1, p2, p3, p4, p5, p6, p7, p8, pf⟩ := bq4.cells
    go_upto_region 12 with fail
    clear q0 q1 q2 q3 q4 q5 q6 q7 q8 qf p0 p1 p2 p3 p4 p5 p6 p7 p8 pf
    have c7 := ba4.cell; have c8 := bb4.cell
    go_wp2_with fail
    refine (HBF.out _).mono ?_
    rintro e wz ⟨rfl, hbz⟩
    clear c7 c8
    obtain ⟨w5, hwn⟩ : ∃ x : World, x = wz := ⟨_, rfl⟩
    rw [← hwn] at hbz ⊢
    clear hwn ba4 bb4
    have bp5 := bp4.belowAll hbz; have bq5 := bq4.belowAll hbz; have br5 := br4.belowAll hbz
    have hbw5 := bStep hbw4 hbz
    clear bp4 bq4 br4 hbw4  hbz
    have hal : Below w5.heap.size w5 (w5.alloc (.cells #[.int .u64 (limb 0 s), .int .u64 (limb 1 s), .int .u64 (limb 2 s), .int .u64 (limb 3 s)] 25)) := (Below.refl _ _).alloc (Nat.le_refl _) _
    have b9 : Blk (w5.alloc (.cells #[.int .u64 (limb 0 s), .int .u64 (limb 1 s), .int .u64 (limb 2 s), .int .u64 (limb 3 s)] 25)) 25 w5.heap.size (fun i => limb i s) := Blk.newAt _ _ _ (fun i => limb i s) rfl
    go_upto_region 13 with fail
    obtain ⟨w6, hwn⟩ : ∃ x : World, x = w5.alloc (.cells #[.int .u64 (limb 0 s), .int .u64 (limb 1 s), .int .u64 (limb 2 s), .int .u64 (limb 3 s)] 25) := ⟨_, rfl⟩
    obtain ⟨N9, hN9⟩ : ∃ N, N = w5.heap.size := ⟨_, rfl⟩
    rw [← hwn] at hal b9 ⊢
    rw [← hN9] at b9 ⊢
    have bp6 := bp5.belowAll hal; have bq6 := bq5.belowAll hal; have br6 := br5.belowAll hal
    have hbw6 := bStep hbw5 hal
    clear bp5 bq5 br5 hbw5  hal
    clear hwn hN9
    go_cut [10] (fun p wx => ∃ N : Nat, p = .pointer (some ⟨N, 0, none⟩) ∧ w6.heap.size ≤ N ∧ Blk wx 25 N (fun i => limb i X) ∧ Below w6.heap.size w6 wx)
    case first =>
     have HS0 : Hid (Below w6.heap.size w6 w6.drew) := (Below.refl _ _).drew
     refine wp_region_Z (fun w' => Kp w6 w') 99 (by kernel_rfl) ?_
     refine zs 0 59 (.int .i64 (c : Int)) (HS0.out) ?_
     refine zs 1 60 (.int .i64 (c : Int)) (HS0.out) ?_
     refine zs 2 61 (.int .i64 (c : Int)) (HS0.out) ?_
     refine zT 3 62 (.agg #[.int .u64 (limb 0 s), .int .u64 (limb 1 s), .int .u64 (limb 2 s), .int .u64 (limb 3 s)]) rfl rfl (fun w hSw => by (have qq := (b9.belowAll hSw).cell; clear hSw; go_simp)) (HS0.out) ?_
     refine zT 4 63 (.agg #[.int .u64 (limb 0 s), .int .u64 (limb 1 s), .int .u64 (limb 2 s), .int .u64 (limb 3 s)]) rfl rfl (fun w hSw => by (have qq := (b9.belowAll hSw).cell; clear hSw; go_simp)) (HS0.out) ?_
     refine zs 6 65 (.pointer (some ⟨w.heap.size, 0, none⟩)) (HS0.out) ?_
     refine zT 7 66 (.agg #[.int .u64 (limb 0 x), .int .u64 (limb 1 x), .int .u64 (limb 2 x), .int .u64 (limb 3 x)]) rfl rfl (fun w hSw => by (obtain ⟨q0, q1, q2, q3, q4, q5, q6, q7, q8, qf⟩ := (bp6.belowAll hSw).cells; clear hSw; go_simp)) (HS0.out) ?_
     refine zs 9 68 (.pointer (some ⟨(w.heap.size + 1), 0, none⟩)) (HS0.out) ?_
     refine zT 10 69 (.agg #[.int .u64 (limb 0 u), .int .u64 (limb 1 u), .int .u64 (limb 2 u), .int .u64 (limb 3 u)]) rfl rfl (fun w hSw => by (obtain ⟨q0, q1, q2, q3, q4, q5, q6, q7, q8, qf⟩ := (bq6.belowAll hSw).cells; clear hSw; go_simp)) (HS0.out) ?_
     refine zw 5 12 rfl rfl (fun K hK => ?_) (fun K hK => ?_) 
     ·go_simp
      refine (HN1.out w6.drew).mono ?_
      rintro e wK1 ⟨rfl, hbK1⟩
      have hSK1 := bStep HS0.out hbK1
      go_wp2_with fail
      refine hK.out _ _ (fun _ => hSK1) ?_
      clear hK K
      refine zw 8 12 rfl rfl (fun K hK => ?_) (fun K hK => ?_) 
      ·go_simp
       refine (HN2.out wK1).mono ?_
       rintro e wK2 ⟨rfl, hbK2⟩
       have hSK2 := bStep hSK1 hbK2
       go_wp2_with fail
       refine hK.out _ _ (fun _ => hSK2) ?_
       clear hK K
       refine zw 11 12 rfl rfl (fun K hK => ?_) (fun K hK => ?_) 
       ·go_simp
        refine (HN3'.out wK2).mono ?_
        rintro e wK3 ⟨rfl, hbK3⟩
        have hSK3 := bStep hSK2 hbK3
        go_wp2_with fail
        refine hK.out _ _ (fun _ => hSK3) ?_
        clear hK K
        refine zo 12 rfl (fun K hK => ?_)
        go_simp
        have hSK4' : Below w6.heap.size w6 (wK3.alloc (.cells #[.int .u64 0, .int .u64 0, .int .u64 0, .int .u64 0] 25)) := bAlloc (hSK3) _
        refine hK.out _ _ (fun _ => hSK4') ?_
        clear hK K
        obtain ⟨N10_4, hN10_4⟩ : ∃ N, N = wK3.heap.size := ⟨_, rfl⟩
        obtain ⟨wK4, hwK4⟩ : ∃ x : World, x = wK3.alloc (.cells #[.int .u64 0, .int .u64 0, .int .u64 0, .int .u64 0] 25) := ⟨_, rfl⟩
        have hSK4 : Below w6.heap.size w6 wK4 := by rw [hwK4]; exact hSK4'
        have b10_4 : Blk wK4 25 N10_4 (fun _ => 0) := by rw [hwK4, hN10_4]; exact Blk.new wK3 25 (fun _ => 0)
        have lN10_4 : w6.heap.size ≤ N10_4 := by rw [hN10_4]; exact (hSK3).size
        rw [← hwK4, ← hN10_4]
        clear hwK4 hSK4' hN10_4
        refine zo 13 rfl (fun K hK => ?_)
        have cS := b10_4.cell; have fS := b10_4.frozen
        go_simp
        refine hK.out _ _ (fun _ => bSet4 (hSK4) lN10_4 _ _ _ _) ?_
        clear hK K cS fS
        obtain ⟨wK5, hwK5⟩ : ∃ x : World, x = ((((wK4.setCell ⟨N10_4, 0, none⟩ (.int .u64 (limb 0 X))).setCell ⟨N10_4, 1, none⟩ (.int .u64 (limb 1 X))).setCell ⟨N10_4, 2, none⟩ (.int .u64 (limb 2 X))).setCell ⟨N10_4, 3, none⟩ (.int .u64 (limb 3 X))) := ⟨_, rfl⟩
        have hSK5 : Below w6.heap.size w6 wK5 := by rw [hwK5]; exact bSet4 (hSK4) lN10_4 _ _ _ _
        have b10_5 : Blk wK5 25 N10_4 (fun i => limb i X) := by rw [hwK5]; exact b10_4.set4 (fun i => limb i X)
        rw [← hwK5]
        clear hwK5
        refine zd ?_ _
        go_wp2_with fail
        go_meet
        exact ⟨_, rfl, lN10_4, b10_5, hSK5⟩
       ·go_simp
        have hSK3' : Below w6.heap.size w6 (wK2.alloc (.cells #[.int .u64 0, .int .u64 0, .int .u64 0, .int .u64 0] 25)) := bAlloc (hSK2) _
        refine hK.out _ _ (fun _ => hSK3') ?_
        clear hK K
        obtain ⟨N10_3, hN10_3⟩ : ∃ N, N = wK2.heap.size := ⟨_, rfl⟩
        obtain ⟨wK3, hwK3⟩ : ∃ x : World, x = wK2.alloc (.cells #[.int .u64 0, .int .u64 0, .int .u64 0, .int .u64 0] 25) := ⟨_, rfl⟩
        have hSK3 : Below w6.heap.size w6 wK3 := by rw [hwK3]; exact hSK3'
        have b10_3 : Blk wK3 25 N10_3 (fun _ => 0) := by rw [hwK3, hN10_3]; exact Blk.new wK2 25 (fun _ => 0)
        have lN10_3 : w6.heap.size ≤ N10_3 := by rw [hN10_3]; exact (hSK2).size
        rw [← hwK3, ← hN10_3]
        clear hwK3 hSK3' hN10_3
        refine zo 11 rfl (fun K hK => ?_)
        go_simp
        refine (HN3'.out wK3).mono ?_
        rintro e wK4 ⟨rfl, hbK4⟩
        have hSK4 := bStep hSK3 hbK4
        go_wp2_with fail
        refine hK.out _ _ (fun _ => hSK4) ?_
        clear hK K
        have b10_4 := b10_3.belowAll hbK4
        refine zo 13 rfl (fun K hK => ?_)
        have cS := b10_4.cell; have fS := b10_4.frozen
        go_simp
        refine hK.out _ _ (fun _ => bSet4 (hSK4) lN10_3 _ _ _ _) ?_
        clear hK K cS fS
        obtain ⟨wK5, hwK5⟩ : ∃ x : World, x = ((((wK4.setCell ⟨N10_3, 0, none⟩ (.int .u64 (limb 0 X))).setCell ⟨N10_3, 1, none⟩ (.int .u64 (limb 1 X))).setCell ⟨N10_3, 2, none⟩ (.int .u64 (limb 2 X))).setCell ⟨N10_3, 3, none⟩ (.int .u64 (limb 3 X))) := ⟨_, rfl⟩
        have hSK5 : Below w6.heap.size w6 wK5 := by rw [hwK5]; exact bSet4 (hSK4) lN10_3 _ _ _ _
        have b10_5 : Blk wK5 25 N10_3 (fun i => limb i X) := by rw [hwK5]; exact b10_4.set4 (fun i => limb i X)
        rw [← hwK5]
        clear hwK5
        refine zd ?_ _
        go_wp2_with fail
        go_meet
        exact ⟨_, rfl, lN10_3, b10_5, hSK5⟩
      ·go_simp
       have hSK2' : Below w6.heap.size w6 (wK1.alloc (.cells #[.int .u64 0, .int .u64 0, .int .u64 0, .int .u64 0] 25)) := bAlloc (hSK1) _
       refine hK.out _ _ (fun _ => hSK2') ?_
       clear hK K
       obtain ⟨N10_2, hN10_2⟩ : ∃ N, N = wK1.heap.size := ⟨_, rfl⟩
       obtain ⟨wK2, hwK2⟩ : ∃ x : World, x = wK1.alloc (.cells #[.int .u64 0, .int .u64 0, .int .u64 0, .int .u64 0] 25) := ⟨_, rfl⟩
       have hSK2 : Below w6.heap.size w6 wK2 := by rw [hwK2]; exact hSK2'
       have b10_2 : Blk wK2 25 N10_2 (fun _ => 0) := by rw [hwK2, hN10_2]; exact Blk.new wK1 25 (fun _ => 0)
       have lN10_2 : w6.heap.size ≤ N10_2 := by rw [hN10_2]; exact (hSK1).size
       rw [← hwK2, ← hN10_2]
       clear hwK2 hSK2' hN10_2
       refine zo 8 rfl (fun K hK => ?_)
       go_simp
       refine (HN2.out wK2).mono ?_
       rintro e wK3 ⟨rfl, hbK3⟩
       have hSK3 := bStep hSK2 hbK3
       go_wp2_with fail
       refine hK.out _ _ (fun _ => hSK3) ?_
       clear hK K
       have b10_3 := b10_2.belowAll hbK3
       refine zo 11 rfl (fun K hK => ?_)
       go_simp
       refine (HN3'.out wK3).mono ?_
       rintro e wK4 ⟨rfl, hbK4⟩
       have hSK4 := bStep hSK3 hbK4
       go_wp2_with fail
       refine hK.out _ _ (fun _ => hSK4) ?_
       clear hK K
       have b10_4 := b10_3.belowAll hbK4
       refine zo 13 rfl (fun K hK => ?_)
       have cS := b10_4.cell; have fS := b10_4.frozen
       go_simp
       refine hK.out _ _ (fun _ => bSet4 (hSK4) lN10_2 _ _ _ _) ?_
       clear hK K cS fS
       obtain ⟨wK5, hwK5⟩ : ∃ x : World, x = ((((wK4.setCell ⟨N10_2, 0, none⟩ (.int .u64 (limb 0 X))).setCell ⟨N10_2, 1, none⟩ (.int .u64 (limb 1 X))).setCell ⟨N10_2, 2, none⟩ (.int .u64 (limb 2 X))).setCell ⟨N10_2, 3, none⟩ (.int .u64 (limb 3 X))) := ⟨_, rfl⟩
       have hSK5 : Below w6.heap.size w6 wK5 := by rw [hwK5]; exact bSet4 (hSK4) lN10_2 _ _ _ _
       have b10_5 : Blk wK5 25 N10_2 (fun i => limb i X) := by rw [hwK5]; exact b10_4.set4 (fun i => limb i X)
       rw [← hwK5]
       clear hwK5
       refine zd ?_ _
       go_wp2_with fail
       go_meet
       exact ⟨_, rfl, lN10_2, b10_5, hSK5⟩
     ·go_simp
      have hSK1' : Below w6.heap.size w6 ((w6.alloc (.cells #[.int .u64 0, .int .u64 0, .int .u64 0, .int .u64 0] 25)).drew) := (bAlloc (Below.refl _ _) _).drew
      refine hK.out _ _ (fun _ => hSK1') ?_
      clear hK K
      obtain ⟨N10_1, hN10_1⟩ : ∃ N, N = w6.heap.size := ⟨_, rfl⟩
      obtain ⟨wK1, hwK1⟩ : ∃ x : World, x = (w6.alloc (.cells #[.int .u64 0, .int .u64 0, .int .u64 0, .int .u64 0] 25)).drew := ⟨_, rfl⟩
      have hSK1 : Below w6.heap.size w6 wK1 := by rw [hwK1]; exact hSK1'
      have b10_1 : Blk wK1 25 N10_1 (fun _ => 0) := by rw [hwK1, hN10_1]; exact (Blk.new w6 25 (fun _ => 0)).drew
      have lN10_1 : w6.heap.size ≤ N10_1 := by rw [hN10_1]; exact (HS0.out).size
      rw [← hwK1, ← hN10_1]
      clear hwK1 hSK1' hN10_1
      refine zo 5 rfl (fun K hK => ?_)
      go_simp
      refine (HN1.out wK1).mono ?_
      rintro e wK2 ⟨rfl, hbK2⟩
      have hSK2 := bStep hSK1 hbK2
      go_wp2_with fail
      refine hK.out _ _ (fun _ => hSK2) ?_
      clear hK K
      have b10_2 := b10_1.belowAll hbK2
      refine zo 8 rfl (fun K hK => ?_)
      go_simp
      refine (HN2.out wK2).mono ?_
      rintro e wK3 ⟨rfl, hbK3⟩
      have hSK3 := bStep hSK2 hbK3
      go_wp2_with fail
      refine hK.out _ _ (fun _ => hSK3) ?_
      clear hK K
      have b10_3 := b10_2.belowAll hbK3
      refine zo 11 rfl (fun K hK => ?_)
      go_simp
      refine (HN3'.out wK3).mono ?_
      rintro e wK4 ⟨rfl, hbK4⟩
      have hSK4 := bStep hSK3 hbK4
      go_wp2_with fail
      refine hK.out _ _ (fun _ => hSK4) ?_
      clear hK K
      have b10_4 := b10_3.belowAll hbK4
      refine zo 13 rfl (fun K hK => ?_)
      have cS := b10_4.cell; have fS := b10_4.frozen
      go_simp
      refine hK.out _ _ (fun _ => bSet4 (hSK4) lN10_1 _ _ _ _) ?_
      clear hK K cS fS
      obtain ⟨wK5, hwK5⟩ : ∃ x : World, x = ((((wK4.setCell ⟨N10_1, 0, none⟩ (.int .u64 (limb 0 X))).setCell ⟨N10_1, 1, none⟩ (.int .u64 (limb 1 X))).setCell ⟨N10_1, 2, none⟩ (.int .u64 (limb 2 X))).setCell ⟨N10_1, 3, none⟩ (.int .u64 (limb 3 X))) := ⟨_, rfl⟩
      have hSK5 : Below w6.heap.size w6 wK5 := by rw [hwK5]; exact bSet4 (hSK4) lN10_1 _ _ _ _
      have b10_5 : Blk wK5 25 N10_1 (fun i => limb i X) := by rw [hwK5]; exact b10_4.set4 (fun i => limb i X)
      rw [← hwK5]
      clear hwK5
      refine zd ?_ _
      go_wp2_with fail
      go_meet
      exact ⟨_, rfl, lN10_1, b10_5, hSK5⟩
    obtain ⟨N10, rfl, l10, b10, hbx⟩ := hcut
    obtain ⟨w7, hwn⟩ : ∃ x, x = wc := ⟨_, rfl⟩
    rw [← hwn] at hbx b10 ⊢
    clear hwn
    have b9' := b9.belowAll hbx
    clear b9
    have bp7 := bp6.belowAll hbx; have bq7 := bq6.belowAll hbx; have br7 := br6.belowAll hbx
    have hbw7 := bStep hbw6 hbx
    clear bp6 bq6 br6 hbw6  hbx
    clear HN1 HN2 HN3'
    go_upto_region 14 with fail
    have HS0 : Hid (Below w7.heap.size w7 w7.drew) := (Below.refl _ _).drew
    refine wp_region_Z (fun w' => Below w7.heap.size w7 w') 14 (by kernel_rfl) ?_
    refine zT 0 71 (.agg #[.int .u64 (limb 0 X), .int .u64 (limb 1 X), .int .u64 (limb 2 X), .int .u64 (limb 3 X)]) rfl rfl (fun w hSw => by (have qq := (b10.belowAll hSw).cell; clear hSw; go_simp)) HS0.out ?_
    refine zs 1 72 (.int .i64 (c : Int)) HS0.out ?_
    refine zs 2 73 (.int .i64 (c : Int)) HS0.out ?_
    refine zT 3 74 (.agg #[.int .u64 (limb 0 s), .int .u64 (limb 1 s), .int .u64 (limb 2 s), .int .u64 (limb 3 s)]) rfl rfl (fun w hSw => by (have qq := (b9'.belowAll hSw).cell; clear hSw; go_simp)) HS0.out ?_
    refine zs 4 75 (.int .i64 (c : Int)) HS0.out ?_
    refine zs 5 76 (.pointer (some ⟨w.heap.size, 0, none⟩)) HS0.out ?_
    refine zT 6 77 (.agg #[.int .u64 (limb 0 x), .int .u64 (limb 1 x), .int .u64 (limb 2 x), .int .u64 (limb 3 x)]) rfl rfl (fun w hSw => by (obtain ⟨q0, q1, q2, q3, q4, q5, q6, q7, q8, qf⟩ := (bp7.belowAll hSw).cells; clear hSw; go_simp)) HS0.out ?_
    refine zT 7 78 (.agg #[.int .u64 (limb 0 X), .int .u64 (limb 1 X), .int .u64 (limb 2 X), .int .u64 (limb 3 X)]) rfl rfl (fun w hSw => by (have qq := (b10.belowAll hSw).cell; clear hSw; go_simp)) HS0.out ?_
    refine zs 10 81 (.pointer (some ⟨w.heap.size, 4, none⟩)) HS0.out ?_
    refine zT 11 82 (.agg #[.int .u64 (limb 0 y), .int .u64 (limb 1 y), .int .u64 (limb 2 y), .int .u64 (limb 3 y)]) rfl rfl (fun w hSw => by (obtain ⟨q0, q1, q2, q3, q4, q5, q6, q7, q8, qf⟩ := (bp7.belowAll hSw).cells; clear hSw; go_simp)) HS0.out ?_
    refine zo 8 rfl (fun K hK => ?_)
    go_simp
    refine (HN4.out w7.drew).mono ?_
    rintro e wK1 ⟨rfl, hbK1⟩
    have hSK1 := bStep HS0.out hbK1
    go_wp2_with fail
    refine hK.out _ _ (fun _ => hSK1) ?_
    clear hK K
    refine zo 9 rfl (fun K hK => ?_)
    go_simp
    refine (HN5.out wK1).mono ?_
    rintro e wK2 ⟨rfl, hbK2⟩
    have hSK2 := bStep hSK1 hbK2
    go_wp2_with fail
    refine hK.out _ _ (fun _ => hSK2) ?_
    clear hK K
    refine zo 12 rfl (fun K hK => ?_)
    go_simp
    refine (HN6'.out wK2).mono ?_
    rintro e wK3 ⟨rfl, hbK3⟩
    have hSK3 := bStep hSK2 hbK3
    go_wp2_with fail
    refine hK.out _ _ (fun _ => hSK3) ?_
    clear hK K
    refine zs 13 84 (.agg #[.int .u64 (limb 0 X), .int .u64 (limb 1 X), .int .u64 (limb 2 X), .int .u64 (limb 3 X), .int .u64 (limb 0 Y), .int .u64 (limb 1 Y), .int .u64 (limb 2 Y), .int .u64 (limb 3 Y), .bool false]) hSK3 ?_
    refine zo 14 rfl (fun K hK => ?_)
    obtain ⟨r0, r1, r2, r3, r4, r5, r6, r7, r8, rf⟩ := (br7.belowAll (hSK3)).cells
    go_simp
    refine hK.out _ _ (fun h => absurd rfl h) ?_
    clear hK K
    refine zd ?_ _
    go_wp2
    refine bodyPost_ret (v := .agg #[.int .u64 (limb 0 X), .int .u64 (limb 1 X), .int .u64 (limb 2 X), .int .u64 (limb 3 X), .int .u64 (limb 0 Y), .int .u64 (limb 1 Y), .int .u64 (limb 2 Y), .int .u64 (limb 3 Y), .bool false]) (by simp [results, Tryz.results138, go_sem, r0, r1, r2, r3, r4, r5, r6, r7, r8]) rfl ⟨by rw [HVV.out], ?_⟩
    exact bSet9 (bStep hbw7 (hSK3)) hrw _ _ _ _ _ _ _ _ _
set_option maxRecDepth 20000 in
theorem radd_in (c x y u v : Nat) (i j : Bool) (hc : c < 4) (hx : x < 115792089237316195423570985008687907853269984665640564039457584007913129639936) (hy : y < 115792089237316195423570985008687907853269984665640564039457584007913129639936) (hu : u < 115792089237316195423570985008687907853269984665640564039457584007913129639936) (hv : v < 115792089237316195423570985008687907853269984665640564039457584007913129639936) (w : World) :
  Calls Tryz.prog 124 #[.int .i64 (c : Int), .agg #[.int .u64 (limb 0 x), .int .u64 (limb 1 x), .int .u64 (limb 2 x), .int .u64 (limb 3 x), .int .u64 (limb 0 y), .int .u64 (limb 1 y), .int .u64 (limb 2 y), .int .u64 (limb 3 y), .bool i], .agg #[.int .u64 (limb 0 u), .int .u64 (limb 1 u), .int .u64 (limb 2 u), .int .u64 (limb 3 u), .int .u64 (limb 0 v), .int .u64 (limb 1 v), .int .u64 (limb 2 v), .int .u64 (limb 3 v), .bool j]] w fun e w' => e = .returned (.agg #[.int .u64 (limb 0 ((raddPt c x y i u v j).1)), .int .u64 (limb 1 ((raddPt c x y i u v j).1)), .int .u64 (limb 2 ((raddPt c x y i u v j).1)), .int .u64 (limb 3 ((raddPt c x y i u v j).1)), .int .u64 (limb 0 ((raddPt c x y i u v j).2.1)), .int .u64 (limb 1 ((raddPt c x y i u v j).2.1)), .int .u64 (limb 2 ((raddPt c x y i u v j).2.1)), .int .u64 (limb 3 ((raddPt c x y i u v j).2.1)), .bool (raddPt c x y i u v j).2.2]) ∧ Below w.heap.size w w' := by
 have HIN : Hid (∀ w, _) := rInfinity_any
 have HO1 : Hid (∀ w, _) := fun w => ron_in c x y i hc hx hy w
 have HO2 : Hid (∀ w, _) := fun w => ron_in c u v j hc hu hv w
 have HSU : Hid (∀ w, _) := fun w => rsumP_in c x y u v i j hc hx hy hu hv w
 have HA1 : Hid (¬ onC c x y i ∨ ¬ onC c u v j → (.agg #[.int .u64 (limb 0 ((raddPt c x y i u v j).1)), .int .u64 (limb 1 ((raddPt c x y i u v j).1)), .int .u64 (limb 2 ((raddPt c x y i u v j).1)), .int .u64 (limb 3 ((raddPt c x y i u v j).1)), .int .u64 (limb 0 ((raddPt c x y i u v j).2.1)), .int .u64 (limb 1 ((raddPt c x y i u v j).2.1)), .int .u64 (limb 2 ((raddPt c x y i u v j).2.1)), .int .u64 (limb 3 ((raddPt c x y i u v j).2.1)), .bool (raddPt c x y i u v j).2.2] : Value) = .agg #[.int .u64 (limb 0 0), .int .u64 (limb 1 0), .int .u64 (limb 2 0), .int .u64 (limb 3 0), .int .u64 (limb 0 0), .int .u64 (limb 1 0), .int .u64 (limb 2 0), .int .u64 (limb 3 0), .bool true]) := fun h => by unfold raddPt; rw [if_pos h]
 have HA2 : Hid (¬ (¬ onC c x y i ∨ ¬ onC c u v j) → (.agg #[.int .u64 (limb 0 ((raddPt c x y i u v j).1)), .int .u64 (limb 1 ((raddPt c x y i u v j).1)), .int .u64 (limb 2 ((raddPt c x y i u v j).1)), .int .u64 (limb 3 ((raddPt c x y i u v j).1)), .int .u64 (limb 0 ((raddPt c x y i u v j).2.1)), .int .u64 (limb 1 ((raddPt c x y i u v j).2.1)), .int .u64 (limb 2 ((raddPt c x y i u v j).2.1)), .int .u64 (limb 3 ((raddPt c x y i u v j).2.1)), .bool (raddPt c x y i u v j).2.2] : Value) = .agg #[.int .u64 (limb 0 ((sumPt c x y i u v j).1)), .int .u64 (limb 1 ((sumPt c x y i u v j).1)), .int .u64 (limb 2 ((sumPt c x y i u v j).1)), .int .u64 (limb 3 ((sumPt c x y i u v j).1)), .int .u64 (limb 0 ((sumPt c x y i u v j).2.1)), .int .u64 (limb 1 ((sumPt c x y i u v j).2.1)), .int .u64 (limb 2 ((sumPt c x y i u v j).2.1)), .int .u64 (limb 3 ((sumPt c x y i u v j).2.1)), .bool (sumPt c x y i u v j).2.2]) := fun h => by unfold raddPt; rw [if_neg h]
 obtain ⟨V, eV⟩ : ∃ V : Value, V = .agg #[.int .u64 (limb 0 ((raddPt c x y i u v j).1)), .int .u64 (limb 1 ((raddPt c x y i u v j).1)), .int .u64 (limb 2 ((raddPt c x y i u v j).1)), .int .u64 (limb 3 ((raddPt c x y i u v j).1)), .int .u64 (limb 0 ((raddPt c x y i u v j).2.1)), .int .u64 (limb 1 ((raddPt c x y i u v j).2.1)), .int .u64 (limb 2 ((raddPt c x y i u v j).2.1)), .int .u64 (limb 3 ((raddPt c x y i u v j).2.1)), .bool (raddPt c x y i u v j).2.2] := ⟨_, rfl⟩
 rw [← eV] at HA1 HA2 ⊢
 obtain ⟨Z, eZ⟩ : ∃ Z : Nat × Nat × Bool, Z = sumPt c x y i u v j := ⟨_, rfl⟩
 rw [← eZ] at HSU HA2
 obtain ⟨zx, zy, zi⟩ := Z
 dsimp only at HSU HA2
 clear eV eZ
 go_enter Tryz.func124, Tryz.ntmps124
 go_upto_region 1 with fail
 obtain ⟨w0, hw0⟩ : ∃ w0 : World, w0 = ((w.alloc (.cells #[.int .u64 (limb 0 x), .int .u64 (limb 1 x), .int .u64 (limb 2 x), .int .u64 (limb 3 x), .int .u64 (limb 0 y), .int .u64 (limb 1 y), .int .u64 (limb 2 y), .int .u64 (limb 3 y), .bool i] 27)).alloc (.cells #[.int .u64 (limb 0 u), .int .u64 (limb 1 u), .int .u64 (limb 2 u), .int .u64 (limb 3 u), .int .u64 (limb 0 v), .int .u64 (limb 1 v), .int .u64 (limb 2 v), .int .u64 (limb 3 v), .bool j] 27)).alloc (.cells #[.int .u64 0, .int .u64 0, .int .u64 0, .int .u64 0, .int .u64 0, .int .u64 0, .int .u64 0, .int .u64 0, .bool false] 27) := ⟨_, rfl⟩
 have bp0 : Pt w0 w.heap.size x y i := by rw [hw0]; exact ((Pt.newAt _ _ _ _ _ rfl).alloc _).alloc _
 have bq0 : Pt w0 (w.heap.size + 1) u v j := by rw [hw0]; exact (Pt.newAt _ _ _ _ _ (by simp)).alloc _
 have br0 : Pt w0 (w.heap.size + 1 + 1) 0 0 false := by rw [hw0]; exact Pt.zeroAt _ _ (by simp)
 have hbw0 : Below w.heap.size w w0 := by rw [hw0]; exact bAlloc (bAlloc ((Below.refl _ _).alloc (Nat.le_refl _) _) _) _
 have hrw : w.heap.size ≤ w.heap.size + 1 + 1 := by omega
 rw [← hw0]
 clear hw0
 by_cases ho1 : onC c x y i
 ·rw [decide_eq_true ho1] at HO1
  obtain ⟨q0, q1, q2, q3, q4, q5, q6, q7, q8, qf⟩ := bp0.cells
  obtain ⟨p0, p1, p2, p3, p4, p5, p6, p7, p8, pf⟩ := bq0.cells
  go_wp2_with fail
  refine (HO1.out _).mono ?_
  rintro e w1 ⟨rfl, hbz⟩
  clear q0 q1 q2 q3 q4 q5 q6 q7 q8 qf p0 p1 p2 p3 p4 p5 p6 p7 p8 pf
  have bp1 := bp0.belowAll hbz; have bq1 := bq0.belowAll hbz; have br1 := br0.belowAll hbz
  have hbw1 := bStep hbw0 hbz
  clear bp0 bq0 br0 hbw0  hbz
  by_cases ho2 : onC c u v j
  ·rw [decide_eq_true ho2] at HO2
   have HV := HA2.out (fun h => by rcases h with h | h; exact h ho1; exact h ho2)
   have HVV := (show Hid _ from HV)
   clear HV ho1 ho2 HA1 HA2
   obtain ⟨q0, q1, q2, q3, q4, q5, q6, q7, q8, qf⟩ := bp1.cells
   obtain ⟨p0, p1, p2, p3, p4, p5, p6, p7, p8, pf⟩ := bq1.cells
   go_wp2_with fail
   refine (HO2.out _).mono ?_
   rintro e w2 ⟨rfl, hbz⟩
   clear q0 q1 q2 q3 q4 q5 q6 q7 q8 qf p0 p1 p2 p3 p4 p5 p6 p7 p8 pf
   have bp2 := bp1.belowAll hbz; have bq2 := bq1.belowAll hbz; have br2 := br1.belowAll hbz
   have hbw2 := bStep hbw1 hbz
   clear bp1 bq1 br1 hbw1  hbz
   obtain ⟨q0, q1, q2, q3, q4, q5, q6, q7, q8, qf⟩ := bp2.cells
   obtain ⟨p0, p1, p2, p3, p4, p5, p6, p7, p8, pf⟩ := bq2.cells
   go_wp2_with fail
   refine (HSU.out _).mono ?_
   rintro e wz ⟨rfl, hbz⟩
   clear q0 q1 q2 q3 q4 q5 q6 q7 q8 qf p0 p1 p2 p3 p4 p5 p6 p7 p8 pf
   obtain ⟨r0, r1, r2, r3, r4, r5, r6, r7, r8, rf⟩ := (br2.belowAll hbz).cells
   have hbe := bStep hbw2 hbz
   go_wp2
   refine bodyPost_ret (v := .agg #[.int .u64 (limb 0 zx), .int .u64 (limb 1 zx), .int .u64 (limb 2 zx), .int .u64 (limb 3 zx), .int .u64 (limb 0 zy), .int .u64 (limb 1 zy), .int .u64 (limb 2 zy), .int .u64 (limb 3 zy), .bool zi]) (by simp [results, Tryz.results124, go_sem, r0, r1, r2, r3, r4, r5, r6, r7, r8]) rfl ⟨by rw [HVV.out], ?_⟩
   exact bSet9 hbe hrw _ _ _ _ _ _ _ _ _
  ·rw [decide_eq_false ho2] at HO2
   have HV := HA1.out (Or.inr ho2)
   have HVV := (show Hid _ from HV)
   clear HV ho1 ho2 HA1 HA2
   obtain ⟨q0, q1, q2, q3, q4, q5, q6, q7, q8, qf⟩ := bp1.cells
   obtain ⟨p0, p1, p2, p3, p4, p5, p6, p7, p8, pf⟩ := bq1.cells
   go_wp2_with fail
   refine (HO2.out _).mono ?_
   rintro e w2 ⟨rfl, hbz⟩
   clear q0 q1 q2 q3 q4 q5 q6 q7 q8 qf p0 p1 p2 p3 p4 p5 p6 p7 p8 pf
   have bp2 := bp1.belowAll hbz; have bq2 := bq1.belowAll hbz; have br2 := br1.belowAll hbz
   have hbw2 := bStep hbw1 hbz
   clear bp1 bq1 br1 hbw1  hbz
   obtain ⟨q0, q1, q2, q3, q4, q5, q6, q7, q8, qf⟩ := bp2.cells
   obtain ⟨p0, p1, p2, p3, p4, p5, p6, p7, p8, pf⟩ := bq2.cells
   go_wp2_with fail
   refine (HIN.out _).mono ?_
   rintro e wz ⟨rfl, hbz⟩
   clear q0 q1 q2 q3 q4 q5 q6 q7 q8 qf p0 p1 p2 p3 p4 p5 p6 p7 p8 pf
   obtain ⟨r0, r1, r2, r3, r4, r5, r6, r7, r8, rf⟩ := (br2.belowAll hbz).cells
   have hbe := bStep hbw2 hbz
   go_wp2
   refine bodyPost_ret (v := .agg #[.int .u64 (limb 0 0), .int .u64 (limb 1 0), .int .u64 (limb 2 0), .int .u64 (limb 3 0), .int .u64 (limb 0 0), .int .u64 (limb 1 0), .int .u64 (limb 2 0), .int .u64 (limb 3 0), .bool true]) (by simp [results, Tryz.results124, go_sem, r0, r1, r2, r3, r4, r5, r6, r7, r8]) rfl ⟨by rw [HVV.out], ?_⟩
   exact bSet9 hbe hrw _ _ _ _ _ _ _ _ _
 ·rw [decide_eq_false ho1] at HO1
  have HV := HA1.out (Or.inl ho1)
  have HVV := (show Hid _ from HV)
  clear HV ho1 HA1 HA2
  obtain ⟨q0, q1, q2, q3, q4, q5, q6, q7, q8, qf⟩ := bp0.cells
  obtain ⟨p0, p1, p2, p3, p4, p5, p6, p7, p8, pf⟩ := bq0.cells
  go_wp2_with fail
  refine (HO1.out _).mono ?_
  rintro e w1 ⟨rfl, hbz⟩
  clear q0 q1 q2 q3 q4 q5 q6 q7 q8 qf p0 p1 p2 p3 p4 p5 p6 p7 p8 pf
  have bp1 := bp0.belowAll hbz; have bq1 := bq0.belowAll hbz; have br1 := br0.belowAll hbz
  have hbw1 := bStep hbw0 hbz
  clear bp0 bq0 br0 hbw0  hbz
  obtain ⟨q0, q1, q2, q3, q4, q5, q6, q7, q8, qf⟩ := bp1.cells
  obtain ⟨p0, p1, p2, p3, p4, p5, p6, p7, p8, pf⟩ := bq1.cells
  go_wp2_with fail
  refine (HIN.out _).mono ?_
  rintro e wz ⟨rfl, hbz⟩
  clear q0 q1 q2 q3 q4 q5 q6 q7 q8 qf p0 p1 p2 p3 p4 p5 p6 p7 p8 pf
  obtain ⟨r0, r1, r2, r3, r4, r5, r6, r7, r8, rf⟩ := (br1.belowAll hbz).cells
  have hbe := bStep hbw1 hbz
  go_wp2
  refine bodyPost_ret (v := .agg #[.int .u64 (limb 0 0), .int .u64 (limb 1 0), .int .u64 (limb 2 0), .int .u64 (limb 3 0), .int .u64 (limb 0 0), .int .u64 (limb 1 0), .int .u64 (limb 2 0), .int .u64 (limb 3 0), .bool true]) (by simp [results, Tryz.results124, go_sem, r0, r1, r2, r3, r4, r5, r6, r7, r8]) rfl ⟨by rw [HVV.out], ?_⟩
  exact bSet9 hbe hrw _ _ _ _ _ _ _ _ _
end Go.Proofs.YtdeijnlbencfdaaGreatDoor
