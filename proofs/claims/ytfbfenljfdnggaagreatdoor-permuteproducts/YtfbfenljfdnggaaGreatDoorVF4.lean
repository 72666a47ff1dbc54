/- What field.times and timesExcess do. -/
import Derived.Test.YtfbfenljfdnggaaGreatDoorVFA
namespace Go.Proofs.YtfbfenljfdnggaaGreatDoor
open Go.RowKit
theorem row_next (H X v : Nat) (hH : H < 115792089237316195423570985008687907853269984665640564039457584007913129639936) (hX : X < 115792089237316195423570985008687907853269984665640564039457584007913129639936) (hv : v < 18446744073709551616) : (H + X * v) / 18446744073709551616 < 115792089237316195423570985008687907853269984665640564039457584007913129639936 ∧ (H + X * v) = (H + X * v) % 18446744073709551616 + 18446744073709551616 * ((H + X * v) / 18446744073709551616) ∧ (H + X * v) % 18446744073709551616 < 18446744073709551616 := by
  have h : X * v ≤ (115792089237316195423570985008687907853269984665640564039457584007913129639936 - 1) * (18446744073709551616 - 1) := Nat.mul_le_mul (by omega) (by omega)
  refine ⟨?_, dm _, Nat.mod_lt _ (by decide)⟩
  rw [Nat.div_lt_iff_lt_mul (by decide)]; omega
theorem limbz (i : Nat) : limb i 0 = 0 := by unfold limb; rw [Nat.zero_div]
theorem addRow_zero (X v : Nat) (hX : X < 115792089237316195423570985008687907853269984665640564039457584007913129639936) (hv : v < 18446744073709551616) (w : World) :
    Calls Tryz.prog 184 #[.agg #[.int .u64 0, .int .u64 0, .int .u64 0, .int .u64 0], .agg #[.int .u64 ((limb 0 (X) : Nat) : Int), .int .u64 ((limb 1 (X) : Nat) : Int), .int .u64 ((limb 2 (X) : Nat) : Int), .int .u64 ((limb 3 (X) : Nat) : Int)], .int .u64 (v : Int)] w fun e w' => e = .returned (.tuple #[.int .u64 (((0 + X * v) % 18446744073709551616 : Nat) : Int), .agg #[.int .u64 ((limb 0 ((0 + X * v) / 18446744073709551616) : Nat) : Int), .int .u64 ((limb 1 ((0 + X * v) / 18446744073709551616) : Nat) : Int), .int .u64 ((limb 2 ((0 + X * v) / 18446744073709551616) : Nat) : Int), .int .u64 ((limb 3 ((0 + X * v) / 18446744073709551616) : Nat) : Int)]]) ∧ Below w.heap.size w w' := by
  have h := addRow_any 0 X v (by decide) hX hv w
  rw [limbz, limbz, limbz, limbz] at h
  exact h
theorem mulInv_two (A B : Nat) (hB : B < 340282366920938463463374607431768211456) (L : Nat → Nat) (H : Nat) (hH : H < 115792089237316195423570985008687907853269984665640564039457584007913129639936) (h : MulInv A B 2 L H) :
    L 0 = limb 0 (lo256 (A * B)) ∧ L 1 = limb 1 (lo256 (A * B)) ∧ limb 0 H = limb 2 (lo256 (A * B)) ∧ limb 1 H = limb 3 (lo256 (A * B)) ∧ limb 2 H = limb 0 (hi256 (A * B)) ∧ limb 3 H = limb 1 (hi256 (A * B)) ∧ 0 = limb 2 (hi256 (A * B)) ∧ 0 = limb 3 (hi256 (A * B)) := by
  have e2 : (18446744073709551616 : Nat) ^ 2 = 340282366920938463463374607431768211456 := by decide
  have h2 := h.2
  rw [e2, Nat.mod_eq_of_lt hB] at h2
  simp only [lowSum, Nat.pow_one, Nat.pow_zero, Nat.one_mul, Nat.zero_add] at h2
  have hs := limbs_sum H hH
  have l0 := h.1 0 (by decide); have l1 := h.1 1 (by decide)
  have g := limbs_of (L 0) (L 1) (limb 0 H) (limb 1 H) l0 l1 (limb_lt _ _) (limb_lt _ _) _ rfl
  have g2 := limbs_of (limb 2 H) (limb 3 H) 0 0 (limb_lt _ _) (limb_lt _ _) (by decide) (by decide) _ rfl
  have key : A * B = (L 0 + 18446744073709551616 * L 1 + 340282366920938463463374607431768211456 * limb 0 H + 6277101735386680763835789423207666416102355444464034512896 * limb 1 H) + 115792089237316195423570985008687907853269984665640564039457584007913129639936 * (limb 2 H + 18446744073709551616 * limb 3 H + 340282366920938463463374607431768211456 * 0 + 6277101735386680763835789423207666416102355444464034512896 * 0) := by omega
  have s := split_of (A * B) _ _ g.2.2.2.2 key
  have ea : lo256 (A * B) = _ := s.1
  have eb : hi256 (A * B) = _ := s.2
  rw [ea, eb]
  exact ⟨g.1, g.2.1, g.2.2.1, g.2.2.2.1, g2.1, g2.2.1, g2.2.2.1, g2.2.2.2.1⟩
set_option maxHeartbeats 4000000 in
/-- field.times: the product's lower and upper half. -/
theorem times_any (X Y : Nat) (hX : X < 115792089237316195423570985008687907853269984665640564039457584007913129639936) (hY : Y < 115792089237316195423570985008687907853269984665640564039457584007913129639936) (w : World) :
    Calls Tryz.prog 151 #[.agg #[.int .u64 ((limb 0 (X) : Nat) : Int), .int .u64 ((limb 1 (X) : Nat) : Int), .int .u64 ((limb 2 (X) : Nat) : Int), .int .u64 ((limb 3 (X) : Nat) : Int)], .agg #[.int .u64 ((limb 0 (Y) : Nat) : Int), .int .u64 ((limb 1 (Y) : Nat) : Int), .int .u64 ((limb 2 (Y) : Nat) : Int), .int .u64 ((limb 3 (Y) : Nat) : Int)]] w fun e w' => e = .returned (.tuple #[.agg #[.int .u64 ((limb 0 (lo256 (X * Y)) : Nat) : Int), .int .u64 ((limb 1 (lo256 (X * Y)) : Nat) : Int), .int .u64 ((limb 2 (lo256 (X * Y)) : Nat) : Int), .int .u64 ((limb 3 (lo256 (X * Y)) : Nat) : Int)], .agg #[.int .u64 ((limb 0 (hi256 (X * Y)) : Nat) : Int), .int .u64 ((limb 1 (hi256 (X * Y)) : Nat) : Int), .int .u64 ((limb 2 (hi256 (X * Y)) : Nat) : Int), .int .u64 ((limb 3 (hi256 (X * Y)) : Nat) : Int)]]) ∧ Below w.heap.size w w' := by
  go_enter Tryz.func151, Tryz.ntmps151
  go_wp2_with fail
  obtain ⟨w0, hw0⟩ : ∃ w0 : World, w0 = (((((w.alloc (.cells #[.int .u64 ((limb 0 (X) : Nat) : Int), .int .u64 ((limb 1 (X) : Nat) : Int), .int .u64 ((limb 2 (X) : Nat) : Int), .int .u64 ((limb 3 (X) : Nat) : Int)] 154)).alloc (.cells #[.int .u64 ((limb 0 (Y) : Nat) : Int), .int .u64 ((limb 1 (Y) : Nat) : Int), .int .u64 ((limb 2 (Y) : Nat) : Int), .int .u64 ((limb 3 (Y) : Nat) : Int)] 154)).alloc (.cells #[.int .u64 0, .int .u64 0, .int .u64 0, .int .u64 0] 154)).alloc (.cells #[.int .u64 0, .int .u64 0, .int .u64 0, .int .u64 0] 154)).alloc (.cells #[.int .u64 0, .int .u64 0, .int .u64 0, .int .u64 0] 154)).alloc (.cells #[.int .u64 0, .int .u64 0, .int .u64 0, .int .u64 0] 154) := ⟨_, rfl⟩
  have bX0 : Blk w0 154 w.heap.size (fun i => limb i X) := by rw [hw0]; exact (((((Blk.newAt _ _ _ (fun i => limb i X) (by simp)).alloc _).alloc _).alloc _).alloc _).alloc _
  have bY0 : Blk w0 154 (w.heap.size + 1) (fun i => limb i Y) := by rw [hw0]; exact ((((Blk.newAt _ _ _ (fun i => limb i Y) (by simp)).alloc _).alloc _).alloc _).alloc _
  have bR0 : Blk w0 154 (w.heap.size + 1 + 1) (fun _ => 0) := by rw [hw0]; exact (((Blk.newAt _ _ _ (fun _ => 0) (by simp)).alloc _).alloc _).alloc _
  have bS0 : Blk w0 154 (w.heap.size + 1 + 1 + 1) (fun _ => 0) := by rw [hw0]; exact ((Blk.newAt _ _ _ (fun _ => 0) (by simp)).alloc _).alloc _
  have bL0 : Blk w0 154 (w.heap.size + 1 + 1 + 1 + 1) (fun _ => 0) := by rw [hw0]; exact (Blk.newAt _ _ _ (fun _ => 0) (by simp)).alloc _
  have bH0 : Blk w0 154 (w.heap.size + 1 + 1 + 1 + 1 + 1) (fun _ => 0) := by rw [hw0]; exact Blk.newAt _ _ _ (fun _ => 0) (by simp)
  have hb0 : Below w.heap.size w w0 := by
    rw [hw0]
    repeat (first | with_reducible exact Below.refl _ _ | with_reducible refine Below.alloc ?_ (by first | omega | (simp; omega) | simp) _)
  rw [← hw0]
  clear hw0
  have I0 := mulInv_zero X Y
  obtain ⟨lH1, eR1, lL1⟩ := row_next 0 X (limb 0 Y) (by decide) hX (limb_lt _ _)
  have I1 := mulInv_step X Y 0 _ _ _ _ I0 lL1 eR1
  clear I0 eR1
  refine (addRow_zero X (limb 0 Y) hX (limb_lt _ _) _).mono ?_
  rintro e w1 ⟨rfl, hb1⟩
  obtain ⟨r1, er1⟩ : ∃ r, r = (0 + X * limb 0 Y) % 18446744073709551616 := ⟨_, rfl⟩
  obtain ⟨H1, eH1⟩ : ∃ H, H = (0 + X * limb 0 Y) / 18446744073709551616 := ⟨_, rfl⟩
  rw [← er1] at I1 lL1 ⊢
  rw [← eH1] at I1 lH1 ⊢
  clear er1 eH1
  have bX1 := bX0.belowAll hb1
  have bY1 := bY0.belowAll hb1
  have bR1 := bR0.belowAll hb1
  have bS1 := bS0.belowAll hb1
  have bL1 := bL0.belowAll hb1
  have bH1 := bH0.belowAll hb1
  have hbw1 := bStep hb0 hb1
  clear bX0 bY0 bR0 bS0 bL0 bH0 hb0 hb1
  have cX := bX1.cell; have cY := bY1.cell; have cL := bL1.cell; have fL := bL1.frozen; have cH := bH1.cell; have fH := bH1.frozen
  go_wp2_with fail
  obtain ⟨lH2, eR2, lL2⟩ := row_next H1 X (limb 1 Y) lH1 hX (limb_lt _ _)
  have I2 := mulInv_step X Y 1 _ _ _ _ I1 lL2 eR2
  clear I1 eR2
  refine (addRow_any H1 X (limb 1 Y) lH1 hX (limb_lt _ _) _).mono ?_
  rintro e w2 ⟨rfl, hb2⟩
  obtain ⟨r2, er2⟩ : ∃ r, r = (H1 + X * limb 1 Y) % 18446744073709551616 := ⟨_, rfl⟩
  obtain ⟨H2, eH2⟩ : ∃ H, H = (H1 + X * limb 1 Y) / 18446744073709551616 := ⟨_, rfl⟩
  rw [← er2] at I2 lL2 ⊢
  rw [← eH2] at I2 lH2 ⊢
  clear er2 eH2
  have bX2 := ((bX1.other (by dsimp only; omega) _).other4 (by omega) _ _ _ _).belowAll hb2
  have bY2 := ((bY1.other (by dsimp only; omega) _).other4 (by omega) _ _ _ _).belowAll hb2
  have bR2 := ((bR1.other (by dsimp only; omega) _).other4 (by omega) _ _ _ _).belowAll hb2
  have bS2 := ((bS1.other (by dsimp only; omega) _).other4 (by omega) _ _ _ _).belowAll hb2
  have bL2 := ((bL1.set 0 (by decide) _).other4 (by omega) _ _ _ _).belowAll hb2
  have bH2 := ((bH1.other (by dsimp only; omega) _).set4 (fun i => limb i H1)).belowAll hb2
  have hbw2 := bStep (bSet4 (hbw1.setCell (by dsimp only; omega) _) (by omega) _ _ _ _) hb2
  clear bX1 bY1 bR1 bS1 bL1 bH1 hbw1 hb2 cX cY cL fL cH fH
  have cX := bX2.cell; have cY := bY2.cell; have cL := bL2.cell; have fL := bL2.frozen; have cH := bH2.cell; have fH := bH2.frozen
  go_wp2_with fail
  obtain ⟨lH3, eR3, lL3⟩ := row_next H2 X (limb 2 Y) lH2 hX (limb_lt _ _)
  have I3 := mulInv_step X Y 2 _ _ _ _ I2 lL3 eR3
  clear I2 eR3
  refine (addRow_any H2 X (limb 2 Y) lH2 hX (limb_lt _ _) _).mono ?_
  rintro e w3 ⟨rfl, hb3⟩
  obtain ⟨r3, er3⟩ : ∃ r, r = (H2 + X * limb 2 Y) % 18446744073709551616 := ⟨_, rfl⟩
  obtain ⟨H3, eH3⟩ : ∃ H, H = (H2 + X * limb 2 Y) / 18446744073709551616 := ⟨_, rfl⟩
  rw [← er3] at I3 lL3 ⊢
  rw [← eH3] at I3 lH3 ⊢
  clear er3 eH3
  have bX3 := ((bX2.other (by dsimp only; omega) _).other4 (by omega) _ _ _ _).belowAll hb3
  have bY3 := ((bY2.other (by dsimp only; omega) _).other4 (by omega) _ _ _ _).belowAll hb3
  have bR3 := ((bR2.other (by dsimp only; omega) _).other4 (by omega) _ _ _ _).belowAll hb3
  have bS3 := ((bS2.other (by dsimp only; omega) _).other4 (by omega) _ _ _ _).belowAll hb3
  have bL3 := ((bL2.set 1 (by decide) _).other4 (by omega) _ _ _ _).belowAll hb3
  have bH3 := ((bH2.other (by dsimp only; omega) _).set4 (fun i => limb i H2)).belowAll hb3
  have hbw3 := bStep (bSet4 (hbw2.setCell (by dsimp only; omega) _) (by omega) _ _ _ _) hb3
  clear bX2 bY2 bR2 bS2 bL2 bH2 hbw2 hb3 cX cY cL fL cH fH
  have cX := bX3.cell; have cY := bY3.cell; have cL := bL3.cell; have fL := bL3.frozen; have cH := bH3.cell; have fH := bH3.frozen
  go_wp2_with fail
  obtain ⟨lH4, eR4, lL4⟩ := row_next H3 X (limb 3 Y) lH3 hX (limb_lt _ _)
  have I4 := mulInv_step X Y 3 _ _ _ _ I3 lL4 eR4
  clear I3 eR4
  refine (addRow_any H3 X (limb 3 Y) lH3 hX (limb_lt _ _) _).mono ?_
  rintro e w4 ⟨rfl, hb4⟩
  obtain ⟨r4, er4⟩ : ∃ r, r = (H3 + X * limb 3 Y) % 18446744073709551616 := ⟨_, rfl⟩
  obtain ⟨H4, eH4⟩ : ∃ H, H = (H3 + X * limb 3 Y) / 18446744073709551616 := ⟨_, rfl⟩
  rw [← er4] at I4 lL4 ⊢
  rw [← eH4] at I4 lH4 ⊢
  clear er4 eH4
  have bX4 := ((bX3.other (by dsimp only; omega) _).other4 (by omega) _ _ _ _).belowAll hb4
  have bY4 := ((bY3.other (by dsimp only; omega) _).other4 (by omega) _ _ _ _).belowAll hb4
  have bR4 := ((bR3.other (by dsimp only; omega) _).other4 (by omega) _ _ _ _).belowAll hb4
  have bS4 := ((bS3.other (by dsimp only; omega) _).other4 (by omega) _ _ _ _).belowAll hb4
  have bL4 := ((bL3.set 2 (by decide) _).other4 (by omega) _ _ _ _).belowAll hb4
  have bH4 := ((bH3.other (by dsimp only; omega) _).set4 (fun i => limb i H3)).belowAll hb4
  have hbw4 := bStep (bSet4 (hbw3.setCell (by dsimp only; omega) _) (by omega) _ _ _ _) hb4
  clear bX3 bY3 bR3 bS3 bL3 bH3 hbw3 hb4 cX cY cL fL cH fH
  have cX := bX4.cell; have cY := bY4.cell; have cL := bL4.cell; have fL := bL4.frozen; have cH := bH4.cell; have fH := bH4.frozen
  have I5 := mulInv_end X Y hY _ _ I4
  clear I4
  obtain ⟨I6, eH⟩ := I5
  have e0 := I6 0 (by decide); have e1 := I6 1 (by decide); have e2 := I6 2 (by decide); have e3 := I6 3 (by decide)
  simp at e0 e1 e2 e3
  clear I6
  have E0 := (show Hid _ from e0); have E1 := (show Hid _ from e1); have E2 := (show Hid _ from e2); have E3 := (show Hid _ from e3); have EH := (show Hid _ from eH)
  clear e0 e1 e2 e3 eH
  have cR := bR4.cell; have fR := bR4.frozen; have cS := bS4.cell; have fS := bS4.frozen
  go_wp2
  go_region
  go_wp2
  refine bodyPost_ret (v := .tuple #[.agg #[.int .u64 ((r1 : Nat) : Int), .int .u64 ((r2 : Nat) : Int), .int .u64 ((r3 : Nat) : Int), .int .u64 ((r4 : Nat) : Int)], .agg #[.int .u64 ((limb 0 (H4) : Nat) : Int), .int .u64 ((limb 1 (H4) : Nat) : Int), .int .u64 ((limb 2 (H4) : Nat) : Int), .int .u64 ((limb 3 (H4) : Nat) : Int)]]) (by simp [results, Tryz.results151, go_sem, cR, cS]) rfl ⟨by rw [E0.out, E1.out, E2.out, E3.out, EH.out], ?_⟩
  repeat (first | with_reducible exact hbw4 | with_reducible refine Below.drew ?_ | with_reducible refine Below.setCell ?_ (by first | omega | (simp; omega) | simp) _)
set_option maxHeartbeats 4000000 in
/-- field.timesExcess: the product with a number of two words. -/
theorem timesExcess_any (X Y : Nat) (hX : X < 115792089237316195423570985008687907853269984665640564039457584007913129639936) (hY : Y < 340282366920938463463374607431768211456) (w : World) :
    Calls Tryz.prog 186 #[.agg #[.int .u64 ((limb 0 (X) : Nat) : Int), .int .u64 ((limb 1 (X) : Nat) : Int), .int .u64 ((limb 2 (X) : Nat) : Int), .int .u64 ((limb 3 (X) : Nat) : Int)], .agg #[.int .u64 ((limb 0 (Y) : Nat) : Int), .int .u64 ((limb 1 (Y) : Nat) : Int), .int .u64 ((limb 2 (Y) : Nat) : Int), .int .u64 ((limb 3 (Y) : Nat) : Int)]] w fun e w' => e = .returned (.tuple #[.agg #[.int .u64 ((limb 0 (lo256 (X * Y)) : Nat) : Int), .int .u64 ((limb 1 (lo256 (X * Y)) : Nat) : Int), .int .u64 ((limb 2 (lo256 (X * Y)) : Nat) : Int), .int .u64 ((limb 3 (lo256 (X * Y)) : Nat) : Int)], .agg #[.int .u64 ((limb 0 (hi256 (X * Y)) : Nat) : Int), .int .u64 ((limb 1 (hi256 (X * Y)) : Nat) : Int), .int .u64 ((limb 2 (hi256 (X * Y)) : Nat) : Int), .int .u64 ((limb 3 (hi256 (X * Y)) : Nat) : Int)]]) ∧ Below w.heap.size w w' := by
  go_enter Tryz.func186, Tryz.ntmps186
  go_wp2_with fail
  obtain ⟨w0, hw0⟩ : ∃ w0 : World, w0 = (((((w.alloc (.cells #[.int .u64 ((limb 0 (X) : Nat) : Int), .int .u64 ((limb 1 (X) : Nat) : Int), .int .u64 ((limb 2 (X) : Nat) : Int), .int .u64 ((limb 3 (X) : Nat) : Int)] 154)).alloc (.cells #[.int .u64 ((limb 0 (Y) : Nat) : Int), .int .u64 ((limb 1 (Y) : Nat) : Int), .int .u64 ((limb 2 (Y) : Nat) : Int), .int .u64 ((limb 3 (Y) : Nat) : Int)] 154)).alloc (.cells #[.int .u64 0, .int .u64 0, .int .u64 0, .int .u64 0] 154)).alloc (.cells #[.int .u64 0, .int .u64 0, .int .u64 0, .int .u64 0] 154)).alloc (.cells #[.int .u64 0, .int .u64 0, .int .u64 0, .int .u64 0] 154)).alloc (.cells #[.int .u64 0, .int .u64 0, .int .u64 0, .int .u64 0] 154) := ⟨_, rfl⟩
  have bX0 : Blk w0 154 w.heap.size (fun i => limb i X) := by rw [hw0]; exact (((((Blk.newAt _ _ _ (fun i => limb i X) (by simp)).alloc _).alloc _).alloc _).alloc _).alloc _
  have bY0 : Blk w0 154 (w.heap.size + 1) (fun i => limb i Y) := by rw [hw0]; exact ((((Blk.newAt _ _ _ (fun i => limb i Y) (by simp)).alloc _).alloc _).alloc _).alloc _
  have bR0 : Blk w0 154 (w.heap.size + 1 + 1) (fun _ => 0) := by rw [hw0]; exact (((Blk.newAt _ _ _ (fun _ => 0) (by simp)).alloc _).alloc _).alloc _
  have bS0 : Blk w0 154 (w.heap.size + 1 + 1 + 1) (fun _ => 0) := by rw [hw0]; exact ((Blk.newAt _ _ _ (fun _ => 0) (by simp)).alloc _).alloc _
  have bL0 : Blk w0 154 (w.heap.size + 1 + 1 + 1 + 1) (fun _ => 0) := by rw [hw0]; exact (Blk.newAt _ _ _ (fun _ => 0) (by simp)).alloc _
  have bH0 : Blk w0 154 (w.heap.size + 1 + 1 + 1 + 1 + 1) (fun _ => 0) := by rw [hw0]; exact Blk.newAt _ _ _ (fun _ => 0) (by simp)
  have hb0 : Below w.heap.size w w0 := by
    rw [hw0]
    repeat (first | with_reducible exact Below.refl _ _ | with_reducible refine Below.alloc ?_ (by first | omega | (simp; omega) | simp) _)
  rw [← hw0]
  clear hw0
  have I0 := mulInv_zero X Y
  obtain ⟨lH1, eR1, lL1⟩ := row_next 0 X (limb 0 Y) (by decide) hX (limb_lt _ _)
  have I1 := mulInv_step X Y 0 _ _ _ _ I0 lL1 eR1
  clear I0 eR1
  refine (addRow_zero X (limb 0 Y) hX (limb_lt _ _) _).mono ?_
  rintro e w1 ⟨rfl, hb1⟩
  obtain ⟨r1, er1⟩ : ∃ r, r = (0 + X * limb 0 Y) % 18446744073709551616 := ⟨_, rfl⟩
  obtain ⟨H1, eH1⟩ : ∃ H, H = (0 + X * limb 0 Y) / 18446744073709551616 := ⟨_, rfl⟩
  rw [← er1] at I1 lL1 ⊢
  rw [← eH1] at I1 lH1 ⊢
  clear er1 eH1
  have bX1 := bX0.belowAll hb1
  have bY1 := bY0.belowAll hb1
  have bR1 := bR0.belowAll hb1
  have bS1 := bS0.belowAll hb1
  have bL1 := bL0.belowAll hb1
  have bH1 := bH0.belowAll hb1
  have hbw1 := bStep hb0 hb1
  clear bX0 bY0 bR0 bS0 bL0 bH0 hb0 hb1
  have cX := bX1.cell; have cY := bY1.cell; have cL := bL1.cell; have fL := bL1.frozen; have cH := bH1.cell; have fH := bH1.frozen
  go_wp2_with fail
  obtain ⟨lH2, eR2, lL2⟩ := row_next H1 X (limb 1 Y) lH1 hX (limb_lt _ _)
  have I2 := mulInv_step X Y 1 _ _ _ _ I1 lL2 eR2
  clear I1 eR2
  refine (addRow_any H1 X (limb 1 Y) lH1 hX (limb_lt _ _) _).mono ?_
  rintro e w2 ⟨rfl, hb2⟩
  obtain ⟨r2, er2⟩ : ∃ r, r = (H1 + X * limb 1 Y) % 18446744073709551616 := ⟨_, rfl⟩
  obtain ⟨H2, eH2⟩ : ∃ H, H = (H1 + X * limb 1 Y) / 18446744073709551616 := ⟨_, rfl⟩
  rw [← er2] at I2 lL2 ⊢
  rw [← eH2] at I2 lH2 ⊢
  clear er2 eH2
  have bX2 := ((bX1.other (by dsimp only; omega) _).other4 (by omega) _ _ _ _).belowAll hb2
  have bY2 := ((bY1.other (by dsimp only; omega) _).other4 (by omega) _ _ _ _).belowAll hb2
  have bR2 := ((bR1.other (by dsimp only; omega) _).other4 (by omega) _ _ _ _).belowAll hb2
  have bS2 := ((bS1.other (by dsimp only; omega) _).other4 (by omega) _ _ _ _).belowAll hb2
  have bL2 := ((bL1.set 0 (by decide) _).other4 (by omega) _ _ _ _).belowAll hb2
  have bH2 := ((bH1.other (by dsimp only; omega) _).set4 (fun i => limb i H1)).belowAll hb2
  have hbw2 := bStep (bSet4 (hbw1.setCell (by dsimp only; omega) _) (by omega) _ _ _ _) hb2
  clear bX1 bY1 bR1 bS1 bL1 bH1 hbw1 hb2 cX cY cL fL cH fH
  have cX := bX2.cell; have cY := bY2.cell; have cL := bL2.cell; have fL := bL2.frozen; have cH := bH2.cell; have fH := bH2.frozen
  have I5 := mulInv_two X Y hY _ _ lH2 I2
  clear I2
  obtain ⟨e0, e1, e2, e3, e4, e5, e6, e7⟩ := I5
  simp at e0 e1
  have E0 := (show Hid _ from e0); have E1 := (show Hid _ from e1); have E2 := (show Hid _ from e2); have E3 := (show Hid _ from e3); have E4 := (show Hid _ from e4); have E5 := (show Hid _ from e5); have E6 := (show Hid _ from e6); have E7 := (show Hid _ from e7)
  clear e0 e1 e2 e3 e4 e5 e6 e7
  have cR := bR2.cell; have fR := bR2.frozen; have cS := bS2.cell; have fS := bS2.frozen
  go_wp2
  go_region
  go_wp2
  go_region
  go_wp2
  refine bodyPost_ret (v := .tuple #[.agg #[.int .u64 ((r1 : Nat) : Int), .int .u64 ((r2 : Nat) : Int), .int .u64 ((limb 0 H2 : Nat) : Int), .int .u64 ((limb 1 H2 : Nat) : Int)], .agg #[.int .u64 ((limb 2 H2 : Nat) : Int), .int .u64 ((limb 3 H2 : Nat) : Int), .int .u64 ((0 : Nat) : Int), .int .u64 ((0 : Nat) : Int)]]) (by simp [results, Tryz.results186, go_sem, cR, cS]) rfl ⟨by rw [E0.out, E1.out, E2.out, E3.out, E4.out, E5.out, ← E6.out, ← E7.out], ?_⟩
  repeat (first | with_reducible exact hbw2 | with_reducible refine Below.drew ?_ | with_reducible refine Below.setCell ?_ (by first | omega | (simp; omega) | simp) _)
end Go.Proofs.YtfbfenljfdnggaaGreatDoor
