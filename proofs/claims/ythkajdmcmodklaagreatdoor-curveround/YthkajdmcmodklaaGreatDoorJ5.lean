/- CurveRound: the walk. -/
import Derived.Test.YthkajdmcmodklaaGreatDoorJ4
import Derived.Test.YthkajdmcmodklaaGreatDoorKV
namespace Go.Proofs.YthkajdmcmodklaaGreatDoor
open Go.RowKit

theorem neqP_self (x y : Nat) (i : Bool) (hx : x < 115792089237316195423570985008687907853269984665640564039457584007913129639936) (hy : y < 115792089237316195423570985008687907853269984665640564039457584007913129639936) (w : World) : (binOp .neq 26 (.agg #[.int .u64 ((limb 0 (x) : Nat) : Int), .int .u64 ((limb 1 (x) : Nat) : Int), .int .u64 ((limb 2 (x) : Nat) : Int), .int .u64 ((limb 3 (x) : Nat) : Int), .int .u64 ((limb 0 (y) : Nat) : Int), .int .u64 ((limb 1 (y) : Nat) : Int), .int .u64 ((limb 2 (y) : Nat) : Int), .int .u64 ((limb 3 (y) : Nat) : Int), .bool i]) (.agg #[.int .u64 ((limb 0 (x) : Nat) : Int), .int .u64 ((limb 1 (x) : Nat) : Int), .int .u64 ((limb 2 (x) : Nat) : Int), .int .u64 ((limb 3 (x) : Nat) : Int), .int .u64 ((limb 0 (y) : Nat) : Int), .int .u64 ((limb 1 (y) : Nat) : Int), .int .u64 ((limb 2 (y) : Nat) : Int), .int .u64 ((limb 3 (y) : Nat) : Int), .bool i])).run Tryz.prog w = .ok (.bool false) w := by
  rw [run_neq_struct, eqP_in x y x y i i hx hy hx hy, decide_eq_true (⟨rfl, rfl, rfl⟩ : x = x ∧ y = y ∧ i = i)]; rfl
theorem eqlP_zero (w : World) : (binOp .eql 26 (.agg #[.int .u64 ((limb 0 (0) : Nat) : Int), .int .u64 ((limb 1 (0) : Nat) : Int), .int .u64 ((limb 2 (0) : Nat) : Int), .int .u64 ((limb 3 (0) : Nat) : Int), .int .u64 ((limb 0 (0) : Nat) : Int), .int .u64 ((limb 1 (0) : Nat) : Int), .int .u64 ((limb 2 (0) : Nat) : Int), .int .u64 ((limb 3 (0) : Nat) : Int), .bool false]) (.agg #[.int .u64 0, .int .u64 0, .int .u64 0, .int .u64 0, .int .u64 0, .int .u64 0, .int .u64 0, .int .u64 0, .bool false])).run Tryz.prog w = .ok (.bool true) w := by
  have hzp : (.agg #[.int .u64 ((limb 0 (0) : Nat) : Int), .int .u64 ((limb 1 (0) : Nat) : Int), .int .u64 ((limb 2 (0) : Nat) : Int), .int .u64 ((limb 3 (0) : Nat) : Int), .int .u64 ((limb 0 (0) : Nat) : Int), .int .u64 ((limb 1 (0) : Nat) : Int), .int .u64 ((limb 2 (0) : Nat) : Int), .int .u64 ((limb 3 (0) : Nat) : Int), .bool false] : Value) = .agg #[.int .u64 0, .int .u64 0, .int .u64 0, .int .u64 0, .int .u64 0, .int .u64 0, .int .u64 0, .int .u64 0, .bool false] := by rw [limb_zero, limb_zero, limb_zero, limb_zero]; rfl
  have h := eqlP_self 0 0 false (by decide) (by decide) w
  rw [hzp] at h ⊢
  exact h
set_option maxHeartbeats 8000000 in
set_option maxRecDepth 20000 in
theorem cround_gen (c : Int) (x y n X Y : Nat) (i I b0 : Bool) (er : Int) (v : Value) (f F F3 : Nat → Nat) (hx : x < 115792089237316195423570985008687907853269984665640564039457584007913129639936) (hy : y < 115792089237316195423570985008687907853269984665640564039457584007913129639936) (hn : n ≤ 140737488351232)
    (D0 : ∀ w, GlobC w → Calls Tryz.prog 10 #[.int .i64 c, .agg #[.int .u64 ((limb 0 (x) : Nat) : Int), .int .u64 ((limb 1 (x) : Nat) : Int), .int .u64 ((limb 2 (x) : Nat) : Int), .int .u64 ((limb 3 (x) : Nat) : Int), .int .u64 ((limb 0 (y) : Nat) : Int), .int .u64 ((limb 1 (y) : Nat) : Int), .int .u64 ((limb 2 (y) : Nat) : Int), .int .u64 ((limb 3 (y) : Nat) : Int), .bool i]] w fun e w' => e = .returned (.bool b0) ∧ Below w.heap.size w w')
    (D1 : b0 = true → ∀ w, GlobC w → Calls Tryz.prog 22 #[.int .i64 c, .agg #[.int .u64 ((limb 0 (x) : Nat) : Int), .int .u64 ((limb 1 (x) : Nat) : Int), .int .u64 ((limb 2 (x) : Nat) : Int), .int .u64 ((limb 3 (x) : Nat) : Int), .int .u64 ((limb 0 (y) : Nat) : Int), .int .u64 ((limb 1 (y) : Nat) : Int), .int .u64 ((limb 2 (y) : Nat) : Int), .int .u64 ((limb 3 (y) : Nat) : Int), .bool i]] w fun e w' => ∃ g, e = .returned (.slice (some ⟨g, 0, none⟩) 32 32) ∧ w.heap.size ≤ g ∧ BlkB w' 5 g 32 F ∧ Below w.heap.size w w')
    (D2 : b0 = true → ∀ w u, GlobC w → Bs w u 32 F → Calls Tryz.prog 19 #[.int .i64 c, u] w fun e w' => e = .returned (.tuple #[.agg #[.int .u64 ((limb 0 (x) : Nat) : Int), .int .u64 ((limb 1 (x) : Nat) : Int), .int .u64 ((limb 2 (x) : Nat) : Int), .int .u64 ((limb 3 (x) : Nat) : Int), .int .u64 ((limb 0 (y) : Nat) : Int), .int .u64 ((limb 1 (y) : Nat) : Int), .int .u64 ((limb 2 (y) : Nat) : Int), .int .u64 ((limb 3 (y) : Nat) : Int), .bool i], .int .i64 0]) ∧ Below w.heap.size w w')
    (D3 : b0 = false → ∀ w, GlobC w → Calls Tryz.prog 22 #[.int .i64 c, .agg #[.int .u64 ((limb 0 (x) : Nat) : Int), .int .u64 ((limb 1 (x) : Nat) : Int), .int .u64 ((limb 2 (x) : Nat) : Int), .int .u64 ((limb 3 (x) : Nat) : Int), .int .u64 ((limb 0 (y) : Nat) : Int), .int .u64 ((limb 1 (y) : Nat) : Int), .int .u64 ((limb 2 (y) : Nat) : Int), .int .u64 ((limb 3 (y) : Nat) : Int), .bool i]] w fun e w' => e = .returned (.slice none 0 0) ∧ Below w.heap.size w w')
    (D4 : ∀ w u, GlobC w → Bs w u n f → Calls Tryz.prog 19 #[.int .i64 c, u] w fun e w' => e = .returned (.tuple #[.agg #[.int .u64 ((limb 0 (X) : Nat) : Int), .int .u64 ((limb 1 (X) : Nat) : Int), .int .u64 ((limb 2 (X) : Nat) : Int), .int .u64 ((limb 3 (X) : Nat) : Int), .int .u64 ((limb 0 (Y) : Nat) : Int), .int .u64 ((limb 1 (Y) : Nat) : Int), .int .u64 ((limb 2 (Y) : Nat) : Int), .int .u64 ((limb 3 (Y) : Nat) : Int), .bool I], .int .i64 er]) ∧ Below w.heap.size w w')
    (D5 : er ≠ 0 → X = 0 ∧ Y = 0 ∧ I = false ∧ (er = 41 ∨ er = 40))
    (D6 : er = 0 → ∀ w, GlobC w → Calls Tryz.prog 10 #[.int .i64 c, .agg #[.int .u64 ((limb 0 (X) : Nat) : Int), .int .u64 ((limb 1 (X) : Nat) : Int), .int .u64 ((limb 2 (X) : Nat) : Int), .int .u64 ((limb 3 (X) : Nat) : Int), .int .u64 ((limb 0 (Y) : Nat) : Int), .int .u64 ((limb 1 (Y) : Nat) : Int), .int .u64 ((limb 2 (Y) : Nat) : Int), .int .u64 ((limb 3 (Y) : Nat) : Int), .bool I]] w fun e w' => e = .returned (.bool true) ∧ Below w.heap.size w w')
    (D7 : er = 0 → ∀ w, GlobC w → Calls Tryz.prog 22 #[.int .i64 c, .agg #[.int .u64 ((limb 0 (X) : Nat) : Int), .int .u64 ((limb 1 (X) : Nat) : Int), .int .u64 ((limb 2 (X) : Nat) : Int), .int .u64 ((limb 3 (X) : Nat) : Int), .int .u64 ((limb 0 (Y) : Nat) : Int), .int .u64 ((limb 1 (Y) : Nat) : Int), .int .u64 ((limb 2 (Y) : Nat) : Int), .int .u64 ((limb 3 (Y) : Nat) : Int), .bool I]] w fun e w' => ∃ g, e = .returned (.slice (some ⟨g, 0, none⟩) 32 32) ∧ w.heap.size ≤ g ∧ BlkB w' 5 g 32 F3 ∧ Below w.heap.size w w')
    (D8 : er = 0 → n = 32 ∧ ∀ k, k < 32 → F3 k = f k)
    (w : World) (hg : GlobC w) (hB : Bs w v n f) :
    Calls Tryz.prog 8 #[.int .i64 c, .agg #[.int .u64 ((limb 0 (x) : Nat) : Int), .int .u64 ((limb 1 (x) : Nat) : Int), .int .u64 ((limb 2 (x) : Nat) : Int), .int .u64 ((limb 3 (x) : Nat) : Int), .int .u64 ((limb 0 (y) : Nat) : Int), .int .u64 ((limb 1 (y) : Nat) : Int), .int .u64 ((limb 2 (y) : Nat) : Int), .int .u64 ((limb 3 (y) : Nat) : Int), .bool i], v] w fun e w' => e = .returned (.bool true) ∧ Below w.heap.size w w' := by
  have HG0 : Hid (GlobC w) := hg
  have HB0 : Hid (Bs w v n f) := hB
  have HAL : Hid (∀ w, GlobC w → _) := fun w hg => alive4_any w hg
  have HD0 := (show Hid _ from D0); have HD1 := (show Hid _ from D1); have HD2 := (show Hid _ from D2); have HD3 := (show Hid _ from D3); have HD4 := (show Hid _ from D4); have HD5 := (show Hid _ from D5); have HD6 := (show Hid _ from D6); have HD7 := (show Hid _ from D7); have HD8 := (show Hid _ from D8)
  have HCB : Hid (∀ w, Bs w v n f → _) := fun w h => copy_any n v f hn w h
  have QN := fun w => neqP_self x y i hx hy w
  have QZ := eqlP_zero
  have HSM : Hid (er = 0 → ∀ (w : World) (u : Value), Bs w u 32 F3 → Bs w v n f → Calls Tryz.prog 21 #[u, v] w fun e w' => e = .returned (.bool true) ∧ Below w.heap.size w w') := fun h w u h1 h2 => by
    obtain ⟨e1, e2⟩ := D8 h
    refine (same_any u v 32 n F3 f w h1 h2).mono ?_
    rintro e w' ⟨rfl, hb⟩
    refine ⟨?_, hb⟩
    rw [e1, decide_eq_true rfl, sameB_true e2]; rfl
  clear hg hB D0 D1 D2 D3 D4 D5 D6 D7 D8 hx hy hn HD8
  go_enter Tryz.func8, Tryz.ntmps8
  go_upto_region 1 with fail
  obtain ⟨w0, hw0⟩ : ∃ w0 : World, w0 = w.alloc (.cells #[.int .u64 ((limb 0 x : Nat) : Int), .int .u64 ((limb 1 x : Nat) : Int), .int .u64 ((limb 2 x : Nat) : Int), .int .u64 ((limb 3 x : Nat) : Int), .int .u64 ((limb 0 y : Nat) : Int), .int .u64 ((limb 1 y : Nat) : Int), .int .u64 ((limb 2 y : Nat) : Int), .int .u64 ((limb 3 y : Nat) : Int), .bool i] 26) := ⟨_, rfl⟩
  have bp0 : Pt w0 w.heap.size x y i := by rw [hw0]; exact Pt.newAt _ _ _ _ _ rfl
  have hbw0 : Below w.heap.size w w0 := by rw [hw0]; exact (Below.refl _ _).alloc (Nat.le_refl _) _
  rw [← hw0]
  clear hw0
  go_wp2_with fail
  refine (HAL.out _ (HG0.out.below hbw0)).mono ?_
  rintro e w1 ⟨rfl, hb1⟩
  have bp1 := bp0.belowAll hb1
  have hbw1 := bStep hbw0 hb1
  clear bp0 hbw0 hb1 HAL
  obtain ⟨q0, q1, q2, q3, q4, q5, q6, q7, q8, qf⟩ := bp1.cells
  cases b0 with
  | true =>
    have HE1 := (show Hid _ from HD1.out rfl)
    have HDE1 := (show Hid _ from HD2.out rfl)
    clear HD1 HD2 HD3
    go_wp2_with fail
    refine (HD0.out _ (HG0.out.below hbw1)).mono ?_
    rintro e w2 ⟨rfl, hb2⟩
    clear q0 q1 q2 q3 q4 q5 q6 q7 q8 qf HD0
    have bp2 := bp1.belowAll hb2
    have hbw2 := bStep hbw1 hb2
    clear bp1 hbw1 hb2
    obtain ⟨q0, q1, q2, q3, q4, q5, q6, q7, q8, qf⟩ := bp2.cells
    go_wp2_with fail
    refine (HE1.out _ (HG0.out.below hbw2)).mono ?_
    rintro e w3 ⟨g, rfl, _, hbk, hb3⟩
    clear q0 q1 q2 q3 q4 q5 q6 q7 q8 qf HE1
    have bp3 := bp2.belowAll hb3
    have hbw3 := bStep hbw2 hb3
    have HBK := (show Hid _ from hbk.Bs (by decide))
    clear bp2 hbw2 hb3 hbk
    go_wp2_with fail
    refine (HDE1.out _ _ (HG0.out.below hbw3) HBK.out).mono ?_
    rintro e w4 ⟨rfl, hb4⟩
    have bp5 := (bp3.belowAll hb4).alloc (.cells #[.int .u64 ((limb 0 x : Nat) : Int), .int .u64 ((limb 1 x : Nat) : Int), .int .u64 ((limb 2 x : Nat) : Int), .int .u64 ((limb 3 x : Nat) : Int), .int .u64 ((limb 0 y : Nat) : Int), .int .u64 ((limb 1 y : Nat) : Int), .int .u64 ((limb 2 y : Nat) : Int), .int .u64 ((limb 3 y : Nat) : Int), .bool i] 26)
    have bq5 : Pt (w4.alloc (.cells #[.int .u64 ((limb 0 x : Nat) : Int), .int .u64 ((limb 1 x : Nat) : Int), .int .u64 ((limb 2 x : Nat) : Int), .int .u64 ((limb 3 x : Nat) : Int), .int .u64 ((limb 0 y : Nat) : Int), .int .u64 ((limb 1 y : Nat) : Int), .int .u64 ((limb 2 y : Nat) : Int), .int .u64 ((limb 3 y : Nat) : Int), .bool i] 26)) w4.heap.size x y i := Pt.newAt _ _ _ _ _ rfl
    have hbw5 := bAlloc (bStep hbw3 hb4) (.cells #[.int .u64 ((limb 0 x : Nat) : Int), .int .u64 ((limb 1 x : Nat) : Int), .int .u64 ((limb 2 x : Nat) : Int), .int .u64 ((limb 3 x : Nat) : Int), .int .u64 ((limb 0 y : Nat) : Int), .int .u64 ((limb 1 y : Nat) : Int), .int .u64 ((limb 2 y : Nat) : Int), .int .u64 ((limb 3 y : Nat) : Int), .bool i] 26)
    clear HBK HDE1 bp3 hbw3 hb4
    go_upto_region 6 with fail
    obtain ⟨w5, hw5⟩ : ∃ z : World, z = w4.alloc (.cells #[.int .u64 ((limb 0 x : Nat) : Int), .int .u64 ((limb 1 x : Nat) : Int), .int .u64 ((limb 2 x : Nat) : Int), .int .u64 ((limb 3 x : Nat) : Int), .int .u64 ((limb 0 y : Nat) : Int), .int .u64 ((limb 1 y : Nat) : Int), .int .u64 ((limb 2 y : Nat) : Int), .int .u64 ((limb 3 y : Nat) : Int), .bool i] 26) := ⟨_, rfl⟩
    obtain ⟨N5, hN5⟩ : ∃ N, N = w4.heap.size := ⟨_, rfl⟩
    rw [← hw5] at bp5 bq5 hbw5 ⊢
    rw [← hN5] at bq5 ⊢
    clear hw5 hN5
    obtain ⟨q0, q1, q2, q3, q4, q5, q6, q7, q8, qf⟩ := bp5.cells
    obtain ⟨p0, p1, p2, p3, p4, p5, p6, p7, p8, pf⟩ := bq5.cells
    go_upto_region 10 with fail
    clear q0 q1 q2 q3 q4 q5 q6 q7 q8 qf p0 p1 p2 p3 p4 p5 p6 p7 p8 pf bp5 bq5 QN
    go_wp2_with fail
    refine (HCB.out _ (HB0.out.below hbw5)).mono ?_
    rintro e wa ⟨u, rfl, hown, hba⟩
    have hbwa := bStep hbw5 hba
    have hBu := own_Bs hown
    have HBU := (show Hid _ from hBu)
    clear hown hBu hba HCB
    go_wp2_with fail
    refine (HD4.out _ _ (HG0.out.below hbwa) HBU.out).mono ?_
    rintro e wb ⟨rfl, hbb⟩
    have bq1 : Pt (wb.alloc (.cells #[.int .u64 ((limb 0 X : Nat) : Int), .int .u64 ((limb 1 X : Nat) : Int), .int .u64 ((limb 2 X : Nat) : Int), .int .u64 ((limb 3 X : Nat) : Int), .int .u64 ((limb 0 Y : Nat) : Int), .int .u64 ((limb 1 Y : Nat) : Int), .int .u64 ((limb 2 Y : Nat) : Int), .int .u64 ((limb 3 Y : Nat) : Int), .bool I] 26)) wb.heap.size X Y I := Pt.newAt _ _ _ _ _ rfl
    have hbwb := bAlloc (bStep hbwa hbb) (.cells #[.int .u64 ((limb 0 X : Nat) : Int), .int .u64 ((limb 1 X : Nat) : Int), .int .u64 ((limb 2 X : Nat) : Int), .int .u64 ((limb 3 X : Nat) : Int), .int .u64 ((limb 0 Y : Nat) : Int), .int .u64 ((limb 1 Y : Nat) : Int), .int .u64 ((limb 2 Y : Nat) : Int), .int .u64 ((limb 3 Y : Nat) : Int), .bool I] 26)
    clear HBU HD4 hbwa hbb
    go_upto_region 11 with fail
    obtain ⟨wd, hwd⟩ : ∃ z : World, z = wb.alloc (.cells #[.int .u64 ((limb 0 X : Nat) : Int), .int .u64 ((limb 1 X : Nat) : Int), .int .u64 ((limb 2 X : Nat) : Int), .int .u64 ((limb 3 X : Nat) : Int), .int .u64 ((limb 0 Y : Nat) : Int), .int .u64 ((limb 1 Y : Nat) : Int), .int .u64 ((limb 2 Y : Nat) : Int), .int .u64 ((limb 3 Y : Nat) : Int), .bool I] 26) := ⟨_, rfl⟩
    obtain ⟨N, hN⟩ : ∃ N, N = wb.heap.size := ⟨_, rfl⟩
    rw [← hwd] at bq1 hbwb ⊢
    rw [← hN] at bq1 ⊢
    clear hwd hN
    by_cases her : er = 0
    · subst her
      have HO := (show Hid _ from HD6.out rfl)
      have HE := (show Hid _ from HD7.out rfl)
      have HS := (show Hid _ from HSM.out rfl)
      clear HD5 HD6 HD7 HSM QZ
      obtain ⟨p0, p1, p2, p3, p4, p5, p6, p7, p8, pf⟩ := bq1.cells
      go_wp2_with fail
      refine (HO.out _ (HG0.out.below hbwb)).mono ?_
      rintro e we ⟨rfl, hbe⟩
      clear p0 p1 p2 p3 p4 p5 p6 p7 p8 pf HO
      have bq2 := bq1.belowAll hbe
      have hbwe := bStep hbwb hbe
      clear bq1 hbwb hbe
      obtain ⟨p0, p1, p2, p3, p4, p5, p6, p7, p8, pf⟩ := bq2.cells
      go_wp2_with fail
      refine (HE.out _ (HG0.out.below hbwe)).mono ?_
      rintro e wf ⟨g, rfl, _, hbk, hbf⟩
      clear p0 p1 p2 p3 p4 p5 p6 p7 p8 pf HE
      have hbwf := bStep hbwe hbf
      have HBK := (show Hid _ from hbk.Bs (by decide))
      clear bq2 hbwe hbf hbk
      go_wp2_with fail
      refine (HS.out _ _ HBK.out (HB0.out.below hbwf)).mono ?_
      rintro e wh ⟨rfl, hbh⟩
      go_wp2
      go_ret
      exact ⟨rfl, bStep hbwf hbh⟩
    · obtain ⟨rfl, rfl, rfl, hor⟩ := HD5.out her
      have h1 : (er != 0) = true := by simp [her]
      clear HD5 HD6 HD7 HSM her
      obtain ⟨p0, p1, p2, p3, p4, p5, p6, p7, p8, pf⟩ := bq1.cells
      rcases hor with rfl | rfl
      · clear h1
        go_wp2
        go_ret
        exact ⟨rfl, hbwb⟩
      · clear h1
        go_wp2
        go_ret
        exact ⟨rfl, hbwb⟩
  | false =>
    have HE1 := (show Hid _ from HD3.out rfl)
    clear HD1 HD2 HD3
    go_wp2_with fail
    refine (HD0.out _ (HG0.out.below hbw1)).mono ?_
    rintro e w2 ⟨rfl, hb2⟩
    clear q0 q1 q2 q3 q4 q5 q6 q7 q8 qf HD0
    have bp2 := bp1.belowAll hb2
    have hbw2 := bStep hbw1 hb2
    clear bp1 hbw1 hb2
    obtain ⟨q0, q1, q2, q3, q4, q5, q6, q7, q8, qf⟩ := bp2.cells
    go_wp2_with fail
    refine (HE1.out _ (HG0.out.below hbw2)).mono ?_
    rintro e w5 ⟨rfl, hb3⟩
    clear q0 q1 q2 q3 q4 q5 q6 q7 q8 qf HE1
    have hbw5 := bStep hbw2 hb3
    clear bp2 hbw2 hb3
    go_upto_region 10 with fail
    go_wp2_with fail
    refine (HCB.out _ (HB0.out.below hbw5)).mono ?_
    rintro e wa ⟨u, rfl, hown, hba⟩
    have hbwa := bStep hbw5 hba
    have hBu := own_Bs hown
    have HBU := (show Hid _ from hBu)
    clear hown hBu hba HCB
    go_wp2_with fail
    refine (HD4.out _ _ (HG0.out.below hbwa) HBU.out).mono ?_
    rintro e wb ⟨rfl, hbb⟩
    have bq1 : Pt (wb.alloc (.cells #[.int .u64 ((limb 0 X : Nat) : Int), .int .u64 ((limb 1 X : Nat) : Int), .int .u64 ((limb 2 X : Nat) : Int), .int .u64 ((limb 3 X : Nat) : Int), .int .u64 ((limb 0 Y : Nat) : Int), .int .u64 ((limb 1 Y : Nat) : Int), .int .u64 ((limb 2 Y : Nat) : Int), .int .u64 ((limb 3 Y : Nat) : Int), .bool I] 26)) wb.heap.size X Y I := Pt.newAt _ _ _ _ _ rfl
    have hbwb := bAlloc (bStep hbwa hbb) (.cells #[.int .u64 ((limb 0 X : Nat) : Int), .int .u64 ((limb 1 X : Nat) : Int), .int .u64 ((limb 2 X : Nat) : Int), .int .u64 ((limb 3 X : Nat) : Int), .int .u64 ((limb 0 Y : Nat) : Int), .int .u64 ((limb 1 Y : Nat) : Int), .int .u64 ((limb 2 Y : Nat) : Int), .int .u64 ((limb 3 Y : Nat) : Int), .bool I] 26)
    clear HBU HD4 hbwa hbb
    go_upto_region 11 with fail
    obtain ⟨wd, hwd⟩ : ∃ z : World, z = wb.alloc (.cells #[.int .u64 ((limb 0 X : Nat) : Int), .int .u64 ((limb 1 X : Nat) : Int), .int .u64 ((limb 2 X : Nat) : Int), .int .u64 ((limb 3 X : Nat) : Int), .int .u64 ((limb 0 Y : Nat) : Int), .int .u64 ((limb 1 Y : Nat) : Int), .int .u64 ((limb 2 Y : Nat) : Int), .int .u64 ((limb 3 Y : Nat) : Int), .bool I] 26) := ⟨_, rfl⟩
    obtain ⟨N, hN⟩ : ∃ N, N = wb.heap.size := ⟨_, rfl⟩
    rw [← hwd] at bq1 hbwb ⊢
    rw [← hN] at bq1 ⊢
    clear hwd hN
    by_cases her : er = 0
    · subst her
      have HO := (show Hid _ from HD6.out rfl)
      have HE := (show Hid _ from HD7.out rfl)
      have HS := (show Hid _ from HSM.out rfl)
      clear HD5 HD6 HD7 HSM QZ
      obtain ⟨p0, p1, p2, p3, p4, p5, p6, p7, p8, pf⟩ := bq1.cells
      go_wp2_with fail
      refine (HO.out _ (HG0.out.below hbwb)).mono ?_
      rintro e we ⟨rfl, hbe⟩
      clear p0 p1 p2 p3 p4 p5 p6 p7 p8 pf HO
      have bq2 := bq1.belowAll hbe
      have hbwe := bStep hbwb hbe
      clear bq1 hbwb hbe
      obtain ⟨p0, p1, p2, p3, p4, p5, p6, p7, p8, pf⟩ := bq2.cells
      go_wp2_with fail
      refine (HE.out _ (HG0.out.below hbwe)).mono ?_
      rintro e wf ⟨g, rfl, _, hbk, hbf⟩
      clear p0 p1 p2 p3 p4 p5 p6 p7 p8 pf HE
      have hbwf := bStep hbwe hbf
      have HBK := (show Hid _ from hbk.Bs (by decide))
      clear bq2 hbwe hbf hbk
      go_wp2_with fail
      refine (HS.out _ _ HBK.out (HB0.out.below hbwf)).mono ?_
      rintro e wh ⟨rfl, hbh⟩
      go_wp2
      go_ret
      exact ⟨rfl, bStep hbwf hbh⟩
    · obtain ⟨rfl, rfl, rfl, hor⟩ := HD5.out her
      have h1 : (er != 0) = true := by simp [her]
      clear HD5 HD6 HD7 HSM her
      obtain ⟨p0, p1, p2, p3, p4, p5, p6, p7, p8, pf⟩ := bq1.cells
      rcases hor with rfl | rfl
      · clear h1
        go_wp2
        go_ret
        exact ⟨rfl, hbwb⟩
      · clear h1
        go_wp2
        go_ret
        exact ⟨rfl, hbwb⟩

end Go.Proofs.YthkajdmcmodklaaGreatDoor
