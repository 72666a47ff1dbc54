import Derived.Test.YtdeijnlbencfdaaGreatDoorWM2
import Derived.Test.YtdeijnlbencfdaaGreatDoorWMA
set_option maxHeartbeats 2000000
namespace Go.Proofs.YtdeijnlbencfdaaGreatDoor
open Go.RowKit
theorem Jt.other {w : World} {b x y z : Nat} (h : Jt w b x y z) {a : Addr} (ha : b ≠ a.block) (v : Value) : Jt (w.setCell a v) b x y z := by unfold Jt; rw [Below.heap_setCell w a v b ha]; exact h
theorem Jt.other4 {w : World} {b r x y z : Nat} (h : Jt w b x y z) (hr : b ≠ r) (v0 v1 v2 v3 : Value) : Jt ((((w.setCell ⟨r, 0, none⟩ v0).setCell ⟨r, 1, none⟩ v1).setCell ⟨r, 2, none⟩ v2).setCell ⟨r, 3, none⟩ v3) b x y z :=
 (((h.other hr v0).other hr v1).other hr v2).other hr v3
theorem pkR {W w : World} {N : Nat} {f : Nat → Nat} (b : Blk w 25 N f) (hS : Below W.heap.size W w) (hl : W.heap.size ≤ N) (v : Nat) :
  ∃ w' : World, (((w.setCell ⟨N, 0, none⟩ (.int .u64 (limb 0 v))).setCell ⟨N, 1, none⟩ (.int .u64 (limb 1 v))).setCell ⟨N, 2, none⟩ (.int .u64 (limb 2 v))).setCell ⟨N, 3, none⟩ (.int .u64 (limb 3 v)) = w' ∧ Below W.heap.size W w' ∧ Blk w' 25 N (fun i => limb i v) ∧ (∀ {M : Nat} {g : Nat → Nat}, Blk w 25 M g → M ≠ N → Blk w' 25 M g) ∧ ∀ {M x y z : Nat}, Jt w M x y z → M ≠ N → Jt w' M x y z :=
 ⟨_, rfl, bSet4 hS hl _ _ _ _, b.set4 (fun i => limb i v), fun h ne => h.other4 ne _ _ _ _, fun h ne => h.other4 ne _ _ _ _⟩
theorem Jt.drew {w : World} {b x y z : Nat} (h : Jt w b x y z) : Jt w.drew b x y z := h
set_option maxRecDepth 20000 in
theorem over_any (c X Y Z z : Nat) (hc : c < 4) (hX : X < 115792089237316195423570985008687907853269984665640564039457584007913129639936) (hY : Y < 115792089237316195423570985008687907853269984665640564039457584007913129639936) (hz : z < 115792089237316195423570985008687907853269984665640564039457584007913129639936) (w : World) (hg : Glob w) :
  Calls Tryz.prog 112 #[.agg #[.int .u64 (limb 0 X), .int .u64 (limb 1 X), .int .u64 (limb 2 X), .int .u64 (limb 3 X), .int .u64 (limb 0 Y), .int .u64 (limb 1 Y), .int .u64 (limb 2 Y), .int .u64 (limb 3 Y), .int .u64 (limb 0 Z), .int .u64 (limb 1 Z), .int .u64 (limb 2 Z), .int .u64 (limb 3 Z)], .int .i64 (c : Int), .agg #[.int .u64 (limb 0 z), .int .u64 (limb 1 z), .int .u64 (limb 2 z), .int .u64 (limb 3 z)]] w fun e w' => e = .returned (.tuple #[.agg #[.int .u64 (limb 0 (ovX c X z)), .int .u64 (limb 1 (ovX c X z)), .int .u64 (limb 2 (ovX c X z)), .int .u64 (limb 3 (ovX c X z))], .agg #[.int .u64 (limb 0 (ovY c Y z)), .int .u64 (limb 1 (ovY c Y z)), .int .u64 (limb 2 (ovY c Y z)), .int .u64 (limb 3 (ovY c Y z))]]) ∧ Below w.heap.size w w' := by
 have HG0 : Hid (Glob w) := hg
 obtain ⟨u, eu⟩ : ∃ u : Nat, u = 1 := ⟨_, rfl⟩
 have HO : Hid (∀ w, Calls Tryz.prog 106 #[] w fun e w' => e = .returned (.agg #[.int .u64 (limb 0 u), .int .u64 (limb 1 u), .int .u64 (limb 2 u), .int .u64 (limb 3 u)]) ∧ Below w.heap.size w w') := fun w => by rw [eu]; exact jone_any w
 have QE := fun w => eqlE z u hz (by rw [eu]; decide) w
 have HQ : Hid (∀ w, Glob w → _) := fun w hg => fMul_any c z z hc hz hz w hg
 have HA : Hid (∀ w, Glob w → _) := fun w hg => fMul_any c X (mulP c z z) hc hX (mulP_M _ _ _) w hg
 have HB : Hid (∀ w, Glob w → _) := fun w hg => fMul_any c z (mulP c z z) hc hz (mulP_M _ _ _) w hg
 have HD : Hid (∀ w, Glob w → _) := fun w hg => fMul_any c Y (mulP c z (mulP c z z)) hc hY (mulP_M _ _ _) w hg
 have E1 : Hid (z = u → ovX c X z = X ∧ ovY c Y z = Y) := fun h => by unfold ovX ovY; rw [h, eu, if_pos rfl, if_pos rfl]; exact ⟨rfl, rfl⟩
 have E2 : Hid (¬ z = u → ovX c X z = mulP c X (mulP c z z) ∧ ovY c Y z = mulP c Y (mulP c z (mulP c z z))) := fun h => by rw [eu] at h; unfold ovX ovY; rw [if_neg h, if_neg h]; exact ⟨rfl, rfl⟩
 obtain ⟨oX, eoX⟩ : ∃ x, x = ovX c X z := ⟨_, rfl⟩
 obtain ⟨oY, eoY⟩ : ∃ x, x = ovY c Y z := ⟨_, rfl⟩
 rw [← eoX, ← eoY] at E1 E2 ⊢
 obtain ⟨sq, esq⟩ : ∃ x, x = mulP c z z := ⟨_, rfl⟩
 rw [← esq] at HQ HA HB HD E2
 obtain ⟨a, ea⟩ : ∃ x, x = mulP c X sq := ⟨_, rfl⟩
 rw [← ea] at HA E2
 obtain ⟨b, eb⟩ : ∃ x, x = mulP c z sq := ⟨_, rfl⟩
 rw [← eb] at HB HD E2
 obtain ⟨d, ed⟩ : ∃ x, x = mulP c Y b := ⟨_, rfl⟩
 rw [← ed] at HD E2
 clear eu eoX eoY esq ea eb ed hg hX hY hz
 go_enter Tryz.func112, Tryz.ntmps112
 go_upto_region 1 with fail
 obtain ⟨w0, hw0⟩ : ∃ w0 : World, w0 = (((w.alloc (.cells #[.int .u64 (limb 0 X), .int .u64 (limb 1 X), .int .u64 (limb 2 X), .int .u64 (limb 3 X), .int .u64 (limb 0 Y), .int .u64 (limb 1 Y), .int .u64 (limb 2 Y), .int .u64 (limb 3 Y), .int .u64 (limb 0 Z), .int .u64 (limb 1 Z), .int .u64 (limb 2 Z), .int .u64 (limb 3 Z)] 99)).alloc (.cells #[.int .u64 (limb 0 z), .int .u64 (limb 1 z), .int .u64 (limb 2 z), .int .u64 (limb 3 z)] 25)).alloc (.cells #[.int .u64 0, .int .u64 0, .int .u64 0, .int .u64 0] 25)).alloc (.cells #[.int .u64 0, .int .u64 0, .int .u64 0, .int .u64 0] 25) := ⟨_, rfl⟩
 have bp0 : Jt w0 w.heap.size X Y Z := by rw [hw0]; exact (((Jt.newAt _ _ _ _ _ rfl).alloc _).alloc _).alloc _
 have bz0 : Blk w0 25 (w.heap.size + 1) (fun i => limb i z) := by rw [hw0]; exact ((Blk.newAt _ _ _ (fun i => limb i z) (by simp)).alloc _).alloc _
 have br0 : Blk w0 25 (w.heap.size + 1 + 1) (fun _ => 0) := by rw [hw0]; exact (Blk.newAt _ _ _ (fun _ => 0) (by simp)).alloc _
 have bs0 : Blk w0 25 (w.heap.size + 1 + 1 + 1) (fun _ => 0) := by rw [hw0]; exact Blk.newAt _ _ _ (fun _ => 0) (by simp)
 have hbw0 : Below w.heap.size w w0 := by rw [hw0]; exact bAlloc (bAlloc (bAlloc ((Below.refl _ _).alloc (Nat.le_refl _) _) _) _) _
 have h2 : w.heap.size ≤ w.heap.size + 1 + 1 := by omega
 have h3 : w.heap.size ≤ w.heap.size + 1 + 1 + 1 := by omega
 rw [← hw0]
 clear hw0
 by_cases h1 : z = u
 ·rw [decide_eq_true h1] at QE
  have HV := (show Hid _ from E1.out h1)
  clear h1 E1 E2 HQ HA HB HD
  go_cut [11] (fun b wx => b = .bool true ∧ Below w0.heap.size w0 wx)
  case first =>
   have HS0 : Hid (Below w0.heap.size w0 w0.drew) := (Below.refl _ _).drew
   refine wp_region_Z (fun w' => Below w0.heap.size w0 w') 99 (by kernel_rfl) ?_
   refine zT 0 9 (.agg #[.int .u64 (limb 0 z), .int .u64 (limb 1 z), .int .u64 (limb 2 z), .int .u64 (limb 3 z)]) rfl rfl (fun w hSw => by (have qq := (bz0.belowAll hSw).cell; clear hSw; go_simp)) HS0.out ?_
   refine zo 1 rfl (fun K hK => ?_)
   go_simp
   refine (HO.out w0.drew).mono ?_
   rintro e wK1 ⟨rfl, hbK1⟩
   have hSK1 := bStep HS0.out hbK1
   go_wp2_with fail
   refine hK.out _ _ (fun _ => hSK1) ?_
   clear hK K
   refine zs 2 11 (.bool true) hSK1 ?_
   refine zd ?_ _
   go_wp2_with fail
   go_meet
   exact ⟨rfl, hSK1⟩
  obtain ⟨rfl, hbx⟩ := hcut
  obtain ⟨w1, hwn⟩ : ∃ x, x = wc := ⟨_, rfl⟩
  rw [← hwn] at hbx ⊢
  clear hwn
  have bp1 := bp0.belowAll hbx
  have bz1 := bz0.belowAll hbx
  have br1 := br0.belowAll hbx
  have bs1 := bs0.belowAll hbx
  have hbw1 := bStep hbw0 hbx
  clear bp0 bz0 br0 bs0 hbw0 hbx HO QE
  go_upto_region 2 with fail
  refine wp_region_Z (fun w' => Below w.heap.size w w' ∧ Jt w' w.heap.size X Y Z) 99 (by kernel_rfl) ?_
  obtain ⟨wD, hD⟩ : ∃ x : World, x = w1.drew := ⟨_, rfl⟩
  rw [← hD]
  have hp0_0 : Below w.heap.size w wD := by rw [hD]; exact hbw1.drew
  have hp1_0 : Jt wD w.heap.size X Y Z := by rw [hD]; exact bp1.drew
  have hr6_0 : Blk wD 25 (w.heap.size + 1 + 1) (fun _ => 0) := by rw [hD]; exact br1.drew
  have hr7_0 : Blk wD 25 (w.heap.size + 1 + 1 + 1) (fun _ => 0) := by rw [hD]; exact bs1.drew
  clear hD
  refine zs 0 12 (.pointer (some ⟨w.heap.size, 0, none⟩)) ⟨hp0_0, hp1_0⟩ ?_
  refine zT 1 13 (.agg #[.int .u64 (limb 0 X), .int .u64 (limb 1 X), .int .u64 (limb 2 X), .int .u64 (limb 3 X)]) rfl rfl (fun w hSw => by (obtain ⟨q0, q1, q2, q3, q4, q5, q6, q7, q8, q9, q10, q11, qf⟩ := hSw.2.cells; clear hSw; go_simp)) ⟨hp0_0, hp1_0⟩ ?_
  refine zs 2 14 (.pointer (some ⟨w.heap.size, 4, none⟩)) ⟨hp0_0, hp1_0⟩ ?_
  refine zT 3 15 (.agg #[.int .u64 (limb 0 Y), .int .u64 (limb 1 Y), .int .u64 (limb 2 Y), .int .u64 (limb 3 Y)]) rfl rfl (fun w hSw => by (obtain ⟨q0, q1, q2, q3, q4, q5, q6, q7, q8, q9, q10, q11, qf⟩ := hSw.2.cells; clear hSw; go_simp)) ⟨hp0_0, hp1_0⟩ ?_
  refine zo 4 rfl (fun K hK => ?_)
  have cS := hr6_0.cell; have fS := hr6_0.frozen
  go_simp
  obtain ⟨wK1, hw, hp0_1, hr6_1, hxB, hxJ⟩ := pkR hr6_0 hp0_0 h2 X
  rw [hw]
  have hp1_1 := hxJ hp1_0 (by omega)
  have hr7_1 := hxB hr7_0 (by omega)
  refine hK.out _ _ (fun _ => ⟨hp0_1, hp1_1⟩) ?_
  clear hK K cS fS hw hxB hxJ
  refine zo 5 rfl (fun K hK => ?_)
  have cS := hr7_1.cell; have fS := hr7_1.frozen
  go_simp
  obtain ⟨wK2, hw, hp0_2, hr7_2, hxB, hxJ⟩ := pkR hr7_1 hp0_1 h3 Y
  rw [hw]
  have hp1_2 := hxJ hp1_1 (by omega)
  have hr6_2 := hxB hr6_1 (by omega)
  refine hK.out _ _ (fun _ => ⟨hp0_2, hp1_2⟩) ?_
  clear hK K cS fS hw hxB hxJ
  refine zd ?_ _
  have cS6 := hr6_2.cell; have cS7 := hr7_2.cell
  go_wp2
  refine bodyPost_ret (v := .tuple #[.agg #[.int .u64 (limb 0 X), .int .u64 (limb 1 X), .int .u64 (limb 2 X), .int .u64 (limb 3 X)], .agg #[.int .u64 (limb 0 Y), .int .u64 (limb 1 Y), .int .u64 (limb 2 Y), .int .u64 (limb 3 Y)]]) (by simp [results, Tryz.results112, go_sem, cS6, cS7]) rfl ⟨by rw [HV.out.1, HV.out.2], ?_⟩
  exact hp0_2
 ·rw [decide_eq_false h1] at QE
  have HV := (show Hid _ from E2.out h1)
  clear h1 E1 E2
  go_cut [11] (fun b wx => b = .bool false ∧ Below w0.heap.size w0 wx)
  case first =>
   have HS0 : Hid (Below w0.heap.size w0 w0.drew) := (Below.refl _ _).drew
   refine wp_region_Z (fun w' => Below w0.heap.size w0 w') 99 (by kernel_rfl) ?_
   refine zT 0 9 (.agg #[.int .u64 (limb 0 z), .int .u64 (limb 1 z), .int .u64 (limb 2 z), .int .u64 (limb 3 z)]) rfl rfl (fun w hSw => by (have qq := (bz0.belowAll hSw).cell; clear hSw; go_simp)) HS0.out ?_
   refine zo 1 rfl (fun K hK => ?_)
   go_simp
   refine (HO.out w0.drew).mono ?_
   rintro e wK1 ⟨rfl, hbK1⟩
   have hSK1 := bStep HS0.out hbK1
   go_wp2_with fail
   refine hK.out _ _ (fun _ => hSK1) ?_
   clear hK K
   refine zs 2 11 (.bool false) hSK1 ?_
   refine zd ?_ _
   go_wp2_with fail
   go_meet
   exact ⟨rfl, hSK1⟩
  obtain ⟨rfl, hbx⟩ := hcut
  obtain ⟨w1, hwn⟩ : ∃ x, x = wc := ⟨_, rfl⟩
  rw [← hwn] at hbx ⊢
  clear hwn
  have bp1 := bp0.belowAll hbx
  have bz1 := bz0.belowAll hbx
  have br1 := br0.belowAll hbx
  have bs1 := bs0.belowAll hbx
  have hbw1 := bStep hbw0 hbx
  clear bp0 bz0 br0 bs0 hbw0 hbx HO QE
  have cz := bz1.cell
  go_wp2_with fail
  refine (HQ.out _ (HG0.out.below hbw1)).mono ?_
  rintro e w2 ⟨rfl, hb2⟩
  clear cz HQ
  go_upto_region 4 with fail
  obtain ⟨w3, hw3⟩ : ∃ y : World, y = w2.alloc (.cells #[.int .u64 (limb 0 sq), .int .u64 (limb 1 sq), .int .u64 (limb 2 sq), .int .u64 (limb 3 sq)] 25) := ⟨_, rfl⟩
  obtain ⟨N8, hN8⟩ : ∃ N, N = w2.heap.size := ⟨_, rfl⟩
  have bq3 : Blk w3 25 N8 (fun i => limb i sq) := by rw [hw3]; exact Blk.newAt _ _ _ (fun i => limb i sq) hN8
  have hlt : w.heap.size + 1 + 1 + 1 < N8 := by rw [hN8]; exact (bs1.belowAll hb2).lt
  have hx : Below w1.heap.size w1 w3 := by rw [hw3]; exact bAlloc hb2 _
  rw [← hw3, ← hN8]
  clear hw3 hN8 hb2
  have bp3 := bp1.belowAll hx; have bz3 := bz1.belowAll hx; have br3 := br1.belowAll hx; have bs3 := bs1.belowAll hx
  have hbw3 := bStep hbw1 hx
  clear bp1 bz1 br1 bs1 hbw1 hx
  refine wp_region_Z (fun w' => Below w.heap.size w w' ∧ Jt w' w.heap.size X Y Z ∧ Blk w' 25 (w.heap.size + 1) (fun i => limb i z) ∧ Blk w' 25 N8 (fun i => limb i sq)) 99 (by kernel_rfl) ?_
  obtain ⟨wD, hD⟩ : ∃ x : World, x = w3.drew := ⟨_, rfl⟩
  rw [← hD]
  have hp0_0 : Below w.heap.size w wD := by rw [hD]; exact hbw3.drew
  have hp1_0 : Jt wD w.heap.size X Y Z := by rw [hD]; exact bp3.drew
  have hp2_0 : Blk wD 25 (w.heap.size + 1) (fun i => limb i z) := by rw [hD]; exact bz3.drew
  have hp3_0 : Blk wD 25 N8 (fun i => limb i sq) := by rw [hD]; exact bq3.drew
  have hr6_0 : Blk wD 25 (w.heap.size + 1 + 1) (fun _ => 0) := by rw [hD]; exact br3.drew
  have hr7_0 : Blk wD 25 (w.heap.size + 1 + 1 + 1) (fun _ => 0) := by rw [hD]; exact bs3.drew
  clear hD
  refine zs 0 20 (.int .i64 (c : Int)) ⟨hp0_0, hp1_0, hp2_0, hp3_0⟩ ?_
  refine zs 1 21 (.pointer (some ⟨w.heap.size, 0, none⟩)) ⟨hp0_0, hp1_0, hp2_0, hp3_0⟩ ?_
  refine zT 2 22 (.agg #[.int .u64 (limb 0 X), .int .u64 (limb 1 X), .int .u64 (limb 2 X), .int .u64 (limb 3 X)]) rfl rfl (fun w hSw => by (obtain ⟨q0, q1, q2, q3, q4, q5, q6, q7, q8, q9, q10, q11, qf⟩ := hSw.2.1.cells; clear hSw; go_simp)) ⟨hp0_0, hp1_0, hp2_0, hp3_0⟩ ?_
  refine zT 3 23 (.agg #[.int .u64 (limb 0 sq), .int .u64 (limb 1 sq), .int .u64 (limb 2 sq), .int .u64 (limb 3 sq)]) rfl rfl (fun w hSw => by (have qq := hSw.2.2.2.cell; clear hSw; go_simp)) ⟨hp0_0, hp1_0, hp2_0, hp3_0⟩ ?_
  refine zs 5 25 (.int .i64 (c : Int)) ⟨hp0_0, hp1_0, hp2_0, hp3_0⟩ ?_
  refine zs 6 26 (.pointer (some ⟨w.heap.size, 4, none⟩)) ⟨hp0_0, hp1_0, hp2_0, hp3_0⟩ ?_
  refine zT 7 27 (.agg #[.int .u64 (limb 0 Y), .int .u64 (limb 1 Y), .int .u64 (limb 2 Y), .int .u64 (limb 3 Y)]) rfl rfl (fun w hSw => by (obtain ⟨q0, q1, q2, q3, q4, q5, q6, q7, q8, q9, q10, q11, qf⟩ := hSw.2.1.cells; clear hSw; go_simp)) ⟨hp0_0, hp1_0, hp2_0, hp3_0⟩ ?_
  refine zs 8 28 (.int .i64 (c : Int)) ⟨hp0_0, hp1_0, hp2_0, hp3_0⟩ ?_
  refine zT 9 29 (.agg #[.int .u64 (limb 0 z), .int .u64 (limb 1 z), .int .u64 (limb 2 z), .int .u64 (limb 3 z)]) rfl rfl (fun w hSw => by (have qq := hSw.2.2.1.cell; clear hSw; go_simp)) ⟨hp0_0, hp1_0, hp2_0, hp3_0⟩ ?_
  refine zT 10 30 (.agg #[.int .u64 (limb 0 sq), .int .u64 (limb 1 sq), .int .u64 (limb 2 sq), .int .u64 (limb 3 sq)]) rfl rfl (fun w hSw => by (have qq := hSw.2.2.2.cell; clear hSw; go_simp)) ⟨hp0_0, hp1_0, hp2_0, hp3_0⟩ ?_
  refine zo 4 rfl (fun K hK => ?_)
  go_simp
  refine (HA.out wD (HG0.out.below hp0_0)).mono ?_
  rintro e wK1 ⟨rfl, hbK1⟩
  have hp0_1 := bStep hp0_0 hbK1
  have hp1_1 := (hp1_0).belowAll hbK1
  have hp2_1 := (hp2_0).belowAll hbK1
  have hp3_1 := (hp3_0).belowAll hbK1
  have hr6_1 := (hr6_0).belowAll hbK1
  have hr7_1 := (hr7_0).belowAll hbK1
  go_wp2_with fail
  refine hK.out _ _ (fun _ => ⟨hp0_1, hp1_1, hp2_1, hp3_1⟩) ?_
  clear hK K
  refine zo 11 rfl (fun K hK => ?_)
  go_simp
  refine (HB.out wK1 (HG0.out.below hp0_1)).mono ?_
  rintro e wK2 ⟨rfl, hbK2⟩
  have hp0_2 := bStep hp0_1 hbK2
  have hp1_2 := (hp1_1).belowAll hbK2
  have hp2_2 := (hp2_1).belowAll hbK2
  have hp3_2 := (hp3_1).belowAll hbK2
  have hr6_2 := (hr6_1).belowAll hbK2
  have hr7_2 := (hr7_1).belowAll hbK2
  go_wp2_with fail
  refine hK.out _ _ (fun _ => ⟨hp0_2, hp1_2, hp2_2, hp3_2⟩) ?_
  clear hK K
  refine zo 12 rfl (fun K hK => ?_)
  go_simp
  refine (HD.out wK2 (HG0.out.below hp0_2)).mono ?_
  rintro e wK3 ⟨rfl, hbK3⟩
  have hp0_3 := bStep hp0_2 hbK3
  have hp1_3 := (hp1_2).belowAll hbK3
  have hp2_3 := (hp2_2).belowAll hbK3
  have hp3_3 := (hp3_2).belowAll hbK3
  have hr6_3 := (hr6_2).belowAll hbK3
  have hr7_3 := (hr7_2).belowAll hbK3
  go_wp2_with fail
  refine hK.out _ _ (fun _ => ⟨hp0_3, hp1_3, hp2_3, hp3_3⟩) ?_
  clear hK K
  refine zo 13 rfl (fun K hK => ?_)
  have cS := hr6_3.cell; have fS := hr6_3.frozen
  go_simp
  obtain ⟨wK4, hw, hp0_4, hr6_4, hxB, hxJ⟩ := pkR hr6_3 hp0_3 h2 a
  rw [hw]
  have hp1_4 := hxJ hp1_3 (by omega)
  have hp2_4 := hxB hp2_3 (by omega)
  have hp3_4 := hxB hp3_3 (by omega)
  have hr7_4 := hxB hr7_3 (by omega)
  refine hK.out _ _ (fun _ => ⟨hp0_4, hp1_4, hp2_4, hp3_4⟩) ?_
  clear hK K cS fS hw hxB hxJ
  refine zo 14 rfl (fun K hK => ?_)
  have cS := hr7_4.cell; have fS := hr7_4.frozen
  go_simp
  obtain ⟨wK5, hw, hp0_5, hr7_5, hxB, hxJ⟩ := pkR hr7_4 hp0_4 h3 d
  rw [hw]
  have hp1_5 := hxJ hp1_4 (by omega)
  have hp2_5 := hxB hp2_4 (by omega)
  have hp3_5 := hxB hp3_4 (by omega)
  have hr6_5 := hxB hr6_4 (by omega)
  refine hK.out _ _ (fun _ => ⟨hp0_5, hp1_5, hp2_5, hp3_5⟩) ?_
  clear hK K cS fS hw hxB hxJ
  refine zd ?_ _
  have cS6 := hr6_5.cell; have cS7 := hr7_5.cell
  go_wp2
  refine bodyPost_ret (v := .tuple #[.agg #[.int .u64 (limb 0 a), .int .u64 (limb 1 a), .int .u64 (limb 2 a), .int .u64 (limb 3 a)], .agg #[.int .u64 (limb 0 d), .int .u64 (limb 1 d), .int .u64 (limb 2 d), .int .u64 (limb 3 d)]]) (by simp [results, Tryz.results112, go_sem, cS6, cS7]) rfl ⟨by rw [HV.out.1, HV.out.2], ?_⟩
  exact hp0_5
set_option maxRecDepth 20000 in
theorem jprod_any (c a b : Nat) (hc : c < 4) (ha : a < 115792089237316195423570985008687907853269984665640564039457584007913129639936) (hb : b < 115792089237316195423570985008687907853269984665640564039457584007913129639936) (w : World) (hg : Glob w) :
  Calls Tryz.prog 114 #[.int .i64 (c : Int), .agg #[.int .u64 (limb 0 a), .int .u64 (limb 1 a), .int .u64 (limb 2 a), .int .u64 (limb 3 a)], .agg #[.int .u64 (limb 0 b), .int .u64 (limb 1 b), .int .u64 (limb 2 b), .int .u64 (limb 3 b)]] w fun e w' => e = .returned (.agg #[.int .u64 (limb 0 (prd c a b)), .int .u64 (limb 1 (prd c a b)), .int .u64 (limb 2 (prd c a b)), .int .u64 (limb 3 (prd c a b))]) ∧ Below w.heap.size w w' := by
 have HG0 : Hid (Glob w) := hg
 obtain ⟨u, eu⟩ : ∃ u : Nat, u = 1 := ⟨_, rfl⟩
 have HO : Hid (∀ w, Calls Tryz.prog 106 #[] w fun e w' => e = .returned (.agg #[.int .u64 (limb 0 u), .int .u64 (limb 1 u), .int .u64 (limb 2 u), .int .u64 (limb 3 u)]) ∧ Below w.heap.size w w') := fun w => by rw [eu]; exact jone_any w
 have QE := fun w => eqlE b u hb (by rw [eu]; decide) w
 have HQ : Hid (∀ w, Glob w → _) := fun w hg => fMul_any c a b hc ha hb w hg
 have E1 : Hid (b = u → prd c a b = a) := fun h => by unfold prd; rw [h, eu, if_pos rfl]
 have E2 : Hid (¬ b = u → prd c a b = mulP c a b) := fun h => by rw [eu] at h; unfold prd; rw [if_neg h]
 obtain ⟨p, ep⟩ : ∃ x, x = prd c a b := ⟨_, rfl⟩
 rw [← ep] at E1 E2 ⊢
 obtain ⟨m, em⟩ : ∃ x, x = mulP c a b := ⟨_, rfl⟩
 rw [← em] at HQ E2
 clear eu ep em hg ha hb
 go_enter Tryz.func114, Tryz.ntmps114
 go_upto_region 1 with fail
 obtain ⟨w0, hw0⟩ : ∃ w0 : World, w0 = ((w.alloc (.cells #[.int .u64 (limb 0 a), .int .u64 (limb 1 a), .int .u64 (limb 2 a), .int .u64 (limb 3 a)] 25)).alloc (.cells #[.int .u64 (limb 0 b), .int .u64 (limb 1 b), .int .u64 (limb 2 b), .int .u64 (limb 3 b)] 25)).alloc (.cells #[.int .u64 0, .int .u64 0, .int .u64 0, .int .u64 0] 25) := ⟨_, rfl⟩
 have ba0 : Blk w0 25 w.heap.size (fun i => limb i a) := by rw [hw0]; exact ((Blk.newAt _ _ _ (fun i => limb i a) rfl).alloc _).alloc _
 have bb0 : Blk w0 25 (w.heap.size + 1) (fun i => limb i b) := by rw [hw0]; exact (Blk.newAt _ _ _ (fun i => limb i b) (by simp)).alloc _
 have br0 : Blk w0 25 (w.heap.size + 1 + 1) (fun _ => 0) := by rw [hw0]; exact Blk.newAt _ _ _ (fun _ => 0) (by simp)
 have hbw0 : Below w.heap.size w w0 := by rw [hw0]; exact bAlloc (bAlloc ((Below.refl _ _).alloc (Nat.le_refl _) _) _) _
 have h2 : w.heap.size ≤ w.heap.size + 1 + 1 := by omega
 rw [← hw0]
 clear hw0
 by_cases h1 : b = u
 ·rw [decide_eq_true h1] at QE
  have HV := (show Hid _ from E1.out h1)
  clear h1 E1 E2 HQ HG0
  go_cut [9] (fun b wx => b = .bool true ∧ Below w0.heap.size w0 wx)
  case first =>
   have HS0 : Hid (Below w0.heap.size w0 w0.drew) := (Below.refl _ _).drew
   refine wp_region_Z (fun w' => Below w0.heap.size w0 w') 99 (by kernel_rfl) ?_
   refine zT 0 7 (.agg #[.int .u64 (limb 0 b), .int .u64 (limb 1 b), .int .u64 (limb 2 b), .int .u64 (limb 3 b)]) rfl rfl (fun w hSw => by (have qq := (bb0.belowAll hSw).cell; clear hSw; go_simp)) HS0.out ?_
   refine zo 1 rfl (fun K hK => ?_)
   go_simp
   refine (HO.out w0.drew).mono ?_
   rintro e wK1 ⟨rfl, hbK1⟩
   have hSK1 := bStep HS0.out hbK1
   go_wp2_with fail
   refine hK.out _ _ (fun _ => hSK1) ?_
   clear hK K
   refine zs 2 9 (.bool true) hSK1 ?_
   refine zd ?_ _
   go_wp2_with fail
   go_meet
   exact ⟨rfl, hSK1⟩
  obtain ⟨rfl, hbx⟩ := hcut
  obtain ⟨w1, hwn⟩ : ∃ x, x = wc := ⟨_, rfl⟩
  rw [← hwn] at hbx ⊢
  clear hwn
  have ba1 := ba0.belowAll hbx
  have bb1 := bb0.belowAll hbx
  have br1 := br0.belowAll hbx
  have hbw1 := bStep hbw0 hbx
  clear ba0 bb0 br0 hbw0 hbx HO QE
  have ca := ba1.cell; have cR := br1.cell; have fR := br1.frozen
  go_wp2
  refine bodyPost_ret (v := .agg #[.int .u64 (limb 0 a), .int .u64 (limb 1 a), .int .u64 (limb 2 a), .int .u64 (limb 3 a)]) (by simp [results, Tryz.results114, go_sem, cR]) rfl ⟨by rw [HV.out], ?_⟩
  exact bSet4 hbw1 h2 _ _ _ _
 ·rw [decide_eq_false h1] at QE
  have HV := (show Hid _ from E2.out h1)
  clear h1 E1 E2
  go_cut [9] (fun b wx => b = .bool false ∧ Below w0.heap.size w0 wx)
  case first =>
   have HS0 : Hid (Below w0.heap.size w0 w0.drew) := (Below.refl _ _).drew
   refine wp_region_Z (fun w' => Below w0.heap.size w0 w') 99 (by kernel_rfl) ?_
   refine zT 0 7 (.agg #[.int .u64 (limb 0 b), .int .u64 (limb 1 b), .int .u64 (limb 2 b), .int .u64 (limb 3 b)]) rfl rfl (fun w hSw => by (have qq := (bb0.belowAll hSw).cell; clear hSw; go_simp)) HS0.out ?_
   refine zo 1 rfl (fun K hK => ?_)
   go_simp
   refine (HO.out w0.drew).mono ?_
   rintro e wK1 ⟨rfl, hbK1⟩
   have hSK1 := bStep HS0.out hbK1
   go_wp2_with fail
   refine hK.out _ _ (fun _ => hSK1) ?_
   clear hK K
   refine zs 2 9 (.bool false) hSK1 ?_
   refine zd ?_ _
   go_wp2_with fail
   go_meet
   exact ⟨rfl, hSK1⟩
  obtain ⟨rfl, hbx⟩ := hcut
  obtain ⟨w1, hwn⟩ : ∃ x, x = wc := ⟨_, rfl⟩
  rw [← hwn] at hbx ⊢
  clear hwn
  have ba1 := ba0.belowAll hbx
  have bb1 := bb0.belowAll hbx
  have br1 := br0.belowAll hbx
  have hbw1 := bStep hbw0 hbx
  clear ba0 bb0 br0 hbw0 hbx HO QE
  have ca := ba1.cell; have cb := bb1.cell
  go_wp2_with fail
  refine (HQ.out _ (HG0.out.below hbw1)).mono ?_
  rintro e w2 ⟨rfl, hb2⟩
  have cR := (br1.belowAll hb2).cell; have fR := (br1.belowAll hb2).frozen
  go_wp2
  refine bodyPost_ret (v := .agg #[.int .u64 (limb 0 m), .int .u64 (limb 1 m), .int .u64 (limb 2 m), .int .u64 (limb 3 m)]) (by simp [results, Tryz.results114, go_sem, cR]) rfl ⟨by rw [HV.out], ?_⟩
  exact bSet4 (bStep hbw1 hb2) h2 _ _ _ _
end Go.Proofs.YtdeijnlbencfdaaGreatDoor
