import Derived.Test.YtdeijnlbencfdaaGreatDoorWM4
namespace Go.Proofs.YtdeijnlbencfdaaGreatDoor
open Go.RowKit
set_option maxHeartbeats 16000000 in
set_option maxRecDepth 20000 in
theorem chord_any (c X Y Z rs rn : Nat) (hc : c < 4) (hX : X < 115792089237316195423570985008687907853269984665640564039457584007913129639936) (hY : Y < 115792089237316195423570985008687907853269984665640564039457584007913129639936) (hZ : Z < 115792089237316195423570985008687907853269984665640564039457584007913129639936) (hrs : rs < 115792089237316195423570985008687907853269984665640564039457584007913129639936) (hrn : rn < 115792089237316195423570985008687907853269984665640564039457584007913129639936) (w : World) (hg : Glob w) :
  Calls Tryz.prog 113 #[.int .i64 (c : Int), .agg #[.int .u64 (limb 0 X), .int .u64 (limb 1 X), .int .u64 (limb 2 X), .int .u64 (limb 3 X), .int .u64 (limb 0 Y), .int .u64 (limb 1 Y), .int .u64 (limb 2 Y), .int .u64 (limb 3 Y), .int .u64 (limb 0 Z), .int .u64 (limb 1 Z), .int .u64 (limb 2 Z), .int .u64 (limb 3 Z)], .agg #[.int .u64 (limb 0 rs), .int .u64 (limb 1 rs), .int .u64 (limb 2 rs), .int .u64 (limb 3 rs)], .agg #[.int .u64 (limb 0 rn), .int .u64 (limb 1 rn), .int .u64 (limb 2 rn), .int .u64 (limb 3 rn)]] w fun e w' => e = .returned (.agg #[.int .u64 (limb 0 ((cX c X rs rn))), .int .u64 (limb 1 ((cX c X rs rn))), .int .u64 (limb 2 ((cX c X rs rn))), .int .u64 (limb 3 ((cX c X rs rn))), .int .u64 (limb 0 ((cY c X Y rs rn))), .int .u64 (limb 1 ((cY c X Y rs rn))), .int .u64 (limb 2 ((cY c X Y rs rn))), .int .u64 (limb 3 ((cY c X Y rs rn))), .int .u64 (limb 0 ((mulP c Z rn))), .int .u64 (limb 1 ((mulP c Z rn))), .int .u64 (limb 2 ((mulP c Z rn))), .int .u64 (limb 3 ((mulP c Z rn)))]) ∧ Below w.heap.size w w' := by
 have HG0 : Hid (Glob w) := hg
 obtain ⟨sq, e_sq⟩ : ∃ z, z = mulP c rn rn := ⟨_, rfl⟩
 have l_sq : sq < 115792089237316195423570985008687907853269984665640564039457584007913129639936 := by rw [e_sq]; exact mulP_M _ _ _
 obtain ⟨cu, e_cu⟩ : ∃ z, z = mulP c rn sq := ⟨_, rfl⟩
 have l_cu : cu < 115792089237316195423570985008687907853269984665640564039457584007913129639936 := by rw [e_cu]; exact mulP_M _ _ _
 obtain ⟨mi, e_mi⟩ : ∃ z, z = mulP c X sq := ⟨_, rfl⟩
 have l_mi : mi < 115792089237316195423570985008687907853269984665640564039457584007913129639936 := by rw [e_mi]; exact mulP_M _ _ _
 obtain ⟨rr, e_rr⟩ : ∃ z, z = mulP c rs rs := ⟨_, rfl⟩
 have l_rr : rr < 115792089237316195423570985008687907853269984665640564039457584007913129639936 := by rw [e_rr]; exact mulP_M _ _ _
 obtain ⟨t1, e_t1⟩ : ∃ z, z = subP c rr cu := ⟨_, rfl⟩
 have l_t1 : t1 < 115792089237316195423570985008687907853269984665640564039457584007913129639936 := by rw [e_t1]; exact subP_M _ _ _
 obtain ⟨dm, e_dm⟩ : ∃ z, z = addP c mi mi := ⟨_, rfl⟩
 have l_dm : dm < 115792089237316195423570985008687907853269984665640564039457584007913129639936 := by rw [e_dm]; exact addP_M _ _ _
 obtain ⟨x2, e_x2⟩ : ∃ z, z = subP c t1 dm := ⟨_, rfl⟩
 have l_x2 : x2 < 115792089237316195423570985008687907853269984665640564039457584007913129639936 := by rw [e_x2]; exact subP_M _ _ _
 obtain ⟨sm, e_sm⟩ : ∃ z, z = subP c mi x2 := ⟨_, rfl⟩
 have l_sm : sm < 115792089237316195423570985008687907853269984665640564039457584007913129639936 := by rw [e_sm]; exact subP_M _ _ _
 obtain ⟨t2, e_t2⟩ : ∃ z, z = mulP c rs sm := ⟨_, rfl⟩
 have l_t2 : t2 < 115792089237316195423570985008687907853269984665640564039457584007913129639936 := by rw [e_t2]; exact mulP_M _ _ _
 obtain ⟨yc, e_yc⟩ : ∃ z, z = mulP c Y cu := ⟨_, rfl⟩
 have l_yc : yc < 115792089237316195423570985008687907853269984665640564039457584007913129639936 := by rw [e_yc]; exact mulP_M _ _ _
 obtain ⟨y2, e_y2⟩ : ∃ z, z = subP c t2 yc := ⟨_, rfl⟩
 have l_y2 : y2 < 115792089237316195423570985008687907853269984665640564039457584007913129639936 := by rw [e_y2]; exact subP_M _ _ _
 obtain ⟨z2, e_z2⟩ : ∃ z, z = mulP c Z rn := ⟨_, rfl⟩
 have l_z2 : z2 < 115792089237316195423570985008687907853269984665640564039457584007913129639936 := by rw [e_z2]; exact mulP_M _ _ _
 have H_sq : Hid (∀ (w : World) (B : Nat), Glob w → One w 3 B (.int .i64 (c : Int)) → Calls Tryz.prog 131 #[.agg #[.int .u64 (limb 0 rn), .int .u64 (limb 1 rn), .int .u64 (limb 2 rn), .int .u64 (limb 3 rn)], .agg #[.int .u64 (limb 0 rn), .int .u64 (limb 1 rn), .int .u64 (limb 2 rn), .int .u64 (limb 3 rn)], .pointer (some ⟨B, 0, none⟩)] w fun e w' => e = .returned (.agg #[.int .u64 (limb 0 sq), .int .u64 (limb 1 sq), .int .u64 (limb 2 sq), .int .u64 (limb 3 sq)]) ∧ Below w.heap.size w w') := fun w B hg h1 => by rw [e_sq]; exact hMul c rn rn B hc hrn hrn w hg h1
 have H_cu : Hid (∀ (w : World) (B : Nat), Glob w → One w 3 B (.int .i64 (c : Int)) → Calls Tryz.prog 131 #[.agg #[.int .u64 (limb 0 rn), .int .u64 (limb 1 rn), .int .u64 (limb 2 rn), .int .u64 (limb 3 rn)], .agg #[.int .u64 (limb 0 sq), .int .u64 (limb 1 sq), .int .u64 (limb 2 sq), .int .u64 (limb 3 sq)], .pointer (some ⟨B, 0, none⟩)] w fun e w' => e = .returned (.agg #[.int .u64 (limb 0 cu), .int .u64 (limb 1 cu), .int .u64 (limb 2 cu), .int .u64 (limb 3 cu)]) ∧ Below w.heap.size w w') := fun w B hg h1 => by rw [e_cu]; exact hMul c rn sq B hc hrn l_sq w hg h1
 have H_mi : Hid (∀ (w : World) (B : Nat), Glob w → One w 3 B (.int .i64 (c : Int)) → Calls Tryz.prog 131 #[.agg #[.int .u64 (limb 0 X), .int .u64 (limb 1 X), .int .u64 (limb 2 X), .int .u64 (limb 3 X)], .agg #[.int .u64 (limb 0 sq), .int .u64 (limb 1 sq), .int .u64 (limb 2 sq), .int .u64 (limb 3 sq)], .pointer (some ⟨B, 0, none⟩)] w fun e w' => e = .returned (.agg #[.int .u64 (limb 0 mi), .int .u64 (limb 1 mi), .int .u64 (limb 2 mi), .int .u64 (limb 3 mi)]) ∧ Below w.heap.size w w') := fun w B hg h1 => by rw [e_mi]; exact hMul c X sq B hc hX l_sq w hg h1
 have H_rr : Hid (∀ (w : World) (B : Nat), Glob w → One w 3 B (.int .i64 (c : Int)) → Calls Tryz.prog 131 #[.agg #[.int .u64 (limb 0 rs), .int .u64 (limb 1 rs), .int .u64 (limb 2 rs), .int .u64 (limb 3 rs)], .agg #[.int .u64 (limb 0 rs), .int .u64 (limb 1 rs), .int .u64 (limb 2 rs), .int .u64 (limb 3 rs)], .pointer (some ⟨B, 0, none⟩)] w fun e w' => e = .returned (.agg #[.int .u64 (limb 0 rr), .int .u64 (limb 1 rr), .int .u64 (limb 2 rr), .int .u64 (limb 3 rr)]) ∧ Below w.heap.size w w') := fun w B hg h1 => by rw [e_rr]; exact hMul c rs rs B hc hrs hrs w hg h1
 have H_t1 : Hid (∀ (w : World) (B : Nat), Glob w → One w 3 B (.int .i64 (c : Int)) → Calls Tryz.prog 132 #[.agg #[.int .u64 (limb 0 rr), .int .u64 (limb 1 rr), .int .u64 (limb 2 rr), .int .u64 (limb 3 rr)], .agg #[.int .u64 (limb 0 cu), .int .u64 (limb 1 cu), .int .u64 (limb 2 cu), .int .u64 (limb 3 cu)], .pointer (some ⟨B, 0, none⟩)] w fun e w' => e = .returned (.agg #[.int .u64 (limb 0 t1), .int .u64 (limb 1 t1), .int .u64 (limb 2 t1), .int .u64 (limb 3 t1)]) ∧ Below w.heap.size w w') := fun w B hg h1 => by rw [e_t1]; exact hSub c rr cu B hc l_rr l_cu w hg h1
 have H_dm : Hid (∀ w, Glob w → Calls Tryz.prog 16 #[.int .i64 (c : Int), .agg #[.int .u64 (limb 0 mi), .int .u64 (limb 1 mi), .int .u64 (limb 2 mi), .int .u64 (limb 3 mi)], .agg #[.int .u64 (limb 0 mi), .int .u64 (limb 1 mi), .int .u64 (limb 2 mi), .int .u64 (limb 3 mi)]] w fun e w' => e = .returned (.agg #[.int .u64 (limb 0 dm), .int .u64 (limb 1 dm), .int .u64 (limb 2 dm), .int .u64 (limb 3 dm)]) ∧ Below w.heap.size w w') := fun w hg => by rw [e_dm]; exact fAdd_any c mi mi hc l_mi l_mi w hg
 have H_x2 : Hid (∀ (w : World) (B : Nat), Glob w → One w 3 B (.int .i64 (c : Int)) → Calls Tryz.prog 132 #[.agg #[.int .u64 (limb 0 t1), .int .u64 (limb 1 t1), .int .u64 (limb 2 t1), .int .u64 (limb 3 t1)], .agg #[.int .u64 (limb 0 dm), .int .u64 (limb 1 dm), .int .u64 (limb 2 dm), .int .u64 (limb 3 dm)], .pointer (some ⟨B, 0, none⟩)] w fun e w' => e = .returned (.agg #[.int .u64 (limb 0 x2), .int .u64 (limb 1 x2), .int .u64 (limb 2 x2), .int .u64 (limb 3 x2)]) ∧ Below w.heap.size w w') := fun w B hg h1 => by rw [e_x2]; exact hSub c t1 dm B hc l_t1 l_dm w hg h1
 have H_sm : Hid (∀ (w : World) (B : Nat), Glob w → One w 3 B (.int .i64 (c : Int)) → Calls Tryz.prog 132 #[.agg #[.int .u64 (limb 0 mi), .int .u64 (limb 1 mi), .int .u64 (limb 2 mi), .int .u64 (limb 3 mi)], .agg #[.int .u64 (limb 0 x2), .int .u64 (limb 1 x2), .int .u64 (limb 2 x2), .int .u64 (limb 3 x2)], .pointer (some ⟨B, 0, none⟩)] w fun e w' => e = .returned (.agg #[.int .u64 (limb 0 sm), .int .u64 (limb 1 sm), .int .u64 (limb 2 sm), .int .u64 (limb 3 sm)]) ∧ Below w.heap.size w w') := fun w B hg h1 => by rw [e_sm]; exact hSub c mi x2 B hc l_mi l_x2 w hg h1
 have H_t2 : Hid (∀ (w : World) (B : Nat), Glob w → One w 3 B (.int .i64 (c : Int)) → Calls Tryz.prog 131 #[.agg #[.int .u64 (limb 0 rs), .int .u64 (limb 1 rs), .int .u64 (limb 2 rs), .int .u64 (limb 3 rs)], .agg #[.int .u64 (limb 0 sm), .int .u64 (limb 1 sm), .int .u64 (limb 2 sm), .int .u64 (limb 3 sm)], .pointer (some ⟨B, 0, none⟩)] w fun e w' => e = .returned (.agg #[.int .u64 (limb 0 t2), .int .u64 (limb 1 t2), .int .u64 (limb 2 t2), .int .u64 (limb 3 t2)]) ∧ Below w.heap.size w w') := fun w B hg h1 => by rw [e_t2]; exact hMul c rs sm B hc hrs l_sm w hg h1
 have H_yc : Hid (∀ (w : World) (B : Nat), Glob w → One w 3 B (.int .i64 (c : Int)) → Calls Tryz.prog 131 #[.agg #[.int .u64 (limb 0 Y), .int .u64 (limb 1 Y), .int .u64 (limb 2 Y), .int .u64 (limb 3 Y)], .agg #[.int .u64 (limb 0 cu), .int .u64 (limb 1 cu), .int .u64 (limb 2 cu), .int .u64 (limb 3 cu)], .pointer (some ⟨B, 0, none⟩)] w fun e w' => e = .returned (.agg #[.int .u64 (limb 0 yc), .int .u64 (limb 1 yc), .int .u64 (limb 2 yc), .int .u64 (limb 3 yc)]) ∧ Below w.heap.size w w') := fun w B hg h1 => by rw [e_yc]; exact hMul c Y cu B hc hY l_cu w hg h1
 have H_y2 : Hid (∀ (w : World) (B : Nat), Glob w → One w 3 B (.int .i64 (c : Int)) → Calls Tryz.prog 132 #[.agg #[.int .u64 (limb 0 t2), .int .u64 (limb 1 t2), .int .u64 (limb 2 t2), .int .u64 (limb 3 t2)], .agg #[.int .u64 (limb 0 yc), .int .u64 (limb 1 yc), .int .u64 (limb 2 yc), .int .u64 (limb 3 yc)], .pointer (some ⟨B, 0, none⟩)] w fun e w' => e = .returned (.agg #[.int .u64 (limb 0 y2), .int .u64 (limb 1 y2), .int .u64 (limb 2 y2), .int .u64 (limb 3 y2)]) ∧ Below w.heap.size w w') := fun w B hg h1 => by rw [e_y2]; exact hSub c t2 yc B hc l_t2 l_yc w hg h1
 have H_z2 : Hid (∀ (w : World) (B : Nat), Glob w → One w 3 B (.int .i64 (c : Int)) → Calls Tryz.prog 131 #[.agg #[.int .u64 (limb 0 Z), .int .u64 (limb 1 Z), .int .u64 (limb 2 Z), .int .u64 (limb 3 Z)], .agg #[.int .u64 (limb 0 rn), .int .u64 (limb 1 rn), .int .u64 (limb 2 rn), .int .u64 (limb 3 rn)], .pointer (some ⟨B, 0, none⟩)] w fun e w' => e = .returned (.agg #[.int .u64 (limb 0 z2), .int .u64 (limb 1 z2), .int .u64 (limb 2 z2), .int .u64 (limb 3 z2)]) ∧ Below w.heap.size w w') := fun w B hg h1 => by rw [e_z2]; exact hMul c Z rn B hc hZ hrn w hg h1
 have eX2 : cX c X rs rn = x2 := by unfold cX; rw [e_x2, e_t1, e_dm, e_rr, e_cu, e_mi, e_sq]
 have eY2 : cY c X Y rs rn = y2 := by unfold cY; rw [eX2, e_y2, e_t2, e_sm, e_yc, e_cu, e_mi, e_sq]
 rw [eX2, eY2, ← e_z2]
 clear eX2 eY2 hg hX hY hZ hrs hrn e_z2 e_y2 e_yc e_t2 e_sm e_x2 e_dm e_t1 e_rr e_mi e_cu e_sq l_sq l_cu l_mi l_rr l_t1 l_dm l_x2 l_sm l_t2 l_yc l_y2 l_z2
 go_enter Tryz.func113, Tryz.ntmps113
 go_upto_region 3 with fail
 obtain ⟨w2, hw0⟩ : ∃ w0 : World, w0 = ((((w.alloc (.cells #[.int .i64 (c : Int)] 3)).alloc (.cells #[.int .u64 (limb 0 X), .int .u64 (limb 1 X), .int .u64 (limb 2 X), .int .u64 (limb 3 X), .int .u64 (limb 0 Y), .int .u64 (limb 1 Y), .int .u64 (limb 2 Y), .int .u64 (limb 3 Y), .int .u64 (limb 0 Z), .int .u64 (limb 1 Z), .int .u64 (limb 2 Z), .int .u64 (limb 3 Z)] 99)).alloc (.cells #[.int .u64 (limb 0 rs), .int .u64 (limb 1 rs), .int .u64 (limb 2 rs), .int .u64 (limb 3 rs)] 25)).alloc (.cells #[.int .u64 (limb 0 rn), .int .u64 (limb 1 rn), .int .u64 (limb 2 rn), .int .u64 (limb 3 rn)] 25)).alloc (.cells #[.int .u64 0, .int .u64 0, .int .u64 0, .int .u64 0, .int .u64 0, .int .u64 0, .int .u64 0, .int .u64 0, .int .u64 0, .int .u64 0, .int .u64 0, .int .u64 0] 99) := ⟨_, rfl⟩
 have bc2 : One w2 3 w.heap.size (.int .i64 (c : Int)) := by rw [hw0]; exact ((((One.newAt _ _ _ _ rfl).alloc _).alloc _).alloc _).alloc _
 have bp2 : Jt w2 (w.heap.size + 1) X Y Z := by rw [hw0]; exact (((Jt.newAt _ _ _ _ _ (by simp)).alloc _).alloc _).alloc _
 have bs2 : Blk w2 25 (w.heap.size + 1 + 1) (fun i => limb i rs) := by rw [hw0]; exact ((Blk.newAt _ _ _ (fun i => limb i rs) (by simp)).alloc _).alloc _
 have bn2 : Blk w2 25 (w.heap.size + 1 + 1 + 1) (fun i => limb i rn) := by rw [hw0]; exact (Blk.newAt _ _ _ (fun i => limb i rn) (by simp)).alloc _
 have br2 : Jt w2 (w.heap.size + 1 + 1 + 1 + 1) 0 0 0 := by rw [hw0]; exact Jt.zeroAt _ _ (by simp)
 have hbw2 : Below w.heap.size w w2 := by rw [hw0]; exact bAlloc (bAlloc (bAlloc (bAlloc ((Below.refl _ _).alloc (Nat.le_refl _) _) _) _) _) _
 have hrw : w.heap.size ≤ w.heap.size + 1 + 1 + 1 + 1 := by omega
 have HG2 : Hid (Glob w2) := HG0.out.below hbw2
 rw [← hw0]
 clear hw0 HG0
 have cn := bn2.cell
 go_wp2_with fail
 refine (H_sq.out w2 _ HG2.out bc2).mono ?_
 rintro e w3 ⟨rfl, hbx⟩
 clear cn
 have bp3 := bp2.belowAll hbx
 have bc3 := bc2.belowAll hbx
 have bs3 := bs2.belowAll hbx
 have bn3 := bn2.belowAll hbx
 have br3 := br2.belowAll hbx
 have hbw3 := bStep hbw2 hbx
 have HG3 : Hid (Glob w3) := HG2.out.below hbx
 clear bp2 bc2 bs2 bn2 br2  hbw2 HG2 hbx
 clear H_sq
 go_upto_region 4 with fail
 obtain ⟨w4, hw4⟩ : ∃ x : World, x = w3.alloc (.cells #[.int .u64 (limb 0 sq), .int .u64 (limb 1 sq), .int .u64 (limb 2 sq), .int .u64 (limb 3 sq)] 25) := ⟨_, rfl⟩
 obtain ⟨N11, hN11⟩ : ∃ D, D = w3.heap.size := ⟨_, rfl⟩
 have hbx : Below w3.heap.size w3 w4 := by rw [hw4]; exact (Below.refl _ _).alloc (Nat.le_refl _) _
 have v11_4 : Blk w4 25 N11 (fun i => limb i sq) := by rw [hw4]; exact Blk.newAt _ _ _ (fun i => limb i sq) hN11
 rw [← hw4, ← hN11]
 clear hw4 hN11
 have bp4 := bp3.belowAll hbx
 have bc4 := bc3.belowAll hbx
 have bs4 := bs3.belowAll hbx
 have bn4 := bn3.belowAll hbx
 have br4 := br3.belowAll hbx
 have hbw4 := bStep hbw3 hbx
 have HG4 : Hid (Glob w4) := HG3.out.below hbx
 clear bp3 bc3 bs3 bn3 br3  hbw3 HG3 hbx
 go_cut [12, 13] (fun p12 p13 wx => ∃ N12 N13 : Nat, p12 = .pointer (some ⟨N12, 0, none⟩) ∧ p13 = .pointer (some ⟨N13, 0, none⟩) ∧ w4.heap.size ≤ N12 ∧ w4.heap.size ≤ N13 ∧ Blk wx 25 N12 (fun i => limb i cu) ∧ Blk wx 25 N13 (fun i => limb i mi) ∧ Below w4.heap.size w4 wx)
 case first =>
  have HS0 : Hid (Below w4.heap.size w4 w4.drew) := (Below.refl _ _).drew
  refine wp_region_Z (fun w' => Kp w4 w') 99 (by kernel_rfl) ?_
  refine zs 0 22 (.func (.func 131) #[] #[.pointer (some ⟨w.heap.size, 0, none⟩)]) (HS0.out) ?_
  refine zT 1 23 (.agg #[.int .u64 (limb 0 rn), .int .u64 (limb 1 rn), .int .u64 (limb 2 rn), .int .u64 (limb 3 rn)]) rfl rfl (fun w hSw => by (have qq := (bn4.belowAll hSw).cell; clear hSw; go_simp)) (HS0.out) ?_
  refine zT 2 24 (.agg #[.int .u64 (limb 0 sq), .int .u64 (limb 1 sq), .int .u64 (limb 2 sq), .int .u64 (limb 3 sq)]) rfl rfl (fun w hSw => by (have qq := (v11_4.belowAll hSw).cell; clear hSw; go_simp)) (HS0.out) ?_
  refine zs 4 26 (.func (.func 131) #[] #[.pointer (some ⟨w.heap.size, 0, none⟩)]) (HS0.out) ?_
  refine zs 5 27 (.pointer (some ⟨(w.heap.size + 1), 0, none⟩)) (HS0.out) ?_
  refine zT 6 28 (.agg #[.int .u64 (limb 0 X), .int .u64 (limb 1 X), .int .u64 (limb 2 X), .int .u64 (limb 3 X)]) rfl rfl (fun w hSw => by (obtain ⟨q0, q1, q2, q3, q4, q5, q6, q7, q8, q9, q10, q11, qf⟩ := (bp4.belowAll hSw).cells; clear hSw; go_simp)) (HS0.out) ?_
  refine zT 7 29 (.agg #[.int .u64 (limb 0 sq), .int .u64 (limb 1 sq), .int .u64 (limb 2 sq), .int .u64 (limb 3 sq)]) rfl rfl (fun w hSw => by (have qq := (v11_4.belowAll hSw).cell; clear hSw; go_simp)) (HS0.out) ?_
  refine wpZ_three (i := 3) (j := 9) (l := 10) (by kernel_rfl) rfl rfl rfl (fun K hK => ?_) (fun K hK => ?_) (fun K hK => ?_) 
  ·go_simp
   refine (H_cu.out w4.drew _ (HG4.out.below (HS0.out)) (bc4.belowAll (HS0.out))).mono ?_
   rintro e wK1 ⟨rfl, hbK1⟩
   have hSK1 := bStep HS0.out hbK1
   go_wp2_with fail
   refine hK.out _ _ (fun _ => hSK1) ?_
   clear hK K
   refine wpZ_three (i := 8) (j := 9) (l := 10) (by kernel_rfl) rfl rfl rfl (fun K hK => ?_) (fun K hK => ?_) (fun K hK => ?_) 
   ·go_simp
    refine (H_mi.out wK1 _ (HG4.out.below (hSK1)) (bc4.belowAll (hSK1))).mono ?_
    rintro e wK2 ⟨rfl, hbK2⟩
    have hSK2 := bStep hSK1 hbK2
    go_wp2_with fail
    refine hK.out _ _ (fun _ => hSK2) ?_
    clear hK K
    refine zw 9 10 rfl rfl (fun K hK => ?_) (fun K hK => ?_) 
    ·go_simp
     obtain ⟨N12_3, wK3, hN, hw, hSK3, b12_3, lN12_3, hx⟩ := pkA hSK2
     rw [hw, hN]
     refine hK.out _ _ (fun _ => hSK3) ?_
     clear hK K hw hN hx
     refine zo 10 rfl (fun K hK => ?_)
     go_simp
     obtain ⟨N13_4, wK4, hN, hw, hSK4, b13_4, lN13_4, hx⟩ := pkA hSK3
     rw [hw, hN]
     refine hK.out _ _ (fun _ => hSK4) ?_
     have b12_4 := b12_3.belowAll hx
     have neN12_3_N13_4 : N12_3 ≠ N13_4 := by have := b12_3.lt; omega
     clear hK K hw hN hx
     refine zo 11 rfl (fun K hK => ?_)
     have cS := b12_4.cell; have fS := b12_4.frozen
     go_simp
     obtain ⟨wK5, hw, hSK5, b12_5, hx⟩ := pkS b12_4 (hSK4) lN12_3 cu
     rw [hw]
     refine hK.out _ _ (fun _ => hSK5) ?_
     have b13_5 := hx b13_4 (by omega)
     clear hK K cS fS hw hx
     refine zo 12 rfl (fun K hK => ?_)
     have cS := b13_5.cell; have fS := b13_5.frozen
     go_simp
     obtain ⟨wK6, hw, hSK6, b13_6, hx⟩ := pkS b13_5 (hSK5) lN13_4 mi
     rw [hw]
     refine hK.out _ _ (fun _ => hSK6) ?_
     have b12_6 := hx b12_5 (by omega)
     clear hK K cS fS hw hx
     refine zd ?_ _
     go_wp2_with fail
     go_meet
     exact ⟨_, _, rfl, rfl, lN12_3, lN13_4, b12_6, b13_6, hSK6⟩
    ·go_simp
     obtain ⟨N13_3, wK3, hN, hw, hSK3, b13_3, lN13_3, hx⟩ := pkA hSK2
     rw [hw, hN]
     refine hK.out _ _ (fun _ => hSK3) ?_
     clear hK K hw hN hx
     refine zo 9 rfl (fun K hK => ?_)
     go_simp
     obtain ⟨N12_4, wK4, hN, hw, hSK4, b12_4, lN12_4, hx⟩ := pkA hSK3
     rw [hw, hN]
     refine hK.out _ _ (fun _ => hSK4) ?_
     have b13_4 := b13_3.belowAll hx
     have neN13_3_N12_4 : N13_3 ≠ N12_4 := by have := b13_3.lt; omega
     clear hK K hw hN hx
     refine zo 11 rfl (fun K hK => ?_)
     have cS := b12_4.cell; have fS := b12_4.frozen
     go_simp
     obtain ⟨wK5, hw, hSK5, b12_5, hx⟩ := pkS b12_4 (hSK4) lN12_4 cu
     rw [hw]
     refine hK.out _ _ (fun _ => hSK5) ?_
     have b13_5 := hx b13_4 (by omega)
     clear hK K cS fS hw hx
     refine zo 12 rfl (fun K hK => ?_)
     have cS := b13_5.cell; have fS := b13_5.frozen
     go_simp
     obtain ⟨wK6, hw, hSK6, b13_6, hx⟩ := pkS b13_5 (hSK5) lN13_3 mi
     rw [hw]
     refine hK.out _ _ (fun _ => hSK6) ?_
     have b12_6 := hx b12_5 (by omega)
     clear hK K cS fS hw hx
     refine zd ?_ _
     go_wp2_with fail
     go_meet
     exact ⟨_, _, rfl, rfl, lN12_4, lN13_3, b12_6, b13_6, hSK6⟩
   ·go_simp
    obtain ⟨N12_2, wK2, hN, hw, hSK2, b12_2, lN12_2, hx⟩ := pkA hSK1
    rw [hw, hN]
    refine hK.out _ _ (fun _ => hSK2) ?_
    clear hK K hw hN hx
    refine zw 8 10 rfl rfl (fun K hK => ?_) (fun K hK => ?_) 
    ·go_simp
     refine (H_mi.out wK2 _ (HG4.out.below (hSK2)) (bc4.belowAll (hSK2))).mono ?_
     rintro e wK3 ⟨rfl, hbK3⟩
     have hSK3 := bStep hSK2 hbK3
     go_wp2_with fail
     refine hK.out _ _ (fun _ => hSK3) ?_
     clear hK K
     have b12_3 := b12_2.belowAll hbK3
     refine zo 10 rfl (fun K hK => ?_)
     go_simp
     obtain ⟨N13_4, wK4, hN, hw, hSK4, b13_4, lN13_4, hx⟩ := pkA hSK3
     rw [hw, hN]
     refine hK.out _ _ (fun _ => hSK4) ?_
     have b12_4 := b12_3.belowAll hx
     have neN12_2_N13_4 : N12_2 ≠ N13_4 := by have := b12_3.lt; omega
     clear hK K hw hN hx
     refine zo 11 rfl (fun K hK => ?_)
     have cS := b12_4.cell; have fS := b12_4.frozen
     go_simp
     obtain ⟨wK5, hw, hSK5, b12_5, hx⟩ := pkS b12_4 (hSK4) lN12_2 cu
     rw [hw]
     refine hK.out _ _ (fun _ => hSK5) ?_
     have b13_5 := hx b13_4 (by omega)
     clear hK K cS fS hw hx
     refine zo 12 rfl (fun K hK => ?_)
     have cS := b13_5.cell; have fS := b13_5.frozen
     go_simp
     obtain ⟨wK6, hw, hSK6, b13_6, hx⟩ := pkS b13_5 (hSK5) lN13_4 mi
     rw [hw]
     refine hK.out _ _ (fun _ => hSK6) ?_
     have b12_6 := hx b12_5 (by omega)
     clear hK K cS fS hw hx
     refine zd ?_ _
     go_wp2_with fail
     go_meet
     exact ⟨_, _, rfl, rfl, lN12_2, lN13_4, b12_6, b13_6, hSK6⟩
    ·go_simp
     obtain ⟨N13_3, wK3, hN, hw, hSK3, b13_3, lN13_3, hx⟩ := pkA hSK2
     rw [hw, hN]
     refine hK.out _ _ (fun _ => hSK3) ?_
     have b12_3 := b12_2.belowAll hx
     have neN12_2_N13_3 : N12_2 ≠ N13_3 := by have := b12_2.lt; omega
     clear hK K hw hN hx
     refine zo 8 rfl (fun K hK => ?_)
     go_simp
     refine (H_mi.out wK3 _ (HG4.out.below (hSK3)) (bc4.belowAll (hSK3))).mono ?_
     rintro e wK4 ⟨rfl, hbK4⟩
     have hSK4 := bStep hSK3 hbK4
     go_wp2_with fail
     refine hK.out _ _ (fun _ => hSK4) ?_
     clear hK K
     have b12_4 := b12_3.belowAll hbK4
     have b13_4 := b13_3.belowAll hbK4
     refine zo 11 rfl (fun K hK => ?_)
     have cS := b12_4.cell; have fS := b12_4.frozen
     go_simp
     obtain ⟨wK5, hw, hSK5, b12_5, hx⟩ := pkS b12_4 (hSK4) lN12_2 cu
     rw [hw]
     refine hK.out _ _ (fun _ => hSK5) ?_
     have b13_5 := hx b13_4 (by omega)
     clear hK K cS fS hw hx
     refine zo 12 rfl (fun K hK => ?_)
     have cS := b13_5.cell; have fS := b13_5.frozen
     go_simp
     obtain ⟨wK6, hw, hSK6, b13_6, hx⟩ := pkS b13_5 (hSK5) lN13_3 mi
     rw [hw]
     refine hK.out _ _ (fun _ => hSK6) ?_
     have b12_6 := hx b12_5 (by omega)
     clear hK K cS fS hw hx
     refine zd ?_ _
     go_wp2_with fail
     go_meet
     exact ⟨_, _, rfl, rfl, lN12_2, lN13_3, b12_6, b13_6, hSK6⟩
   ·go_simp
    obtain ⟨N13_2, wK2, hN, hw, hSK2, b13_2, lN13_2, hx⟩ := pkA hSK1
    rw [hw, hN]
    refine hK.out _ _ (fun _ => hSK2) ?_
    clear hK K hw hN hx
    refine zw 8 9 rfl rfl (fun K hK => ?_) (fun K hK => ?_) 
    ·go_simp
     refine (H_mi.out wK2 _ (HG4.out.below (hSK2)) (bc4.belowAll (hSK2))).mono ?_
     rintro e wK3 ⟨rfl, hbK3⟩
     have hSK3 := bStep hSK2 hbK3
     go_wp2_with fail
     refine hK.out _ _ (fun _ => hSK3) ?_
     clear hK K
     have b13_3 := b13_2.belowAll hbK3
     refine zo 9 rfl (fun K hK => ?_)
     go_simp
     obtain ⟨N12_4, wK4, hN, hw, hSK4, b12_4, lN12_4, hx⟩ := pkA hSK3
     rw [hw, hN]
     refine hK.out _ _ (fun _ => hSK4) ?_
     have b13_4 := b13_3.belowAll hx
     have neN13_2_N12_4 : N13_2 ≠ N12_4 := by have := b13_3.lt; omega
     clear hK K hw hN hx
     refine zo 11 rfl (fun K hK => ?_)
     have cS := b12_4.cell; have fS := b12_4.frozen
     go_simp
     obtain ⟨wK5, hw, hSK5, b12_5, hx⟩ := pkS b12_4 (hSK4) lN12_4 cu
     rw [hw]
     refine hK.out _ _ (fun _ => hSK5) ?_
     have b13_5 := hx b13_4 (by omega)
     clear hK K cS fS hw hx
     refine zo 12 rfl (fun K hK => ?_)
     have cS := b13_5.cell; have fS := b13_5.frozen
     go_simp
     obtain ⟨wK6, hw, hSK6, b13_6, hx⟩ := pkS b13_5 (hSK5) lN13_2 mi
     rw [hw]
     refine hK.out _ _ (fun _ => hSK6) ?_
     have b12_6 := hx b12_5 (by omega)
     clear hK K cS fS hw hx
     refine zd ?_ _
     go_wp2_with fail
     go_meet
     exact ⟨_, _, rfl, rfl, lN12_4, lN13_2, b12_6, b13_6, hSK6⟩
    ·go_simp
     obtain ⟨N12_3, wK3, hN, hw, hSK3, b12_3, lN12_3, hx⟩ := pkA hSK2
     rw [hw, hN]
     refine hK.out _ _ (fun _ => hSK3) ?_
     have b13_3 := b13_2.belowAll hx
     have neN13_2_N12_3 : N13_2 ≠ N12_3 := by have := b13_2.lt; omega
     clear hK K hw hN hx
     refine zo 8 rfl (fun K hK => ?_)
     go_simp
     refine (H_mi.out wK3 _ (HG4.out.below (hSK3)) (bc4.belowAll (hSK3))).mono ?_
     rintro e wK4 ⟨rfl, hbK4⟩
     have hSK4 := bStep hSK3 hbK4
     go_wp2_with fail
     refine hK.out _ _ (fun _ => hSK4) ?_
     clear hK K
     have b13_4 := b13_3.belowAll hbK4
     have b12_4 := b12_3.belowAll hbK4
     refine zo 11 rfl (fun K hK => ?_)
     have cS := b12_4.cell; have fS := b12_4.frozen
     go_simp
     obtain ⟨wK5, hw, hSK5, b12_5, hx⟩ := pkS b12_4 (hSK4) lN12_3 cu
     rw [hw]
     refine hK.out _ _ (fun _ => hSK5) ?_
     have b13_5 := hx b13_4 (by omega)
     clear hK K cS fS hw hx
     refine zo 12 rfl (fun K hK => ?_)
     have cS := b13_5.cell; have fS := b13_5.frozen
     go_simp
     obtain ⟨wK6, hw, hSK6, b13_6, hx⟩ := pkS b13_5 (hSK5) lN13_2 mi
     rw [hw]
     refine hK.out _ _ (fun _ => hSK6) ?_
     have b12_6 := hx b12_5 (by omega)
     clear hK K cS fS hw hx
     refine zd ?_ _
     go_wp2_with fail
     go_meet
     exact ⟨_, _, rfl, rfl, lN12_3, lN13_2, b12_6, b13_6, hSK6⟩
  ·go_simp
   obtain ⟨N12_1, wK1, hN, hw, hSK1, b12_1, lN12_1, hx⟩ := pkD w4
   rw [hw, hN]
   refine hK.out _ _ (fun _ => hSK1) ?_
   clear hK K hw hN hx
   refine zw 3 10 rfl rfl (fun K hK => ?_) (fun K hK => ?_) 
   ·go_simp
    refine (H_cu.out wK1 _ (HG4.out.below (hSK1)) (bc4.belowAll (hSK1))).mono ?_
    rintro e wK2 ⟨rfl, hbK2⟩
    have hSK2 := bStep hSK1 hbK2
    go_wp2_with fail
    refine hK.out _ _ (fun _ => hSK2) ?_
    clear hK K
    have b12_2 := b12_1.belowAll hbK2
    refine zw 8 10 rfl rfl (fun K hK => ?_) (fun K hK => ?_) 
    ·go_simp
     refine (H_mi.out wK2 _ (HG4.out.below (hSK2)) (bc4.belowAll (hSK2))).mono ?_
     rintro e wK3 ⟨rfl, hbK3⟩
     have hSK3 := bStep hSK2 hbK3
     go_wp2_with fail
     refine hK.out _ _ (fun _ => hSK3) ?_
     clear hK K
     have b12_3 := b12_2.belowAll hbK3
     refine zo 10 rfl (fun K hK => ?_)
     go_simp
     obtain ⟨N13_4, wK4, hN, hw, hSK4, b13_4, lN13_4, hx⟩ := pkA hSK3
     rw [hw, hN]
     refine hK.out _ _ (fun _ => hSK4) ?_
     have b12_4 := b12_3.belowAll hx
     have neN12_1_N13_4 : N12_1 ≠ N13_4 := by have := b12_3.lt; omega
     clear hK K hw hN hx
     refine zo 11 rfl (fun K hK => ?_)
     have cS := b12_4.cell; have fS := b12_4.frozen
     go_simp
     obtain ⟨wK5, hw, hSK5, b12_5, hx⟩ := pkS b12_4 (hSK4) lN12_1 cu
     rw [hw]
     refine hK.out _ _ (fun _ => hSK5) ?_
     have b13_5 := hx b13_4 (by omega)
     clear hK K cS fS hw hx
     refine zo 12 rfl (fun K hK => ?_)
     have cS := b13_5.cell; have fS := b13_5.frozen
     go_simp
     obtain ⟨wK6, hw, hSK6, b13_6, hx⟩ := pkS b13_5 (hSK5) lN13_4 mi
     rw [hw]
     refine hK.out _ _ (fun _ => hSK6) ?_
     have b12_6 := hx b12_5 (by omega)
     clear hK K cS fS hw hx
     refine zd ?_ _
     go_wp2_with fail
     go_meet
     exact ⟨_, _, rfl, rfl, lN12_1, lN13_4, b12_6, b13_6, hSK6⟩
    ·go_simp
     obtain ⟨N13_3, wK3, hN, hw, hSK3, b13_3, lN13_3, hx⟩ := pkA hSK2
     rw [hw, hN]
     refine hK.out _ _ (fun _ => hSK3) ?_
     have b12_3 := b12_2.belowAll hx
     have neN12_1_N13_3 : N12_1 ≠ N13_3 := by have := b12_2.lt; omega
     clear hK K hw hN hx
     refine zo 8 rfl (fun K hK => ?_)
     go_simp
     refine (H_mi.out wK3 _ (HG4.out.below (hSK3)) (bc4.belowAll (hSK3))).mono ?_
     rintro e wK4 ⟨rfl, hbK4⟩
     have hSK4 := bStep hSK3 hbK4
     go_wp2_with fail
     refine hK.out _ _ (fun _ => hSK4) ?_
     clear hK K
     have b12_4 := b12_3.belowAll hbK4
     have b13_4 := b13_3.belowAll hbK4
     refine zo 11 rfl (fun K hK => ?_)
     have cS := b12_4.cell; have fS := b12_4.frozen
     go_simp
     obtain ⟨wK5, hw, hSK5, b12_5, hx⟩ := pkS b12_4 (hSK4) lN12_1 cu
     rw [hw]
     refine hK.out _ _ (fun _ => hSK5) ?_
     have b13_5 := hx b13_4 (by omega)
     clear hK K cS fS hw hx
     refine zo 12 rfl (fun K hK => ?_)
     have cS := b13_5.cell; have fS := b13_5.frozen
     go_simp
     obtain ⟨wK6, hw, hSK6, b13_6, hx⟩ := pkS b13_5 (hSK5) lN13_3 mi
     rw [hw]
     refine hK.out _ _ (fun _ => hSK6) ?_
     have b12_6 := hx b12_5 (by omega)
     clear hK K cS fS hw hx
     refine zd ?_ _
     go_wp2_with fail
     go_meet
     exact ⟨_, _, rfl, rfl, lN12_1, lN13_3, b12_6, b13_6, hSK6⟩
   ·go_simp
    obtain ⟨N13_2, wK2, hN, hw, hSK2, b13_2, lN13_2, hx⟩ := pkA hSK1
    rw [hw, hN]
    refine hK.out _ _ (fun _ => hSK2) ?_
    have b12_2 := b12_1.belowAll hx
    have neN12_1_N13_2 : N12_1 ≠ N13_2 := by have := b12_1.lt; omega
    clear hK K hw hN hx
    refine zo 3 rfl (fun K hK => ?_)
    go_simp
    refine (H_cu.out wK2 _ (HG4.out.below (hSK2)) (bc4.belowAll (hSK2))).mono ?_
    rintro e wK3 ⟨rfl, hbK3⟩
    have hSK3 := bStep hSK2 hbK3
    go_wp2_with fail
    refine hK.out _ _ (fun _ => hSK3) ?_
    clear hK K
    have b12_3 := b12_2.belowAll hbK3
    have b13_3 := b13_2.belowAll hbK3
    refine zo 8 rfl (fun K hK => ?_)
    go_simp
    refine (H_mi.out wK3 _ (HG4.out.below (hSK3)) (bc4.belowAll (hSK3))).mono ?_
    rintro e wK4 ⟨rfl, hbK4⟩
    have hSK4 := bStep hSK3 hbK4
    go_wp2_with fail
    refine hK.out _ _ (fun _ => hSK4) ?_
    clear hK K
    have b12_4 := b12_3.belowAll hbK4
    have b13_4 := b13_3.belowAll hbK4
    refine zo 11 rfl (fun K hK => ?_)
    have cS := b12_4.cell; have fS := b12_4.frozen
    go_simp
    obtain ⟨wK5, hw, hSK5, b12_5, hx⟩ := pkS b12_4 (hSK4) lN12_1 cu
    rw [hw]
    refine hK.out _ _ (fun _ => hSK5) ?_
    have b13_5 := hx b13_4 (by omega)
    clear hK K cS fS hw hx
    refine zo 12 rfl (fun K hK => ?_)
    have cS := b13_5.cell; have fS := b13_5.frozen
    go_simp
    obtain ⟨wK6, hw, hSK6, b13_6, hx⟩ := pkS b13_5 (hSK5) lN13_2 mi
    rw [hw]
    refine hK.out _ _ (fun _ => hSK6) ?_
    have b12_6 := hx b12_5 (by omega)
    clear hK K cS fS hw hx
    refine zd ?_ _
    go_wp2_with fail
    go_meet
    exact ⟨_, _, rfl, rfl, lN12_1, lN13_2, b12_6, b13_6, hSK6⟩
  ·go_simp
   obtain ⟨N13_1, wK1, hN, hw, hSK1, b13_1, lN13_1, hx⟩ := pkD w4
   rw [hw, hN]
   refine hK.out _ _ (fun _ => hSK1) ?_
   clear hK K hw hN hx
   refine zw 3 9 rfl rfl (fun K hK => ?_) (fun K hK => ?_) 
   ·go_simp
    refine (H_cu.out wK1 _ (HG4.out.below (hSK1)) (bc4.belowAll (hSK1))).mono ?_
    rintro e wK2 ⟨rfl, hbK2⟩
    have hSK2 := bStep hSK1 hbK2
    go_wp2_with fail
    refine hK.out _ _ (fun _ => hSK2) ?_
    clear hK K
    have b13_2 := b13_1.belowAll hbK2
    refine zw 8 9 rfl rfl (fun K hK => ?_) (fun K hK => ?_) 
    ·go_simp
     refine (H_mi.out wK2 _ (HG4.out.below (hSK2)) (bc4.belowAll (hSK2))).mono ?_
     rintro e wK3 ⟨rfl, hbK3⟩
     have hSK3 := bStep hSK2 hbK3
     go_wp2_with fail
     refine hK.out _ _ (fun _ => hSK3) ?_
     clear hK K
     have b13_3 := b13_2.belowAll hbK3
     refine zo 9 rfl (fun K hK => ?_)
     go_simp
     obtain ⟨N12_4, wK4, hN, hw, hSK4, b12_4, lN12_4, hx⟩ := pkA hSK3
     rw [hw, hN]
     refine hK.out _ _ (fun _ => hSK4) ?_
     have b13_4 := b13_3.belowAll hx
     have neN13_1_N12_4 : N13_1 ≠ N12_4 := by have := b13_3.lt; omega
     clear hK K hw hN hx
     refine zo 11 rfl (fun K hK => ?_)
     have cS := b12_4.cell; have fS := b12_4.frozen
     go_simp
     obtain ⟨wK5, hw, hSK5, b12_5, hx⟩ := pkS b12_4 (hSK4) lN12_4 cu
     rw [hw]
     refine hK.out _ _ (fun _ => hSK5) ?_
     have b13_5 := hx b13_4 (by omega)
     clear hK K cS fS hw hx
     refine zo 12 rfl (fun K hK => ?_)
     have cS := b13_5.cell; have fS := b13_5.frozen
     go_simp
     obtain ⟨wK6, hw, hSK6, b13_6, hx⟩ := pkS b13_5 (hSK5) lN13_1 mi
     rw [hw]
     refine hK.out _ _ (fun _ => hSK6) ?_
     have b12_6 := hx b12_5 (by omega)
     clear hK K cS fS hw hx
     refine zd ?_ _
     go_wp2_with fail
     go_meet
     exact ⟨_, _, rfl, rfl, lN12_4, lN13_1, b12_6, b13_6, hSK6⟩
    ·go_simp
     obtain ⟨N12_3, wK3, hN, hw, hSK3, b12_3, lN12_3, hx⟩ := pkA hSK2
     rw [hw, hN]
     refine hK.out _ _ (fun _ => hSK3) ?_
     have b13_3 := b13_2.belowAll hx
     have neN13_1_N12_3 : N13_1 ≠ N12_3 := by have := b13_2.lt; omega
     clear hK K hw hN hx
     refine zo 8 rfl (fun K hK => ?_)
     go_simp
     refine (H_mi.out wK3 _ (HG4.out.below (hSK3)) (bc4.belowAll (hSK3))).mono ?_
     rintro e wK4 ⟨rfl, hbK4⟩
     have hSK4 := bStep hSK3 hbK4
     go_wp2_with fail
     refine hK.out _ _ (fun _ => hSK4) ?_
     clear hK K
     have b13_4 := b13_3.belowAll hbK4
     have b12_4 := b12_3.belowAll hbK4
     refine zo 11 rfl (fun K hK => ?_)
     have cS := b12_4.cell; have fS := b12_4.frozen
     go_simp
     obtain ⟨wK5, hw, hSK5, b12_5, hx⟩ := pkS b12_4 (hSK4) lN12_3 cu
     rw [hw]
     refine hK.out _ _ (fun _ => hSK5) ?_
     have b13_5 := hx b13_4 (by omega)
     clear hK K cS fS hw hx
     refine zo 12 rfl (fun K hK => ?_)
     have cS := b13_5.cell; have fS := b13_5.frozen
     go_simp
     obtain ⟨wK6, hw, hSK6, b13_6, hx⟩ := pkS b13_5 (hSK5) lN13_1 mi
     rw [hw]
     refine hK.out _ _ (fun _ => hSK6) ?_
     have b12_6 := hx b12_5 (by omega)
     clear hK K cS fS hw hx
     refine zd ?_ _
     go_wp2_with fail
     go_meet
     exact ⟨_, _, rfl, rfl, lN12_3, lN13_1, b12_6, b13_6, hSK6⟩
   ·go_simp
    obtain ⟨N12_2, wK2, hN, hw, hSK2, b12_2, lN12_2, hx⟩ := pkA hSK1
    rw [hw, hN]
    refine hK.out _ _ (fun _ => hSK2) ?_
    have b13_2 := b13_1.belowAll hx
    have neN13_1_N12_2 : N13_1 ≠ N12_2 := by have := b13_1.lt; omega
    clear hK K hw hN hx
    refine zo 3 rfl (fun K hK => ?_)
    go_simp
    refine (H_cu.out wK2 _ (HG4.out.below (hSK2)) (bc4.belowAll (hSK2))).mono ?_
    rintro e wK3 ⟨rfl, hbK3⟩
    have hSK3 := bStep hSK2 hbK3
    go_wp2_with fail
    refine hK.out _ _ (fun _ => hSK3) ?_
    clear hK K
    have b13_3 := b13_2.belowAll hbK3
    have b12_3 := b12_2.belowAll hbK3
    refine zo 8 rfl (fun K hK => ?_)
    go_simp
    refine (H_mi.out wK3 _ (HG4.out.below (hSK3)) (bc4.belowAll (hSK3))).mono ?_
    rintro e wK4 ⟨rfl, hbK4⟩
    have hSK4 := bStep hSK3 hbK4
    go_wp2_with fail
    refine hK.out _ _ (fun _ => hSK4) ?_
    clear hK K
    have b13_4 := b13_3.belowAll hbK4
    have b12_4 := b12_3.belowAll hbK4
    refine zo 11 rfl (fun K hK => ?_)
    have cS := b12_4.cell; have fS := b12_4.frozen
    go_simp
    obtain ⟨wK5, hw, hSK5, b12_5, hx⟩ := pkS b12_4 (hSK4) lN12_2 cu
    rw [hw]
    refine hK.out _ _ (fun _ => hSK5) ?_
    have b13_5 := hx b13_4 (by omega)
    clear hK K cS fS hw hx
    refine zo 12 rfl (fun K hK => ?_)
    have cS := b13_5.cell; have fS := b13_5.frozen
    go_simp
    obtain ⟨wK6, hw, hSK6, b13_6, hx⟩ := pkS b13_5 (hSK5) lN13_1 mi
    rw [hw]
    refine hK.out _ _ (fun _ => hSK6) ?_
    have b12_6 := hx b12_5 (by omega)
    clear hK K cS fS hw hx
    refine zd ?_ _
    go_wp2_with fail
    go_meet
    exact ⟨_, _, rfl, rfl, lN12_2, lN13_1, b12_6, b13_6, hSK6⟩
 obtain ⟨N12, N13, rfl, rfl, lN12, lN13, v12_5, v13_5, hbx⟩ := hcut
 obtain ⟨w5, hwn⟩ : ∃ x, x = wc := ⟨_, rfl⟩
 rw [← hwn] at hbx v12_5 v13_5 ⊢
 clear hwn lN12 lN13 H_cu H_mi
 have bp5 := bp4.belowAll hbx
 have bc5 := bc4.belowAll hbx
 have bs5 := bs4.belowAll hbx
 have bn5 := bn4.belowAll hbx
 have br5 := br4.belowAll hbx
 have v11_5 := v11_4.belowAll hbx
 have hbw5 := bStep hbw4 hbx
 have HG5 : Hid (Glob w5) := HG4.out.below hbx
 clear bp4 bc4 bs4 bn4 br4 v11_4 hbw4 HG4 hbx
 go_upto_region 5 with fail
 go_cut [14] (fun p14 wx => ∃ N14 : Nat, p14 = .pointer (some ⟨N14, 0, none⟩) ∧ w5.heap.size ≤ N14 ∧ Blk wx 25 N14 (fun i => limb i x2) ∧ Below w5.heap.size w5 wx)
 case first =>
  have HS0 : Hid (Below w5.heap.size w5 w5.drew) := (Below.refl _ _).drew
  refine wp_region_Z (fun w' => Kp w5 w') 99 (by kernel_rfl) ?_
  refine zs 0 31 (.func (.func 132) #[] #[.pointer (some ⟨w.heap.size, 0, none⟩)]) (HS0.out) ?_
  refine zs 1 32 (.func (.func 132) #[] #[.pointer (some ⟨w.heap.size, 0, none⟩)]) (HS0.out) ?_
  refine zs 2 33 (.func (.func 131) #[] #[.pointer (some ⟨w.heap.size, 0, none⟩)]) (HS0.out) ?_
  refine zT 3 34 (.agg #[.int .u64 (limb 0 rs), .int .u64 (limb 1 rs), .int .u64 (limb 2 rs), .int .u64 (limb 3 rs)]) rfl rfl (fun w hSw => by (have qq := (bs5.belowAll hSw).cell; clear hSw; go_simp)) (HS0.out) ?_
  refine zT 4 35 (.agg #[.int .u64 (limb 0 rs), .int .u64 (limb 1 rs), .int .u64 (limb 2 rs), .int .u64 (limb 3 rs)]) rfl rfl (fun w hSw => by (have qq := (bs5.belowAll hSw).cell; clear hSw; go_simp)) (HS0.out) ?_
  refine zT 6 37 (.agg #[.int .u64 (limb 0 cu), .int .u64 (limb 1 cu), .int .u64 (limb 2 cu), .int .u64 (limb 3 cu)]) rfl rfl (fun w hSw => by (have qq := (v12_5.belowAll hSw).cell; clear hSw; go_simp)) (HS0.out) ?_
  refine zT 8 39 (.int .i64 (c : Int)) rfl rfl (fun w hSw => by (have qq := (bc5.belowAll hSw).cell; clear hSw; go_simp)) (HS0.out) ?_
  refine zT 9 40 (.agg #[.int .u64 (limb 0 mi), .int .u64 (limb 1 mi), .int .u64 (limb 2 mi), .int .u64 (limb 3 mi)]) rfl rfl (fun w hSw => by (have qq := (v13_5.belowAll hSw).cell; clear hSw; go_simp)) (HS0.out) ?_
  refine zT 10 41 (.agg #[.int .u64 (limb 0 mi), .int .u64 (limb 1 mi), .int .u64 (limb 2 mi), .int .u64 (limb 3 mi)]) rfl rfl (fun w hSw => by (have qq := (v13_5.belowAll hSw).cell; clear hSw; go_simp)) (HS0.out) ?_
  refine zw 5 13 rfl rfl (fun K hK => ?_) (fun K hK => ?_) 
  ·go_simp
   refine (H_rr.out w5.drew _ (HG5.out.below (HS0.out)) (bc5.belowAll (HS0.out))).mono ?_
   rintro e wK1 ⟨rfl, hbK1⟩
   have hSK1 := bStep HS0.out hbK1
   go_wp2_with fail
   refine hK.out _ _ (fun _ => hSK1) ?_
   clear hK K
   refine zw 7 13 rfl rfl (fun K hK => ?_) (fun K hK => ?_) 
   ·go_simp
    refine (H_t1.out wK1 _ (HG5.out.below (hSK1)) (bc5.belowAll (hSK1))).mono ?_
    rintro e wK2 ⟨rfl, hbK2⟩
    have hSK2 := bStep hSK1 hbK2
    go_wp2_with fail
    refine hK.out _ _ (fun _ => hSK2) ?_
    clear hK K
    refine zw 11 13 rfl rfl (fun K hK => ?_) (fun K hK => ?_) 
    ·go_simp
     refine (H_dm.out wK2 (HG5.out.below (hSK2))).mono ?_
     rintro e wK3 ⟨rfl, hbK3⟩
     have hSK3 := bStep hSK2 hbK3
     go_wp2_with fail
     refine hK.out _ _ (fun _ => hSK3) ?_
     clear hK K
     refine zw 12 13 rfl rfl (fun K hK => ?_) (fun K hK => ?_) 
     ·go_simp
      refine (H_x2.out wK3 _ (HG5.out.below (hSK3)) (bc5.belowAll (hSK3))).mono ?_
      rintro e wK4 ⟨rfl, hbK4⟩
      have hSK4 := bStep hSK3 hbK4
      go_wp2_with fail
      refine hK.out _ _ (fun _ => hSK4) ?_
      clear hK K
      refine zo 13 rfl (fun K hK => ?_)
      go_simp
      obtain ⟨N14_5, wK5, hN, hw, hSK5, b14_5, lN14_5, hx⟩ := pkA hSK4
      rw [hw, hN]
      refine hK.out _ _ (fun _ => hSK5) ?_
      clear hK K hw hN hx
      refine zo 14 rfl (fun K hK => ?_)
      have cS := b14_5.cell; have fS := b14_5.frozen
      go_simp
      obtain ⟨wK6, hw, hSK6, b14_6, hx⟩ := pkS b14_5 (hSK5) lN14_5 x2
      rw [hw]
      refine hK.out _ _ (fun _ => hSK6) ?_
      clear hK K cS fS hw hx
      refine zd ?_ _
      go_wp2_with fail
      go_meet
      exact ⟨_, rfl, lN14_5, b14_6, hSK6⟩
     ·go_simp
      obtain ⟨N14_4, wK4, hN, hw, hSK4, b14_4, lN14_4, hx⟩ := pkA hSK3
      rw [hw, hN]
      refine hK.out _ _ (fun _ => hSK4) ?_
      clear hK K hw hN hx
      refine zo 12 rfl (fun K hK => ?_)
      go_simp
      refine (H_x2.out wK4 _ (HG5.out.below (hSK4)) (bc5.belowAll (hSK4))).mono ?_
      rintro e wK5 ⟨rfl, hbK5⟩
      have hSK5 := bStep hSK4 hbK5
      go_wp2_with fail
      refine hK.out _ _ (fun _ => hSK5) ?_
      clear hK K
      have b14_5 := b14_4.belowAll hbK5
      refine zo 14 rfl (fun K hK => ?_)
      have cS := b14_5.cell; have fS := b14_5.frozen
      go_simp
      obtain ⟨wK6, hw, hSK6, b14_6, hx⟩ := pkS b14_5 (hSK5) lN14_4 x2
      rw [hw]
      refine hK.out _ _ (fun _ => hSK6) ?_
      clear hK K cS fS hw hx
      refine zd ?_ _
      go_wp2_with fail
      go_meet
      exact ⟨_, rfl, lN14_4, b14_6, hSK6⟩
    ·go_simp
     obtain ⟨N14_3, wK3, hN, hw, hSK3, b14_3, lN14_3, hx⟩ := pkA hSK2
     rw [hw, hN]
     refine hK.out _ _ (fun _ => hSK3) ?_
     clear hK K hw hN hx
     refine zo 11 rfl (fun K hK => ?_)
     go_simp
     refine (H_dm.out wK3 (HG5.out.below (hSK3))).mono ?_
     rintro e wK4 ⟨rfl, hbK4⟩
     have hSK4 := bStep hSK3 hbK4
     go_wp2_with fail
     refine hK.out _ _ (fun _ => hSK4) ?_
     clear hK K
     have b14_4 := b14_3.belowAll hbK4
     refine zo 12 rfl (fun K hK => ?_)
     go_simp
     refine (H_x2.out wK4 _ (HG5.out.below (hSK4)) (bc5.belowAll (hSK4))).mono ?_
     rintro e wK5 ⟨rfl, hbK5⟩
     have hSK5 := bStep hSK4 hbK5
     go_wp2_with fail
     refine hK.out _ _ (fun _ => hSK5) ?_
     clear hK K
     have b14_5 := b14_4.belowAll hbK5
     refine zo 14 rfl (fun K hK => ?_)
     have cS := b14_5.cell; have fS := b14_5.frozen
     go_simp
     obtain ⟨wK6, hw, hSK6, b14_6, hx⟩ := pkS b14_5 (hSK5) lN14_3 x2
     rw [hw]
     refine hK.out _ _ (fun _ => hSK6) ?_
     clear hK K cS fS hw hx
     refine zd ?_ _
     go_wp2_with fail
     go_meet
     exact ⟨_, rfl, lN14_3, b14_6, hSK6⟩
   ·go_simp
    obtain ⟨N14_2, wK2, hN, hw, hSK2, b14_2, lN14_2, hx⟩ := pkA hSK1
    rw [hw, hN]
    refine hK.out _ _ (fun _ => hSK2) ?_
    clear hK K hw hN hx
    refine zo 7 rfl (fun K hK => ?_)
    go_simp
    refine (H_t1.out wK2 _ (HG5.out.below (hSK2)) (bc5.belowAll (hSK2))).mono ?_
    rintro e wK3 ⟨rfl, hbK3⟩
    have hSK3 := bStep hSK2 hbK3
    go_wp2_with fail
    refine hK.out _ _ (fun _ => hSK3) ?_
    clear hK K
    have b14_3 := b14_2.belowAll hbK3
    refine zo 11 rfl (fun K hK => ?_)
    go_simp
    refine (H_dm.out wK3 (HG5.out.below (hSK3))).mono ?_
    rintro e wK4 ⟨rfl, hbK4⟩
    have hSK4 := bStep hSK3 hbK4
    go_wp2_with fail
    refine hK.out _ _ (fun _ => hSK4) ?_
    clear hK K
    have b14_4 := b14_3.belowAll hbK4
    refine zo 12 rfl (fun K hK => ?_)
    go_simp
    refine (H_x2.out wK4 _ (HG5.out.below (hSK4)) (bc5.belowAll (hSK4))).mono ?_
    rintro e wK5 ⟨rfl, hbK5⟩
    have hSK5 := bStep hSK4 hbK5
    go_wp2_with fail
    refine hK.out _ _ (fun _ => hSK5) ?_
    clear hK K
    have b14_5 := b14_4.belowAll hbK5
    refine zo 14 rfl (fun K hK => ?_)
    have cS := b14_5.cell; have fS := b14_5.frozen
    go_simp
    obtain ⟨wK6, hw, hSK6, b14_6, hx⟩ := pkS b14_5 (hSK5) lN14_2 x2
    rw [hw]
    refine hK.out _ _ (fun _ => hSK6) ?_
    clear hK K cS fS hw hx
    refine zd ?_ _
    go_wp2_with fail
    go_meet
    exact ⟨_, rfl, lN14_2, b14_6, hSK6⟩
  ·go_simp
   obtain ⟨N14_1, wK1, hN, hw, hSK1, b14_1, lN14_1, hx⟩ := pkD w5
   rw [hw, hN]
   refine hK.out _ _ (fun _ => hSK1) ?_
   clear hK K hw hN hx
   refine zo 5 rfl (fun K hK => ?_)
   go_simp
   refine (H_rr.out wK1 _ (HG5.out.below (hSK1)) (bc5.belowAll (hSK1))).mono ?_
   rintro e wK2 ⟨rfl, hbK2⟩
   have hSK2 := bStep hSK1 hbK2
   go_wp2_with fail
   refine hK.out _ _ (fun _ => hSK2) ?_
   clear hK K
   have b14_2 := b14_1.belowAll hbK2
   refine zo 7 rfl (fun K hK => ?_)
   go_simp
   refine (H_t1.out wK2 _ (HG5.out.below (hSK2)) (bc5.belowAll (hSK2))).mono ?_
   rintro e wK3 ⟨rfl, hbK3⟩
   have hSK3 := bStep hSK2 hbK3
   go_wp2_with fail
   refine hK.out _ _ (fun _ => hSK3) ?_
   clear hK K
   have b14_3 := b14_2.belowAll hbK3
   refine zo 11 rfl (fun K hK => ?_)
   go_simp
   refine (H_dm.out wK3 (HG5.out.below (hSK3))).mono ?_
   rintro e wK4 ⟨rfl, hbK4⟩
   have hSK4 := bStep hSK3 hbK4
   go_wp2_with fail
   refine hK.out _ _ (fun _ => hSK4) ?_
   clear hK K
   have b14_4 := b14_3.belowAll hbK4
   refine zo 12 rfl (fun K hK => ?_)
   go_simp
   refine (H_x2.out wK4 _ (HG5.out.below (hSK4)) (bc5.belowAll (hSK4))).mono ?_
   rintro e wK5 ⟨rfl, hbK5⟩
   have hSK5 := bStep hSK4 hbK5
   go_wp2_with fail
   refine hK.out _ _ (fun _ => hSK5) ?_
   clear hK K
   have b14_5 := b14_4.belowAll hbK5
   refine zo 14 rfl (fun K hK => ?_)
   have cS := b14_5.cell; have fS := b14_5.frozen
   go_simp
   obtain ⟨wK6, hw, hSK6, b14_6, hx⟩ := pkS b14_5 (hSK5) lN14_1 x2
   rw [hw]
   refine hK.out _ _ (fun _ => hSK6) ?_
   clear hK K cS fS hw hx
   refine zd ?_ _
   go_wp2_with fail
   go_meet
   exact ⟨_, rfl, lN14_1, b14_6, hSK6⟩
 obtain ⟨N14, rfl, lN14, v14_6, hbx⟩ := hcut
 obtain ⟨w6, hwn⟩ : ∃ x, x = wc := ⟨_, rfl⟩
 rw [← hwn] at hbx v14_6 ⊢
 clear hwn lN14 H_rr H_t1 H_dm H_x2
 have bp6 := bp5.belowAll hbx
 have bc6 := bc5.belowAll hbx
 have bs6 := bs5.belowAll hbx
 have bn6 := bn5.belowAll hbx
 have br6 := br5.belowAll hbx
 have v11_6 := v11_5.belowAll hbx
 have v12_6 := v12_5.belowAll hbx
 have v13_6 := v13_5.belowAll hbx
 have hbw6 := bStep hbw5 hbx
 have HG6 : Hid (Glob w6) := HG5.out.below hbx
 clear bp5 bc5 bs5 bn5 br5 v11_5 v12_5 v13_5 hbw5 HG5 hbx
 go_upto_region 6 with fail
 go_cut [15] (fun p15 wx => ∃ N15 : Nat, p15 = .pointer (some ⟨N15, 0, none⟩) ∧ w6.heap.size ≤ N15 ∧ Blk wx 25 N15 (fun i => limb i y2) ∧ Below w6.heap.size w6 wx)
 case first =>
  have HS0 : Hid (Below w6.heap.size w6 w6.drew) := (Below.refl _ _).drew
  refine wp_region_Z (fun w' => Kp w6 w') 99 (by kernel_rfl) ?_
  refine zs 0 44 (.func (.func 132) #[] #[.pointer (some ⟨w.heap.size, 0, none⟩)]) (HS0.out) ?_
  refine zs 1 45 (.func (.func 131) #[] #[.pointer (some ⟨w.heap.size, 0, none⟩)]) (HS0.out) ?_
  refine zT 2 46 (.agg #[.int .u64 (limb 0 rs), .int .u64 (limb 1 rs), .int .u64 (limb 2 rs), .int .u64 (limb 3 rs)]) rfl rfl (fun w hSw => by (have qq := (bs6.belowAll hSw).cell; clear hSw; go_simp)) (HS0.out) ?_
  refine zs 3 47 (.func (.func 132) #[] #[.pointer (some ⟨w.heap.size, 0, none⟩)]) (HS0.out) ?_
  refine zT 4 48 (.agg #[.int .u64 (limb 0 mi), .int .u64 (limb 1 mi), .int .u64 (limb 2 mi), .int .u64 (limb 3 mi)]) rfl rfl (fun w hSw => by (have qq := (v13_6.belowAll hSw).cell; clear hSw; go_simp)) (HS0.out) ?_
  refine zT 5 49 (.agg #[.int .u64 (limb 0 x2), .int .u64 (limb 1 x2), .int .u64 (limb 2 x2), .int .u64 (limb 3 x2)]) rfl rfl (fun w hSw => by (have qq := (v14_6.belowAll hSw).cell; clear hSw; go_simp)) (HS0.out) ?_
  refine zs 8 52 (.func (.func 131) #[] #[.pointer (some ⟨w.heap.size, 0, none⟩)]) (HS0.out) ?_
  refine zs 9 53 (.pointer (some ⟨(w.heap.size + 1), 4, none⟩)) (HS0.out) ?_
  refine zT 10 54 (.agg #[.int .u64 (limb 0 Y), .int .u64 (limb 1 Y), .int .u64 (limb 2 Y), .int .u64 (limb 3 Y)]) rfl rfl (fun w hSw => by (obtain ⟨q0, q1, q2, q3, q4, q5, q6, q7, q8, q9, q10, q11, qf⟩ := (bp6.belowAll hSw).cells; clear hSw; go_simp)) (HS0.out) ?_
  refine zT 11 55 (.agg #[.int .u64 (limb 0 cu), .int .u64 (limb 1 cu), .int .u64 (limb 2 cu), .int .u64 (limb 3 cu)]) rfl rfl (fun w hSw => by (have qq := (v12_6.belowAll hSw).cell; clear hSw; go_simp)) (HS0.out) ?_
  refine zw 6 14 rfl rfl (fun K hK => ?_) (fun K hK => ?_) 
  ·go_simp
   refine (H_sm.out w6.drew _ (HG6.out.below (HS0.out)) (bc6.belowAll (HS0.out))).mono ?_
   rintro e wK1 ⟨rfl, hbK1⟩
   have hSK1 := bStep HS0.out hbK1
   go_wp2_with fail
   refine hK.out _ _ (fun _ => hSK1) ?_
   clear hK K
   refine zw 7 14 rfl rfl (fun K hK => ?_) (fun K hK => ?_) 
   ·go_simp
    refine (H_t2.out wK1 _ (HG6.out.below (hSK1)) (bc6.belowAll (hSK1))).mono ?_
    rintro e wK2 ⟨rfl, hbK2⟩
    have hSK2 := bStep hSK1 hbK2
    go_wp2_with fail
    refine hK.out _ _ (fun _ => hSK2) ?_
    clear hK K
    refine zw 12 14 rfl rfl (fun K hK => ?_) (fun K hK => ?_) 
    ·go_simp
     refine (H_yc.out wK2 _ (HG6.out.below (hSK2)) (bc6.belowAll (hSK2))).mono ?_
     rintro e wK3 ⟨rfl, hbK3⟩
     have hSK3 := bStep hSK2 hbK3
     go_wp2_with fail
     refine hK.out _ _ (fun _ => hSK3) ?_
     clear hK K
     refine zw 13 14 rfl rfl (fun K hK => ?_) (fun K hK => ?_) 
     ·go_simp
      refine (H_y2.out wK3 _ (HG6.out.below (hSK3)) (bc6.belowAll (hSK3))).mono ?_
      rintro e wK4 ⟨rfl, hbK4⟩
      have hSK4 := bStep hSK3 hbK4
      go_wp2_with fail
      refine hK.out _ _ (fun _ => hSK4) ?_
      clear hK K
      refine zo 14 rfl (fun K hK => ?_)
      go_simp
      obtain ⟨N15_5, wK5, hN, hw, hSK5, b15_5, lN15_5, hx⟩ := pkA hSK4
      rw [hw, hN]
      refine hK.out _ _ (fun _ => hSK5) ?_
      clear hK K hw hN hx
      refine zo 15 rfl (fun K hK => ?_)
      have cS := b15_5.cell; have fS := b15_5.frozen
      go_simp
      obtain ⟨wK6, hw, hSK6, b15_6, hx⟩ := pkS b15_5 (hSK5) lN15_5 y2
      rw [hw]
      refine hK.out _ _ (fun _ => hSK6) ?_
      clear hK K cS fS hw hx
      refine zd ?_ _
      go_wp2_with fail
      go_meet
      exact ⟨_, rfl, lN15_5, b15_6, hSK6⟩
     ·go_simp
      obtain ⟨N15_4, wK4, hN, hw, hSK4, b15_4, lN15_4, hx⟩ := pkA hSK3
      rw [hw, hN]
      refine hK.out _ _ (fun _ => hSK4) ?_
      clear hK K hw hN hx
      refine zo 13 rfl (fun K hK => ?_)
      go_simp
      refine (H_y2.out wK4 _ (HG6.out.below (hSK4)) (bc6.belowAll (hSK4))).mono ?_
      rintro e wK5 ⟨rfl, hbK5⟩
      have hSK5 := bStep hSK4 hbK5
      go_wp2_with fail
      refine hK.out _ _ (fun _ => hSK5) ?_
      clear hK K
      have b15_5 := b15_4.belowAll hbK5
      refine zo 15 rfl (fun K hK => ?_)
      have cS := b15_5.cell; have fS := b15_5.frozen
      go_simp
      obtain ⟨wK6, hw, hSK6, b15_6, hx⟩ := pkS b15_5 (hSK5) lN15_4 y2
      rw [hw]
      refine hK.out _ _ (fun _ => hSK6) ?_
      clear hK K cS fS hw hx
      refine zd ?_ _
      go_wp2_with fail
      go_meet
      exact ⟨_, rfl, lN15_4, b15_6, hSK6⟩
    ·go_simp
     obtain ⟨N15_3, wK3, hN, hw, hSK3, b15_3, lN15_3, hx⟩ := pkA hSK2
     rw [hw, hN]
     refine hK.out _ _ (fun _ => hSK3) ?_
     clear hK K hw hN hx
     refine zo 12 rfl (fun K hK => ?_)
     go_simp
     refine (H_yc.out wK3 _ (HG6.out.below (hSK3)) (bc6.belowAll (hSK3))).mono ?_
     rintro e wK4 ⟨rfl, hbK4⟩
     have hSK4 := bStep hSK3 hbK4
     go_wp2_with fail
     refine hK.out _ _ (fun _ => hSK4) ?_
     clear hK K
     have b15_4 := b15_3.belowAll hbK4
     refine zo 13 rfl (fun K hK => ?_)
     go_simp
     refine (H_y2.out wK4 _ (HG6.out.below (hSK4)) (bc6.belowAll (hSK4))).mono ?_
     rintro e wK5 ⟨rfl, hbK5⟩
     have hSK5 := bStep hSK4 hbK5
     go_wp2_with fail
     refine hK.out _ _ (fun _ => hSK5) ?_
     clear hK K
     have b15_5 := b15_4.belowAll hbK5
     refine zo 15 rfl (fun K hK => ?_)
     have cS := b15_5.cell; have fS := b15_5.frozen
     go_simp
     obtain ⟨wK6, hw, hSK6, b15_6, hx⟩ := pkS b15_5 (hSK5) lN15_3 y2
     rw [hw]
     refine hK.out _ _ (fun _ => hSK6) ?_
     clear hK K cS fS hw hx
     refine zd ?_ _
     go_wp2_with fail
     go_meet
     exact ⟨_, rfl, lN15_3, b15_6, hSK6⟩
   ·go_simp
    obtain ⟨N15_2, wK2, hN, hw, hSK2, b15_2, lN15_2, hx⟩ := pkA hSK1
    rw [hw, hN]
    refine hK.out _ _ (fun _ => hSK2) ?_
    clear hK K hw hN hx
    refine zo 7 rfl (fun K hK => ?_)
    go_simp
    refine (H_t2.out wK2 _ (HG6.out.below (hSK2)) (bc6.belowAll (hSK2))).mono ?_
    rintro e wK3 ⟨rfl, hbK3⟩
    have hSK3 := bStep hSK2 hbK3
    go_wp2_with fail
    refine hK.out _ _ (fun _ => hSK3) ?_
    clear hK K
    have b15_3 := b15_2.belowAll hbK3
    refine zo 12 rfl (fun K hK => ?_)
    go_simp
    refine (H_yc.out wK3 _ (HG6.out.below (hSK3)) (bc6.belowAll (hSK3))).mono ?_
    rintro e wK4 ⟨rfl, hbK4⟩
    have hSK4 := bStep hSK3 hbK4
    go_wp2_with fail
    refine hK.out _ _ (fun _ => hSK4) ?_
    clear hK K
    have b15_4 := b15_3.belowAll hbK4
    refine zo 13 rfl (fun K hK => ?_)
    go_simp
    refine (H_y2.out wK4 _ (HG6.out.below (hSK4)) (bc6.belowAll (hSK4))).mono ?_
    rintro e wK5 ⟨rfl, hbK5⟩
    have hSK5 := bStep hSK4 hbK5
    go_wp2_with fail
    refine hK.out _ _ (fun _ => hSK5) ?_
    clear hK K
    have b15_5 := b15_4.belowAll hbK5
    refine zo 15 rfl (fun K hK => ?_)
    have cS := b15_5.cell; have fS := b15_5.frozen
    go_simp
    obtain ⟨wK6, hw, hSK6, b15_6, hx⟩ := pkS b15_5 (hSK5) lN15_2 y2
    rw [hw]
    refine hK.out _ _ (fun _ => hSK6) ?_
    clear hK K cS fS hw hx
    refine zd ?_ _
    go_wp2_with fail
    go_meet
    exact ⟨_, rfl, lN15_2, b15_6, hSK6⟩
  ·go_simp
   obtain ⟨N15_1, wK1, hN, hw, hSK1, b15_1, lN15_1, hx⟩ := pkD w6
   rw [hw, hN]
   refine hK.out _ _ (fun _ => hSK1) ?_
   clear hK K hw hN hx
   refine zo 6 rfl (fun K hK => ?_)
   go_simp
   refine (H_sm.out wK1 _ (HG6.out.below (hSK1)) (bc6.belowAll (hSK1))).mono ?_
   rintro e wK2 ⟨rfl, hbK2⟩
   have hSK2 := bStep hSK1 hbK2
   go_wp2_with fail
   refine hK.out _ _ (fun _ => hSK2) ?_
   clear hK K
   have b15_2 := b15_1.belowAll hbK2
   refine zo 7 rfl (fun K hK => ?_)
   go_simp
   refine (H_t2.out wK2 _ (HG6.out.below (hSK2)) (bc6.belowAll (hSK2))).mono ?_
   rintro e wK3 ⟨rfl, hbK3⟩
   have hSK3 := bStep hSK2 hbK3
   go_wp2_with fail
   refine hK.out _ _ (fun _ => hSK3) ?_
   clear hK K
   have b15_3 := b15_2.belowAll hbK3
   refine zo 12 rfl (fun K hK => ?_)
   go_simp
   refine (H_yc.out wK3 _ (HG6.out.below (hSK3)) (bc6.belowAll (hSK3))).mono ?_
   rintro e wK4 ⟨rfl, hbK4⟩
   have hSK4 := bStep hSK3 hbK4
   go_wp2_with fail
   refine hK.out _ _ (fun _ => hSK4) ?_
   clear hK K
   have b15_4 := b15_3.belowAll hbK4
   refine zo 13 rfl (fun K hK => ?_)
   go_simp
   refine (H_y2.out wK4 _ (HG6.out.below (hSK4)) (bc6.belowAll (hSK4))).mono ?_
   rintro e wK5 ⟨rfl, hbK5⟩
   have hSK5 := bStep hSK4 hbK5
   go_wp2_with fail
   refine hK.out _ _ (fun _ => hSK5) ?_
   clear hK K
   have b15_5 := b15_4.belowAll hbK5
   refine zo 15 rfl (fun K hK => ?_)
   have cS := b15_5.cell; have fS := b15_5.frozen
   go_simp
   obtain ⟨wK6, hw, hSK6, b15_6, hx⟩ := pkS b15_5 (hSK5) lN15_1 y2
   rw [hw]
   refine hK.out _ _ (fun _ => hSK6) ?_
   clear hK K cS fS hw hx
   refine zd ?_ _
   go_wp2_with fail
   go_meet
   exact ⟨_, rfl, lN15_1, b15_6, hSK6⟩
 obtain ⟨N15, rfl, lN15, v15_7, hbx⟩ := hcut
 obtain ⟨w7, hwn⟩ : ∃ x, x = wc := ⟨_, rfl⟩
 rw [← hwn] at hbx v15_7 ⊢
 clear hwn lN15 H_sm H_t2 H_yc H_y2
 have bp7 := bp6.belowAll hbx
 have bc7 := bc6.belowAll hbx
 have bs7 := bs6.belowAll hbx
 have bn7 := bn6.belowAll hbx
 have br7 := br6.belowAll hbx
 have v11_7 := v11_6.belowAll hbx
 have v12_7 := v12_6.belowAll hbx
 have v13_7 := v13_6.belowAll hbx
 have v14_7 := v14_6.belowAll hbx
 have hbw7 := bStep hbw6 hbx
 have HG7 : Hid (Glob w7) := HG6.out.below hbx
 clear bp6 bc6 bs6 bn6 br6 v11_6 v12_6 v13_6 v14_6 hbw6 HG6 hbx
 go_upto_region 7 with fail
 have HS0 : Hid (Below w7.heap.size w7 w7.drew) := (Below.refl _ _).drew
 refine wp_region_Z (fun w' => Below w7.heap.size w7 w') 8 (by kernel_rfl) ?_
 refine zT 0 58 (.agg #[.int .u64 (limb 0 x2), .int .u64 (limb 1 x2), .int .u64 (limb 2 x2), .int .u64 (limb 3 x2)]) rfl rfl (fun w hSw => by (have qq := (v14_7.belowAll hSw).cell; clear hSw; go_simp)) HS0.out ?_
 refine zT 1 59 (.agg #[.int .u64 (limb 0 y2), .int .u64 (limb 1 y2), .int .u64 (limb 2 y2), .int .u64 (limb 3 y2)]) rfl rfl (fun w hSw => by (have qq := (v15_7.belowAll hSw).cell; clear hSw; go_simp)) HS0.out ?_
 refine zs 2 60 (.func (.func 131) #[] #[.pointer (some ⟨w.heap.size, 0, none⟩)]) HS0.out ?_
 refine zs 3 61 (.pointer (some ⟨(w.heap.size + 1), 8, none⟩)) HS0.out ?_
 refine zT 4 62 (.agg #[.int .u64 (limb 0 Z), .int .u64 (limb 1 Z), .int .u64 (limb 2 Z), .int .u64 (limb 3 Z)]) rfl rfl (fun w hSw => by (obtain ⟨q0, q1, q2, q3, q4, q5, q6, q7, q8, q9, q10, q11, qf⟩ := (bp7.belowAll hSw).cells; clear hSw; go_simp)) HS0.out ?_
 refine zT 5 63 (.agg #[.int .u64 (limb 0 rn), .int .u64 (limb 1 rn), .int .u64 (limb 2 rn), .int .u64 (limb 3 rn)]) rfl rfl (fun w hSw => by (have qq := (bn7.belowAll hSw).cell; clear hSw; go_simp)) HS0.out ?_
 refine zo 6 rfl (fun K hK => ?_)
 go_simp
 refine (H_z2.out w7.drew _ (HG7.out.below (HS0.out)) (bc7.belowAll (HS0.out))).mono ?_
 rintro e wK1 ⟨rfl, hbK1⟩
 have hSK1 := bStep HS0.out hbK1
 go_wp2_with fail
 refine hK.out _ _ (fun _ => hSK1) ?_
 clear hK K
 refine zs 7 65 (.agg #[.int .u64 (limb 0 x2), .int .u64 (limb 1 x2), .int .u64 (limb 2 x2), .int .u64 (limb 3 x2), .int .u64 (limb 0 y2), .int .u64 (limb 1 y2), .int .u64 (limb 2 y2), .int .u64 (limb 3 y2), .int .u64 (limb 0 z2), .int .u64 (limb 1 z2), .int .u64 (limb 2 z2), .int .u64 (limb 3 z2)]) hSK1 ?_
 refine zo 8 rfl (fun K hK => ?_)
 obtain ⟨r0, r1, r2, r3, r4, r5, r6, r7, r8, r9, r10, r11, rf⟩ := (br7.belowAll (hSK1)).cells
 go_simp
 refine hK.out _ _ (fun h => absurd rfl h) ?_
 clear hK K
 refine zd ?_ _
 go_wp2
 refine bodyPost_ret (v := .agg #[.int .u64 (limb 0 x2), .int .u64 (limb 1 x2), .int .u64 (limb 2 x2), .int .u64 (limb 3 x2), .int .u64 (limb 0 y2), .int .u64 (limb 1 y2), .int .u64 (limb 2 y2), .int .u64 (limb 3 y2), .int .u64 (limb 0 z2), .int .u64 (limb 1 z2), .int .u64 (limb 2 z2), .int .u64 (limb 3 z2)]) (by simp [results, Tryz.results113, go_sem, r0, r1, r2, r3, r4, r5, r6, r7, r8, r9, r10, r11]) rfl ⟨rfl, ?_⟩
 exact bSet12 (bStep hbw7 (hSK1)) hrw _ _ _ _ _ _ _ _ _ _ _ _
end Go.Proofs.YtdeijnlbencfdaaGreatDoor
