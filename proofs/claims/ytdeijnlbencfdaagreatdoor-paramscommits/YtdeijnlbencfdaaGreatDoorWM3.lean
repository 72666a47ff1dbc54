import Derived.Test.YtdeijnlbencfdaaGreatDoorWM2
import Derived.Test.YtdeijnlbencfdaaGreatDoorWMA
import Derived.Laws.EntriesVeiled
namespace Go.Proofs.YtdeijnlbencfdaaGreatDoor
open Go.RowKit
set_option maxHeartbeats 16000000 in
set_option maxRecDepth 20000 in
theorem twice_fin (c X Y Z : Nat) (hc : c < 4) (hX : X < 115792089237316195423570985008687907853269984665640564039457584007913129639936) (hY : Y < 115792089237316195423570985008687907853269984665640564039457584007913129639936) (hZ : Z < 115792089237316195423570985008687907853269984665640564039457584007913129639936) (h0 : Z ≠ 0) (w : World) (hg : Glob w) :
  Calls Tryz.prog 70 #[.agg #[.int .u64 (limb 0 X), .int .u64 (limb 1 X), .int .u64 (limb 2 X), .int .u64 (limb 3 X), .int .u64 (limb 0 Y), .int .u64 (limb 1 Y), .int .u64 (limb 2 Y), .int .u64 (limb 3 Y), .int .u64 (limb 0 Z), .int .u64 (limb 1 Z), .int .u64 (limb 2 Z), .int .u64 (limb 3 Z)], .int .i64 (c : Int)] w fun e w' => e = .returned (.agg #[.int .u64 (limb 0 ((jX2 c X Y))), .int .u64 (limb 1 ((jX2 c X Y))), .int .u64 (limb 2 ((jX2 c X Y))), .int .u64 (limb 3 ((jX2 c X Y))), .int .u64 (limb 0 ((jY2 c X Y))), .int .u64 (limb 1 ((jY2 c X Y))), .int .u64 (limb 2 ((jY2 c X Y))), .int .u64 (limb 3 ((jY2 c X Y))), .int .u64 (limb 0 ((jZ2 c Y Z))), .int .u64 (limb 1 ((jZ2 c Y Z))), .int .u64 (limb 2 ((jZ2 c Y Z))), .int .u64 (limb 3 ((jZ2 c Y Z)))]) ∧ Below w.heap.size w w' := by
 have HG0 : Hid (Glob w) := hg
 have HIF : Hid (∀ w, _) := fun w => isInf_any X Y Z hZ w
 rw [decide_eq_false h0] at HIF
 obtain ⟨xx, e_xx⟩ : ∃ z, z = mulP c X X := ⟨_, rfl⟩
 have l_xx : xx < 115792089237316195423570985008687907853269984665640564039457584007913129639936 := by rw [e_xx]; exact mulP_M _ _ _
 obtain ⟨yy, e_yy⟩ : ∃ z, z = mulP c Y Y := ⟨_, rfl⟩
 have l_yy : yy < 115792089237316195423570985008687907853269984665640564039457584007913129639936 := by rw [e_yy]; exact mulP_M _ _ _
 obtain ⟨d1, e_d1⟩ : ∃ z, z = addP c xx xx := ⟨_, rfl⟩
 have l_d1 : d1 < 115792089237316195423570985008687907853269984665640564039457584007913129639936 := by rw [e_d1]; exact addP_M _ _ _
 obtain ⟨ri, e_ri⟩ : ∃ z, z = addP c xx d1 := ⟨_, rfl⟩
 have l_ri : ri < 115792089237316195423570985008687907853269984665640564039457584007913129639936 := by rw [e_ri]; exact addP_M _ _ _
 obtain ⟨m1, e_m1⟩ : ∃ z, z = mulP c X yy := ⟨_, rfl⟩
 have l_m1 : m1 < 115792089237316195423570985008687907853269984665640564039457584007913129639936 := by rw [e_m1]; exact mulP_M _ _ _
 obtain ⟨m2, e_m2⟩ : ∃ z, z = addP c m1 m1 := ⟨_, rfl⟩
 have l_m2 : m2 < 115792089237316195423570985008687907853269984665640564039457584007913129639936 := by rw [e_m2]; exact addP_M _ _ _
 obtain ⟨mi, e_mi⟩ : ∃ z, z = addP c m2 m2 := ⟨_, rfl⟩
 have l_mi : mi < 115792089237316195423570985008687907853269984665640564039457584007913129639936 := by rw [e_mi]; exact addP_M _ _ _
 obtain ⟨rr, e_rr⟩ : ∃ z, z = mulP c ri ri := ⟨_, rfl⟩
 have l_rr : rr < 115792089237316195423570985008687907853269984665640564039457584007913129639936 := by rw [e_rr]; exact mulP_M _ _ _
 obtain ⟨dm, e_dm⟩ : ∃ z, z = addP c mi mi := ⟨_, rfl⟩
 have l_dm : dm < 115792089237316195423570985008687907853269984665640564039457584007913129639936 := by rw [e_dm]; exact addP_M _ _ _
 obtain ⟨x2, e_x2⟩ : ∃ z, z = subP c rr dm := ⟨_, rfl⟩
 have l_x2 : x2 < 115792089237316195423570985008687907853269984665640564039457584007913129639936 := by rw [e_x2]; exact subP_M _ _ _
 obtain ⟨sm, e_sm⟩ : ∃ z, z = subP c mi x2 := ⟨_, rfl⟩
 have l_sm : sm < 115792089237316195423570985008687907853269984665640564039457584007913129639936 := by rw [e_sm]; exact subP_M _ _ _
 obtain ⟨rs, e_rs⟩ : ∃ z, z = mulP c ri sm := ⟨_, rfl⟩
 have l_rs : rs < 115792089237316195423570985008687907853269984665640564039457584007913129639936 := by rw [e_rs]; exact mulP_M _ _ _
 obtain ⟨y4, e_y4⟩ : ∃ z, z = mulP c yy yy := ⟨_, rfl⟩
 have l_y4 : y4 < 115792089237316195423570985008687907853269984665640564039457584007913129639936 := by rw [e_y4]; exact mulP_M _ _ _
 obtain ⟨f1, e_f1⟩ : ∃ z, z = addP c y4 y4 := ⟨_, rfl⟩
 have l_f1 : f1 < 115792089237316195423570985008687907853269984665640564039457584007913129639936 := by rw [e_f1]; exact addP_M _ _ _
 obtain ⟨f2, e_f2⟩ : ∃ z, z = addP c f1 f1 := ⟨_, rfl⟩
 have l_f2 : f2 < 115792089237316195423570985008687907853269984665640564039457584007913129639936 := by rw [e_f2]; exact addP_M _ _ _
 obtain ⟨f3, e_f3⟩ : ∃ z, z = addP c f2 f2 := ⟨_, rfl⟩
 have l_f3 : f3 < 115792089237316195423570985008687907853269984665640564039457584007913129639936 := by rw [e_f3]; exact addP_M _ _ _
 obtain ⟨y2, e_y2⟩ : ∃ z, z = subP c rs f3 := ⟨_, rfl⟩
 have l_y2 : y2 < 115792089237316195423570985008687907853269984665640564039457584007913129639936 := by rw [e_y2]; exact subP_M _ _ _
 obtain ⟨yz, e_yz⟩ : ∃ z, z = mulP c Y Z := ⟨_, rfl⟩
 have l_yz : yz < 115792089237316195423570985008687907853269984665640564039457584007913129639936 := by rw [e_yz]; exact mulP_M _ _ _
 obtain ⟨z2, e_z2⟩ : ∃ z, z = addP c yz yz := ⟨_, rfl⟩
 have l_z2 : z2 < 115792089237316195423570985008687907853269984665640564039457584007913129639936 := by rw [e_z2]; exact addP_M _ _ _
 have H_xx : Hid (∀ (w : World) (B : Nat), Glob w → One w 3 B (.int .i64 (c : Int)) → Calls Tryz.prog 108 #[.agg #[.int .u64 (limb 0 X), .int .u64 (limb 1 X), .int .u64 (limb 2 X), .int .u64 (limb 3 X)], .agg #[.int .u64 (limb 0 X), .int .u64 (limb 1 X), .int .u64 (limb 2 X), .int .u64 (limb 3 X)], .pointer (some ⟨B, 0, none⟩)] w fun e w' => e = .returned (.agg #[.int .u64 (limb 0 xx), .int .u64 (limb 1 xx), .int .u64 (limb 2 xx), .int .u64 (limb 3 xx)]) ∧ Below w.heap.size w w') := fun w B hg h1 => by rw [e_xx]; exact tMul c X X B hc hX hX w hg h1
 have H_yy : Hid (∀ (w : World) (B : Nat), Glob w → One w 3 B (.int .i64 (c : Int)) → Calls Tryz.prog 108 #[.agg #[.int .u64 (limb 0 Y), .int .u64 (limb 1 Y), .int .u64 (limb 2 Y), .int .u64 (limb 3 Y)], .agg #[.int .u64 (limb 0 Y), .int .u64 (limb 1 Y), .int .u64 (limb 2 Y), .int .u64 (limb 3 Y)], .pointer (some ⟨B, 0, none⟩)] w fun e w' => e = .returned (.agg #[.int .u64 (limb 0 yy), .int .u64 (limb 1 yy), .int .u64 (limb 2 yy), .int .u64 (limb 3 yy)]) ∧ Below w.heap.size w w') := fun w B hg h1 => by rw [e_yy]; exact tMul c Y Y B hc hY hY w hg h1
 have H_d1 : Hid (∀ (w : World) (B D : Nat), Glob w → One w 3 B (.int .i64 (c : Int)) → One w 105 D (.func (.func 109) #[] #[.pointer (some ⟨B, 0, none⟩)]) → Calls Tryz.prog 111 #[.agg #[.int .u64 (limb 0 xx), .int .u64 (limb 1 xx), .int .u64 (limb 2 xx), .int .u64 (limb 3 xx)], .pointer (some ⟨D, 0, none⟩)] w fun e w' => e = .returned (.agg #[.int .u64 (limb 0 d1), .int .u64 (limb 1 d1), .int .u64 (limb 2 d1), .int .u64 (limb 3 d1)]) ∧ Below w.heap.size w w') := fun w B D hg h1 h2 => by rw [e_d1]; exact tDbl c xx B D hc l_xx w hg h1 h2
 have H_ri : Hid (∀ (w : World) (B : Nat), Glob w → One w 3 B (.int .i64 (c : Int)) → Calls Tryz.prog 109 #[.agg #[.int .u64 (limb 0 xx), .int .u64 (limb 1 xx), .int .u64 (limb 2 xx), .int .u64 (limb 3 xx)], .agg #[.int .u64 (limb 0 d1), .int .u64 (limb 1 d1), .int .u64 (limb 2 d1), .int .u64 (limb 3 d1)], .pointer (some ⟨B, 0, none⟩)] w fun e w' => e = .returned (.agg #[.int .u64 (limb 0 ri), .int .u64 (limb 1 ri), .int .u64 (limb 2 ri), .int .u64 (limb 3 ri)]) ∧ Below w.heap.size w w') := fun w B hg h1 => by rw [e_ri]; exact tAdd c xx d1 B hc l_xx l_d1 w hg h1
 have H_m1 : Hid (∀ (w : World) (B : Nat), Glob w → One w 3 B (.int .i64 (c : Int)) → Calls Tryz.prog 108 #[.agg #[.int .u64 (limb 0 X), .int .u64 (limb 1 X), .int .u64 (limb 2 X), .int .u64 (limb 3 X)], .agg #[.int .u64 (limb 0 yy), .int .u64 (limb 1 yy), .int .u64 (limb 2 yy), .int .u64 (limb 3 yy)], .pointer (some ⟨B, 0, none⟩)] w fun e w' => e = .returned (.agg #[.int .u64 (limb 0 m1), .int .u64 (limb 1 m1), .int .u64 (limb 2 m1), .int .u64 (limb 3 m1)]) ∧ Below w.heap.size w w') := fun w B hg h1 => by rw [e_m1]; exact tMul c X yy B hc hX l_yy w hg h1
 have H_m2 : Hid (∀ (w : World) (B D : Nat), Glob w → One w 3 B (.int .i64 (c : Int)) → One w 105 D (.func (.func 109) #[] #[.pointer (some ⟨B, 0, none⟩)]) → Calls Tryz.prog 111 #[.agg #[.int .u64 (limb 0 m1), .int .u64 (limb 1 m1), .int .u64 (limb 2 m1), .int .u64 (limb 3 m1)], .pointer (some ⟨D, 0, none⟩)] w fun e w' => e = .returned (.agg #[.int .u64 (limb 0 m2), .int .u64 (limb 1 m2), .int .u64 (limb 2 m2), .int .u64 (limb 3 m2)]) ∧ Below w.heap.size w w') := fun w B D hg h1 h2 => by rw [e_m2]; exact tDbl c m1 B D hc l_m1 w hg h1 h2
 have H_mi : Hid (∀ (w : World) (B D : Nat), Glob w → One w 3 B (.int .i64 (c : Int)) → One w 105 D (.func (.func 109) #[] #[.pointer (some ⟨B, 0, none⟩)]) → Calls Tryz.prog 111 #[.agg #[.int .u64 (limb 0 m2), .int .u64 (limb 1 m2), .int .u64 (limb 2 m2), .int .u64 (limb 3 m2)], .pointer (some ⟨D, 0, none⟩)] w fun e w' => e = .returned (.agg #[.int .u64 (limb 0 mi), .int .u64 (limb 1 mi), .int .u64 (limb 2 mi), .int .u64 (limb 3 mi)]) ∧ Below w.heap.size w w') := fun w B D hg h1 h2 => by rw [e_mi]; exact tDbl c m2 B D hc l_m2 w hg h1 h2
 have H_rr : Hid (∀ (w : World) (B : Nat), Glob w → One w 3 B (.int .i64 (c : Int)) → Calls Tryz.prog 108 #[.agg #[.int .u64 (limb 0 ri), .int .u64 (limb 1 ri), .int .u64 (limb 2 ri), .int .u64 (limb 3 ri)], .agg #[.int .u64 (limb 0 ri), .int .u64 (limb 1 ri), .int .u64 (limb 2 ri), .int .u64 (limb 3 ri)], .pointer (some ⟨B, 0, none⟩)] w fun e w' => e = .returned (.agg #[.int .u64 (limb 0 rr), .int .u64 (limb 1 rr), .int .u64 (limb 2 rr), .int .u64 (limb 3 rr)]) ∧ Below w.heap.size w w') := fun w B hg h1 => by rw [e_rr]; exact tMul c ri ri B hc l_ri l_ri w hg h1
 have H_dm : Hid (∀ (w : World) (B D : Nat), Glob w → One w 3 B (.int .i64 (c : Int)) → One w 105 D (.func (.func 109) #[] #[.pointer (some ⟨B, 0, none⟩)]) → Calls Tryz.prog 111 #[.agg #[.int .u64 (limb 0 mi), .int .u64 (limb 1 mi), .int .u64 (limb 2 mi), .int .u64 (limb 3 mi)], .pointer (some ⟨D, 0, none⟩)] w fun e w' => e = .returned (.agg #[.int .u64 (limb 0 dm), .int .u64 (limb 1 dm), .int .u64 (limb 2 dm), .int .u64 (limb 3 dm)]) ∧ Below w.heap.size w w') := fun w B D hg h1 h2 => by rw [e_dm]; exact tDbl c mi B D hc l_mi w hg h1 h2
 have H_x2 : Hid (∀ (w : World) (B : Nat), Glob w → One w 3 B (.int .i64 (c : Int)) → Calls Tryz.prog 110 #[.agg #[.int .u64 (limb 0 rr), .int .u64 (limb 1 rr), .int .u64 (limb 2 rr), .int .u64 (limb 3 rr)], .agg #[.int .u64 (limb 0 dm), .int .u64 (limb 1 dm), .int .u64 (limb 2 dm), .int .u64 (limb 3 dm)], .pointer (some ⟨B, 0, none⟩)] w fun e w' => e = .returned (.agg #[.int .u64 (limb 0 x2), .int .u64 (limb 1 x2), .int .u64 (limb 2 x2), .int .u64 (limb 3 x2)]) ∧ Below w.heap.size w w') := fun w B hg h1 => by rw [e_x2]; exact tSub c rr dm B hc l_rr l_dm w hg h1
 have H_sm : Hid (∀ (w : World) (B : Nat), Glob w → One w 3 B (.int .i64 (c : Int)) → Calls Tryz.prog 110 #[.agg #[.int .u64 (limb 0 mi), .int .u64 (limb 1 mi), .int .u64 (limb 2 mi), .int .u64 (limb 3 mi)], .agg #[.int .u64 (limb 0 x2), .int .u64 (limb 1 x2), .int .u64 (limb 2 x2), .int .u64 (limb 3 x2)], .pointer (some ⟨B, 0, none⟩)] w fun e w' => e = .returned (.agg #[.int .u64 (limb 0 sm), .int .u64 (limb 1 sm), .int .u64 (limb 2 sm), .int .u64 (limb 3 sm)]) ∧ Below w.heap.size w w') := fun w B hg h1 => by rw [e_sm]; exact tSub c mi x2 B hc l_mi l_x2 w hg h1
 have H_rs : Hid (∀ (w : World) (B : Nat), Glob w → One w 3 B (.int .i64 (c : Int)) → Calls Tryz.prog 108 #[.agg #[.int .u64 (limb 0 ri), .int .u64 (limb 1 ri), .int .u64 (limb 2 ri), .int .u64 (limb 3 ri)], .agg #[.int .u64 (limb 0 sm), .int .u64 (limb 1 sm), .int .u64 (limb 2 sm), .int .u64 (limb 3 sm)], .pointer (some ⟨B, 0, none⟩)] w fun e w' => e = .returned (.agg #[.int .u64 (limb 0 rs), .int .u64 (limb 1 rs), .int .u64 (limb 2 rs), .int .u64 (limb 3 rs)]) ∧ Below w.heap.size w w') := fun w B hg h1 => by rw [e_rs]; exact tMul c ri sm B hc l_ri l_sm w hg h1
 have H_y4 : Hid (∀ (w : World) (B : Nat), Glob w → One w 3 B (.int .i64 (c : Int)) → Calls Tryz.prog 108 #[.agg #[.int .u64 (limb 0 yy), .int .u64 (limb 1 yy), .int .u64 (limb 2 yy), .int .u64 (limb 3 yy)], .agg #[.int .u64 (limb 0 yy), .int .u64 (limb 1 yy), .int .u64 (limb 2 yy), .int .u64 (limb 3 yy)], .pointer (some ⟨B, 0, none⟩)] w fun e w' => e = .returned (.agg #[.int .u64 (limb 0 y4), .int .u64 (limb 1 y4), .int .u64 (limb 2 y4), .int .u64 (limb 3 y4)]) ∧ Below w.heap.size w w') := fun w B hg h1 => by rw [e_y4]; exact tMul c yy yy B hc l_yy l_yy w hg h1
 have H_f1 : Hid (∀ (w : World) (B D : Nat), Glob w → One w 3 B (.int .i64 (c : Int)) → One w 105 D (.func (.func 109) #[] #[.pointer (some ⟨B, 0, none⟩)]) → Calls Tryz.prog 111 #[.agg #[.int .u64 (limb 0 y4), .int .u64 (limb 1 y4), .int .u64 (limb 2 y4), .int .u64 (limb 3 y4)], .pointer (some ⟨D, 0, none⟩)] w fun e w' => e = .returned (.agg #[.int .u64 (limb 0 f1), .int .u64 (limb 1 f1), .int .u64 (limb 2 f1), .int .u64 (limb 3 f1)]) ∧ Below w.heap.size w w') := fun w B D hg h1 h2 => by rw [e_f1]; exact tDbl c y4 B D hc l_y4 w hg h1 h2
 have H_f2 : Hid (∀ (w : World) (B D : Nat), Glob w → One w 3 B (.int .i64 (c : Int)) → One w 105 D (.func (.func 109) #[] #[.pointer (some ⟨B, 0, none⟩)]) → Calls Tryz.prog 111 #[.agg #[.int .u64 (limb 0 f1), .int .u64 (limb 1 f1), .int .u64 (limb 2 f1), .int .u64 (limb 3 f1)], .pointer (some ⟨D, 0, none⟩)] w fun e w' => e = .returned (.agg #[.int .u64 (limb 0 f2), .int .u64 (limb 1 f2), .int .u64 (limb 2 f2), .int .u64 (limb 3 f2)]) ∧ Below w.heap.size w w') := fun w B D hg h1 h2 => by rw [e_f2]; exact tDbl c f1 B D hc l_f1 w hg h1 h2
 have H_f3 : Hid (∀ (w : World) (B D : Nat), Glob w → One w 3 B (.int .i64 (c : Int)) → One w 105 D (.func (.func 109) #[] #[.pointer (some ⟨B, 0, none⟩)]) → Calls Tryz.prog 111 #[.agg #[.int .u64 (limb 0 f2), .int .u64 (limb 1 f2), .int .u64 (limb 2 f2), .int .u64 (limb 3 f2)], .pointer (some ⟨D, 0, none⟩)] w fun e w' => e = .returned (.agg #[.int .u64 (limb 0 f3), .int .u64 (limb 1 f3), .int .u64 (limb 2 f3), .int .u64 (limb 3 f3)]) ∧ Below w.heap.size w w') := fun w B D hg h1 h2 => by rw [e_f3]; exact tDbl c f2 B D hc l_f2 w hg h1 h2
 have H_y2 : Hid (∀ (w : World) (B : Nat), Glob w → One w 3 B (.int .i64 (c : Int)) → Calls Tryz.prog 110 #[.agg #[.int .u64 (limb 0 rs), .int .u64 (limb 1 rs), .int .u64 (limb 2 rs), .int .u64 (limb 3 rs)], .agg #[.int .u64 (limb 0 f3), .int .u64 (limb 1 f3), .int .u64 (limb 2 f3), .int .u64 (limb 3 f3)], .pointer (some ⟨B, 0, none⟩)] w fun e w' => e = .returned (.agg #[.int .u64 (limb 0 y2), .int .u64 (limb 1 y2), .int .u64 (limb 2 y2), .int .u64 (limb 3 y2)]) ∧ Below w.heap.size w w') := fun w B hg h1 => by rw [e_y2]; exact tSub c rs f3 B hc l_rs l_f3 w hg h1
 have H_yz : Hid (∀ (w : World) (B : Nat), Glob w → One w 3 B (.int .i64 (c : Int)) → Calls Tryz.prog 108 #[.agg #[.int .u64 (limb 0 Y), .int .u64 (limb 1 Y), .int .u64 (limb 2 Y), .int .u64 (limb 3 Y)], .agg #[.int .u64 (limb 0 Z), .int .u64 (limb 1 Z), .int .u64 (limb 2 Z), .int .u64 (limb 3 Z)], .pointer (some ⟨B, 0, none⟩)] w fun e w' => e = .returned (.agg #[.int .u64 (limb 0 yz), .int .u64 (limb 1 yz), .int .u64 (limb 2 yz), .int .u64 (limb 3 yz)]) ∧ Below w.heap.size w w') := fun w B hg h1 => by rw [e_yz]; exact tMul c Y Z B hc hY hZ w hg h1
 have H_z2 : Hid (∀ (w : World) (B D : Nat), Glob w → One w 3 B (.int .i64 (c : Int)) → One w 105 D (.func (.func 109) #[] #[.pointer (some ⟨B, 0, none⟩)]) → Calls Tryz.prog 111 #[.agg #[.int .u64 (limb 0 yz), .int .u64 (limb 1 yz), .int .u64 (limb 2 yz), .int .u64 (limb 3 yz)], .pointer (some ⟨D, 0, none⟩)] w fun e w' => e = .returned (.agg #[.int .u64 (limb 0 z2), .int .u64 (limb 1 z2), .int .u64 (limb 2 z2), .int .u64 (limb 3 z2)]) ∧ Below w.heap.size w w') := fun w B D hg h1 h2 => by rw [e_z2]; exact tDbl c yz B D hc l_yz w hg h1 h2
 have eX2 : jX2 c X Y = x2 := by unfold jX2 jRise jMid jDbl; rw [e_x2, e_rr, e_dm, e_ri, e_mi, e_m2, e_m1, e_d1, e_xx, e_yy]
 have eY2 : jY2 c X Y = y2 := by unfold jY2; rw [eX2]; unfold jRise jMid jDbl; rw [e_y2, e_rs, e_sm, e_f3, e_f2, e_f1, e_y4, e_ri, e_mi, e_m2, e_m1, e_d1, e_xx, e_yy]
 have eZ2 : jZ2 c Y Z = z2 := by unfold jZ2 jDbl; rw [e_z2, e_yz]
 rw [eX2, eY2, eZ2]
 clear eX2 eY2 eZ2 hg h0 hX hY hZ e_z2 e_yz e_y2 e_f3 e_f2 e_f1 e_y4 e_rs e_sm e_x2 e_dm e_rr e_mi e_m2 e_m1 e_ri e_d1 e_yy e_xx l_xx l_yy l_d1 l_ri l_m1 l_m2 l_mi l_rr l_dm l_x2 l_sm l_rs l_y4 l_f1 l_f2 l_f3 l_y2 l_yz l_z2
 go_enter Tryz.func70, Tryz.ntmps70
 go_upto_region 1 with fail
 obtain ⟨w0, hw0⟩ : ∃ w0 : World, w0 = ((w.alloc (.cells #[.int .u64 (limb 0 X), .int .u64 (limb 1 X), .int .u64 (limb 2 X), .int .u64 (limb 3 X), .int .u64 (limb 0 Y), .int .u64 (limb 1 Y), .int .u64 (limb 2 Y), .int .u64 (limb 3 Y), .int .u64 (limb 0 Z), .int .u64 (limb 1 Z), .int .u64 (limb 2 Z), .int .u64 (limb 3 Z)] 99)).alloc (.cells #[.int .i64 (c : Int)] 3)).alloc (.cells #[.int .u64 0, .int .u64 0, .int .u64 0, .int .u64 0, .int .u64 0, .int .u64 0, .int .u64 0, .int .u64 0, .int .u64 0, .int .u64 0, .int .u64 0, .int .u64 0] 99) := ⟨_, rfl⟩
 have bp0 : Jt w0 w.heap.size X Y Z := by rw [hw0]; exact ((Jt.newAt _ _ _ _ _ rfl).alloc _).alloc _
 have bc0 : One w0 3 (w.heap.size + 1) (.int .i64 (c : Int)) := by rw [hw0]; exact (One.newAt _ _ _ _ (by simp)).alloc _
 have br0 : Jt w0 (w.heap.size + 1 + 1) 0 0 0 := by rw [hw0]; exact Jt.zeroAt _ _ (by simp)
 have hbw0 : Below w.heap.size w w0 := by rw [hw0]; exact bAlloc (bAlloc ((Below.refl _ _).alloc (Nat.le_refl _) _) _) _
 have hrw : w.heap.size ≤ w.heap.size + 1 + 1 := by omega
 rw [← hw0]
 clear hw0
 obtain ⟨q0, q1, q2, q3, q4, q5, q6, q7, q8, q9, q10, q11, qf⟩ := bp0.cells
 go_wp2_with fail
 refine (HIF.out _).mono ?_
 rintro e w1 ⟨rfl, hb1⟩
 clear q0 q1 q2 q3 q4 q5 q6 q7 q8 q9 q10 q11 qf
 have bp1 := bp0.belowAll hb1; have bc1 := bc0.belowAll hb1; have br1 := br0.belowAll hb1
 have hbw1 := bStep hbw0 hb1
 clear bp0 bc0 br0 hbw0 hb1 HIF
 go_upto_region 7 with fail
 obtain ⟨w2, hw2⟩ : ∃ x : World, x = w1.alloc (.cells #[.func (.func 109) #[] #[.pointer (some ⟨(w.heap.size + 1), 0, none⟩)]] 105) := ⟨_, rfl⟩
 obtain ⟨D, hD⟩ : ∃ D, D = w1.heap.size := ⟨_, rfl⟩
 have bp2 : Jt w2 w.heap.size X Y Z := by rw [hw2]; exact bp1.alloc _
 have bc2 : One w2 3 (w.heap.size + 1) (.int .i64 (c : Int)) := by rw [hw2]; exact bc1.alloc _
 have br2 : Jt w2 (w.heap.size + 1 + 1) 0 0 0 := by rw [hw2]; exact br1.alloc _
 have bd2 : One w2 105 D (.func (.func 109) #[] #[.pointer (some ⟨(w.heap.size + 1), 0, none⟩)]) := by rw [hw2]; exact One.newAt _ _ _ _ hD
 have hbw2 : Below w.heap.size w w2 := by rw [hw2]; exact bAlloc hbw1 _
 have HG2 : Hid (Glob w2) := HG0.out.below hbw2
 rw [← hw2, ← hD]
 clear hw2 hD bp1 bc1 br1 hbw1 HG0
 go_cut [9, 10] (fun p9 p10 wx => ∃ N9 N10 : Nat, p9 = .pointer (some ⟨N9, 0, none⟩) ∧ p10 = .pointer (some ⟨N10, 0, none⟩) ∧ w2.heap.size ≤ N9 ∧ w2.heap.size ≤ N10 ∧ Blk wx 25 N9 (fun i => limb i xx) ∧ Blk wx 25 N10 (fun i => limb i yy) ∧ Below w2.heap.size w2 wx)
 case first =>
  have HS0 : Hid (Below w2.heap.size w2 w2.drew) := (Below.refl _ _).drew
  refine wp_region_Z (fun w' => Kp w2 w') 99 (by kernel_rfl) ?_
  refine zs 0 22 (.func (.func 108) #[] #[.pointer (some ⟨(w.heap.size + 1), 0, none⟩)]) (HS0.out) ?_
  refine zs 1 23 (.pointer (some ⟨w.heap.size, 0, none⟩)) (HS0.out) ?_
  refine zT 2 24 (.agg #[.int .u64 (limb 0 X), .int .u64 (limb 1 X), .int .u64 (limb 2 X), .int .u64 (limb 3 X)]) rfl rfl (fun w hSw => by (obtain ⟨q0, q1, q2, q3, q4, q5, q6, q7, q8, q9, q10, q11, qf⟩ := (bp2.belowAll hSw).cells; clear hSw; go_simp)) (HS0.out) ?_
  refine zs 3 25 (.pointer (some ⟨w.heap.size, 0, none⟩)) (HS0.out) ?_
  refine zT 4 26 (.agg #[.int .u64 (limb 0 X), .int .u64 (limb 1 X), .int .u64 (limb 2 X), .int .u64 (limb 3 X)]) rfl rfl (fun w hSw => by (obtain ⟨q0, q1, q2, q3, q4, q5, q6, q7, q8, q9, q10, q11, qf⟩ := (bp2.belowAll hSw).cells; clear hSw; go_simp)) (HS0.out) ?_
  refine zs 6 28 (.func (.func 108) #[] #[.pointer (some ⟨(w.heap.size + 1), 0, none⟩)]) (HS0.out) ?_
  refine zs 7 29 (.pointer (some ⟨w.heap.size, 4, none⟩)) (HS0.out) ?_
  refine zT 8 30 (.agg #[.int .u64 (limb 0 Y), .int .u64 (limb 1 Y), .int .u64 (limb 2 Y), .int .u64 (limb 3 Y)]) rfl rfl (fun w hSw => by (obtain ⟨q0, q1, q2, q3, q4, q5, q6, q7, q8, q9, q10, q11, qf⟩ := (bp2.belowAll hSw).cells; clear hSw; go_simp)) (HS0.out) ?_
  refine zs 9 31 (.pointer (some ⟨w.heap.size, 4, none⟩)) (HS0.out) ?_
  refine zT 10 32 (.agg #[.int .u64 (limb 0 Y), .int .u64 (limb 1 Y), .int .u64 (limb 2 Y), .int .u64 (limb 3 Y)]) rfl rfl (fun w hSw => by (obtain ⟨q0, q1, q2, q3, q4, q5, q6, q7, q8, q9, q10, q11, qf⟩ := (bp2.belowAll hSw).cells; clear hSw; go_simp)) (HS0.out) ?_
  refine wpZ_three (i := 5) (j := 12) (l := 13) (by kernel_rfl) rfl rfl rfl (fun K hK => ?_) (fun K hK => ?_) (fun K hK => ?_) 
  ·go_simp
   refine (H_xx.out w2.drew _ (HG2.out.below (HS0.out)) (bc2.belowAll (HS0.out))).mono ?_
   rintro e wK1 ⟨rfl, hbK1⟩
   have hSK1 := bStep HS0.out hbK1
   go_wp2_with fail
   refine hK.out _ _ (fun _ => hSK1) ?_
   clear hK K
   refine wpZ_three (i := 11) (j := 12) (l := 13) (by kernel_rfl) rfl rfl rfl (fun K hK => ?_) (fun K hK => ?_) (fun K hK => ?_) 
   ·go_simp
    refine (H_yy.out wK1 _ (HG2.out.below (hSK1)) (bc2.belowAll (hSK1))).mono ?_
    rintro e wK2 ⟨rfl, hbK2⟩
    have hSK2 := bStep hSK1 hbK2
    go_wp2_with fail
    refine hK.out _ _ (fun _ => hSK2) ?_
    clear hK K
    refine zw 12 13 rfl rfl (fun K hK => ?_) (fun K hK => ?_) 
    ·go_simp
     obtain ⟨N9_3, wK3, hN, hw, hSK3, b9_3, lN9_3, hx⟩ := pkA hSK2
     rw [hw, hN]
     refine hK.out _ _ (fun _ => hSK3) ?_
     clear hK K hw hN hx
     refine zo 13 rfl (fun K hK => ?_)
     go_simp
     obtain ⟨N10_4, wK4, hN, hw, hSK4, b10_4, lN10_4, hx⟩ := pkA hSK3
     rw [hw, hN]
     refine hK.out _ _ (fun _ => hSK4) ?_
     have b9_4 := b9_3.belowAll hx
     have neN9_3_N10_4 : N9_3 ≠ N10_4 := by have := b9_3.lt; omega
     clear hK K hw hN hx
     refine zo 14 rfl (fun K hK => ?_)
     have cS := b9_4.cell; have fS := b9_4.frozen
     go_simp
     obtain ⟨wK5, hw, hSK5, b9_5, hx⟩ := pkS b9_4 (hSK4) lN9_3 xx
     rw [hw]
     refine hK.out _ _ (fun _ => hSK5) ?_
     have b10_5 := hx b10_4 (by omega)
     clear hK K cS fS hw hx
     refine zo 15 rfl (fun K hK => ?_)
     have cS := b10_5.cell; have fS := b10_5.frozen
     go_simp
     obtain ⟨wK6, hw, hSK6, b10_6, hx⟩ := pkS b10_5 (hSK5) lN10_4 yy
     rw [hw]
     refine hK.out _ _ (fun _ => hSK6) ?_
     have b9_6 := hx b9_5 (by omega)
     clear hK K cS fS hw hx
     refine zd ?_ _
     go_wp2_with fail
     go_meet
     exact ⟨_, _, rfl, rfl, lN9_3, lN10_4, b9_6, b10_6, hSK6⟩
    ·go_simp
     obtain ⟨N10_3, wK3, hN, hw, hSK3, b10_3, lN10_3, hx⟩ := pkA hSK2
     rw [hw, hN]
     refine hK.out _ _ (fun _ => hSK3) ?_
     clear hK K hw hN hx
     refine zo 12 rfl (fun K hK => ?_)
     go_simp
     obtain ⟨N9_4, wK4, hN, hw, hSK4, b9_4, lN9_4, hx⟩ := pkA hSK3
     rw [hw, hN]
     refine hK.out _ _ (fun _ => hSK4) ?_
     have b10_4 := b10_3.belowAll hx
     have neN10_3_N9_4 : N10_3 ≠ N9_4 := by have := b10_3.lt; omega
     clear hK K hw hN hx
     refine zo 14 rfl (fun K hK => ?_)
     have cS := b9_4.cell; have fS := b9_4.frozen
     go_simp
     obtain ⟨wK5, hw, hSK5, b9_5, hx⟩ := pkS b9_4 (hSK4) lN9_4 xx
     rw [hw]
     refine hK.out _ _ (fun _ => hSK5) ?_
     have b10_5 := hx b10_4 (by omega)
     clear hK K cS fS hw hx
     refine zo 15 rfl (fun K hK => ?_)
     have cS := b10_5.cell; have fS := b10_5.frozen
     go_simp
     obtain ⟨wK6, hw, hSK6, b10_6, hx⟩ := pkS b10_5 (hSK5) lN10_3 yy
     rw [hw]
     refine hK.out _ _ (fun _ => hSK6) ?_
     have b9_6 := hx b9_5 (by omega)
     clear hK K cS fS hw hx
     refine zd ?_ _
     go_wp2_with fail
     go_meet
     exact ⟨_, _, rfl, rfl, lN9_4, lN10_3, b9_6, b10_6, hSK6⟩
   ·go_simp
    obtain ⟨N9_2, wK2, hN, hw, hSK2, b9_2, lN9_2, hx⟩ := pkA hSK1
    rw [hw, hN]
    refine hK.out _ _ (fun _ => hSK2) ?_
    clear hK K hw hN hx
    refine zw 11 13 rfl rfl (fun K hK => ?_) (fun K hK => ?_) 
    ·go_simp
     refine (H_yy.out wK2 _ (HG2.out.below (hSK2)) (bc2.belowAll (hSK2))).mono ?_
     rintro e wK3 ⟨rfl, hbK3⟩
     have hSK3 := bStep hSK2 hbK3
     go_wp2_with fail
     refine hK.out _ _ (fun _ => hSK3) ?_
     clear hK K
     have b9_3 := b9_2.belowAll hbK3
     refine zo 13 rfl (fun K hK => ?_)
     go_simp
     obtain ⟨N10_4, wK4, hN, hw, hSK4, b10_4, lN10_4, hx⟩ := pkA hSK3
     rw [hw, hN]
     refine hK.out _ _ (fun _ => hSK4) ?_
     have b9_4 := b9_3.belowAll hx
     have neN9_2_N10_4 : N9_2 ≠ N10_4 := by have := b9_3.lt; omega
     clear hK K hw hN hx
     refine zo 14 rfl (fun K hK => ?_)
     have cS := b9_4.cell; have fS := b9_4.frozen
     go_simp
     obtain ⟨wK5, hw, hSK5, b9_5, hx⟩ := pkS b9_4 (hSK4) lN9_2 xx
     rw [hw]
     refine hK.out _ _ (fun _ => hSK5) ?_
     have b10_5 := hx b10_4 (by omega)
     clear hK K cS fS hw hx
     refine zo 15 rfl (fun K hK => ?_)
     have cS := b10_5.cell; have fS := b10_5.frozen
     go_simp
     obtain ⟨wK6, hw, hSK6, b10_6, hx⟩ := pkS b10_5 (hSK5) lN10_4 yy
     rw [hw]
     refine hK.out _ _ (fun _ => hSK6) ?_
     have b9_6 := hx b9_5 (by omega)
     clear hK K cS fS hw hx
     refine zd ?_ _
     go_wp2_with fail
     go_meet
     exact ⟨_, _, rfl, rfl, lN9_2, lN10_4, b9_6, b10_6, hSK6⟩
    ·go_simp
     obtain ⟨N10_3, wK3, hN, hw, hSK3, b10_3, lN10_3, hx⟩ := pkA hSK2
     rw [hw, hN]
     refine hK.out _ _ (fun _ => hSK3) ?_
     have b9_3 := b9_2.belowAll hx
     have neN9_2_N10_3 : N9_2 ≠ N10_3 := by have := b9_2.lt; omega
     clear hK K hw hN hx
     refine zo 11 rfl (fun K hK => ?_)
     go_simp
     refine (H_yy.out wK3 _ (HG2.out.below (hSK3)) (bc2.belowAll (hSK3))).mono ?_
     rintro e wK4 ⟨rfl, hbK4⟩
     have hSK4 := bStep hSK3 hbK4
     go_wp2_with fail
     refine hK.out _ _ (fun _ => hSK4) ?_
     clear hK K
     have b9_4 := b9_3.belowAll hbK4
     have b10_4 := b10_3.belowAll hbK4
     refine zo 14 rfl (fun K hK => ?_)
     have cS := b9_4.cell; have fS := b9_4.frozen
     go_simp
     obtain ⟨wK5, hw, hSK5, b9_5, hx⟩ := pkS b9_4 (hSK4) lN9_2 xx
     rw [hw]
     refine hK.out _ _ (fun _ => hSK5) ?_
     have b10_5 := hx b10_4 (by omega)
     clear hK K cS fS hw hx
     refine zo 15 rfl (fun K hK => ?_)
     have cS := b10_5.cell; have fS := b10_5.frozen
     go_simp
     obtain ⟨wK6, hw, hSK6, b10_6, hx⟩ := pkS b10_5 (hSK5) lN10_3 yy
     rw [hw]
     refine hK.out _ _ (fun _ => hSK6) ?_
     have b9_6 := hx b9_5 (by omega)
     clear hK K cS fS hw hx
     refine zd ?_ _
     go_wp2_with fail
     go_meet
     exact ⟨_, _, rfl, rfl, lN9_2, lN10_3, b9_6, b10_6, hSK6⟩
   ·go_simp
    obtain ⟨N10_2, wK2, hN, hw, hSK2, b10_2, lN10_2, hx⟩ := pkA hSK1
    rw [hw, hN]
    refine hK.out _ _ (fun _ => hSK2) ?_
    clear hK K hw hN hx
    refine zw 11 12 rfl rfl (fun K hK => ?_) (fun K hK => ?_) 
    ·go_simp
     refine (H_yy.out wK2 _ (HG2.out.below (hSK2)) (bc2.belowAll (hSK2))).mono ?_
     rintro e wK3 ⟨rfl, hbK3⟩
     have hSK3 := bStep hSK2 hbK3
     go_wp2_with fail
     refine hK.out _ _ (fun _ => hSK3) ?_
     clear hK K
     have b10_3 := b10_2.belowAll hbK3
     refine zo 12 rfl (fun K hK => ?_)
     go_simp
     obtain ⟨N9_4, wK4, hN, hw, hSK4, b9_4, lN9_4, hx⟩ := pkA hSK3
     rw [hw, hN]
     refine hK.out _ _ (fun _ => hSK4) ?_
     have b10_4 := b10_3.belowAll hx
     have neN10_2_N9_4 : N10_2 ≠ N9_4 := by have := b10_3.lt; omega
     clear hK K hw hN hx
     refine zo 14 rfl (fun K hK => ?_)
     have cS := b9_4.cell; have fS := b9_4.frozen
     go_simp
     obtain ⟨wK5, hw, hSK5, b9_5, hx⟩ := pkS b9_4 (hSK4) lN9_4 xx
     rw [hw]
     refine hK.out _ _ (fun _ => hSK5) ?_
     have b10_5 := hx b10_4 (by omega)
     clear hK K cS fS hw hx
     refine zo 15 rfl (fun K hK => ?_)
     have cS := b10_5.cell; have fS := b10_5.frozen
     go_simp
     obtain ⟨wK6, hw, hSK6, b10_6, hx⟩ := pkS b10_5 (hSK5) lN10_2 yy
     rw [hw]
     refine hK.out _ _ (fun _ => hSK6) ?_
     have b9_6 := hx b9_5 (by omega)
     clear hK K cS fS hw hx
     refine zd ?_ _
     go_wp2_with fail
     go_meet
     exact ⟨_, _, rfl, rfl, lN9_4, lN10_2, b9_6, b10_6, hSK6⟩
    ·go_simp
     obtain ⟨N9_3, wK3, hN, hw, hSK3, b9_3, lN9_3, hx⟩ := pkA hSK2
     rw [hw, hN]
     refine hK.out _ _ (fun _ => hSK3) ?_
     have b10_3 := b10_2.belowAll hx
     have neN10_2_N9_3 : N10_2 ≠ N9_3 := by have := b10_2.lt; omega
     clear hK K hw hN hx
     refine zo 11 rfl (fun K hK => ?_)
     go_simp
     refine (H_yy.out wK3 _ (HG2.out.below (hSK3)) (bc2.belowAll (hSK3))).mono ?_
     rintro e wK4 ⟨rfl, hbK4⟩
     have hSK4 := bStep hSK3 hbK4
     go_wp2_with fail
     refine hK.out _ _ (fun _ => hSK4) ?_
     clear hK K
     have b10_4 := b10_3.belowAll hbK4
     have b9_4 := b9_3.belowAll hbK4
     refine zo 14 rfl (fun K hK => ?_)
     have cS := b9_4.cell; have fS := b9_4.frozen
     go_simp
     obtain ⟨wK5, hw, hSK5, b9_5, hx⟩ := pkS b9_4 (hSK4) lN9_3 xx
     rw [hw]
     refine hK.out _ _ (fun _ => hSK5) ?_
     have b10_5 := hx b10_4 (by omega)
     clear hK K cS fS hw hx
     refine zo 15 rfl (fun K hK => ?_)
     have cS := b10_5.cell; have fS := b10_5.frozen
     go_simp
     obtain ⟨wK6, hw, hSK6, b10_6, hx⟩ := pkS b10_5 (hSK5) lN10_2 yy
     rw [hw]
     refine hK.out _ _ (fun _ => hSK6) ?_
     have b9_6 := hx b9_5 (by omega)
     clear hK K cS fS hw hx
     refine zd ?_ _
     go_wp2_with fail
     go_meet
     exact ⟨_, _, rfl, rfl, lN9_3, lN10_2, b9_6, b10_6, hSK6⟩
  ·go_simp
   obtain ⟨N9_1, wK1, hN, hw, hSK1, b9_1, lN9_1, hx⟩ := pkD w2
   rw [hw, hN]
   refine hK.out _ _ (fun _ => hSK1) ?_
   clear hK K hw hN hx
   refine zw 5 13 rfl rfl (fun K hK => ?_) (fun K hK => ?_) 
   ·go_simp
    refine (H_xx.out wK1 _ (HG2.out.below (hSK1)) (bc2.belowAll (hSK1))).mono ?_
    rintro e wK2 ⟨rfl, hbK2⟩
    have hSK2 := bStep hSK1 hbK2
    go_wp2_with fail
    refine hK.out _ _ (fun _ => hSK2) ?_
    clear hK K
    have b9_2 := b9_1.belowAll hbK2
    refine zw 11 13 rfl rfl (fun K hK => ?_) (fun K hK => ?_) 
    ·go_simp
     refine (H_yy.out wK2 _ (HG2.out.below (hSK2)) (bc2.belowAll (hSK2))).mono ?_
     rintro e wK3 ⟨rfl, hbK3⟩
     have hSK3 := bStep hSK2 hbK3
     go_wp2_with fail
     refine hK.out _ _ (fun _ => hSK3) ?_
     clear hK K
     have b9_3 := b9_2.belowAll hbK3
     refine zo 13 rfl (fun K hK => ?_)
     go_simp
     obtain ⟨N10_4, wK4, hN, hw, hSK4, b10_4, lN10_4, hx⟩ := pkA hSK3
     rw [hw, hN]
     refine hK.out _ _ (fun _ => hSK4) ?_
     have b9_4 := b9_3.belowAll hx
     have neN9_1_N10_4 : N9_1 ≠ N10_4 := by have := b9_3.lt; omega
     clear hK K hw hN hx
     refine zo 14 rfl (fun K hK => ?_)
     have cS := b9_4.cell; have fS := b9_4.frozen
     go_simp
     obtain ⟨wK5, hw, hSK5, b9_5, hx⟩ := pkS b9_4 (hSK4) lN9_1 xx
     rw [hw]
     refine hK.out _ _ (fun _ => hSK5) ?_
     have b10_5 := hx b10_4 (by omega)
     clear hK K cS fS hw hx
     refine zo 15 rfl (fun K hK => ?_)
     have cS := b10_5.cell; have fS := b10_5.frozen
     go_simp
     obtain ⟨wK6, hw, hSK6, b10_6, hx⟩ := pkS b10_5 (hSK5) lN10_4 yy
     rw [hw]
     refine hK.out _ _ (fun _ => hSK6) ?_
     have b9_6 := hx b9_5 (by omega)
     clear hK K cS fS hw hx
     refine zd ?_ _
     go_wp2_with fail
     go_meet
     exact ⟨_, _, rfl, rfl, lN9_1, lN10_4, b9_6, b10_6, hSK6⟩
    ·go_simp
     obtain ⟨N10_3, wK3, hN, hw, hSK3, b10_3, lN10_3, hx⟩ := pkA hSK2
     rw [hw, hN]
     refine hK.out _ _ (fun _ => hSK3) ?_
     have b9_3 := b9_2.belowAll hx
     have neN9_1_N10_3 : N9_1 ≠ N10_3 := by have := b9_2.lt; omega
     clear hK K hw hN hx
     refine zo 11 rfl (fun K hK => ?_)
     go_simp
     refine (H_yy.out wK3 _ (HG2.out.below (hSK3)) (bc2.belowAll (hSK3))).mono ?_
     rintro e wK4 ⟨rfl, hbK4⟩
     have hSK4 := bStep hSK3 hbK4
     go_wp2_with fail
     refine hK.out _ _ (fun _ => hSK4) ?_
     clear hK K
     have b9_4 := b9_3.belowAll hbK4
     have b10_4 := b10_3.belowAll hbK4
     refine zo 14 rfl (fun K hK => ?_)
     have cS := b9_4.cell; have fS := b9_4.frozen
     go_simp
     obtain ⟨wK5, hw, hSK5, b9_5, hx⟩ := pkS b9_4 (hSK4) lN9_1 xx
     rw [hw]
     refine hK.out _ _ (fun _ => hSK5) ?_
     have b10_5 := hx b10_4 (by omega)
     clear hK K cS fS hw hx
     refine zo 15 rfl (fun K hK => ?_)
     have cS := b10_5.cell; have fS := b10_5.frozen
     go_simp
     obtain ⟨wK6, hw, hSK6, b10_6, hx⟩ := pkS b10_5 (hSK5) lN10_3 yy
     rw [hw]
     refine hK.out _ _ (fun _ => hSK6) ?_
     have b9_6 := hx b9_5 (by omega)
     clear hK K cS fS hw hx
     refine zd ?_ _
     go_wp2_with fail
     go_meet
     exact ⟨_, _, rfl, rfl, lN9_1, lN10_3, b9_6, b10_6, hSK6⟩
   ·go_simp
    obtain ⟨N10_2, wK2, hN, hw, hSK2, b10_2, lN10_2, hx⟩ := pkA hSK1
    rw [hw, hN]
    refine hK.out _ _ (fun _ => hSK2) ?_
    have b9_2 := b9_1.belowAll hx
    have neN9_1_N10_2 : N9_1 ≠ N10_2 := by have := b9_1.lt; omega
    clear hK K hw hN hx
    refine zo 5 rfl (fun K hK => ?_)
    go_simp
    refine (H_xx.out wK2 _ (HG2.out.below (hSK2)) (bc2.belowAll (hSK2))).mono ?_
    rintro e wK3 ⟨rfl, hbK3⟩
    have hSK3 := bStep hSK2 hbK3
    go_wp2_with fail
    refine hK.out _ _ (fun _ => hSK3) ?_
    clear hK K
    have b9_3 := b9_2.belowAll hbK3
    have b10_3 := b10_2.belowAll hbK3
    refine zo 11 rfl (fun K hK => ?_)
    go_simp
    refine (H_yy.out wK3 _ (HG2.out.below (hSK3)) (bc2.belowAll (hSK3))).mono ?_
    rintro e wK4 ⟨rfl, hbK4⟩
    have hSK4 := bStep hSK3 hbK4
    go_wp2_with fail
    refine hK.out _ _ (fun _ => hSK4) ?_
    clear hK K
    have b9_4 := b9_3.belowAll hbK4
    have b10_4 := b10_3.belowAll hbK4
    refine zo 14 rfl (fun K hK => ?_)
    have cS := b9_4.cell; have fS := b9_4.frozen
    go_simp
    obtain ⟨wK5, hw, hSK5, b9_5, hx⟩ := pkS b9_4 (hSK4) lN9_1 xx
    rw [hw]
    refine hK.out _ _ (fun _ => hSK5) ?_
    have b10_5 := hx b10_4 (by omega)
    clear hK K cS fS hw hx
    refine zo 15 rfl (fun K hK => ?_)
    have cS := b10_5.cell; have fS := b10_5.frozen
    go_simp
    obtain ⟨wK6, hw, hSK6, b10_6, hx⟩ := pkS b10_5 (hSK5) lN10_2 yy
    rw [hw]
    refine hK.out _ _ (fun _ => hSK6) ?_
    have b9_6 := hx b9_5 (by omega)
    clear hK K cS fS hw hx
    refine zd ?_ _
    go_wp2_with fail
    go_meet
    exact ⟨_, _, rfl, rfl, lN9_1, lN10_2, b9_6, b10_6, hSK6⟩
  ·go_simp
   obtain ⟨N10_1, wK1, hN, hw, hSK1, b10_1, lN10_1, hx⟩ := pkD w2
   rw [hw, hN]
   refine hK.out _ _ (fun _ => hSK1) ?_
   clear hK K hw hN hx
   refine zw 5 12 rfl rfl (fun K hK => ?_) (fun K hK => ?_) 
   ·go_simp
    refine (H_xx.out wK1 _ (HG2.out.below (hSK1)) (bc2.belowAll (hSK1))).mono ?_
    rintro e wK2 ⟨rfl, hbK2⟩
    have hSK2 := bStep hSK1 hbK2
    go_wp2_with fail
    refine hK.out _ _ (fun _ => hSK2) ?_
    clear hK K
    have b10_2 := b10_1.belowAll hbK2
    refine zw 11 12 rfl rfl (fun K hK => ?_) (fun K hK => ?_) 
    ·go_simp
     refine (H_yy.out wK2 _ (HG2.out.below (hSK2)) (bc2.belowAll (hSK2))).mono ?_
     rintro e wK3 ⟨rfl, hbK3⟩
     have hSK3 := bStep hSK2 hbK3
     go_wp2_with fail
     refine hK.out _ _ (fun _ => hSK3) ?_
     clear hK K
     have b10_3 := b10_2.belowAll hbK3
     refine zo 12 rfl (fun K hK => ?_)
     go_simp
     obtain ⟨N9_4, wK4, hN, hw, hSK4, b9_4, lN9_4, hx⟩ := pkA hSK3
     rw [hw, hN]
     refine hK.out _ _ (fun _ => hSK4) ?_
     have b10_4 := b10_3.belowAll hx
     have neN10_1_N9_4 : N10_1 ≠ N9_4 := by have := b10_3.lt; omega
     clear hK K hw hN hx
     refine zo 14 rfl (fun K hK => ?_)
     have cS := b9_4.cell; have fS := b9_4.frozen
     go_simp
     obtain ⟨wK5, hw, hSK5, b9_5, hx⟩ := pkS b9_4 (hSK4) lN9_4 xx
     rw [hw]
     refine hK.out _ _ (fun _ => hSK5) ?_
     have b10_5 := hx b10_4 (by omega)
     clear hK K cS fS hw hx
     refine zo 15 rfl (fun K hK => ?_)
     have cS := b10_5.cell; have fS := b10_5.frozen
     go_simp
     obtain ⟨wK6, hw, hSK6, b10_6, hx⟩ := pkS b10_5 (hSK5) lN10_1 yy
     rw [hw]
     refine hK.out _ _ (fun _ => hSK6) ?_
     have b9_6 := hx b9_5 (by omega)
     clear hK K cS fS hw hx
     refine zd ?_ _
     go_wp2_with fail
     go_meet
     exact ⟨_, _, rfl, rfl, lN9_4, lN10_1, b9_6, b10_6, hSK6⟩
    ·go_simp
     obtain ⟨N9_3, wK3, hN, hw, hSK3, b9_3, lN9_3, hx⟩ := pkA hSK2
     rw [hw, hN]
     refine hK.out _ _ (fun _ => hSK3) ?_
     have b10_3 := b10_2.belowAll hx
     have neN10_1_N9_3 : N10_1 ≠ N9_3 := by have := b10_2.lt; omega
     clear hK K hw hN hx
     refine zo 11 rfl (fun K hK => ?_)
     go_simp
     refine (H_yy.out wK3 _ (HG2.out.below (hSK3)) (bc2.belowAll (hSK3))).mono ?_
     rintro e wK4 ⟨rfl, hbK4⟩
     have hSK4 := bStep hSK3 hbK4
     go_wp2_with fail
     refine hK.out _ _ (fun _ => hSK4) ?_
     clear hK K
     have b10_4 := b10_3.belowAll hbK4
     have b9_4 := b9_3.belowAll hbK4
     refine zo 14 rfl (fun K hK => ?_)
     have cS := b9_4.cell; have fS := b9_4.frozen
     go_simp
     obtain ⟨wK5, hw, hSK5, b9_5, hx⟩ := pkS b9_4 (hSK4) lN9_3 xx
     rw [hw]
     refine hK.out _ _ (fun _ => hSK5) ?_
     have b10_5 := hx b10_4 (by omega)
     clear hK K cS fS hw hx
     refine zo 15 rfl (fun K hK => ?_)
     have cS := b10_5.cell; have fS := b10_5.frozen
     go_simp
     obtain ⟨wK6, hw, hSK6, b10_6, hx⟩ := pkS b10_5 (hSK5) lN10_1 yy
     rw [hw]
     refine hK.out _ _ (fun _ => hSK6) ?_
     have b9_6 := hx b9_5 (by omega)
     clear hK K cS fS hw hx
     refine zd ?_ _
     go_wp2_with fail
     go_meet
     exact ⟨_, _, rfl, rfl, lN9_3, lN10_1, b9_6, b10_6, hSK6⟩
   ·go_simp
    obtain ⟨N9_2, wK2, hN, hw, hSK2, b9_2, lN9_2, hx⟩ := pkA hSK1
    rw [hw, hN]
    refine hK.out _ _ (fun _ => hSK2) ?_
    have b10_2 := b10_1.belowAll hx
    have neN10_1_N9_2 : N10_1 ≠ N9_2 := by have := b10_1.lt; omega
    clear hK K hw hN hx
    refine zo 5 rfl (fun K hK => ?_)
    go_simp
    refine (H_xx.out wK2 _ (HG2.out.below (hSK2)) (bc2.belowAll (hSK2))).mono ?_
    rintro e wK3 ⟨rfl, hbK3⟩
    have hSK3 := bStep hSK2 hbK3
    go_wp2_with fail
    refine hK.out _ _ (fun _ => hSK3) ?_
    clear hK K
    have b10_3 := b10_2.belowAll hbK3
    have b9_3 := b9_2.belowAll hbK3
    refine zo 11 rfl (fun K hK => ?_)
    go_simp
    refine (H_yy.out wK3 _ (HG2.out.below (hSK3)) (bc2.belowAll (hSK3))).mono ?_
    rintro e wK4 ⟨rfl, hbK4⟩
    have hSK4 := bStep hSK3 hbK4
    go_wp2_with fail
    refine hK.out _ _ (fun _ => hSK4) ?_
    clear hK K
    have b10_4 := b10_3.belowAll hbK4
    have b9_4 := b9_3.belowAll hbK4
    refine zo 14 rfl (fun K hK => ?_)
    have cS := b9_4.cell; have fS := b9_4.frozen
    go_simp
    obtain ⟨wK5, hw, hSK5, b9_5, hx⟩ := pkS b9_4 (hSK4) lN9_2 xx
    rw [hw]
    refine hK.out _ _ (fun _ => hSK5) ?_
    have b10_5 := hx b10_4 (by omega)
    clear hK K cS fS hw hx
    refine zo 15 rfl (fun K hK => ?_)
    have cS := b10_5.cell; have fS := b10_5.frozen
    go_simp
    obtain ⟨wK6, hw, hSK6, b10_6, hx⟩ := pkS b10_5 (hSK5) lN10_1 yy
    rw [hw]
    refine hK.out _ _ (fun _ => hSK6) ?_
    have b9_6 := hx b9_5 (by omega)
    clear hK K cS fS hw hx
    refine zd ?_ _
    go_wp2_with fail
    go_meet
    exact ⟨_, _, rfl, rfl, lN9_2, lN10_1, b9_6, b10_6, hSK6⟩
 obtain ⟨N9, N10, rfl, rfl, lN9, lN10, v9_3, v10_3, hbx⟩ := hcut
 obtain ⟨w3, hwn⟩ : ∃ x, x = wc := ⟨_, rfl⟩
 rw [← hwn] at hbx v9_3 v10_3 ⊢
 clear hwn lN9 lN10 H_xx H_yy
 have bp3 := bp2.belowAll hbx
 have bc3 := bc2.belowAll hbx
 have br3 := br2.belowAll hbx
 have bd3 := bd2.belowAll hbx
 have hbw3 := bStep hbw2 hbx
 have HG3 : Hid (Glob w3) := HG2.out.below hbx
 clear bp2 bc2 br2 bd2  hbw2 HG2 hbx
 go_upto_region 8 with fail
 go_cut [11] (fun p11 wx => ∃ N11 : Nat, p11 = .pointer (some ⟨N11, 0, none⟩) ∧ w3.heap.size ≤ N11 ∧ Blk wx 25 N11 (fun i => limb i ri) ∧ Below w3.heap.size w3 wx)
 case first =>
  have HS0 : Hid (Below w3.heap.size w3 w3.drew) := (Below.refl _ _).drew
  refine wp_region_Z (fun w' => Kp w3 w') 99 (by kernel_rfl) ?_
  refine zT 0 34 (.func (.func 109) #[] #[.pointer (some ⟨(w.heap.size + 1), 0, none⟩)]) rfl rfl (fun w hSw => by (have qq := (bd3.belowAll hSw).cell; clear hSw; go_simp)) (HS0.out) ?_
  refine zT 1 35 (.agg #[.int .u64 (limb 0 xx), .int .u64 (limb 1 xx), .int .u64 (limb 2 xx), .int .u64 (limb 3 xx)]) rfl rfl (fun w hSw => by (have qq := (v9_3.belowAll hSw).cell; clear hSw; go_simp)) (HS0.out) ?_
  refine zs 2 36 (.func (.func 111) #[] #[.pointer (some ⟨D, 0, none⟩)]) (HS0.out) ?_
  refine zT 3 37 (.agg #[.int .u64 (limb 0 xx), .int .u64 (limb 1 xx), .int .u64 (limb 2 xx), .int .u64 (limb 3 xx)]) rfl rfl (fun w hSw => by (have qq := (v9_3.belowAll hSw).cell; clear hSw; go_simp)) (HS0.out) ?_
  refine zw 4 6 rfl rfl (fun K hK => ?_) (fun K hK => ?_) 
  ·go_simp
   refine (H_d1.out w3.drew _ _ (HG3.out.below (HS0.out)) (bc3.belowAll (HS0.out)) (bd3.belowAll (HS0.out))).mono ?_
   rintro e wK1 ⟨rfl, hbK1⟩
   have hSK1 := bStep HS0.out hbK1
   go_wp2_with fail
   refine hK.out _ _ (fun _ => hSK1) ?_
   clear hK K
   refine zw 5 6 rfl rfl (fun K hK => ?_) (fun K hK => ?_) 
   ·go_simp
    refine (H_ri.out wK1 _ (HG3.out.below (hSK1)) (bc3.belowAll (hSK1))).mono ?_
    rintro e wK2 ⟨rfl, hbK2⟩
    have hSK2 := bStep hSK1 hbK2
    go_wp2_with fail
    refine hK.out _ _ (fun _ => hSK2) ?_
    clear hK K
    refine zo 6 rfl (fun K hK => ?_)
    go_simp
    obtain ⟨N11_3, wK3, hN, hw, hSK3, b11_3, lN11_3, hx⟩ := pkA hSK2
    rw [hw, hN]
    refine hK.out _ _ (fun _ => hSK3) ?_
    clear hK K hw hN hx
    refine zo 7 rfl (fun K hK => ?_)
    have cS := b11_3.cell; have fS := b11_3.frozen
    go_simp
    obtain ⟨wK4, hw, hSK4, b11_4, hx⟩ := pkS b11_3 (hSK3) lN11_3 ri
    rw [hw]
    refine hK.out _ _ (fun _ => hSK4) ?_
    clear hK K cS fS hw hx
    refine zd ?_ _
    go_wp2_with fail
    go_meet
    exact ⟨_, rfl, lN11_3, b11_4, hSK4⟩
   ·go_simp
    obtain ⟨N11_2, wK2, hN, hw, hSK2, b11_2, lN11_2, hx⟩ := pkA hSK1
    rw [hw, hN]
    refine hK.out _ _ (fun _ => hSK2) ?_
    clear hK K hw hN hx
    refine zo 5 rfl (fun K hK => ?_)
    go_simp
    refine (H_ri.out wK2 _ (HG3.out.below (hSK2)) (bc3.belowAll (hSK2))).mono ?_
    rintro e wK3 ⟨rfl, hbK3⟩
    have hSK3 := bStep hSK2 hbK3
    go_wp2_with fail
    refine hK.out _ _ (fun _ => hSK3) ?_
    clear hK K
    have b11_3 := b11_2.belowAll hbK3
    refine zo 7 rfl (fun K hK => ?_)
    have cS := b11_3.cell; have fS := b11_3.frozen
    go_simp
    obtain ⟨wK4, hw, hSK4, b11_4, hx⟩ := pkS b11_3 (hSK3) lN11_2 ri
    rw [hw]
    refine hK.out _ _ (fun _ => hSK4) ?_
    clear hK K cS fS hw hx
    refine zd ?_ _
    go_wp2_with fail
    go_meet
    exact ⟨_, rfl, lN11_2, b11_4, hSK4⟩
  ·go_simp
   obtain ⟨N11_1, wK1, hN, hw, hSK1, b11_1, lN11_1, hx⟩ := pkD w3
   rw [hw, hN]
   refine hK.out _ _ (fun _ => hSK1) ?_
   clear hK K hw hN hx
   refine zo 4 rfl (fun K hK => ?_)
   go_simp
   refine (H_d1.out wK1 _ _ (HG3.out.below (hSK1)) (bc3.belowAll (hSK1)) (bd3.belowAll (hSK1))).mono ?_
   rintro e wK2 ⟨rfl, hbK2⟩
   have hSK2 := bStep hSK1 hbK2
   go_wp2_with fail
   refine hK.out _ _ (fun _ => hSK2) ?_
   clear hK K
   have b11_2 := b11_1.belowAll hbK2
   refine zo 5 rfl (fun K hK => ?_)
   go_simp
   refine (H_ri.out wK2 _ (HG3.out.below (hSK2)) (bc3.belowAll (hSK2))).mono ?_
   rintro e wK3 ⟨rfl, hbK3⟩
   have hSK3 := bStep hSK2 hbK3
   go_wp2_with fail
   refine hK.out _ _ (fun _ => hSK3) ?_
   clear hK K
   have b11_3 := b11_2.belowAll hbK3
   refine zo 7 rfl (fun K hK => ?_)
   have cS := b11_3.cell; have fS := b11_3.frozen
   go_simp
   obtain ⟨wK4, hw, hSK4, b11_4, hx⟩ := pkS b11_3 (hSK3) lN11_1 ri
   rw [hw]
   refine hK.out _ _ (fun _ => hSK4) ?_
   clear hK K cS fS hw hx
   refine zd ?_ _
   go_wp2_with fail
   go_meet
   exact ⟨_, rfl, lN11_1, b11_4, hSK4⟩
 obtain ⟨N11, rfl, lN11, v11_4, hbx⟩ := hcut
 obtain ⟨w4, hwn⟩ : ∃ x, x = wc := ⟨_, rfl⟩
 rw [← hwn] at hbx v11_4 ⊢
 clear hwn lN11 H_d1 H_ri
 have bp4 := bp3.belowAll hbx
 have bc4 := bc3.belowAll hbx
 have br4 := br3.belowAll hbx
 have bd4 := bd3.belowAll hbx
 have v9_4 := v9_3.belowAll hbx
 have v10_4 := v10_3.belowAll hbx
 have hbw4 := bStep hbw3 hbx
 have HG4 : Hid (Glob w4) := HG3.out.below hbx
 clear bp3 bc3 br3 bd3 v9_3 v10_3 hbw3 HG3 hbx
 obtain ⟨q0, q1, q2, q3, q4, q5, q6, q7, q8, q9, q10, q11, qf⟩ := bp4.cells
 have cy := v10_4.cell
 go_wp2_with fail
 refine (H_m1.out w4 _ HG4.out bc4).mono ?_
 rintro e w5 ⟨rfl, hbx⟩
 clear q0 q1 q2 q3 q4 q5 q6 q7 q8 q9 q10 q11 qf cy
 have bp5 := bp4.belowAll hbx
 have bc5 := bc4.belowAll hbx
 have br5 := br4.belowAll hbx
 have bd5 := bd4.belowAll hbx
 have v9_5 := v9_4.belowAll hbx
 have v10_5 := v10_4.belowAll hbx
 have v11_5 := v11_4.belowAll hbx
 have hbw5 := bStep hbw4 hbx
 have HG5 : Hid (Glob w5) := HG4.out.below hbx
 clear bp4 bc4 br4 bd4 v9_4 v10_4 v11_4 hbw4 HG4 hbx
 go_wp2_with fail
 refine (H_m2.out w5 _ _ HG5.out bc5 bd5).mono ?_
 rintro e w6 ⟨rfl, hbx⟩
 have bp6 := bp5.belowAll hbx
 have bc6 := bc5.belowAll hbx
 have br6 := br5.belowAll hbx
 have bd6 := bd5.belowAll hbx
 have v9_6 := v9_5.belowAll hbx
 have v10_6 := v10_5.belowAll hbx
 have v11_6 := v11_5.belowAll hbx
 have hbw6 := bStep hbw5 hbx
 have HG6 : Hid (Glob w6) := HG5.out.below hbx
 clear bp5 bc5 br5 bd5 v9_5 v10_5 v11_5 hbw5 HG5 hbx
 go_wp2_with fail
 refine (H_mi.out w6 _ _ HG6.out bc6 bd6).mono ?_
 rintro e w7 ⟨rfl, hbx⟩
 have bp7 := bp6.belowAll hbx
 have bc7 := bc6.belowAll hbx
 have br7 := br6.belowAll hbx
 have bd7 := bd6.belowAll hbx
 have v9_7 := v9_6.belowAll hbx
 have v10_7 := v10_6.belowAll hbx
 have v11_7 := v11_6.belowAll hbx
 have hbw7 := bStep hbw6 hbx
 have HG7 : Hid (Glob w7) := HG6.out.below hbx
 clear bp6 bc6 br6 bd6 v9_6 v10_6 v11_6 hbw6 HG6 hbx
 clear H_m1 H_m2 H_mi
 go_upto_region 10 with fail
 obtain ⟨w8, hw8⟩ : ∃ x : World, x = w7.alloc (.cells #[.int .u64 (limb 0 mi), .int .u64 (limb 1 mi), .int .u64 (limb 2 mi), .int .u64 (limb 3 mi)] 25) := ⟨_, rfl⟩
 obtain ⟨N12, hN12⟩ : ∃ D, D = w7.heap.size := ⟨_, rfl⟩
 have hbx : Below w7.heap.size w7 w8 := by rw [hw8]; exact (Below.refl _ _).alloc (Nat.le_refl _) _
 have v12_8 : Blk w8 25 N12 (fun i => limb i mi) := by rw [hw8]; exact Blk.newAt _ _ _ (fun i => limb i mi) hN12
 rw [← hw8, ← hN12]
 clear hw8 hN12
 have bp8 := bp7.belowAll hbx
 have bc8 := bc7.belowAll hbx
 have br8 := br7.belowAll hbx
 have bd8 := bd7.belowAll hbx
 have v9_8 := v9_7.belowAll hbx
 have v10_8 := v10_7.belowAll hbx
 have v11_8 := v11_7.belowAll hbx
 have hbw8 := bStep hbw7 hbx
 have HG8 : Hid (Glob w8) := HG7.out.below hbx
 clear bp7 bc7 br7 bd7 v9_7 v10_7 v11_7 hbw7 HG7 hbx
 go_cut [13] (fun p13 wx => ∃ N13 : Nat, p13 = .pointer (some ⟨N13, 0, none⟩) ∧ w8.heap.size ≤ N13 ∧ Blk wx 25 N13 (fun i => limb i x2) ∧ Below w8.heap.size w8 wx)
 case first =>
  have HS0 : Hid (Below w8.heap.size w8 w8.drew) := (Below.refl _ _).drew
  refine wp_region_Z (fun w' => Kp w8 w') 99 (by kernel_rfl) ?_
  refine zs 0 49 (.func (.func 110) #[] #[.pointer (some ⟨(w.heap.size + 1), 0, none⟩)]) (HS0.out) ?_
  refine zs 1 50 (.func (.func 108) #[] #[.pointer (some ⟨(w.heap.size + 1), 0, none⟩)]) (HS0.out) ?_
  refine zT 2 51 (.agg #[.int .u64 (limb 0 ri), .int .u64 (limb 1 ri), .int .u64 (limb 2 ri), .int .u64 (limb 3 ri)]) rfl rfl (fun w hSw => by (have qq := (v11_8.belowAll hSw).cell; clear hSw; go_simp)) (HS0.out) ?_
  refine zT 3 52 (.agg #[.int .u64 (limb 0 ri), .int .u64 (limb 1 ri), .int .u64 (limb 2 ri), .int .u64 (limb 3 ri)]) rfl rfl (fun w hSw => by (have qq := (v11_8.belowAll hSw).cell; clear hSw; go_simp)) (HS0.out) ?_
  refine zs 5 54 (.func (.func 111) #[] #[.pointer (some ⟨D, 0, none⟩)]) (HS0.out) ?_
  refine zT 6 55 (.agg #[.int .u64 (limb 0 mi), .int .u64 (limb 1 mi), .int .u64 (limb 2 mi), .int .u64 (limb 3 mi)]) rfl rfl (fun w hSw => by (have qq := (v12_8.belowAll hSw).cell; clear hSw; go_simp)) (HS0.out) ?_
  refine zw 4 9 rfl rfl (fun K hK => ?_) (fun K hK => ?_) 
  ·go_simp
   refine (H_rr.out w8.drew _ (HG8.out.below (HS0.out)) (bc8.belowAll (HS0.out))).mono ?_
   rintro e wK1 ⟨rfl, hbK1⟩
   have hSK1 := bStep HS0.out hbK1
   go_wp2_with fail
   refine hK.out _ _ (fun _ => hSK1) ?_
   clear hK K
   refine zw 7 9 rfl rfl (fun K hK => ?_) (fun K hK => ?_) 
   ·go_simp
    refine (H_dm.out wK1 _ _ (HG8.out.below (hSK1)) (bc8.belowAll (hSK1)) (bd8.belowAll (hSK1))).mono ?_
    rintro e wK2 ⟨rfl, hbK2⟩
    have hSK2 := bStep hSK1 hbK2
    go_wp2_with fail
    refine hK.out _ _ (fun _ => hSK2) ?_
    clear hK K
    refine zw 8 9 rfl rfl (fun K hK => ?_) (fun K hK => ?_) 
    ·go_simp
     refine (H_x2.out wK2 _ (HG8.out.below (hSK2)) (bc8.belowAll (hSK2))).mono ?_
     rintro e wK3 ⟨rfl, hbK3⟩
     have hSK3 := bStep hSK2 hbK3
     go_wp2_with fail
     refine hK.out _ _ (fun _ => hSK3) ?_
     clear hK K
     refine zo 9 rfl (fun K hK => ?_)
     go_simp
     obtain ⟨N13_4, wK4, hN, hw, hSK4, b13_4, lN13_4, hx⟩ := pkA hSK3
     rw [hw, hN]
     refine hK.out _ _ (fun _ => hSK4) ?_
     clear hK K hw hN hx
     refine zo 10 rfl (fun K hK => ?_)
     have cS := b13_4.cell; have fS := b13_4.frozen
     go_simp
     obtain ⟨wK5, hw, hSK5, b13_5, hx⟩ := pkS b13_4 (hSK4) lN13_4 x2
     rw [hw]
     refine hK.out _ _ (fun _ => hSK5) ?_
     clear hK K cS fS hw hx
     refine zd ?_ _
     go_wp2_with fail
     go_meet
     exact ⟨_, rfl, lN13_4, b13_5, hSK5⟩
    ·go_simp
     obtain ⟨N13_3, wK3, hN, hw, hSK3, b13_3, lN13_3, hx⟩ := pkA hSK2
     rw [hw, hN]
     refine hK.out _ _ (fun _ => hSK3) ?_
     clear hK K hw hN hx
     refine zo 8 rfl (fun K hK => ?_)
     go_simp
     refine (H_x2.out wK3 _ (HG8.out.below (hSK3)) (bc8.belowAll (hSK3))).mono ?_
     rintro e wK4 ⟨rfl, hbK4⟩
     have hSK4 := bStep hSK3 hbK4
     go_wp2_with fail
     refine hK.out _ _ (fun _ => hSK4) ?_
     clear hK K
     have b13_4 := b13_3.belowAll hbK4
     refine zo 10 rfl (fun K hK => ?_)
     have cS := b13_4.cell; have fS := b13_4.frozen
     go_simp
     obtain ⟨wK5, hw, hSK5, b13_5, hx⟩ := pkS b13_4 (hSK4) lN13_3 x2
     rw [hw]
     refine hK.out _ _ (fun _ => hSK5) ?_
     clear hK K cS fS hw hx
     refine zd ?_ _
     go_wp2_with fail
     go_meet
     exact ⟨_, rfl, lN13_3, b13_5, hSK5⟩
   ·go_simp
    obtain ⟨N13_2, wK2, hN, hw, hSK2, b13_2, lN13_2, hx⟩ := pkA hSK1
    rw [hw, hN]
    refine hK.out _ _ (fun _ => hSK2) ?_
    clear hK K hw hN hx
    refine zo 7 rfl (fun K hK => ?_)
    go_simp
    refine (H_dm.out wK2 _ _ (HG8.out.below (hSK2)) (bc8.belowAll (hSK2)) (bd8.belowAll (hSK2))).mono ?_
    rintro e wK3 ⟨rfl, hbK3⟩
    have hSK3 := bStep hSK2 hbK3
    go_wp2_with fail
    refine hK.out _ _ (fun _ => hSK3) ?_
    clear hK K
    have b13_3 := b13_2.belowAll hbK3
    refine zo 8 rfl (fun K hK => ?_)
    go_simp
    refine (H_x2.out wK3 _ (HG8.out.below (hSK3)) (bc8.belowAll (hSK3))).mono ?_
    rintro e wK4 ⟨rfl, hbK4⟩
    have hSK4 := bStep hSK3 hbK4
    go_wp2_with fail
    refine hK.out _ _ (fun _ => hSK4) ?_
    clear hK K
    have b13_4 := b13_3.belowAll hbK4
    refine zo 10 rfl (fun K hK => ?_)
    have cS := b13_4.cell; have fS := b13_4.frozen
    go_simp
    obtain ⟨wK5, hw, hSK5, b13_5, hx⟩ := pkS b13_4 (hSK4) lN13_2 x2
    rw [hw]
    refine hK.out _ _ (fun _ => hSK5) ?_
    clear hK K cS fS hw hx
    refine zd ?_ _
    go_wp2_with fail
    go_meet
    exact ⟨_, rfl, lN13_2, b13_5, hSK5⟩
  ·go_simp
   obtain ⟨N13_1, wK1, hN, hw, hSK1, b13_1, lN13_1, hx⟩ := pkD w8
   rw [hw, hN]
   refine hK.out _ _ (fun _ => hSK1) ?_
   clear hK K hw hN hx
   refine zo 4 rfl (fun K hK => ?_)
   go_simp
   refine (H_rr.out wK1 _ (HG8.out.below (hSK1)) (bc8.belowAll (hSK1))).mono ?_
   rintro e wK2 ⟨rfl, hbK2⟩
   have hSK2 := bStep hSK1 hbK2
   go_wp2_with fail
   refine hK.out _ _ (fun _ => hSK2) ?_
   clear hK K
   have b13_2 := b13_1.belowAll hbK2
   refine zo 7 rfl (fun K hK => ?_)
   go_simp
   refine (H_dm.out wK2 _ _ (HG8.out.below (hSK2)) (bc8.belowAll (hSK2)) (bd8.belowAll (hSK2))).mono ?_
   rintro e wK3 ⟨rfl, hbK3⟩
   have hSK3 := bStep hSK2 hbK3
   go_wp2_with fail
   refine hK.out _ _ (fun _ => hSK3) ?_
   clear hK K
   have b13_3 := b13_2.belowAll hbK3
   refine zo 8 rfl (fun K hK => ?_)
   go_simp
   refine (H_x2.out wK3 _ (HG8.out.below (hSK3)) (bc8.belowAll (hSK3))).mono ?_
   rintro e wK4 ⟨rfl, hbK4⟩
   have hSK4 := bStep hSK3 hbK4
   go_wp2_with fail
   refine hK.out _ _ (fun _ => hSK4) ?_
   clear hK K
   have b13_4 := b13_3.belowAll hbK4
   refine zo 10 rfl (fun K hK => ?_)
   have cS := b13_4.cell; have fS := b13_4.frozen
   go_simp
   obtain ⟨wK5, hw, hSK5, b13_5, hx⟩ := pkS b13_4 (hSK4) lN13_1 x2
   rw [hw]
   refine hK.out _ _ (fun _ => hSK5) ?_
   clear hK K cS fS hw hx
   refine zd ?_ _
   go_wp2_with fail
   go_meet
   exact ⟨_, rfl, lN13_1, b13_5, hSK5⟩
 obtain ⟨N13, rfl, lN13, v13_9, hbx⟩ := hcut
 obtain ⟨w9, hwn⟩ : ∃ x, x = wc := ⟨_, rfl⟩
 rw [← hwn] at hbx v13_9 ⊢
 clear hwn lN13 H_rr H_dm H_x2
 have bp9 := bp8.belowAll hbx
 have bc9 := bc8.belowAll hbx
 have br9 := br8.belowAll hbx
 have bd9 := bd8.belowAll hbx
 have v9_9 := v9_8.belowAll hbx
 have v10_9 := v10_8.belowAll hbx
 have v11_9 := v11_8.belowAll hbx
 have v12_9 := v12_8.belowAll hbx
 have hbw9 := bStep hbw8 hbx
 have HG9 : Hid (Glob w9) := HG8.out.below hbx
 clear bp8 bc8 br8 bd8 v9_8 v10_8 v11_8 v12_8 hbw8 HG8 hbx
 go_upto_region 11 with fail
 go_cut [14] (fun p14 wx => ∃ N14 : Nat, p14 = .pointer (some ⟨N14, 0, none⟩) ∧ w9.heap.size ≤ N14 ∧ Blk wx 25 N14 (fun i => limb i y2) ∧ Below w9.heap.size w9 wx)
 case first =>
  have HS0 : Hid (Below w9.heap.size w9 w9.drew) := (Below.refl _ _).drew
  refine wp_region_Z (fun w' => Kp w9 w') 99 (by kernel_rfl) ?_
  refine zs 0 58 (.func (.func 110) #[] #[.pointer (some ⟨(w.heap.size + 1), 0, none⟩)]) (HS0.out) ?_
  refine zs 1 59 (.func (.func 108) #[] #[.pointer (some ⟨(w.heap.size + 1), 0, none⟩)]) (HS0.out) ?_
  refine zT 2 60 (.agg #[.int .u64 (limb 0 ri), .int .u64 (limb 1 ri), .int .u64 (limb 2 ri), .int .u64 (limb 3 ri)]) rfl rfl (fun w hSw => by (have qq := (v11_9.belowAll hSw).cell; clear hSw; go_simp)) (HS0.out) ?_
  refine zs 3 61 (.func (.func 110) #[] #[.pointer (some ⟨(w.heap.size + 1), 0, none⟩)]) (HS0.out) ?_
  refine zT 4 62 (.agg #[.int .u64 (limb 0 mi), .int .u64 (limb 1 mi), .int .u64 (limb 2 mi), .int .u64 (limb 3 mi)]) rfl rfl (fun w hSw => by (have qq := (v12_9.belowAll hSw).cell; clear hSw; go_simp)) (HS0.out) ?_
  refine zT 5 63 (.agg #[.int .u64 (limb 0 x2), .int .u64 (limb 1 x2), .int .u64 (limb 2 x2), .int .u64 (limb 3 x2)]) rfl rfl (fun w hSw => by (have qq := (v13_9.belowAll hSw).cell; clear hSw; go_simp)) (HS0.out) ?_
  refine zs 8 66 (.func (.func 111) #[] #[.pointer (some ⟨D, 0, none⟩)]) (HS0.out) ?_
  refine zs 9 67 (.func (.func 111) #[] #[.pointer (some ⟨D, 0, none⟩)]) (HS0.out) ?_
  refine zs 10 68 (.func (.func 111) #[] #[.pointer (some ⟨D, 0, none⟩)]) (HS0.out) ?_
  refine zs 11 69 (.func (.func 108) #[] #[.pointer (some ⟨(w.heap.size + 1), 0, none⟩)]) (HS0.out) ?_
  refine zT 12 70 (.agg #[.int .u64 (limb 0 yy), .int .u64 (limb 1 yy), .int .u64 (limb 2 yy), .int .u64 (limb 3 yy)]) rfl rfl (fun w hSw => by (have qq := (v10_9.belowAll hSw).cell; clear hSw; go_simp)) (HS0.out) ?_
  refine zT 13 71 (.agg #[.int .u64 (limb 0 yy), .int .u64 (limb 1 yy), .int .u64 (limb 2 yy), .int .u64 (limb 3 yy)]) rfl rfl (fun w hSw => by (have qq := (v10_9.belowAll hSw).cell; clear hSw; go_simp)) (HS0.out) ?_
  refine zw 6 19 rfl rfl (fun K hK => ?_) (fun K hK => ?_) 
  ·go_simp
   refine (H_sm.out w9.drew _ (HG9.out.below (HS0.out)) (bc9.belowAll (HS0.out))).mono ?_
   rintro e wK1 ⟨rfl, hbK1⟩
   have hSK1 := bStep HS0.out hbK1
   go_wp2_with fail
   refine hK.out _ _ (fun _ => hSK1) ?_
   clear hK K
   refine zw 7 19 rfl rfl (fun K hK => ?_) (fun K hK => ?_) 
   ·go_simp
    refine (H_rs.out wK1 _ (HG9.out.below (hSK1)) (bc9.belowAll (hSK1))).mono ?_
    rintro e wK2 ⟨rfl, hbK2⟩
    have hSK2 := bStep hSK1 hbK2
    go_wp2_with fail
    refine hK.out _ _ (fun _ => hSK2) ?_
    clear hK K
    refine zw 14 19 rfl rfl (fun K hK => ?_) (fun K hK => ?_) 
    ·go_simp
     refine (H_y4.out wK2 _ (HG9.out.below (hSK2)) (bc9.belowAll (hSK2))).mono ?_
     rintro e wK3 ⟨rfl, hbK3⟩
     have hSK3 := bStep hSK2 hbK3
     go_wp2_with fail
     refine hK.out _ _ (fun _ => hSK3) ?_
     clear hK K
     refine zw 15 19 rfl rfl (fun K hK => ?_) (fun K hK => ?_) 
     ·go_simp
      refine (H_f1.out wK3 _ _ (HG9.out.below (hSK3)) (bc9.belowAll (hSK3)) (bd9.belowAll (hSK3))).mono ?_
      rintro e wK4 ⟨rfl, hbK4⟩
      have hSK4 := bStep hSK3 hbK4
      go_wp2_with fail
      refine hK.out _ _ (fun _ => hSK4) ?_
      clear hK K
      refine zw 16 19 rfl rfl (fun K hK => ?_) (fun K hK => ?_) 
      ·go_simp
       refine (H_f2.out wK4 _ _ (HG9.out.below (hSK4)) (bc9.belowAll (hSK4)) (bd9.belowAll (hSK4))).mono ?_
       rintro e wK5 ⟨rfl, hbK5⟩
       have hSK5 := bStep hSK4 hbK5
       go_wp2_with fail
       refine hK.out _ _ (fun _ => hSK5) ?_
       clear hK K
       refine zw 17 19 rfl rfl (fun K hK => ?_) (fun K hK => ?_) 
       ·go_simp
        refine (H_f3.out wK5 _ _ (HG9.out.below (hSK5)) (bc9.belowAll (hSK5)) (bd9.belowAll (hSK5))).mono ?_
        rintro e wK6 ⟨rfl, hbK6⟩
        have hSK6 := bStep hSK5 hbK6
        go_wp2_with fail
        refine hK.out _ _ (fun _ => hSK6) ?_
        clear hK K
        refine zw 18 19 rfl rfl (fun K hK => ?_) (fun K hK => ?_) 
        ·go_simp
         refine (H_y2.out wK6 _ (HG9.out.below (hSK6)) (bc9.belowAll (hSK6))).mono ?_
         rintro e wK7 ⟨rfl, hbK7⟩
         have hSK7 := bStep hSK6 hbK7
         go_wp2_with fail
         refine hK.out _ _ (fun _ => hSK7) ?_
         clear hK K
         refine zo 19 rfl (fun K hK => ?_)
         go_simp
         obtain ⟨N14_8, wK8, hN, hw, hSK8, b14_8, lN14_8, hx⟩ := pkA hSK7
         rw [hw, hN]
         refine hK.out _ _ (fun _ => hSK8) ?_
         clear hK K hw hN hx
         refine zo 20 rfl (fun K hK => ?_)
         have cS := b14_8.cell; have fS := b14_8.frozen
         go_simp
         obtain ⟨wK9, hw, hSK9, b14_9, hx⟩ := pkS b14_8 (hSK8) lN14_8 y2
         rw [hw]
         refine hK.out _ _ (fun _ => hSK9) ?_
         clear hK K cS fS hw hx
         refine zd ?_ _
         go_wp2_with fail
         go_meet
         exact ⟨_, rfl, lN14_8, b14_9, hSK9⟩
        ·go_simp
         obtain ⟨N14_7, wK7, hN, hw, hSK7, b14_7, lN14_7, hx⟩ := pkA hSK6
         rw [hw, hN]
         refine hK.out _ _ (fun _ => hSK7) ?_
         clear hK K hw hN hx
         refine zo 18 rfl (fun K hK => ?_)
         go_simp
         refine (H_y2.out wK7 _ (HG9.out.below (hSK7)) (bc9.belowAll (hSK7))).mono ?_
         rintro e wK8 ⟨rfl, hbK8⟩
         have hSK8 := bStep hSK7 hbK8
         go_wp2_with fail
         refine hK.out _ _ (fun _ => hSK8) ?_
         clear hK K
         have b14_8 := b14_7.belowAll hbK8
         refine zo 20 rfl (fun K hK => ?_)
         have cS := b14_8.cell; have fS := b14_8.frozen
         go_simp
         obtain ⟨wK9, hw, hSK9, b14_9, hx⟩ := pkS b14_8 (hSK8) lN14_7 y2
         rw [hw]
         refine hK.out _ _ (fun _ => hSK9) ?_
         clear hK K cS fS hw hx
         refine zd ?_ _
         go_wp2_with fail
         go_meet
         exact ⟨_, rfl, lN14_7, b14_9, hSK9⟩
       ·go_simp
        obtain ⟨N14_6, wK6, hN, hw, hSK6, b14_6, lN14_6, hx⟩ := pkA hSK5
        rw [hw, hN]
        refine hK.out _ _ (fun _ => hSK6) ?_
        clear hK K hw hN hx
        refine zo 17 rfl (fun K hK => ?_)
        go_simp
        refine (H_f3.out wK6 _ _ (HG9.out.below (hSK6)) (bc9.belowAll (hSK6)) (bd9.belowAll (hSK6))).mono ?_
        rintro e wK7 ⟨rfl, hbK7⟩
        have hSK7 := bStep hSK6 hbK7
        go_wp2_with fail
        refine hK.out _ _ (fun _ => hSK7) ?_
        clear hK K
        have b14_7 := b14_6.belowAll hbK7
        refine zo 18 rfl (fun K hK => ?_)
        go_simp
        refine (H_y2.out wK7 _ (HG9.out.below (hSK7)) (bc9.belowAll (hSK7))).mono ?_
        rintro e wK8 ⟨rfl, hbK8⟩
        have hSK8 := bStep hSK7 hbK8
        go_wp2_with fail
        refine hK.out _ _ (fun _ => hSK8) ?_
        clear hK K
        have b14_8 := b14_7.belowAll hbK8
        refine zo 20 rfl (fun K hK => ?_)
        have cS := b14_8.cell; have fS := b14_8.frozen
        go_simp
        obtain ⟨wK9, hw, hSK9, b14_9, hx⟩ := pkS b14_8 (hSK8) lN14_6 y2
        rw [hw]
        refine hK.out _ _ (fun _ => hSK9) ?_
        clear hK K cS fS hw hx
        refine zd ?_ _
        go_wp2_with fail
        go_meet
        exact ⟨_, rfl, lN14_6, b14_9, hSK9⟩
      ·go_simp
       obtain ⟨N14_5, wK5, hN, hw, hSK5, b14_5, lN14_5, hx⟩ := pkA hSK4
       rw [hw, hN]
       refine hK.out _ _ (fun _ => hSK5) ?_
       clear hK K hw hN hx
       refine zo 16 rfl (fun K hK => ?_)
       go_simp
       refine (H_f2.out wK5 _ _ (HG9.out.below (hSK5)) (bc9.belowAll (hSK5)) (bd9.belowAll (hSK5))).mono ?_
       rintro e wK6 ⟨rfl, hbK6⟩
       have hSK6 := bStep hSK5 hbK6
       go_wp2_with fail
       refine hK.out _ _ (fun _ => hSK6) ?_
       clear hK K
       have b14_6 := b14_5.belowAll hbK6
       refine zo 17 rfl (fun K hK => ?_)
       go_simp
       refine (H_f3.out wK6 _ _ (HG9.out.below (hSK6)) (bc9.belowAll (hSK6)) (bd9.belowAll (hSK6))).mono ?_
       rintro e wK7 ⟨rfl, hbK7⟩
       have hSK7 := bStep hSK6 hbK7
       go_wp2_with fail
       refine hK.out _ _ (fun _ => hSK7) ?_
       clear hK K
       have b14_7 := b14_6.belowAll hbK7
       refine zo 18 rfl (fun K hK => ?_)
       go_simp
       refine (H_y2.out wK7 _ (HG9.out.below (hSK7)) (bc9.belowAll (hSK7))).mono ?_
       rintro e wK8 ⟨rfl, hbK8⟩
       have hSK8 := bStep hSK7 hbK8
       go_wp2_with fail
       refine hK.out _ _ (fun _ => hSK8) ?_
       clear hK K
       have b14_8 := b14_7.belowAll hbK8
       refine zo 20 rfl (fun K hK => ?_)
       have cS := b14_8.cell; have fS := b14_8.frozen
       go_simp
       obtain ⟨wK9, hw, hSK9, b14_9, hx⟩ := pkS b14_8 (hSK8) lN14_5 y2
       rw [hw]
       refine hK.out _ _ (fun _ => hSK9) ?_
       clear hK K cS fS hw hx
       refine zd ?_ _
       go_wp2_with fail
       go_meet
       exact ⟨_, rfl, lN14_5, b14_9, hSK9⟩
     ·go_simp
      obtain ⟨N14_4, wK4, hN, hw, hSK4, b14_4, lN14_4, hx⟩ := pkA hSK3
      rw [hw, hN]
      refine hK.out _ _ (fun _ => hSK4) ?_
      clear hK K hw hN hx
      refine zo 15 rfl (fun K hK => ?_)
      go_simp
      refine (H_f1.out wK4 _ _ (HG9.out.below (hSK4)) (bc9.belowAll (hSK4)) (bd9.belowAll (hSK4))).mono ?_
      rintro e wK5 ⟨rfl, hbK5⟩
      have hSK5 := bStep hSK4 hbK5
      go_wp2_with fail
      refine hK.out _ _ (fun _ => hSK5) ?_
      clear hK K
      have b14_5 := b14_4.belowAll hbK5
      refine zo 16 rfl (fun K hK => ?_)
      go_simp
      refine (H_f2.out wK5 _ _ (HG9.out.below (hSK5)) (bc9.belowAll (hSK5)) (bd9.belowAll (hSK5))).mono ?_
      rintro e wK6 ⟨rfl, hbK6⟩
      have hSK6 := bStep hSK5 hbK6
      go_wp2_with fail
      refine hK.out _ _ (fun _ => hSK6) ?_
      clear hK K
      have b14_6 := b14_5.belowAll hbK6
      refine zo 17 rfl (fun K hK => ?_)
      go_simp
      refine (H_f3.out wK6 _ _ (HG9.out.below (hSK6)) (bc9.belowAll (hSK6)) (bd9.belowAll (hSK6))).mono ?_
      rintro e wK7 ⟨rfl, hbK7⟩
      have hSK7 := bStep hSK6 hbK7
      go_wp2_with fail
      refine hK.out _ _ (fun _ => hSK7) ?_
      clear hK K
      have b14_7 := b14_6.belowAll hbK7
      refine zo 18 rfl (fun K hK => ?_)
      go_simp
      refine (H_y2.out wK7 _ (HG9.out.below (hSK7)) (bc9.belowAll (hSK7))).mono ?_
      rintro e wK8 ⟨rfl, hbK8⟩
      have hSK8 := bStep hSK7 hbK8
      go_wp2_with fail
      refine hK.out _ _ (fun _ => hSK8) ?_
      clear hK K
      have b14_8 := b14_7.belowAll hbK8
      refine zo 20 rfl (fun K hK => ?_)
      have cS := b14_8.cell; have fS := b14_8.frozen
      go_simp
      obtain ⟨wK9, hw, hSK9, b14_9, hx⟩ := pkS b14_8 (hSK8) lN14_4 y2
      rw [hw]
      refine hK.out _ _ (fun _ => hSK9) ?_
      clear hK K cS fS hw hx
      refine zd ?_ _
      go_wp2_with fail
      go_meet
      exact ⟨_, rfl, lN14_4, b14_9, hSK9⟩
    ·go_simp
     obtain ⟨N14_3, wK3, hN, hw, hSK3, b14_3, lN14_3, hx⟩ := pkA hSK2
     rw [hw, hN]
     refine hK.out _ _ (fun _ => hSK3) ?_
     clear hK K hw hN hx
     refine zo 14 rfl (fun K hK => ?_)
     go_simp
     refine (H_y4.out wK3 _ (HG9.out.below (hSK3)) (bc9.belowAll (hSK3))).mono ?_
     rintro e wK4 ⟨rfl, hbK4⟩
     have hSK4 := bStep hSK3 hbK4
     go_wp2_with fail
     refine hK.out _ _ (fun _ => hSK4) ?_
     clear hK K
     have b14_4 := b14_3.belowAll hbK4
     refine zo 15 rfl (fun K hK => ?_)
     go_simp
     refine (H_f1.out wK4 _ _ (HG9.out.below (hSK4)) (bc9.belowAll (hSK4)) (bd9.belowAll (hSK4))).mono ?_
     rintro e wK5 ⟨rfl, hbK5⟩
     have hSK5 := bStep hSK4 hbK5
     go_wp2_with fail
     refine hK.out _ _ (fun _ => hSK5) ?_
     clear hK K
     have b14_5 := b14_4.belowAll hbK5
     refine zo 16 rfl (fun K hK => ?_)
     go_simp
     refine (H_f2.out wK5 _ _ (HG9.out.below (hSK5)) (bc9.belowAll (hSK5)) (bd9.belowAll (hSK5))).mono ?_
     rintro e wK6 ⟨rfl, hbK6⟩
     have hSK6 := bStep hSK5 hbK6
     go_wp2_with fail
     refine hK.out _ _ (fun _ => hSK6) ?_
     clear hK K
     have b14_6 := b14_5.belowAll hbK6
     refine zo 17 rfl (fun K hK => ?_)
     go_simp
     refine (H_f3.out wK6 _ _ (HG9.out.below (hSK6)) (bc9.belowAll (hSK6)) (bd9.belowAll (hSK6))).mono ?_
     rintro e wK7 ⟨rfl, hbK7⟩
     have hSK7 := bStep hSK6 hbK7
     go_wp2_with fail
     refine hK.out _ _ (fun _ => hSK7) ?_
     clear hK K
     have b14_7 := b14_6.belowAll hbK7
     refine zo 18 rfl (fun K hK => ?_)
     go_simp
     refine (H_y2.out wK7 _ (HG9.out.below (hSK7)) (bc9.belowAll (hSK7))).mono ?_
     rintro e wK8 ⟨rfl, hbK8⟩
     have hSK8 := bStep hSK7 hbK8
     go_wp2_with fail
     refine hK.out _ _ (fun _ => hSK8) ?_
     clear hK K
     have b14_8 := b14_7.belowAll hbK8
     refine zo 20 rfl (fun K hK => ?_)
     have cS := b14_8.cell; have fS := b14_8.frozen
     go_simp
     obtain ⟨wK9, hw, hSK9, b14_9, hx⟩ := pkS b14_8 (hSK8) lN14_3 y2
     rw [hw]
     refine hK.out _ _ (fun _ => hSK9) ?_
     clear hK K cS fS hw hx
     refine zd ?_ _
     go_wp2_with fail
     go_meet
     exact ⟨_, rfl, lN14_3, b14_9, hSK9⟩
   ·go_simp
    obtain ⟨N14_2, wK2, hN, hw, hSK2, b14_2, lN14_2, hx⟩ := pkA hSK1
    rw [hw, hN]
    refine hK.out _ _ (fun _ => hSK2) ?_
    clear hK K hw hN hx
    refine zo 7 rfl (fun K hK => ?_)
    go_simp
    refine (H_rs.out wK2 _ (HG9.out.below (hSK2)) (bc9.belowAll (hSK2))).mono ?_
    rintro e wK3 ⟨rfl, hbK3⟩
    have hSK3 := bStep hSK2 hbK3
    go_wp2_with fail
    refine hK.out _ _ (fun _ => hSK3) ?_
    clear hK K
    have b14_3 := b14_2.belowAll hbK3
    refine zo 14 rfl (fun K hK => ?_)
    go_simp
    refine (H_y4.out wK3 _ (HG9.out.below (hSK3)) (bc9.belowAll (hSK3))).mono ?_
    rintro e wK4 ⟨rfl, hbK4⟩
    have hSK4 := bStep hSK3 hbK4
    go_wp2_with fail
    refine hK.out _ _ (fun _ => hSK4) ?_
    clear hK K
    have b14_4 := b14_3.belowAll hbK4
    refine zo 15 rfl (fun K hK => ?_)
    go_simp
    refine (H_f1.out wK4 _ _ (HG9.out.below (hSK4)) (bc9.belowAll (hSK4)) (bd9.belowAll (hSK4))).mono ?_
    rintro e wK5 ⟨rfl, hbK5⟩
    have hSK5 := bStep hSK4 hbK5
    go_wp2_with fail
    refine hK.out _ _ (fun _ => hSK5) ?_
    clear hK K
    have b14_5 := b14_4.belowAll hbK5
    refine zo 16 rfl (fun K hK => ?_)
    go_simp
    refine (H_f2.out wK5 _ _ (HG9.out.below (hSK5)) (bc9.belowAll (hSK5)) (bd9.belowAll (hSK5))).mono ?_
    rintro e wK6 ⟨rfl, hbK6⟩
    have hSK6 := bStep hSK5 hbK6
    go_wp2_with fail
    refine hK.out _ _ (fun _ => hSK6) ?_
    clear hK K
    have b14_6 := b14_5.belowAll hbK6
    refine zo 17 rfl (fun K hK => ?_)
    go_simp
    refine (H_f3.out wK6 _ _ (HG9.out.below (hSK6)) (bc9.belowAll (hSK6)) (bd9.belowAll (hSK6))).mono ?_
    rintro e wK7 ⟨rfl, hbK7⟩
    have hSK7 := bStep hSK6 hbK7
    go_wp2_with fail
    refine hK.out _ _ (fun _ => hSK7) ?_
    clear hK K
    have b14_7 := b14_6.belowAll hbK7
    refine zo 18 rfl (fun K hK => ?_)
    go_simp
    refine (H_y2.out wK7 _ (HG9.out.below (hSK7)) (bc9.belowAll (hSK7))).mono ?_
    rintro e wK8 ⟨rfl, hbK8⟩
    have hSK8 := bStep hSK7 hbK8
    go_wp2_with fail
    refine hK.out _ _ (fun _ => hSK8) ?_
    clear hK K
    have b14_8 := b14_7.belowAll hbK8
    refine zo 20 rfl (fun K hK => ?_)
    have cS := b14_8.cell; have fS := b14_8.frozen
    go_simp
    obtain ⟨wK9, hw, hSK9, b14_9, hx⟩ := pkS b14_8 (hSK8) lN14_2 y2
    rw [hw]
    refine hK.out _ _ (fun _ => hSK9) ?_
    clear hK K cS fS hw hx
    refine zd ?_ _
    go_wp2_with fail
    go_meet
    exact ⟨_, rfl, lN14_2, b14_9, hSK9⟩
  ·go_simp
   obtain ⟨N14_1, wK1, hN, hw, hSK1, b14_1, lN14_1, hx⟩ := pkD w9
   rw [hw, hN]
   refine hK.out _ _ (fun _ => hSK1) ?_
   clear hK K hw hN hx
   refine zo 6 rfl (fun K hK => ?_)
   go_simp
   refine (H_sm.out wK1 _ (HG9.out.below (hSK1)) (bc9.belowAll (hSK1))).mono ?_
   rintro e wK2 ⟨rfl, hbK2⟩
   have hSK2 := bStep hSK1 hbK2
   go_wp2_with fail
   refine hK.out _ _ (fun _ => hSK2) ?_
   clear hK K
   have b14_2 := b14_1.belowAll hbK2
   refine zo 7 rfl (fun K hK => ?_)
   go_simp
   refine (H_rs.out wK2 _ (HG9.out.below (hSK2)) (bc9.belowAll (hSK2))).mono ?_
   rintro e wK3 ⟨rfl, hbK3⟩
   have hSK3 := bStep hSK2 hbK3
   go_wp2_with fail
   refine hK.out _ _ (fun _ => hSK3) ?_
   clear hK K
   have b14_3 := b14_2.belowAll hbK3
   refine zo 14 rfl (fun K hK => ?_)
   go_simp
   refine (H_y4.out wK3 _ (HG9.out.below (hSK3)) (bc9.belowAll (hSK3))).mono ?_
   rintro e wK4 ⟨rfl, hbK4⟩
   have hSK4 := bStep hSK3 hbK4
   go_wp2_with fail
   refine hK.out _ _ (fun _ => hSK4) ?_
   clear hK K
   have b14_4 := b14_3.belowAll hbK4
   refine zo 15 rfl (fun K hK => ?_)
   go_simp
   refine (H_f1.out wK4 _ _ (HG9.out.below (hSK4)) (bc9.belowAll (hSK4)) (bd9.belowAll (hSK4))).mono ?_
   rintro e wK5 ⟨rfl, hbK5⟩
   have hSK5 := bStep hSK4 hbK5
   go_wp2_with fail
   refine hK.out _ _ (fun _ => hSK5) ?_
   clear hK K
   have b14_5 := b14_4.belowAll hbK5
   refine zo 16 rfl (fun K hK => ?_)
   go_simp
   refine (H_f2.out wK5 _ _ (HG9.out.below (hSK5)) (bc9.belowAll (hSK5)) (bd9.belowAll (hSK5))).mono ?_
   rintro e wK6 ⟨rfl, hbK6⟩
   have hSK6 := bStep hSK5 hbK6
   go_wp2_with fail
   refine hK.out _ _ (fun _ => hSK6) ?_
   clear hK K
   have b14_6 := b14_5.belowAll hbK6
   refine zo 17 rfl (fun K hK => ?_)
   go_simp
   refine (H_f3.out wK6 _ _ (HG9.out.below (hSK6)) (bc9.belowAll (hSK6)) (bd9.belowAll (hSK6))).mono ?_
   rintro e wK7 ⟨rfl, hbK7⟩
   have hSK7 := bStep hSK6 hbK7
   go_wp2_with fail
   refine hK.out _ _ (fun _ => hSK7) ?_
   clear hK K
   have b14_7 := b14_6.belowAll hbK7
   refine zo 18 rfl (fun K hK => ?_)
   go_simp
   refine (H_y2.out wK7 _ (HG9.out.below (hSK7)) (bc9.belowAll (hSK7))).mono ?_
   rintro e wK8 ⟨rfl, hbK8⟩
   have hSK8 := bStep hSK7 hbK8
   go_wp2_with fail
   refine hK.out _ _ (fun _ => hSK8) ?_
   clear hK K
   have b14_8 := b14_7.belowAll hbK8
   refine zo 20 rfl (fun K hK => ?_)
   have cS := b14_8.cell; have fS := b14_8.frozen
   go_simp
   obtain ⟨wK9, hw, hSK9, b14_9, hx⟩ := pkS b14_8 (hSK8) lN14_1 y2
   rw [hw]
   refine hK.out _ _ (fun _ => hSK9) ?_
   clear hK K cS fS hw hx
   refine zd ?_ _
   go_wp2_with fail
   go_meet
   exact ⟨_, rfl, lN14_1, b14_9, hSK9⟩
 obtain ⟨N14, rfl, lN14, v14_10, hbx⟩ := hcut
 obtain ⟨w10, hwn⟩ : ∃ x, x = wc := ⟨_, rfl⟩
 rw [← hwn] at hbx v14_10 ⊢
 clear hwn lN14 H_sm H_rs H_y4 H_f1 H_f2 H_f3 H_y2
 have bp10 := bp9.belowAll hbx
 have bc10 := bc9.belowAll hbx
 have br10 := br9.belowAll hbx
 have bd10 := bd9.belowAll hbx
 have v9_10 := v9_9.belowAll hbx
 have v10_10 := v10_9.belowAll hbx
 have v11_10 := v11_9.belowAll hbx
 have v12_10 := v12_9.belowAll hbx
 have v13_10 := v13_9.belowAll hbx
 have hbw10 := bStep hbw9 hbx
 have HG10 : Hid (Glob w10) := HG9.out.below hbx
 clear bp9 bc9 br9 bd9 v9_9 v10_9 v11_9 v12_9 v13_9 hbw9 HG9 hbx
 go_upto_region 12 with fail
 have HS0 : Hid (Below w10.heap.size w10 w10.drew) := (Below.refl _ _).drew
 refine wp_region_Z (fun w' => Below w10.heap.size w10 w') 11 (by kernel_rfl) ?_
 refine zT 0 77 (.agg #[.int .u64 (limb 0 x2), .int .u64 (limb 1 x2), .int .u64 (limb 2 x2), .int .u64 (limb 3 x2)]) rfl rfl (fun w hSw => by (have qq := (v13_10.belowAll hSw).cell; clear hSw; go_simp)) HS0.out ?_
 refine zT 1 78 (.agg #[.int .u64 (limb 0 y2), .int .u64 (limb 1 y2), .int .u64 (limb 2 y2), .int .u64 (limb 3 y2)]) rfl rfl (fun w hSw => by (have qq := (v14_10.belowAll hSw).cell; clear hSw; go_simp)) HS0.out ?_
 refine zs 2 79 (.func (.func 111) #[] #[.pointer (some ⟨D, 0, none⟩)]) HS0.out ?_
 refine zs 3 80 (.func (.func 108) #[] #[.pointer (some ⟨(w.heap.size + 1), 0, none⟩)]) HS0.out ?_
 refine zs 4 81 (.pointer (some ⟨w.heap.size, 4, none⟩)) HS0.out ?_
 refine zT 5 82 (.agg #[.int .u64 (limb 0 Y), .int .u64 (limb 1 Y), .int .u64 (limb 2 Y), .int .u64 (limb 3 Y)]) rfl rfl (fun w hSw => by (obtain ⟨q0, q1, q2, q3, q4, q5, q6, q7, q8, q9, q10, q11, qf⟩ := (bp10.belowAll hSw).cells; clear hSw; go_simp)) HS0.out ?_
 refine zs 6 83 (.pointer (some ⟨w.heap.size, 8, none⟩)) HS0.out ?_
 refine zT 7 84 (.agg #[.int .u64 (limb 0 Z), .int .u64 (limb 1 Z), .int .u64 (limb 2 Z), .int .u64 (limb 3 Z)]) rfl rfl (fun w hSw => by (obtain ⟨q0, q1, q2, q3, q4, q5, q6, q7, q8, q9, q10, q11, qf⟩ := (bp10.belowAll hSw).cells; clear hSw; go_simp)) HS0.out ?_
 refine zo 8 rfl (fun K hK => ?_)
 go_simp
 refine (H_yz.out w10.drew _ (HG10.out.below (HS0.out)) (bc10.belowAll (HS0.out))).mono ?_
 rintro e wK1 ⟨rfl, hbK1⟩
 have hSK1 := bStep HS0.out hbK1
 go_wp2_with fail
 refine hK.out _ _ (fun _ => hSK1) ?_
 clear hK K
 refine zo 9 rfl (fun K hK => ?_)
 go_simp
 refine (H_z2.out wK1 _ _ (HG10.out.below (hSK1)) (bc10.belowAll (hSK1)) (bd10.belowAll (hSK1))).mono ?_
 rintro e wK2 ⟨rfl, hbK2⟩
 have hSK2 := bStep hSK1 hbK2
 go_wp2_with fail
 refine hK.out _ _ (fun _ => hSK2) ?_
 clear hK K
 refine zs 10 87 (.agg #[.int .u64 (limb 0 x2), .int .u64 (limb 1 x2), .int .u64 (limb 2 x2), .int .u64 (limb 3 x2), .int .u64 (limb 0 y2), .int .u64 (limb 1 y2), .int .u64 (limb 2 y2), .int .u64 (limb 3 y2), .int .u64 (limb 0 z2), .int .u64 (limb 1 z2), .int .u64 (limb 2 z2), .int .u64 (limb 3 z2)]) hSK2 ?_
 refine zo 11 rfl (fun K hK => ?_)
 obtain ⟨r0, r1, r2, r3, r4, r5, r6, r7, r8, r9, r10, r11, rf⟩ := (br10.belowAll (hSK2)).cells
 go_simp
 refine hK.out _ _ (fun h => absurd rfl h) ?_
 clear hK K
 refine zd ?_ _
 go_wp2
 refine bodyPost_ret (v := .agg #[.int .u64 (limb 0 x2), .int .u64 (limb 1 x2), .int .u64 (limb 2 x2), .int .u64 (limb 3 x2), .int .u64 (limb 0 y2), .int .u64 (limb 1 y2), .int .u64 (limb 2 y2), .int .u64 (limb 3 y2), .int .u64 (limb 0 z2), .int .u64 (limb 1 z2), .int .u64 (limb 2 z2), .int .u64 (limb 3 z2)]) (by simp [results, Tryz.results70, go_sem, r0, r1, r2, r3, r4, r5, r6, r7, r8, r9, r10, r11]) rfl ⟨rfl, ?_⟩
 exact bSet12 (bStep hbw10 (hSK2)) hrw _ _ _ _ _ _ _ _ _ _ _ _
end Go.Proofs.YtdeijnlbencfdaaGreatDoor
