/- The reference's Checks. -/
import Derived.Test.YtobeeoelfmfpdaaDoorXLV4
namespace Go.Proofs.YtobeeoelfmfpdaaDoor
open Go.RowKit
set_option maxHeartbeats 8000000 in
set_option maxRecDepth 20000 in
/-- The reference's Checks. -/
theorem rchk_in (s : Nat) (hs : s < 4) (cp cs : Array Value) (be ga x0 x1 x2 x3 x4 x5 x6 y0 y1 y2 y3 : Nat) (hP : SpV cp y0 y1 y2 y3) (hC : SkV cs x0 x1 x2 x3 x4 x5 x6) (hbe : be < 115792089237316195423570985008687907853269984665640564039457584007913129639936) (hga : ga < 115792089237316195423570985008687907853269984665640564039457584007913129639936) (hx0 : x0 < 115792089237316195423570985008687907853269984665640564039457584007913129639936) (hx1 : x1 < 115792089237316195423570985008687907853269984665640564039457584007913129639936) (hx2 : x2 < 115792089237316195423570985008687907853269984665640564039457584007913129639936) (hx3 : x3 < 115792089237316195423570985008687907853269984665640564039457584007913129639936) (hx4 : x4 < 115792089237316195423570985008687907853269984665640564039457584007913129639936) (hx5 : x5 < 115792089237316195423570985008687907853269984665640564039457584007913129639936) (hx6 : x6 < 115792089237316195423570985008687907853269984665640564039457584007913129639936) (hy1 : y1 < 115792089237316195423570985008687907853269984665640564039457584007913129639936) (hy2 : y2 < 115792089237316195423570985008687907853269984665640564039457584007913129639936) (hy3 : y3 < 115792089237316195423570985008687907853269984665640564039457584007913129639936) (w : World) :
    Calls Tryd.prog 22 #[.int .i64 (s : Int), .agg cp, .agg cs, .agg #[.int .u64 ((limb 0 (be) : Nat) : Int), .int .u64 ((limb 1 (be) : Nat) : Int), .int .u64 ((limb 2 (be) : Nat) : Int), .int .u64 ((limb 3 (be) : Nat) : Int)], .agg #[.int .u64 ((limb 0 (ga) : Nat) : Int), .int .u64 ((limb 1 (ga) : Nat) : Int), .int .u64 ((limb 2 (ga) : Nat) : Int), .int .u64 ((limb 3 (ga) : Nat) : Int)]] w fun e w' => (∃ N, e = .returned (.slice (some ⟨N, 0, none⟩) 5 5) ∧ w.heap.size ≤ N ∧ BlkE w' N 5 (chkV (addP s) (mulP s) (subP s) be ga x0 x1 x2 x3 x4 x5 x6 y1 y2 y3)) ∧ Below w.heap.size w w' := by
  have hF := rfld_in s hs
  have hS := rsb_in s hs
  have hs0 : ¬ (s : Int) < 0 := by omega
  have hs3 : ¬ (3 : Int) < (s : Int) := by omega
  obtain ⟨si, esi⟩ : ∃ z : Int, z = (s : Int) := ⟨_, rfl⟩
  obtain ⟨ad, ead⟩ : ∃ z, z = addP s := ⟨_, rfl⟩
  obtain ⟨mu, emu⟩ : ∃ z, z = mulP s := ⟨_, rfl⟩
  obtain ⟨sb, esb⟩ : ∃ z, z = subP s := ⟨_, rfl⟩
  rw [← esi] at hs0 hs3 ⊢
  rw [← esi, ← ead, ← emu] at hF
  rw [← esi, ← esb] at hS
  rw [← ead, ← emu, ← esb]
  clear ead emu esb
  have mM := fun a b => (hF.1 a b).2
  have sM := hS.1
  have HMU := hF.2.2
  have HSU := hS.2
  have C58 : Hid (∀ w, _) := fun w => HSU 1 x5 (by decide) hx5 w
  rw [one_agg] at C58
  have C59 : Hid (∀ w, _) := fun w => HMU y1 (sb 1 x5) hy1 (sM _ _) w
  have C69 : Hid (∀ w, _) := fun w => HMU x5 x5 hx5 hx5 w
  have C72 : Hid (∀ w, _) := fun w => HSU (mu x5 x5) x5 (mM _ _) hx5 w
  have C73 : Hid (∀ w, _) := fun w => HMU y2 (sb (mu x5 x5) x5) hy2 (sM _ _) w
  have C36 : Hid (∀ w, _) := fun w => two_any hF x2 be x4 ga hx2 hbe hx4 hga w
  have C37 : Hid (∀ w, _) := fun w => HMU x6 (mu (ad x2 be) (ad x4 ga)) hx6 (mM _ _) w
  have C48 : Hid (∀ w, _) := fun w => two_any hF x0 be x1 ga hx0 hbe hx1 hga w
  have C49 : Hid (∀ w, _) := fun w => HMU x5 (mu (ad x0 be) (ad x1 ga)) hx5 (mM _ _) w
  have C50 : Hid (∀ w, _) := fun w => HSU (mu x6 (mu (ad x2 be) (ad x4 ga))) (mu x5 (mu (ad x0 be) (ad x1 ga))) (mM _ _) (mM _ _) w
  have C78 : Hid (∀ w, _) := fun w => HMU y3 (sb (mu x6 (mu (ad x2 be) (ad x4 ga))) (mu x5 (mu (ad x0 be) (ad x1 ga)))) hy3 (sM _ _) w
  have C24 : Hid (∀ w, _) := fun w => HSU x2 x4 hx2 hx4 w
  have C83 : Hid (∀ w, _) := fun w => HMU y1 (sb x2 x4) hy1 (sM _ _) w
  have C94 : Hid (∀ w, _) := fun w => HSU x2 x3 hx2 hx3 w
  have C95 : Hid (∀ w, _) := fun w => HMU (sb x2 x4) (sb x2 x3) (sM _ _) (sM _ _) w
  have C96 : Hid (∀ w, _) := fun w => HMU y3 (mu (sb x2 x4) (sb x2 x3)) hy3 (mM _ _) w
  obtain ⟨F, eF⟩ : ∃ z, z = chkV ad mu sb be ga x0 x1 x2 x3 x4 x5 x6 y1 y2 y3 := ⟨_, rfl⟩
  have HF0 : Hid (F 0 = mu y1 (sb 1 x5)) := by rw [eF]; rfl
  have HF1 : Hid (F 1 = mu y2 (sb (mu x5 x5) x5)) := by rw [eF]; rfl
  have HF2 : Hid (F 2 = mu y3 (sb (mu x6 (mu (ad x2 be) (ad x4 ga))) (mu x5 (mu (ad x0 be) (ad x1 ga))))) := by rw [eF]; rfl
  have HF3 : Hid (F 3 = mu y1 (sb x2 x4)) := by rw [eF]; rfl
  have HF4 : Hid (F 4 = mu y3 (mu (sb x2 x4) (sb x2 x3))) := by rw [eF]; rfl
  rw [← eF]
  clear eF
  obtain ⟨t58, et58⟩ : ∃ z, z = sb 1 x5 := ⟨_, rfl⟩
  rw [← et58] at C58 C59 HF0
  obtain ⟨t69, et69⟩ : ∃ z, z = mu x5 x5 := ⟨_, rfl⟩
  rw [← et69] at C69 C72 C73 HF1
  obtain ⟨t72, et72⟩ : ∃ z, z = sb t69 x5 := ⟨_, rfl⟩
  rw [← et72] at C72 C73 HF1
  obtain ⟨t36, et36⟩ : ∃ z, z = mu (ad x2 be) (ad x4 ga) := ⟨_, rfl⟩
  rw [← et36] at C36 C37 C50 C78 HF2
  obtain ⟨t37, et37⟩ : ∃ z, z = mu x6 t36 := ⟨_, rfl⟩
  rw [← et37] at C37 C50 C78 HF2
  obtain ⟨t48, et48⟩ : ∃ z, z = mu (ad x0 be) (ad x1 ga) := ⟨_, rfl⟩
  rw [← et48] at C48 C49 C50 C78 HF2
  obtain ⟨t49, et49⟩ : ∃ z, z = mu x5 t48 := ⟨_, rfl⟩
  rw [← et49] at C49 C50 C78 HF2
  obtain ⟨t50, et50⟩ : ∃ z, z = sb t37 t49 := ⟨_, rfl⟩
  rw [← et50] at C50 C78 HF2
  obtain ⟨t24, et24⟩ : ∃ z, z = sb x2 x4 := ⟨_, rfl⟩
  rw [← et24] at C24 C83 C95 C96 HF3 HF4
  obtain ⟨t94, et94⟩ : ∃ z, z = sb x2 x3 := ⟨_, rfl⟩
  rw [← et94] at C94 C95 C96 HF4
  obtain ⟨t95, et95⟩ : ∃ z, z = mu t24 t94 := ⟨_, rfl⟩
  rw [← et95] at C95 C96 HF4
  obtain ⟨v0, ev0⟩ : ∃ z, z = mu y1 t58 := ⟨_, rfl⟩
  rw [← ev0] at C59 HF0
  obtain ⟨v1, ev1⟩ : ∃ z, z = mu y2 t72 := ⟨_, rfl⟩
  rw [← ev1] at C73 HF1
  obtain ⟨v2, ev2⟩ : ∃ z, z = mu y3 t50 := ⟨_, rfl⟩
  rw [← ev2] at C78 HF2
  obtain ⟨v3, ev3⟩ : ∃ z, z = mu y1 t24 := ⟨_, rfl⟩
  rw [← ev3] at C83 HF3
  obtain ⟨v4, ev4⟩ : ∃ z, z = mu y3 t95 := ⟨_, rfl⟩
  rw [← ev4] at C96 HF4
  clear et58 et69 et72 et36 et37 et48 et49 et50 et24 et94 et95 ev0 ev1 ev2 ev3 ev4 mM sM HMU HSU hF hS hbe hga hx0 hx1 hx2 hx3 hx4 hx5 hx6 hy1 hy2 hy3 hs
  have HSK : Hid (SkV cs x0 x1 x2 x3 x4 x5 x6) := hC
  have HSP : Hid (SpV cp y0 y1 y2 y3) := hP
  clear hC hP esi
  go_enter Tryd.func22, Tryd.ntmps22
  go_upto_region 3 with fail
  have hs1 : (w.alloc (.cells cp 50)).heap.size = w.heap.size + 1 := Array.size_push ..
  have hs2 : ((w.alloc (.cells cp 50)).alloc (.cells cs 52)).heap.size = w.heap.size + 1 + 1 := by rw [← hs1]; exact Array.size_push ..
  have hs3 : (((w.alloc (.cells cp 50)).alloc (.cells cs 52)).alloc (.cells #[.int .u64 ((limb 0 (be) : Nat) : Int), .int .u64 ((limb 1 (be) : Nat) : Int), .int .u64 ((limb 2 (be) : Nat) : Int), .int .u64 ((limb 3 (be) : Nat) : Int)] 24)).heap.size = w.heap.size + 1 + 1 + 1 := by rw [← hs2]; exact Array.size_push ..
  obtain ⟨N6, e0⟩ : ∃ z, z = w.heap.size := ⟨_, rfl⟩
  obtain ⟨N7, e1⟩ : ∃ z, z = N6 + 1 := ⟨_, rfl⟩
  obtain ⟨N8, e2⟩ : ∃ z, z = N7 + 1 := ⟨_, rfl⟩
  obtain ⟨N9, e3⟩ : ∃ z, z = N8 + 1 := ⟨_, rfl⟩
  obtain ⟨w1, hw1⟩ : ∃ z : World, z = (((w.alloc (.cells cp 50)).alloc (.cells cs 52)).alloc (.cells #[.int .u64 ((limb 0 (be) : Nat) : Int), .int .u64 ((limb 1 (be) : Nat) : Int), .int .u64 ((limb 2 (be) : Nat) : Int), .int .u64 ((limb 3 (be) : Nat) : Int)] 24)).alloc (.cells #[.int .u64 ((limb 0 (ga) : Nat) : Int), .int .u64 ((limb 1 (ga) : Nat) : Int), .int .u64 ((limb 2 (ga) : Nat) : Int), .int .u64 ((limb 3 (ga) : Nat) : Int)] 24) := ⟨_, rfl⟩
  have b6 : Lay w1 50 N6 cp := by rw [hw1]; exact (((Lay.newAt _ _ _ e0).alloc _).alloc _).alloc _
  have b7 : Lay w1 52 N7 cs := by rw [hw1]; exact ((Lay.newAt _ _ _ (by rw [e1, e0, hs1])).alloc _).alloc _
  have b8 : Blk w1 24 N8 (fun i => limb i be) := by rw [hw1]; exact (Blk.newAt _ _ _ (fun i => limb i be) (by rw [e2, e1, e0, hs2])).alloc _
  have b9 : Blk w1 24 N9 (fun i => limb i ga) := by rw [hw1]; exact Blk.newAt _ _ _ (fun i => limb i ga) (by rw [e3, e2, e1, e0, hs3])
  have hb1 : Below w.heap.size w w1 := by rw [hw1]; exact bAlloc (bAlloc (bAlloc (bAlloc (Below.refl _ _) _) _) _) _
  rw [← hw1]
  try rw [← e0]
  try rw [← e1]
  try rw [← e2]
  try rw [← e3]
  have l6 : w.heap.size ≤ N6 := by omega
  have l7 : w.heap.size ≤ N7 := by omega
  have l8 : w.heap.size ≤ N8 := by omega
  have l9 : w.heap.size ≤ N9 := by omega
  have n6_7 : N6 ≠ N7 := by omega
  have n6_8 : N6 ≠ N8 := by omega
  have n6_9 : N6 ≠ N9 := by omega
  have n7_8 : N7 ≠ N8 := by omega
  have n7_9 : N7 ≠ N9 := by omega
  have n8_9 : N8 ≠ N9 := by omega
  clear hw1 e0 e1 e2 e3 hs1 hs2 hs3
  obtain ⟨p0, p1, p2, p3⟩ : w1.cell? ⟨N7, 8, none⟩ = _ ∧ w1.cell? ⟨N7, 9, none⟩ = _ ∧ w1.cell? ⟨N7, 10, none⟩ = _ ∧ w1.cell? ⟨N7, 11, none⟩ = _ := b7.el HSK.out.2.2.2.1
  obtain ⟨q0, q1, q2, q3⟩ : w1.cell? ⟨N7, 16, none⟩ = _ ∧ w1.cell? ⟨N7, 17, none⟩ = _ ∧ w1.cell? ⟨N7, 18, none⟩ = _ ∧ w1.cell? ⟨N7, 19, none⟩ = _ := b7.el HSK.out.2.2.2.2.2.1
  clear hs0 hs3
  go_wp2_with fail
  refine (C24.out w1).mono ?_
  rintro e w2 ⟨rfl, hbx⟩
  clear p0 p1 p2 p3 q0 q1 q2 q3
  have c6 := b6.belowAll hbx; have c7 := b7.belowAll hbx; have c8 := b8.belowAll hbx; have c9 := b9.belowAll hbx
  have hb2 := bStep hb1 hbx
  clear hbx hb1 b6 b7 b8 b9
  go_upto_region 4 with fail
  obtain ⟨w3, hwn⟩ : ∃ z : World, z = w2.alloc (.cells #[.int .u64 ((limb 0 (t24) : Nat) : Int), .int .u64 ((limb 1 (t24) : Nat) : Int), .int .u64 ((limb 2 (t24) : Nat) : Int), .int .u64 ((limb 3 (t24) : Nat) : Int)] 24) := ⟨_, rfl⟩
  obtain ⟨N11, hn11⟩ : ∃ z, z = w2.heap.size := ⟨_, rfl⟩
  have d11 : Blk w3 24 N11 (fun i => limb i t24) := by rw [hwn]; exact Blk.newAt _ _ _ (fun i => limb i t24) hn11
  have hbn : Below w2.heap.size w2 w3 := by rw [hwn]; exact bAlloc (Below.refl _ _) _
  have d6 := c6.belowAll hbn
  have d7 := c7.belowAll hbn
  have d8 := c8.belowAll hbn
  have d9 := c9.belowAll hbn
  have hb3 := bStep hb2 hbn
  rw [← hwn]
  try rw [← hn11]
  clear hwn hn11 hbn hb2 c6 c7 c8 c9
  go_cut [12] (fun p wx => ∃ N : Nat, p = .pointer (some ⟨N, 0, none⟩) ∧ w3.heap.size ≤ N ∧ Blk wx 24 N (fun i => limb i t50) ∧ Below w3.heap.size w3 wx)
  case first =>
    have HS0 : Hid (Below w3.heap.size w3 w3.drew) := (Below.refl _ _).drew
    refine wp_region_Z (fun w' => Kp w3 w') 99 (by kernel_rfl) ?_
    refine wpZ_take (i := 0) (v := .int .i64 si) 25 rfl rfl (by kernel_rfl) (by kernel_rfl) (by kernel_rfl) (Or.inr (by decide)) (fun _ _ _ h => h) (Or.inl ⟨by rfl, fun w hSw => by go_simp⟩) (HS0.out) ?_
    simp only [Act.put, List.setIfInBounds_toArray]
    dsimp only [List.set_cons_zero, List.set_cons_succ]
    refine wpZ_take (i := 1) (v := .int .i64 si) 26 rfl rfl (by kernel_rfl) (by kernel_rfl) (by kernel_rfl) (Or.inr (by decide)) (fun _ _ _ h => h) (Or.inl ⟨by rfl, fun w hSw => by go_simp⟩) (HS0.out) ?_
    simp only [Act.put, List.setIfInBounds_toArray]
    dsimp only [List.set_cons_zero, List.set_cons_succ]
    refine wpZ_take (i := 2) (v := .pointer (some ⟨N7, 24, none⟩)) 27 rfl rfl (by kernel_rfl) (by kernel_rfl) (by kernel_rfl) (Or.inr (by decide)) (fun _ _ _ h => h) (Or.inl ⟨by rfl, fun w hSw => by go_simp⟩) (HS0.out) ?_
    simp only [Act.put, List.setIfInBounds_toArray]
    dsimp only [List.set_cons_zero, List.set_cons_succ]
    refine wpZ_take (i := 3) (v := .agg #[.int .u64 ((limb 0 (x6) : Nat) : Int), .int .u64 ((limb 1 (x6) : Nat) : Int), .int .u64 ((limb 2 (x6) : Nat) : Int), .int .u64 ((limb 3 (x6) : Nat) : Int)]) 28 rfl rfl (by kernel_rfl) (by kernel_rfl) (by kernel_rfl) (Or.inr (by decide)) (fun _ _ _ h => h) (Or.inl ⟨by rfl, fun w hSw => by (obtain ⟨q0, q1, q2, q3⟩ : w.cell? ⟨N7, 24, none⟩ = _ ∧ w.cell? ⟨N7, 25, none⟩ = _ ∧ w.cell? ⟨N7, 26, none⟩ = _ ∧ w.cell? ⟨N7, 27, none⟩ = _ := (d7.belowAll hSw).el HSK.out.2.2.2.2.2.2.2; clear hSw; go_simp)⟩) (HS0.out) ?_
    simp only [Act.put, List.setIfInBounds_toArray]
    dsimp only [List.set_cons_zero, List.set_cons_succ]
    refine wpZ_take (i := 4) (v := .int .i64 si) 29 rfl rfl (by kernel_rfl) (by kernel_rfl) (by kernel_rfl) (Or.inr (by decide)) (fun _ _ _ h => h) (Or.inl ⟨by rfl, fun w hSw => by go_simp⟩) (HS0.out) ?_
    simp only [Act.put, List.setIfInBounds_toArray]
    dsimp only [List.set_cons_zero, List.set_cons_succ]
    refine wpZ_take (i := 5) (v := .pointer (some ⟨N7, 8, none⟩)) 30 rfl rfl (by kernel_rfl) (by kernel_rfl) (by kernel_rfl) (Or.inr (by decide)) (fun _ _ _ h => h) (Or.inl ⟨by rfl, fun w hSw => by go_simp⟩) (HS0.out) ?_
    simp only [Act.put, List.setIfInBounds_toArray]
    dsimp only [List.set_cons_zero, List.set_cons_succ]
    refine wpZ_take (i := 6) (v := .agg #[.int .u64 ((limb 0 (x2) : Nat) : Int), .int .u64 ((limb 1 (x2) : Nat) : Int), .int .u64 ((limb 2 (x2) : Nat) : Int), .int .u64 ((limb 3 (x2) : Nat) : Int)]) 31 rfl rfl (by kernel_rfl) (by kernel_rfl) (by kernel_rfl) (Or.inr (by decide)) (fun _ _ _ h => h) (Or.inl ⟨by rfl, fun w hSw => by (obtain ⟨q0, q1, q2, q3⟩ : w.cell? ⟨N7, 8, none⟩ = _ ∧ w.cell? ⟨N7, 9, none⟩ = _ ∧ w.cell? ⟨N7, 10, none⟩ = _ ∧ w.cell? ⟨N7, 11, none⟩ = _ := (d7.belowAll hSw).el HSK.out.2.2.2.1; clear hSw; go_simp)⟩) (HS0.out) ?_
    simp only [Act.put, List.setIfInBounds_toArray]
    dsimp only [List.set_cons_zero, List.set_cons_succ]
    refine wpZ_take (i := 7) (v := .agg #[.int .u64 ((limb 0 (be) : Nat) : Int), .int .u64 ((limb 1 (be) : Nat) : Int), .int .u64 ((limb 2 (be) : Nat) : Int), .int .u64 ((limb 3 (be) : Nat) : Int)]) 32 rfl rfl (by kernel_rfl) (by kernel_rfl) (by kernel_rfl) (Or.inr (by decide)) (fun _ _ _ h => h) (Or.inl ⟨by rfl, fun w hSw => by (have qq := (d8.belowAll hSw).cell; clear hSw; go_simp)⟩) (HS0.out) ?_
    simp only [Act.put, List.setIfInBounds_toArray]
    dsimp only [List.set_cons_zero, List.set_cons_succ]
    refine wpZ_take (i := 8) (v := .pointer (some ⟨N7, 16, none⟩)) 33 rfl rfl (by kernel_rfl) (by kernel_rfl) (by kernel_rfl) (Or.inr (by decide)) (fun _ _ _ h => h) (Or.inl ⟨by rfl, fun w hSw => by go_simp⟩) (HS0.out) ?_
    simp only [Act.put, List.setIfInBounds_toArray]
    dsimp only [List.set_cons_zero, List.set_cons_succ]
    refine wpZ_take (i := 9) (v := .agg #[.int .u64 ((limb 0 (x4) : Nat) : Int), .int .u64 ((limb 1 (x4) : Nat) : Int), .int .u64 ((limb 2 (x4) : Nat) : Int), .int .u64 ((limb 3 (x4) : Nat) : Int)]) 34 rfl rfl (by kernel_rfl) (by kernel_rfl) (by kernel_rfl) (Or.inr (by decide)) (fun _ _ _ h => h) (Or.inl ⟨by rfl, fun w hSw => by (obtain ⟨q0, q1, q2, q3⟩ : w.cell? ⟨N7, 16, none⟩ = _ ∧ w.cell? ⟨N7, 17, none⟩ = _ ∧ w.cell? ⟨N7, 18, none⟩ = _ ∧ w.cell? ⟨N7, 19, none⟩ = _ := (d7.belowAll hSw).el HSK.out.2.2.2.2.2.1; clear hSw; go_simp)⟩) (HS0.out) ?_
    simp only [Act.put, List.setIfInBounds_toArray]
    dsimp only [List.set_cons_zero, List.set_cons_succ]
    refine wpZ_take (i := 10) (v := .agg #[.int .u64 ((limb 0 (ga) : Nat) : Int), .int .u64 ((limb 1 (ga) : Nat) : Int), .int .u64 ((limb 2 (ga) : Nat) : Int), .int .u64 ((limb 3 (ga) : Nat) : Int)]) 35 rfl rfl (by kernel_rfl) (by kernel_rfl) (by kernel_rfl) (Or.inr (by decide)) (fun _ _ _ h => h) (Or.inl ⟨by rfl, fun w hSw => by (have qq := (d9.belowAll hSw).cell; clear hSw; go_simp)⟩) (HS0.out) ?_
    simp only [Act.put, List.setIfInBounds_toArray]
    dsimp only [List.set_cons_zero, List.set_cons_succ]
    refine wpZ_take (i := 13) (v := .int .i64 si) 38 rfl rfl (by kernel_rfl) (by kernel_rfl) (by kernel_rfl) (Or.inr (by decide)) (fun _ _ _ h => h) (Or.inl ⟨by rfl, fun w hSw => by go_simp⟩) (HS0.out) ?_
    simp only [Act.put, List.setIfInBounds_toArray]
    dsimp only [List.set_cons_zero, List.set_cons_succ]
    refine wpZ_take (i := 14) (v := .pointer (some ⟨N7, 20, none⟩)) 39 rfl rfl (by kernel_rfl) (by kernel_rfl) (by kernel_rfl) (Or.inr (by decide)) (fun _ _ _ h => h) (Or.inl ⟨by rfl, fun w hSw => by go_simp⟩) (HS0.out) ?_
    simp only [Act.put, List.setIfInBounds_toArray]
    dsimp only [List.set_cons_zero, List.set_cons_succ]
    refine wpZ_take (i := 15) (v := .agg #[.int .u64 ((limb 0 (x5) : Nat) : Int), .int .u64 ((limb 1 (x5) : Nat) : Int), .int .u64 ((limb 2 (x5) : Nat) : Int), .int .u64 ((limb 3 (x5) : Nat) : Int)]) 40 rfl rfl (by kernel_rfl) (by kernel_rfl) (by kernel_rfl) (Or.inr (by decide)) (fun _ _ _ h => h) (Or.inl ⟨by rfl, fun w hSw => by (obtain ⟨q0, q1, q2, q3⟩ : w.cell? ⟨N7, 20, none⟩ = _ ∧ w.cell? ⟨N7, 21, none⟩ = _ ∧ w.cell? ⟨N7, 22, none⟩ = _ ∧ w.cell? ⟨N7, 23, none⟩ = _ := (d7.belowAll hSw).el HSK.out.2.2.2.2.2.2.1; clear hSw; go_simp)⟩) (HS0.out) ?_
    simp only [Act.put, List.setIfInBounds_toArray]
    dsimp only [List.set_cons_zero, List.set_cons_succ]
    refine wpZ_take (i := 16) (v := .int .i64 si) 41 rfl rfl (by kernel_rfl) (by kernel_rfl) (by kernel_rfl) (Or.inr (by decide)) (fun _ _ _ h => h) (Or.inl ⟨by rfl, fun w hSw => by go_simp⟩) (HS0.out) ?_
    simp only [Act.put, List.setIfInBounds_toArray]
    dsimp only [List.set_cons_zero, List.set_cons_succ]
    refine wpZ_take (i := 17) (v := .pointer (some ⟨N7, 0, none⟩)) 42 rfl rfl (by kernel_rfl) (by kernel_rfl) (by kernel_rfl) (Or.inr (by decide)) (fun _ _ _ h => h) (Or.inl ⟨by rfl, fun w hSw => by go_simp⟩) (HS0.out) ?_
    simp only [Act.put, List.setIfInBounds_toArray]
    dsimp only [List.set_cons_zero, List.set_cons_succ]
    refine wpZ_take (i := 18) (v := .agg #[.int .u64 ((limb 0 (x0) : Nat) : Int), .int .u64 ((limb 1 (x0) : Nat) : Int), .int .u64 ((limb 2 (x0) : Nat) : Int), .int .u64 ((limb 3 (x0) : Nat) : Int)]) 43 rfl rfl (by kernel_rfl) (by kernel_rfl) (by kernel_rfl) (Or.inr (by decide)) (fun _ _ _ h => h) (Or.inl ⟨by rfl, fun w hSw => by (obtain ⟨q0, q1, q2, q3⟩ : w.cell? ⟨N7, 0, none⟩ = _ ∧ w.cell? ⟨N7, 1, none⟩ = _ ∧ w.cell? ⟨N7, 2, none⟩ = _ ∧ w.cell? ⟨N7, 3, none⟩ = _ := (d7.belowAll hSw).el HSK.out.2.1; clear hSw; go_simp)⟩) (HS0.out) ?_
    simp only [Act.put, List.setIfInBounds_toArray]
    dsimp only [List.set_cons_zero, List.set_cons_succ]
    refine wpZ_take (i := 19) (v := .agg #[.int .u64 ((limb 0 (be) : Nat) : Int), .int .u64 ((limb 1 (be) : Nat) : Int), .int .u64 ((limb 2 (be) : Nat) : Int), .int .u64 ((limb 3 (be) : Nat) : Int)]) 44 rfl rfl (by kernel_rfl) (by kernel_rfl) (by kernel_rfl) (Or.inr (by decide)) (fun _ _ _ h => h) (Or.inl ⟨by rfl, fun w hSw => by (have qq := (d8.belowAll hSw).cell; clear hSw; go_simp)⟩) (HS0.out) ?_
    simp only [Act.put, List.setIfInBounds_toArray]
    dsimp only [List.set_cons_zero, List.set_cons_succ]
    refine wpZ_take (i := 20) (v := .pointer (some ⟨N7, 4, none⟩)) 45 rfl rfl (by kernel_rfl) (by kernel_rfl) (by kernel_rfl) (Or.inr (by decide)) (fun _ _ _ h => h) (Or.inl ⟨by rfl, fun w hSw => by go_simp⟩) (HS0.out) ?_
    simp only [Act.put, List.setIfInBounds_toArray]
    dsimp only [List.set_cons_zero, List.set_cons_succ]
    refine wpZ_take (i := 21) (v := .agg #[.int .u64 ((limb 0 (x1) : Nat) : Int), .int .u64 ((limb 1 (x1) : Nat) : Int), .int .u64 ((limb 2 (x1) : Nat) : Int), .int .u64 ((limb 3 (x1) : Nat) : Int)]) 46 rfl rfl (by kernel_rfl) (by kernel_rfl) (by kernel_rfl) (Or.inr (by decide)) (fun _ _ _ h => h) (Or.inl ⟨by rfl, fun w hSw => by (obtain ⟨q0, q1, q2, q3⟩ : w.cell? ⟨N7, 4, none⟩ = _ ∧ w.cell? ⟨N7, 5, none⟩ = _ ∧ w.cell? ⟨N7, 6, none⟩ = _ ∧ w.cell? ⟨N7, 7, none⟩ = _ := (d7.belowAll hSw).el HSK.out.2.2.1; clear hSw; go_simp)⟩) (HS0.out) ?_
    simp only [Act.put, List.setIfInBounds_toArray]
    dsimp only [List.set_cons_zero, List.set_cons_succ]
    refine wpZ_take (i := 22) (v := .agg #[.int .u64 ((limb 0 (ga) : Nat) : Int), .int .u64 ((limb 1 (ga) : Nat) : Int), .int .u64 ((limb 2 (ga) : Nat) : Int), .int .u64 ((limb 3 (ga) : Nat) : Int)]) 47 rfl rfl (by kernel_rfl) (by kernel_rfl) (by kernel_rfl) (Or.inr (by decide)) (fun _ _ _ h => h) (Or.inl ⟨by rfl, fun w hSw => by (have qq := (d9.belowAll hSw).cell; clear hSw; go_simp)⟩) (HS0.out) ?_
    simp only [Act.put, List.setIfInBounds_toArray]
    dsimp only [List.set_cons_zero, List.set_cons_succ]
    refine wpZ_two (i := 11) (j := 26) (by kernel_rfl) rfl rfl (fun K hK => ?_) (fun K hK => ?_) 
    · go_simp
      refine (C36.out w3.drew).mono ?_
      rintro e wK1 ⟨rfl, hbK1⟩
      have hSK1 : Below w3.heap.size w3 wK1 := bStep (HS0.out) hbK1
      go_wp2_with fail
      refine hK.out _ _ (fun _ => hSK1) ?_
      clear hK K
      refine wpZ_two (i := 12) (j := 26) (by kernel_rfl) rfl rfl (fun K hK => ?_) (fun K hK => ?_) 
      · go_simp
        refine (C37.out wK1).mono ?_
        rintro e wK2 ⟨rfl, hbK2⟩
        have hSK2 : Below w3.heap.size w3 wK2 := bStep (hSK1) hbK2
        go_wp2_with fail
        refine hK.out _ _ (fun _ => hSK2) ?_
        clear hK K
        refine wpZ_two (i := 23) (j := 26) (by kernel_rfl) rfl rfl (fun K hK => ?_) (fun K hK => ?_) 
        · go_simp
          refine (C48.out wK2).mono ?_
          rintro e wK3 ⟨rfl, hbK3⟩
          have hSK3 : Below w3.heap.size w3 wK3 := bStep (hSK2) hbK3
          go_wp2_with fail
          refine hK.out _ _ (fun _ => hSK3) ?_
          clear hK K
          refine wpZ_two (i := 24) (j := 26) (by kernel_rfl) rfl rfl (fun K hK => ?_) (fun K hK => ?_) 
          · go_simp
            refine (C49.out wK3).mono ?_
            rintro e wK4 ⟨rfl, hbK4⟩
            have hSK4 : Below w3.heap.size w3 wK4 := bStep (hSK3) hbK4
            go_wp2_with fail
            refine hK.out _ _ (fun _ => hSK4) ?_
            clear hK K
            refine wpZ_two (i := 25) (j := 26) (by kernel_rfl) rfl rfl (fun K hK => ?_) (fun K hK => ?_) 
            · go_simp
              refine (C50.out wK4).mono ?_
              rintro e wK5 ⟨rfl, hbK5⟩
              have hSK5 : Below w3.heap.size w3 wK5 := bStep (hSK4) hbK5
              go_wp2_with fail
              refine hK.out _ _ (fun _ => hSK5) ?_
              clear hK K
              refine wpZ_one (i := 26) (by kernel_rfl) rfl (fun K hK => ?_)
              go_simp
              have hSK6' : Below w3.heap.size w3 (wK5.alloc (.cells #[.int .u64 0, .int .u64 0, .int .u64 0, .int .u64 0] 24)) := bAlloc (hSK5) _
              refine hK.out _ _ (fun _ => hSK6') ?_
              clear hK K
              obtain ⟨N12_6, hN12_6⟩ : ∃ N, N = wK5.heap.size := ⟨_, rfl⟩
              obtain ⟨wK6, hwK6⟩ : ∃ x : World, x = wK5.alloc (.cells #[.int .u64 0, .int .u64 0, .int .u64 0, .int .u64 0] 24) := ⟨_, rfl⟩
              have hSK6 : Below w3.heap.size w3 wK6 := by rw [hwK6]; exact hSK6'
              have b12_6 : Blk wK6 24 N12_6 (fun _ => 0) := by rw [hwK6, hN12_6]; exact Blk.new wK5 24 (fun _ => 0)
              have lN12_6 : w3.heap.size ≤ N12_6 := by rw [hN12_6]; exact (hSK5).size
              rw [← hwK6, ← hN12_6]
              clear hwK6 hSK6' hN12_6
              refine wpZ_one (i := 27) (by kernel_rfl) rfl (fun K hK => ?_)
              have cS := b12_6.cell; have fS := b12_6.frozen
              go_simp
              refine hK.out _ _ (fun _ => bSet4 (hSK6) lN12_6 _ _ _ _) ?_
              clear hK K cS fS
              obtain ⟨wK7, hwK7⟩ : ∃ x : World, x = ((((wK6.setCell ⟨N12_6, 0, none⟩ (.int .u64 ((limb 0 t50 : Nat) : Int))).setCell ⟨N12_6, 1, none⟩ (.int .u64 ((limb 1 t50 : Nat) : Int))).setCell ⟨N12_6, 2, none⟩ (.int .u64 ((limb 2 t50 : Nat) : Int))).setCell ⟨N12_6, 3, none⟩ (.int .u64 ((limb 3 t50 : Nat) : Int))) := ⟨_, rfl⟩
              have hSK7 : Below w3.heap.size w3 wK7 := by rw [hwK7]; exact bSet4 (hSK6) lN12_6 _ _ _ _
              have b12_7 : Blk wK7 24 N12_6 (fun i => limb i t50) := by rw [hwK7]; exact b12_6.set4 (fun i => limb i t50)
              rw [← hwK7]
              clear hwK7
              refine wpZ_done (by kernel_rfl) ?_ _
              go_wp2_with fail
              go_meet
              exact ⟨_, rfl, lN12_6, b12_7, hSK7⟩
            · go_simp
              have hSK5' : Below w3.heap.size w3 (wK4.alloc (.cells #[.int .u64 0, .int .u64 0, .int .u64 0, .int .u64 0] 24)) := bAlloc (hSK4) _
              refine hK.out _ _ (fun _ => hSK5') ?_
              clear hK K
              obtain ⟨N12_5, hN12_5⟩ : ∃ N, N = wK4.heap.size := ⟨_, rfl⟩
              obtain ⟨wK5, hwK5⟩ : ∃ x : World, x = wK4.alloc (.cells #[.int .u64 0, .int .u64 0, .int .u64 0, .int .u64 0] 24) := ⟨_, rfl⟩
              have hSK5 : Below w3.heap.size w3 wK5 := by rw [hwK5]; exact hSK5'
              have b12_5 : Blk wK5 24 N12_5 (fun _ => 0) := by rw [hwK5, hN12_5]; exact Blk.new wK4 24 (fun _ => 0)
              have lN12_5 : w3.heap.size ≤ N12_5 := by rw [hN12_5]; exact (hSK4).size
              rw [← hwK5, ← hN12_5]
              clear hwK5 hSK5' hN12_5
              refine wpZ_one (i := 25) (by kernel_rfl) rfl (fun K hK => ?_)
              go_simp
              refine (C50.out wK5).mono ?_
              rintro e wK6 ⟨rfl, hbK6⟩
              have hSK6 : Below w3.heap.size w3 wK6 := bStep (hSK5) hbK6
              go_wp2_with fail
              refine hK.out _ _ (fun _ => hSK6) ?_
              clear hK K
              have b12_6 := b12_5.belowAll hbK6
              refine wpZ_one (i := 27) (by kernel_rfl) rfl (fun K hK => ?_)
              have cS := b12_6.cell; have fS := b12_6.frozen
              go_simp
              refine hK.out _ _ (fun _ => bSet4 (hSK6) lN12_5 _ _ _ _) ?_
              clear hK K cS fS
              obtain ⟨wK7, hwK7⟩ : ∃ x : World, x = ((((wK6.setCell ⟨N12_5, 0, none⟩ (.int .u64 ((limb 0 t50 : Nat) : Int))).setCell ⟨N12_5, 1, none⟩ (.int .u64 ((limb 1 t50 : Nat) : Int))).setCell ⟨N12_5, 2, none⟩ (.int .u64 ((limb 2 t50 : Nat) : Int))).setCell ⟨N12_5, 3, none⟩ (.int .u64 ((limb 3 t50 : Nat) : Int))) := ⟨_, rfl⟩
              have hSK7 : Below w3.heap.size w3 wK7 := by rw [hwK7]; exact bSet4 (hSK6) lN12_5 _ _ _ _
              have b12_7 : Blk wK7 24 N12_5 (fun i => limb i t50) := by rw [hwK7]; exact b12_6.set4 (fun i => limb i t50)
              rw [← hwK7]
              clear hwK7
              refine wpZ_done (by kernel_rfl) ?_ _
              go_wp2_with fail
              go_meet
              exact ⟨_, rfl, lN12_5, b12_7, hSK7⟩
          · go_simp
            have hSK4' : Below w3.heap.size w3 (wK3.alloc (.cells #[.int .u64 0, .int .u64 0, .int .u64 0, .int .u64 0] 24)) := bAlloc (hSK3) _
            refine hK.out _ _ (fun _ => hSK4') ?_
            clear hK K
            obtain ⟨N12_4, hN12_4⟩ : ∃ N, N = wK3.heap.size := ⟨_, rfl⟩
            obtain ⟨wK4, hwK4⟩ : ∃ x : World, x = wK3.alloc (.cells #[.int .u64 0, .int .u64 0, .int .u64 0, .int .u64 0] 24) := ⟨_, rfl⟩
            have hSK4 : Below w3.heap.size w3 wK4 := by rw [hwK4]; exact hSK4'
            have b12_4 : Blk wK4 24 N12_4 (fun _ => 0) := by rw [hwK4, hN12_4]; exact Blk.new wK3 24 (fun _ => 0)
            have lN12_4 : w3.heap.size ≤ N12_4 := by rw [hN12_4]; exact (hSK3).size
            rw [← hwK4, ← hN12_4]
            clear hwK4 hSK4' hN12_4
            refine wpZ_one (i := 24) (by kernel_rfl) rfl (fun K hK => ?_)
            go_simp
            refine (C49.out wK4).mono ?_
            rintro e wK5 ⟨rfl, hbK5⟩
            have hSK5 : Below w3.heap.size w3 wK5 := bStep (hSK4) hbK5
            go_wp2_with fail
            refine hK.out _ _ (fun _ => hSK5) ?_
            clear hK K
            have b12_5 := b12_4.belowAll hbK5
            refine wpZ_one (i := 25) (by kernel_rfl) rfl (fun K hK => ?_)
            go_simp
            refine (C50.out wK5).mono ?_
            rintro e wK6 ⟨rfl, hbK6⟩
            have hSK6 : Below w3.heap.size w3 wK6 := bStep (hSK5) hbK6
            go_wp2_with fail
            refine hK.out _ _ (fun _ => hSK6) ?_
            clear hK K
            have b12_6 := b12_5.belowAll hbK6
            refine wpZ_one (i := 27) (by kernel_rfl) rfl (fun K hK => ?_)
            have cS := b12_6.cell; have fS := b12_6.frozen
            go_simp
            refine hK.out _ _ (fun _ => bSet4 (hSK6) lN12_4 _ _ _ _) ?_
            clear hK K cS fS
            obtain ⟨wK7, hwK7⟩ : ∃ x : World, x = ((((wK6.setCell ⟨N12_4, 0, none⟩ (.int .u64 ((limb 0 t50 : Nat) : Int))).setCell ⟨N12_4, 1, none⟩ (.int .u64 ((limb 1 t50 : Nat) : Int))).setCell ⟨N12_4, 2, none⟩ (.int .u64 ((limb 2 t50 : Nat) : Int))).setCell ⟨N12_4, 3, none⟩ (.int .u64 ((limb 3 t50 : Nat) : Int))) := ⟨_, rfl⟩
            have hSK7 : Below w3.heap.size w3 wK7 := by rw [hwK7]; exact bSet4 (hSK6) lN12_4 _ _ _ _
            have b12_7 : Blk wK7 24 N12_4 (fun i => limb i t50) := by rw [hwK7]; exact b12_6.set4 (fun i => limb i t50)
            rw [← hwK7]
            clear hwK7
            refine wpZ_done (by kernel_rfl) ?_ _
            go_wp2_with fail
            go_meet
            exact ⟨_, rfl, lN12_4, b12_7, hSK7⟩
        · go_simp
          have hSK3' : Below w3.heap.size w3 (wK2.alloc (.cells #[.int .u64 0, .int .u64 0, .int .u64 0, .int .u64 0] 24)) := bAlloc (hSK2) _
          refine hK.out _ _ (fun _ => hSK3') ?_
          clear hK K
          obtain ⟨N12_3, hN12_3⟩ : ∃ N, N = wK2.heap.size := ⟨_, rfl⟩
          obtain ⟨wK3, hwK3⟩ : ∃ x : World, x = wK2.alloc (.cells #[.int .u64 0, .int .u64 0, .int .u64 0, .int .u64 0] 24) := ⟨_, rfl⟩
          have hSK3 : Below w3.heap.size w3 wK3 := by rw [hwK3]; exact hSK3'
          have b12_3 : Blk wK3 24 N12_3 (fun _ => 0) := by rw [hwK3, hN12_3]; exact Blk.new wK2 24 (fun _ => 0)
          have lN12_3 : w3.heap.size ≤ N12_3 := by rw [hN12_3]; exact (hSK2).size
          rw [← hwK3, ← hN12_3]
          clear hwK3 hSK3' hN12_3
          refine wpZ_one (i := 23) (by kernel_rfl) rfl (fun K hK => ?_)
          go_simp
          refine (C48.out wK3).mono ?_
          rintro e wK4 ⟨rfl, hbK4⟩
          have hSK4 : Below w3.heap.size w3 wK4 := bStep (hSK3) hbK4
          go_wp2_with fail
          refine hK.out _ _ (fun _ => hSK4) ?_
          clear hK K
          have b12_4 := b12_3.belowAll hbK4
          refine wpZ_one (i := 24) (by kernel_rfl) rfl (fun K hK => ?_)
          go_simp
          refine (C49.out wK4).mono ?_
          rintro e wK5 ⟨rfl, hbK5⟩
          have hSK5 : Below w3.heap.size w3 wK5 := bStep (hSK4) hbK5
          go_wp2_with fail
          refine hK.out _ _ (fun _ => hSK5) ?_
          clear hK K
          have b12_5 := b12_4.belowAll hbK5
          refine wpZ_one (i := 25) (by kernel_rfl) rfl (fun K hK => ?_)
          go_simp
          refine (C50.out wK5).mono ?_
          rintro e wK6 ⟨rfl, hbK6⟩
          have hSK6 : Below w3.heap.size w3 wK6 := bStep (hSK5) hbK6
          go_wp2_with fail
          refine hK.out _ _ (fun _ => hSK6) ?_
          clear hK K
          have b12_6 := b12_5.belowAll hbK6
          refine wpZ_one (i := 27) (by kernel_rfl) rfl (fun K hK => ?_)
          have cS := b12_6.cell; have fS := b12_6.frozen
          go_simp
          refine hK.out _ _ (fun _ => bSet4 (hSK6) lN12_3 _ _ _ _) ?_
          clear hK K cS fS
          obtain ⟨wK7, hwK7⟩ : ∃ x : World, x = ((((wK6.setCell ⟨N12_3, 0, none⟩ (.int .u64 ((limb 0 t50 : Nat) : Int))).setCell ⟨N12_3, 1, none⟩ (.int .u64 ((limb 1 t50 : Nat) : Int))).setCell ⟨N12_3, 2, none⟩ (.int .u64 ((limb 2 t50 : Nat) : Int))).setCell ⟨N12_3, 3, none⟩ (.int .u64 ((limb 3 t50 : Nat) : Int))) := ⟨_, rfl⟩
          have hSK7 : Below w3.heap.size w3 wK7 := by rw [hwK7]; exact bSet4 (hSK6) lN12_3 _ _ _ _
          have b12_7 : Blk wK7 24 N12_3 (fun i => limb i t50) := by rw [hwK7]; exact b12_6.set4 (fun i => limb i t50)
          rw [← hwK7]
          clear hwK7
          refine wpZ_done (by kernel_rfl) ?_ _
          go_wp2_with fail
          go_meet
          exact ⟨_, rfl, lN12_3, b12_7, hSK7⟩
      · go_simp
        have hSK2' : Below w3.heap.size w3 (wK1.alloc (.cells #[.int .u64 0, .int .u64 0, .int .u64 0, .int .u64 0] 24)) := bAlloc (hSK1) _
        refine hK.out _ _ (fun _ => hSK2') ?_
        clear hK K
        obtain ⟨N12_2, hN12_2⟩ : ∃ N, N = wK1.heap.size := ⟨_, rfl⟩
        obtain ⟨wK2, hwK2⟩ : ∃ x : World, x = wK1.alloc (.cells #[.int .u64 0, .int .u64 0, .int .u64 0, .int .u64 0] 24) := ⟨_, rfl⟩
        have hSK2 : Below w3.heap.size w3 wK2 := by rw [hwK2]; exact hSK2'
        have b12_2 : Blk wK2 24 N12_2 (fun _ => 0) := by rw [hwK2, hN12_2]; exact Blk.new wK1 24 (fun _ => 0)
        have lN12_2 : w3.heap.size ≤ N12_2 := by rw [hN12_2]; exact (hSK1).size
        rw [← hwK2, ← hN12_2]
        clear hwK2 hSK2' hN12_2
        refine wpZ_one (i := 12) (by kernel_rfl) rfl (fun K hK => ?_)
        go_simp
        refine (C37.out wK2).mono ?_
        rintro e wK3 ⟨rfl, hbK3⟩
        have hSK3 : Below w3.heap.size w3 wK3 := bStep (hSK2) hbK3
        go_wp2_with fail
        refine hK.out _ _ (fun _ => hSK3) ?_
        clear hK K
        have b12_3 := b12_2.belowAll hbK3
        refine wpZ_one (i := 23) (by kernel_rfl) rfl (fun K hK => ?_)
        go_simp
        refine (C48.out wK3).mono ?_
        rintro e wK4 ⟨rfl, hbK4⟩
        have hSK4 : Below w3.heap.size w3 wK4 := bStep (hSK3) hbK4
        go_wp2_with fail
        refine hK.out _ _ (fun _ => hSK4) ?_
        clear hK K
        have b12_4 := b12_3.belowAll hbK4
        refine wpZ_one (i := 24) (by kernel_rfl) rfl (fun K hK => ?_)
        go_simp
        refine (C49.out wK4).mono ?_
        rintro e wK5 ⟨rfl, hbK5⟩
        have hSK5 : Below w3.heap.size w3 wK5 := bStep (hSK4) hbK5
        go_wp2_with fail
        refine hK.out _ _ (fun _ => hSK5) ?_
        clear hK K
        have b12_5 := b12_4.belowAll hbK5
        refine wpZ_one (i := 25) (by kernel_rfl) rfl (fun K hK => ?_)
        go_simp
        refine (C50.out wK5).mono ?_
        rintro e wK6 ⟨rfl, hbK6⟩
        have hSK6 : Below w3.heap.size w3 wK6 := bStep (hSK5) hbK6
        go_wp2_with fail
        refine hK.out _ _ (fun _ => hSK6) ?_
        clear hK K
        have b12_6 := b12_5.belowAll hbK6
        refine wpZ_one (i := 27) (by kernel_rfl) rfl (fun K hK => ?_)
        have cS := b12_6.cell; have fS := b12_6.frozen
        go_simp
        refine hK.out _ _ (fun _ => bSet4 (hSK6) lN12_2 _ _ _ _) ?_
        clear hK K cS fS
        obtain ⟨wK7, hwK7⟩ : ∃ x : World, x = ((((wK6.setCell ⟨N12_2, 0, none⟩ (.int .u64 ((limb 0 t50 : Nat) : Int))).setCell ⟨N12_2, 1, none⟩ (.int .u64 ((limb 1 t50 : Nat) : Int))).setCell ⟨N12_2, 2, none⟩ (.int .u64 ((limb 2 t50 : Nat) : Int))).setCell ⟨N12_2, 3, none⟩ (.int .u64 ((limb 3 t50 : Nat) : Int))) := ⟨_, rfl⟩
        have hSK7 : Below w3.heap.size w3 wK7 := by rw [hwK7]; exact bSet4 (hSK6) lN12_2 _ _ _ _
        have b12_7 : Blk wK7 24 N12_2 (fun i => limb i t50) := by rw [hwK7]; exact b12_6.set4 (fun i => limb i t50)
        rw [← hwK7]
        clear hwK7
        refine wpZ_done (by kernel_rfl) ?_ _
        go_wp2_with fail
        go_meet
        exact ⟨_, rfl, lN12_2, b12_7, hSK7⟩
    · go_simp
      have hSK1' : Below w3.heap.size w3 ((w3.alloc (.cells #[.int .u64 0, .int .u64 0, .int .u64 0, .int .u64 0] 24)).drew) := (bAlloc (Below.refl _ _) _).drew
      refine hK.out _ _ (fun _ => hSK1') ?_
      clear hK K
      obtain ⟨N12_1, hN12_1⟩ : ∃ N, N = w3.heap.size := ⟨_, rfl⟩
      obtain ⟨wK1, hwK1⟩ : ∃ x : World, x = (w3.alloc (.cells #[.int .u64 0, .int .u64 0, .int .u64 0, .int .u64 0] 24)).drew := ⟨_, rfl⟩
      have hSK1 : Below w3.heap.size w3 wK1 := by rw [hwK1]; exact hSK1'
      have b12_1 : Blk wK1 24 N12_1 (fun _ => 0) := by rw [hwK1, hN12_1]; exact (Blk.new w3 24 (fun _ => 0)).drew
      have lN12_1 : w3.heap.size ≤ N12_1 := by rw [hN12_1]; exact (HS0.out).size
      rw [← hwK1, ← hN12_1]
      clear hwK1 hSK1' hN12_1
      refine wpZ_one (i := 11) (by kernel_rfl) rfl (fun K hK => ?_)
      go_simp
      refine (C36.out wK1).mono ?_
      rintro e wK2 ⟨rfl, hbK2⟩
      have hSK2 : Below w3.heap.size w3 wK2 := bStep (hSK1) hbK2
      go_wp2_with fail
      refine hK.out _ _ (fun _ => hSK2) ?_
      clear hK K
      have b12_2 := b12_1.belowAll hbK2
      refine wpZ_one (i := 12) (by kernel_rfl) rfl (fun K hK => ?_)
      go_simp
      refine (C37.out wK2).mono ?_
      rintro e wK3 ⟨rfl, hbK3⟩
      have hSK3 : Below w3.heap.size w3 wK3 := bStep (hSK2) hbK3
      go_wp2_with fail
      refine hK.out _ _ (fun _ => hSK3) ?_
      clear hK K
      have b12_3 := b12_2.belowAll hbK3
      refine wpZ_one (i := 23) (by kernel_rfl) rfl (fun K hK => ?_)
      go_simp
      refine (C48.out wK3).mono ?_
      rintro e wK4 ⟨rfl, hbK4⟩
      have hSK4 : Below w3.heap.size w3 wK4 := bStep (hSK3) hbK4
      go_wp2_with fail
      refine hK.out _ _ (fun _ => hSK4) ?_
      clear hK K
      have b12_4 := b12_3.belowAll hbK4
      refine wpZ_one (i := 24) (by kernel_rfl) rfl (fun K hK => ?_)
      go_simp
      refine (C49.out wK4).mono ?_
      rintro e wK5 ⟨rfl, hbK5⟩
      have hSK5 : Below w3.heap.size w3 wK5 := bStep (hSK4) hbK5
      go_wp2_with fail
      refine hK.out _ _ (fun _ => hSK5) ?_
      clear hK K
      have b12_5 := b12_4.belowAll hbK5
      refine wpZ_one (i := 25) (by kernel_rfl) rfl (fun K hK => ?_)
      go_simp
      refine (C50.out wK5).mono ?_
      rintro e wK6 ⟨rfl, hbK6⟩
      have hSK6 : Below w3.heap.size w3 wK6 := bStep (hSK5) hbK6
      go_wp2_with fail
      refine hK.out _ _ (fun _ => hSK6) ?_
      clear hK K
      have b12_6 := b12_5.belowAll hbK6
      refine wpZ_one (i := 27) (by kernel_rfl) rfl (fun K hK => ?_)
      have cS := b12_6.cell; have fS := b12_6.frozen
      go_simp
      refine hK.out _ _ (fun _ => bSet4 (hSK6) lN12_1 _ _ _ _) ?_
      clear hK K cS fS
      obtain ⟨wK7, hwK7⟩ : ∃ x : World, x = ((((wK6.setCell ⟨N12_1, 0, none⟩ (.int .u64 ((limb 0 t50 : Nat) : Int))).setCell ⟨N12_1, 1, none⟩ (.int .u64 ((limb 1 t50 : Nat) : Int))).setCell ⟨N12_1, 2, none⟩ (.int .u64 ((limb 2 t50 : Nat) : Int))).setCell ⟨N12_1, 3, none⟩ (.int .u64 ((limb 3 t50 : Nat) : Int))) := ⟨_, rfl⟩
      have hSK7 : Below w3.heap.size w3 wK7 := by rw [hwK7]; exact bSet4 (hSK6) lN12_1 _ _ _ _
      have b12_7 : Blk wK7 24 N12_1 (fun i => limb i t50) := by rw [hwK7]; exact b12_6.set4 (fun i => limb i t50)
      rw [← hwK7]
      clear hwK7
      refine wpZ_done (by kernel_rfl) ?_ _
      go_wp2_with fail
      go_meet
      exact ⟨_, rfl, lN12_1, b12_7, hSK7⟩
  obtain ⟨N12, rfl, l12, h12, hbx⟩ := hcut
  have h6 := d6.belowAll hbx; have h7 := d7.belowAll hbx; have h11 := d11.belowAll hbx
  have hb8 := bStep hb3 hbx
  obtain ⟨w8, hw8⟩ : ∃ z, z = wc := ⟨_, rfl⟩
  rw [← hw8] at h12 h6 h7 h11 hb8 ⊢
  clear hw8 hbx d6 d7 d8 d9 d11 hb3
  go_upto_region 5 with fail
  refine wp_region_Z (fun w' => Below w8.heap.size w8 w') 99 (by kernel_rfl) ?_
  obtain ⟨wD, hD⟩ : ∃ x : World, x = w8.drew := ⟨_, rfl⟩
  rw [← hD]
  have hp0_0 : Below w8.heap.size w8 wD := by rw [hD]; exact (Below.refl _ _).drew
  have hlow0 : Below w8.heap.size w8 wD := by rw [hD]; exact (Below.refl _ _).drew
  clear hD
  refine wpZ_take (i := 0) (v := .int .i64 si) 51 rfl rfl (by kernel_rfl) (by kernel_rfl) (by kernel_rfl) (Or.inr (by decide)) (fun _ _ _ h => h) (Or.inl ⟨by rfl, fun w hSw => by go_simp⟩) hp0_0 ?_
  simp only [Act.put, List.setIfInBounds_toArray]
  dsimp only [List.set_cons_zero, List.set_cons_succ]
  refine wpZ_take (i := 1) (v := .pointer (some ⟨N6, 4, none⟩)) 52 rfl rfl (by kernel_rfl) (by kernel_rfl) (by kernel_rfl) (Or.inr (by decide)) (fun _ _ _ h => h) (Or.inl ⟨by rfl, fun w hSw => by go_simp⟩) hp0_0 ?_
  simp only [Act.put, List.setIfInBounds_toArray]
  dsimp only [List.set_cons_zero, List.set_cons_succ]
  refine wpZ_take (i := 2) (v := .agg #[.int .u64 ((limb 0 (y1) : Nat) : Int), .int .u64 ((limb 1 (y1) : Nat) : Int), .int .u64 ((limb 2 (y1) : Nat) : Int), .int .u64 ((limb 3 (y1) : Nat) : Int)]) 53 rfl rfl (by kernel_rfl) (by kernel_rfl) (by kernel_rfl) (Or.inr (by decide)) (fun _ _ _ h => h) (Or.inl ⟨by rfl, fun w hSw => by (obtain ⟨q0, q1, q2, q3⟩ : w.cell? ⟨N6, 4, none⟩ = _ ∧ w.cell? ⟨N6, 5, none⟩ = _ ∧ w.cell? ⟨N6, 6, none⟩ = _ ∧ w.cell? ⟨N6, 7, none⟩ = _ := (h6.belowAll hSw).el HSP.out.2.2.1; clear hSw; go_simp)⟩) hp0_0 ?_
  simp only [Act.put, List.setIfInBounds_toArray]
  dsimp only [List.set_cons_zero, List.set_cons_succ]
  refine wpZ_take (i := 3) (v := .int .i64 si) 54 rfl rfl (by kernel_rfl) (by kernel_rfl) (by kernel_rfl) (Or.inr (by decide)) (fun _ _ _ h => h) (Or.inl ⟨by rfl, fun w hSw => by go_simp⟩) hp0_0 ?_
  simp only [Act.put, List.setIfInBounds_toArray]
  dsimp only [List.set_cons_zero, List.set_cons_succ]
  refine wpZ_take (i := 4) (v := .agg #[.int .u64 1, .int .u64 0, .int .u64 0, .int .u64 0]) 55 rfl rfl (by kernel_rfl) (by kernel_rfl) (by kernel_rfl) (Or.inr (by decide)) (fun _ _ _ h => h) (Or.inl ⟨by rfl, fun w hSw => by go_simp⟩) hp0_0 ?_
  simp only [Act.put, List.setIfInBounds_toArray]
  dsimp only [List.set_cons_zero, List.set_cons_succ]
  refine wpZ_take (i := 5) (v := .pointer (some ⟨N7, 20, none⟩)) 56 rfl rfl (by kernel_rfl) (by kernel_rfl) (by kernel_rfl) (Or.inr (by decide)) (fun _ _ _ h => h) (Or.inl ⟨by rfl, fun w hSw => by go_simp⟩) hp0_0 ?_
  simp only [Act.put, List.setIfInBounds_toArray]
  dsimp only [List.set_cons_zero, List.set_cons_succ]
  refine wpZ_take (i := 6) (v := .agg #[.int .u64 ((limb 0 (x5) : Nat) : Int), .int .u64 ((limb 1 (x5) : Nat) : Int), .int .u64 ((limb 2 (x5) : Nat) : Int), .int .u64 ((limb 3 (x5) : Nat) : Int)]) 57 rfl rfl (by kernel_rfl) (by kernel_rfl) (by kernel_rfl) (Or.inr (by decide)) (fun _ _ _ h => h) (Or.inl ⟨by rfl, fun w hSw => by (obtain ⟨q0, q1, q2, q3⟩ : w.cell? ⟨N7, 20, none⟩ = _ ∧ w.cell? ⟨N7, 21, none⟩ = _ ∧ w.cell? ⟨N7, 22, none⟩ = _ ∧ w.cell? ⟨N7, 23, none⟩ = _ := (h7.belowAll hSw).el HSK.out.2.2.2.2.2.2.1; clear hSw; go_simp)⟩) hp0_0 ?_
  simp only [Act.put, List.setIfInBounds_toArray]
  dsimp only [List.set_cons_zero, List.set_cons_succ]
  refine wpZ_take (i := 9) (v := .int .i64 si) 60 rfl rfl (by kernel_rfl) (by kernel_rfl) (by kernel_rfl) (Or.inr (by decide)) (fun _ _ _ h => h) (Or.inl ⟨by rfl, fun w hSw => by go_simp⟩) hp0_0 ?_
  simp only [Act.put, List.setIfInBounds_toArray]
  dsimp only [List.set_cons_zero, List.set_cons_succ]
  refine wpZ_take (i := 10) (v := .pointer (some ⟨N6, 8, none⟩)) 61 rfl rfl (by kernel_rfl) (by kernel_rfl) (by kernel_rfl) (Or.inr (by decide)) (fun _ _ _ h => h) (Or.inl ⟨by rfl, fun w hSw => by go_simp⟩) hp0_0 ?_
  simp only [Act.put, List.setIfInBounds_toArray]
  dsimp only [List.set_cons_zero, List.set_cons_succ]
  refine wpZ_take (i := 11) (v := .agg #[.int .u64 ((limb 0 (y2) : Nat) : Int), .int .u64 ((limb 1 (y2) : Nat) : Int), .int .u64 ((limb 2 (y2) : Nat) : Int), .int .u64 ((limb 3 (y2) : Nat) : Int)]) 62 rfl rfl (by kernel_rfl) (by kernel_rfl) (by kernel_rfl) (Or.inr (by decide)) (fun _ _ _ h => h) (Or.inl ⟨by rfl, fun w hSw => by (obtain ⟨q0, q1, q2, q3⟩ : w.cell? ⟨N6, 8, none⟩ = _ ∧ w.cell? ⟨N6, 9, none⟩ = _ ∧ w.cell? ⟨N6, 10, none⟩ = _ ∧ w.cell? ⟨N6, 11, none⟩ = _ := (h6.belowAll hSw).el HSP.out.2.2.2.1; clear hSw; go_simp)⟩) hp0_0 ?_
  simp only [Act.put, List.setIfInBounds_toArray]
  dsimp only [List.set_cons_zero, List.set_cons_succ]
  refine wpZ_take (i := 12) (v := .int .i64 si) 63 rfl rfl (by kernel_rfl) (by kernel_rfl) (by kernel_rfl) (Or.inr (by decide)) (fun _ _ _ h => h) (Or.inl ⟨by rfl, fun w hSw => by go_simp⟩) hp0_0 ?_
  simp only [Act.put, List.setIfInBounds_toArray]
  dsimp only [List.set_cons_zero, List.set_cons_succ]
  refine wpZ_take (i := 13) (v := .int .i64 si) 64 rfl rfl (by kernel_rfl) (by kernel_rfl) (by kernel_rfl) (Or.inr (by decide)) (fun _ _ _ h => h) (Or.inl ⟨by rfl, fun w hSw => by go_simp⟩) hp0_0 ?_
  simp only [Act.put, List.setIfInBounds_toArray]
  dsimp only [List.set_cons_zero, List.set_cons_succ]
  refine wpZ_take (i := 14) (v := .pointer (some ⟨N7, 20, none⟩)) 65 rfl rfl (by kernel_rfl) (by kernel_rfl) (by kernel_rfl) (Or.inr (by decide)) (fun _ _ _ h => h) (Or.inl ⟨by rfl, fun w hSw => by go_simp⟩) hp0_0 ?_
  simp only [Act.put, List.setIfInBounds_toArray]
  dsimp only [List.set_cons_zero, List.set_cons_succ]
  refine wpZ_take (i := 15) (v := .agg #[.int .u64 ((limb 0 (x5) : Nat) : Int), .int .u64 ((limb 1 (x5) : Nat) : Int), .int .u64 ((limb 2 (x5) : Nat) : Int), .int .u64 ((limb 3 (x5) : Nat) : Int)]) 66 rfl rfl (by kernel_rfl) (by kernel_rfl) (by kernel_rfl) (Or.inr (by decide)) (fun _ _ _ h => h) (Or.inl ⟨by rfl, fun w hSw => by (obtain ⟨q0, q1, q2, q3⟩ : w.cell? ⟨N7, 20, none⟩ = _ ∧ w.cell? ⟨N7, 21, none⟩ = _ ∧ w.cell? ⟨N7, 22, none⟩ = _ ∧ w.cell? ⟨N7, 23, none⟩ = _ := (h7.belowAll hSw).el HSK.out.2.2.2.2.2.2.1; clear hSw; go_simp)⟩) hp0_0 ?_
  simp only [Act.put, List.setIfInBounds_toArray]
  dsimp only [List.set_cons_zero, List.set_cons_succ]
  refine wpZ_take (i := 16) (v := .pointer (some ⟨N7, 20, none⟩)) 67 rfl rfl (by kernel_rfl) (by kernel_rfl) (by kernel_rfl) (Or.inr (by decide)) (fun _ _ _ h => h) (Or.inl ⟨by rfl, fun w hSw => by go_simp⟩) hp0_0 ?_
  simp only [Act.put, List.setIfInBounds_toArray]
  dsimp only [List.set_cons_zero, List.set_cons_succ]
  refine wpZ_take (i := 17) (v := .agg #[.int .u64 ((limb 0 (x5) : Nat) : Int), .int .u64 ((limb 1 (x5) : Nat) : Int), .int .u64 ((limb 2 (x5) : Nat) : Int), .int .u64 ((limb 3 (x5) : Nat) : Int)]) 68 rfl rfl (by kernel_rfl) (by kernel_rfl) (by kernel_rfl) (Or.inr (by decide)) (fun _ _ _ h => h) (Or.inl ⟨by rfl, fun w hSw => by (obtain ⟨q0, q1, q2, q3⟩ : w.cell? ⟨N7, 20, none⟩ = _ ∧ w.cell? ⟨N7, 21, none⟩ = _ ∧ w.cell? ⟨N7, 22, none⟩ = _ ∧ w.cell? ⟨N7, 23, none⟩ = _ := (h7.belowAll hSw).el HSK.out.2.2.2.2.2.2.1; clear hSw; go_simp)⟩) hp0_0 ?_
  simp only [Act.put, List.setIfInBounds_toArray]
  dsimp only [List.set_cons_zero, List.set_cons_succ]
  refine wpZ_take (i := 19) (v := .pointer (some ⟨N7, 20, none⟩)) 70 rfl rfl (by kernel_rfl) (by kernel_rfl) (by kernel_rfl) (Or.inr (by decide)) (fun _ _ _ h => h) (Or.inl ⟨by rfl, fun w hSw => by go_simp⟩) hp0_0 ?_
  simp only [Act.put, List.setIfInBounds_toArray]
  dsimp only [List.set_cons_zero, List.set_cons_succ]
  refine wpZ_take (i := 20) (v := .agg #[.int .u64 ((limb 0 (x5) : Nat) : Int), .int .u64 ((limb 1 (x5) : Nat) : Int), .int .u64 ((limb 2 (x5) : Nat) : Int), .int .u64 ((limb 3 (x5) : Nat) : Int)]) 71 rfl rfl (by kernel_rfl) (by kernel_rfl) (by kernel_rfl) (Or.inr (by decide)) (fun _ _ _ h => h) (Or.inl ⟨by rfl, fun w hSw => by (obtain ⟨q0, q1, q2, q3⟩ : w.cell? ⟨N7, 20, none⟩ = _ ∧ w.cell? ⟨N7, 21, none⟩ = _ ∧ w.cell? ⟨N7, 22, none⟩ = _ ∧ w.cell? ⟨N7, 23, none⟩ = _ := (h7.belowAll hSw).el HSK.out.2.2.2.2.2.2.1; clear hSw; go_simp)⟩) hp0_0 ?_
  simp only [Act.put, List.setIfInBounds_toArray]
  dsimp only [List.set_cons_zero, List.set_cons_succ]
  refine wpZ_take (i := 23) (v := .int .i64 si) 74 rfl rfl (by kernel_rfl) (by kernel_rfl) (by kernel_rfl) (Or.inr (by decide)) (fun _ _ _ h => h) (Or.inl ⟨by rfl, fun w hSw => by go_simp⟩) hp0_0 ?_
  simp only [Act.put, List.setIfInBounds_toArray]
  dsimp only [List.set_cons_zero, List.set_cons_succ]
  refine wpZ_take (i := 24) (v := .pointer (some ⟨N6, 12, none⟩)) 75 rfl rfl (by kernel_rfl) (by kernel_rfl) (by kernel_rfl) (Or.inr (by decide)) (fun _ _ _ h => h) (Or.inl ⟨by rfl, fun w hSw => by go_simp⟩) hp0_0 ?_
  simp only [Act.put, List.setIfInBounds_toArray]
  dsimp only [List.set_cons_zero, List.set_cons_succ]
  refine wpZ_take (i := 25) (v := .agg #[.int .u64 ((limb 0 (y3) : Nat) : Int), .int .u64 ((limb 1 (y3) : Nat) : Int), .int .u64 ((limb 2 (y3) : Nat) : Int), .int .u64 ((limb 3 (y3) : Nat) : Int)]) 76 rfl rfl (by kernel_rfl) (by kernel_rfl) (by kernel_rfl) (Or.inr (by decide)) (fun _ _ _ h => h) (Or.inl ⟨by rfl, fun w hSw => by (obtain ⟨q0, q1, q2, q3⟩ : w.cell? ⟨N6, 12, none⟩ = _ ∧ w.cell? ⟨N6, 13, none⟩ = _ ∧ w.cell? ⟨N6, 14, none⟩ = _ ∧ w.cell? ⟨N6, 15, none⟩ = _ := (h6.belowAll hSw).el HSP.out.2.2.2.2; clear hSw; go_simp)⟩) hp0_0 ?_
  simp only [Act.put, List.setIfInBounds_toArray]
  dsimp only [List.set_cons_zero, List.set_cons_succ]
  refine wpZ_take (i := 26) (v := .agg #[.int .u64 ((limb 0 (t50) : Nat) : Int), .int .u64 ((limb 1 (t50) : Nat) : Int), .int .u64 ((limb 2 (t50) : Nat) : Int), .int .u64 ((limb 3 (t50) : Nat) : Int)]) 77 rfl rfl (by kernel_rfl) (by kernel_rfl) (by kernel_rfl) (Or.inr (by decide)) (fun _ _ _ h => h) (Or.inl ⟨by rfl, fun w hSw => by (have qq := (h12.belowAll hSw).cell; clear hSw; go_simp)⟩) hp0_0 ?_
  simp only [Act.put, List.setIfInBounds_toArray]
  dsimp only [List.set_cons_zero, List.set_cons_succ]
  refine wpZ_take (i := 28) (v := .int .i64 si) 79 rfl rfl (by kernel_rfl) (by kernel_rfl) (by kernel_rfl) (Or.inr (by decide)) (fun _ _ _ h => h) (Or.inl ⟨by rfl, fun w hSw => by go_simp⟩) hp0_0 ?_
  simp only [Act.put, List.setIfInBounds_toArray]
  dsimp only [List.set_cons_zero, List.set_cons_succ]
  refine wpZ_take (i := 29) (v := .pointer (some ⟨N6, 4, none⟩)) 80 rfl rfl (by kernel_rfl) (by kernel_rfl) (by kernel_rfl) (Or.inr (by decide)) (fun _ _ _ h => h) (Or.inl ⟨by rfl, fun w hSw => by go_simp⟩) hp0_0 ?_
  simp only [Act.put, List.setIfInBounds_toArray]
  dsimp only [List.set_cons_zero, List.set_cons_succ]
  refine wpZ_take (i := 30) (v := .agg #[.int .u64 ((limb 0 (y1) : Nat) : Int), .int .u64 ((limb 1 (y1) : Nat) : Int), .int .u64 ((limb 2 (y1) : Nat) : Int), .int .u64 ((limb 3 (y1) : Nat) : Int)]) 81 rfl rfl (by kernel_rfl) (by kernel_rfl) (by kernel_rfl) (Or.inr (by decide)) (fun _ _ _ h => h) (Or.inl ⟨by rfl, fun w hSw => by (obtain ⟨q0, q1, q2, q3⟩ : w.cell? ⟨N6, 4, none⟩ = _ ∧ w.cell? ⟨N6, 5, none⟩ = _ ∧ w.cell? ⟨N6, 6, none⟩ = _ ∧ w.cell? ⟨N6, 7, none⟩ = _ := (h6.belowAll hSw).el HSP.out.2.2.1; clear hSw; go_simp)⟩) hp0_0 ?_
  simp only [Act.put, List.setIfInBounds_toArray]
  dsimp only [List.set_cons_zero, List.set_cons_succ]
  refine wpZ_take (i := 31) (v := .agg #[.int .u64 ((limb 0 (t24) : Nat) : Int), .int .u64 ((limb 1 (t24) : Nat) : Int), .int .u64 ((limb 2 (t24) : Nat) : Int), .int .u64 ((limb 3 (t24) : Nat) : Int)]) 82 rfl rfl (by kernel_rfl) (by kernel_rfl) (by kernel_rfl) (Or.inr (by decide)) (fun _ _ _ h => h) (Or.inl ⟨by rfl, fun w hSw => by (have qq := (h11.belowAll hSw).cell; clear hSw; go_simp)⟩) hp0_0 ?_
  simp only [Act.put, List.setIfInBounds_toArray]
  dsimp only [List.set_cons_zero, List.set_cons_succ]
  refine wpZ_take (i := 33) (v := .int .i64 si) 84 rfl rfl (by kernel_rfl) (by kernel_rfl) (by kernel_rfl) (Or.inr (by decide)) (fun _ _ _ h => h) (Or.inl ⟨by rfl, fun w hSw => by go_simp⟩) hp0_0 ?_
  simp only [Act.put, List.setIfInBounds_toArray]
  dsimp only [List.set_cons_zero, List.set_cons_succ]
  refine wpZ_take (i := 34) (v := .pointer (some ⟨N6, 12, none⟩)) 85 rfl rfl (by kernel_rfl) (by kernel_rfl) (by kernel_rfl) (Or.inr (by decide)) (fun _ _ _ h => h) (Or.inl ⟨by rfl, fun w hSw => by go_simp⟩) hp0_0 ?_
  simp only [Act.put, List.setIfInBounds_toArray]
  dsimp only [List.set_cons_zero, List.set_cons_succ]
  refine wpZ_take (i := 35) (v := .agg #[.int .u64 ((limb 0 (y3) : Nat) : Int), .int .u64 ((limb 1 (y3) : Nat) : Int), .int .u64 ((limb 2 (y3) : Nat) : Int), .int .u64 ((limb 3 (y3) : Nat) : Int)]) 86 rfl rfl (by kernel_rfl) (by kernel_rfl) (by kernel_rfl) (Or.inr (by decide)) (fun _ _ _ h => h) (Or.inl ⟨by rfl, fun w hSw => by (obtain ⟨q0, q1, q2, q3⟩ : w.cell? ⟨N6, 12, none⟩ = _ ∧ w.cell? ⟨N6, 13, none⟩ = _ ∧ w.cell? ⟨N6, 14, none⟩ = _ ∧ w.cell? ⟨N6, 15, none⟩ = _ := (h6.belowAll hSw).el HSP.out.2.2.2.2; clear hSw; go_simp)⟩) hp0_0 ?_
  simp only [Act.put, List.setIfInBounds_toArray]
  dsimp only [List.set_cons_zero, List.set_cons_succ]
  refine wpZ_take (i := 36) (v := .int .i64 si) 87 rfl rfl (by kernel_rfl) (by kernel_rfl) (by kernel_rfl) (Or.inr (by decide)) (fun _ _ _ h => h) (Or.inl ⟨by rfl, fun w hSw => by go_simp⟩) hp0_0 ?_
  simp only [Act.put, List.setIfInBounds_toArray]
  dsimp only [List.set_cons_zero, List.set_cons_succ]
  refine wpZ_take (i := 37) (v := .agg #[.int .u64 ((limb 0 (t24) : Nat) : Int), .int .u64 ((limb 1 (t24) : Nat) : Int), .int .u64 ((limb 2 (t24) : Nat) : Int), .int .u64 ((limb 3 (t24) : Nat) : Int)]) 88 rfl rfl (by kernel_rfl) (by kernel_rfl) (by kernel_rfl) (Or.inr (by decide)) (fun _ _ _ h => h) (Or.inl ⟨by rfl, fun w hSw => by (have qq := (h11.belowAll hSw).cell; clear hSw; go_simp)⟩) hp0_0 ?_
  simp only [Act.put, List.setIfInBounds_toArray]
  dsimp only [List.set_cons_zero, List.set_cons_succ]
  refine wpZ_take (i := 38) (v := .int .i64 si) 89 rfl rfl (by kernel_rfl) (by kernel_rfl) (by kernel_rfl) (Or.inr (by decide)) (fun _ _ _ h => h) (Or.inl ⟨by rfl, fun w hSw => by go_simp⟩) hp0_0 ?_
  simp only [Act.put, List.setIfInBounds_toArray]
  dsimp only [List.set_cons_zero, List.set_cons_succ]
  refine wpZ_take (i := 39) (v := .pointer (some ⟨N7, 8, none⟩)) 90 rfl rfl (by kernel_rfl) (by kernel_rfl) (by kernel_rfl) (Or.inr (by decide)) (fun _ _ _ h => h) (Or.inl ⟨by rfl, fun w hSw => by go_simp⟩) hp0_0 ?_
  simp only [Act.put, List.setIfInBounds_toArray]
  dsimp only [List.set_cons_zero, List.set_cons_succ]
  refine wpZ_take (i := 40) (v := .agg #[.int .u64 ((limb 0 (x2) : Nat) : Int), .int .u64 ((limb 1 (x2) : Nat) : Int), .int .u64 ((limb 2 (x2) : Nat) : Int), .int .u64 ((limb 3 (x2) : Nat) : Int)]) 91 rfl rfl (by kernel_rfl) (by kernel_rfl) (by kernel_rfl) (Or.inr (by decide)) (fun _ _ _ h => h) (Or.inl ⟨by rfl, fun w hSw => by (obtain ⟨q0, q1, q2, q3⟩ : w.cell? ⟨N7, 8, none⟩ = _ ∧ w.cell? ⟨N7, 9, none⟩ = _ ∧ w.cell? ⟨N7, 10, none⟩ = _ ∧ w.cell? ⟨N7, 11, none⟩ = _ := (h7.belowAll hSw).el HSK.out.2.2.2.1; clear hSw; go_simp)⟩) hp0_0 ?_
  simp only [Act.put, List.setIfInBounds_toArray]
  dsimp only [List.set_cons_zero, List.set_cons_succ]
  refine wpZ_take (i := 41) (v := .pointer (some ⟨N7, 12, none⟩)) 92 rfl rfl (by kernel_rfl) (by kernel_rfl) (by kernel_rfl) (Or.inr (by decide)) (fun _ _ _ h => h) (Or.inl ⟨by rfl, fun w hSw => by go_simp⟩) hp0_0 ?_
  simp only [Act.put, List.setIfInBounds_toArray]
  dsimp only [List.set_cons_zero, List.set_cons_succ]
  refine wpZ_take (i := 42) (v := .agg #[.int .u64 ((limb 0 (x3) : Nat) : Int), .int .u64 ((limb 1 (x3) : Nat) : Int), .int .u64 ((limb 2 (x3) : Nat) : Int), .int .u64 ((limb 3 (x3) : Nat) : Int)]) 93 rfl rfl (by kernel_rfl) (by kernel_rfl) (by kernel_rfl) (Or.inr (by decide)) (fun _ _ _ h => h) (Or.inl ⟨by rfl, fun w hSw => by (obtain ⟨q0, q1, q2, q3⟩ : w.cell? ⟨N7, 12, none⟩ = _ ∧ w.cell? ⟨N7, 13, none⟩ = _ ∧ w.cell? ⟨N7, 14, none⟩ = _ ∧ w.cell? ⟨N7, 15, none⟩ = _ := (h7.belowAll hSw).el HSK.out.2.2.2.2.1; clear hSw; go_simp)⟩) hp0_0 ?_
  simp only [Act.put, List.setIfInBounds_toArray]
  dsimp only [List.set_cons_zero, List.set_cons_succ]
  refine wpZ_one (i := 7) (by kernel_rfl) rfl (fun K hK => ?_)
  go_simp
  refine (C58.out wD).mono ?_
  rintro e wT1 ⟨rfl, hbT1⟩
  have hlowT1 := bStep hlow0 hbT1
  go_wp2_with fail
  refine hK.out _ _ (fun _ => hlowT1) ?_
  clear hK K hbT1
  refine wpZ_one (i := 8) (by kernel_rfl) rfl (fun K hK => ?_)
  go_simp
  refine (C59.out wT1).mono ?_
  rintro e wT2 ⟨rfl, hbT2⟩
  have hlowT2 := bStep hlowT1 hbT2
  go_wp2_with fail
  refine hK.out _ _ (fun _ => hlowT2) ?_
  clear hK K hbT2
  refine wpZ_one (i := 18) (by kernel_rfl) rfl (fun K hK => ?_)
  go_simp
  refine (C69.out wT2).mono ?_
  rintro e wT3 ⟨rfl, hbT3⟩
  have hlowT3 := bStep hlowT2 hbT3
  go_wp2_with fail
  refine hK.out _ _ (fun _ => hlowT3) ?_
  clear hK K hbT3
  refine wpZ_one (i := 21) (by kernel_rfl) rfl (fun K hK => ?_)
  go_simp
  refine (C72.out wT3).mono ?_
  rintro e wT4 ⟨rfl, hbT4⟩
  have hlowT4 := bStep hlowT3 hbT4
  go_wp2_with fail
  refine hK.out _ _ (fun _ => hlowT4) ?_
  clear hK K hbT4
  refine wpZ_one (i := 22) (by kernel_rfl) rfl (fun K hK => ?_)
  go_simp
  refine (C73.out wT4).mono ?_
  rintro e wT5 ⟨rfl, hbT5⟩
  have hlowT5 := bStep hlowT4 hbT5
  go_wp2_with fail
  refine hK.out _ _ (fun _ => hlowT5) ?_
  clear hK K hbT5
  refine wpZ_one (i := 27) (by kernel_rfl) rfl (fun K hK => ?_)
  go_simp
  refine (C78.out wT5).mono ?_
  rintro e wT6 ⟨rfl, hbT6⟩
  have hlowT6 := bStep hlowT5 hbT6
  go_wp2_with fail
  refine hK.out _ _ (fun _ => hlowT6) ?_
  clear hK K hbT6
  refine wpZ_one (i := 32) (by kernel_rfl) rfl (fun K hK => ?_)
  go_simp
  refine (C83.out wT6).mono ?_
  rintro e wT7 ⟨rfl, hbT7⟩
  have hlowT7 := bStep hlowT6 hbT7
  go_wp2_with fail
  refine hK.out _ _ (fun _ => hlowT7) ?_
  clear hK K hbT7
  refine wpZ_one (i := 43) (by kernel_rfl) rfl (fun K hK => ?_)
  go_simp
  refine (C94.out wT7).mono ?_
  rintro e wT8 ⟨rfl, hbT8⟩
  have hlowT8 := bStep hlowT7 hbT8
  go_wp2_with fail
  refine hK.out _ _ (fun _ => hlowT8) ?_
  clear hK K hbT8
  refine wpZ_one (i := 44) (by kernel_rfl) rfl (fun K hK => ?_)
  go_simp
  refine (C95.out wT8).mono ?_
  rintro e wT9 ⟨rfl, hbT9⟩
  have hlowT9 := bStep hlowT8 hbT9
  go_wp2_with fail
  refine hK.out _ _ (fun _ => hlowT9) ?_
  clear hK K hbT9
  refine wpZ_one (i := 45) (by kernel_rfl) rfl (fun K hK => ?_)
  go_simp
  refine (C96.out wT9).mono ?_
  rintro e wT10 ⟨rfl, hbT10⟩
  have hlowT10 := bStep hlowT9 hbT10
  go_wp2_with fail
  refine hK.out _ _ (fun _ => hlowT10) ?_
  clear hK K hbT10
  refine wpZ_one (i := 46) (by kernel_rfl) rfl (fun K hK => ?_)
  go_simp
  obtain ⟨w9, hw9⟩ : ∃ z : World, z = wT10.alloc (.cells #[.int .u64 ((limb 0 v0 : Nat) : Int), .int .u64 ((limb 1 v0 : Nat) : Int), .int .u64 ((limb 2 v0 : Nat) : Int), .int .u64 ((limb 3 v0 : Nat) : Int), .int .u64 ((limb 0 v1 : Nat) : Int), .int .u64 ((limb 1 v1 : Nat) : Int), .int .u64 ((limb 2 v1 : Nat) : Int), .int .u64 ((limb 3 v1 : Nat) : Int), .int .u64 ((limb 0 v2 : Nat) : Int), .int .u64 ((limb 1 v2 : Nat) : Int), .int .u64 ((limb 2 v2 : Nat) : Int), .int .u64 ((limb 3 v2 : Nat) : Int), .int .u64 ((limb 0 v3 : Nat) : Int), .int .u64 ((limb 1 v3 : Nat) : Int), .int .u64 ((limb 2 v3 : Nat) : Int), .int .u64 ((limb 3 v3 : Nat) : Int), .int .u64 ((limb 0 v4 : Nat) : Int), .int .u64 ((limb 1 v4 : Nat) : Int), .int .u64 ((limb 2 v4 : Nat) : Int), .int .u64 ((limb 3 v4 : Nat) : Int)] 24) := ⟨_, rfl⟩
  obtain ⟨N82, hN82⟩ : ∃ z, z = wT10.heap.size := ⟨_, rfl⟩
  have b82 : BlkE w9 N82 5 F := five (by rw [hw9, hN82]; exact new_blockE _ _) F HF0.out HF1.out HF2.out HF3.out HF4.out
  have l82 : w8.heap.size ≤ N82 := by rw [hN82]; exact hlowT10.size
  have lowB : Below w8.heap.size w8 w9 := by rw [hw9]; exact bAlloc hlowT10 _
  rw [← hw9, ← hN82]
  clear hw9 hN82
  refine hK.out _ _ (fun _ => lowB) ?_
  clear hK K
  refine wpZ_take (i := 47) (v := .slice (some ⟨N82, 0, none⟩) 5 5) 10 rfl rfl (by kernel_rfl) (by kernel_rfl) (by kernel_rfl) (Or.inr (by decide)) (fun _ _ _ h => h) (Or.inl ⟨by rfl, fun w hSw => by go_simp⟩) lowB ?_
  simp only [Act.put, List.setIfInBounds_toArray]
  dsimp only [List.set_cons_zero, List.set_cons_succ]
  refine wpZ_done (by kernel_rfl) ?_ _
  have hbe := bStep hb8 lowB
  have lN : w.heap.size ≤ N82 := Nat.le_trans hb8.size l82
  go_wp2
  go_ret
  exact ⟨⟨N82, rfl, lN, b82⟩, hbe⟩
