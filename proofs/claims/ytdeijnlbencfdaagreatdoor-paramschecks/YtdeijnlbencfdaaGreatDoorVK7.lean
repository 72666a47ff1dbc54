/- What the reference's Infinity, b, cube and On do. -/
import Derived.Test.YtdeijnlbencfdaaGreatDoorVK3
import Derived.Test.YtdeijnlbencfdaaGreatDoorVBE
import Derived.Test.YtdeijnlbencfdaaGreatDoorVH4
namespace Go.Proofs.YtdeijnlbencfdaaGreatDoor
open Go.RowKit
set_option maxHeartbeats 1000000 in
theorem rInfinity_any (w : World) : Calls Tryz.prog 46 #[] w fun e w' => e = .returned (.agg #[.int .u64 (limb 0 (0)), .int .u64 (limb 1 (0)), .int .u64 (limb 2 (0)), .int .u64 (limb 3 (0)), .int .u64 (limb 0 (0)), .int .u64 (limb 1 (0)), .int .u64 (limb 2 (0)), .int .u64 (limb 3 (0)), .bool true]) ∧ Below w.heap.size w w' := by
 rw [infAgg]
 go_enter Tryz.func46, Tryz.ntmps46
 go_wp2
 refine bodyPost_ret (v := .agg #[.int .u64 0, .int .u64 0, .int .u64 0, .int .u64 0, .int .u64 0, .int .u64 0, .int .u64 0, .int .u64 0, .bool true]) (by simp [results, Tryz.results46, go_sem]) rfl ⟨rfl, ?_⟩
 repeat (first | with_reducible exact Below.refl _ _ | with_reducible refine Below.alloc ?_ (by first | omega | (simp; omega) | simp) _ | with_reducible refine Below.setCell ?_ (by first | omega | (simp; omega) | simp) _)
set_option maxHeartbeats 2000000 in
theorem rb_any (c : Nat) (hc : c < 4) (w : World) : Calls Tryz.prog 83 #[.int .i64 (c : Int)] w fun e w' => e = .returned (.agg #[.int .u64 (limb 0 (bN c)), .int .u64 (limb 1 (bN c)), .int .u64 (limb 2 (bN c)), .int .u64 (limb 3 (bN c))]) ∧ Below w.heap.size w w' := by
 rw [word_agg (bN c) (by have := bN_24 c; omega)]
 have h : c = 0 ∨ c = 1 ∨ c = 2 ∨ c = 3 := by omega
 rcases h with rfl | rfl | rfl | rfl
 ·go_enter Tryz.func83, Tryz.ntmps83
  go_wp2
  refine bodyPost_ret (v := .agg #[.int .u64 23, .int .u64 0, .int .u64 0, .int .u64 0]) (by simp [results, Tryz.results83, go_sem]) rfl ⟨rfl, ?_⟩
  repeat (first | with_reducible exact Below.refl _ _ | with_reducible refine Below.alloc ?_ (by first | omega | (simp; omega) | simp) _ | with_reducible refine Below.setCell ?_ (by first | omega | (simp; omega) | simp) _)
 ·go_enter Tryz.func83, Tryz.ntmps83
  go_wp2
  refine bodyPost_ret (v := .agg #[.int .u64 21, .int .u64 0, .int .u64 0, .int .u64 0]) (by simp [results, Tryz.results83, go_sem]) rfl ⟨rfl, ?_⟩
  repeat (first | with_reducible exact Below.refl _ _ | with_reducible refine Below.alloc ?_ (by first | omega | (simp; omega) | simp) _ | with_reducible refine Below.setCell ?_ (by first | omega | (simp; omega) | simp) _)
 ·go_enter Tryz.func83, Tryz.ntmps83
  go_wp2
  refine bodyPost_ret (v := .agg #[.int .u64 5, .int .u64 0, .int .u64 0, .int .u64 0]) (by simp [results, Tryz.results83, go_sem]) rfl ⟨rfl, ?_⟩
  repeat (first | with_reducible exact Below.refl _ _ | with_reducible refine Below.alloc ?_ (by first | omega | (simp; omega) | simp) _ | with_reducible refine Below.setCell ?_ (by first | omega | (simp; omega) | simp) _)
 ·go_enter Tryz.func83, Tryz.ntmps83
  go_wp2
  refine bodyPost_ret (v := .agg #[.int .u64 5, .int .u64 0, .int .u64 0, .int .u64 0]) (by simp [results, Tryz.results83, go_sem]) rfl ⟨rfl, ?_⟩
  repeat (first | with_reducible exact Below.refl _ _ | with_reducible refine Below.alloc ?_ (by first | omega | (simp; omega) | simp) _ | with_reducible refine Below.setCell ?_ (by first | omega | (simp; omega) | simp) _)
set_option maxHeartbeats 4000000 in
set_option maxRecDepth 20000 in
theorem rcube_any (c x : Nat) (hc : c < 4) (hx : x < 115792089237316195423570985008687907853269984665640564039457584007913129639936) (w : World) : Calls Tryz.prog 43 #[.int .i64 (c : Int), .agg #[.int .u64 (limb 0 (x)), .int .u64 (limb 1 (x)), .int .u64 (limb 2 (x)), .int .u64 (limb 3 (x))]] w fun e w' => e = .returned (.agg #[.int .u64 (limb 0 (sqY c x)), .int .u64 (limb 1 (sqY c x)), .int .u64 (limb 2 (sqY c x)), .int .u64 (limb 3 (sqY c x))]) ∧ Below w.heap.size w w' := by
 have HM1 : Hid (∀ w, _) := fun w => ref2Mul_any c x x hc hx hx w
 have HM2 : Hid (∀ w, _) := fun w => ref2Mul_any c x (mulP c x x) hc hx (mulP_M _ _ _) w
 have HBB : Hid (∀ w, _) := fun w => rb_any c hc w
 have HA : Hid (∀ w, _) := fun w => ref2Add_any c (mulP c x (mulP c x x)) (bN c) hc (mulP_M _ _ _) (by have := bN_24 c; omega) w
 have ER : Hid (sqY c x = addP c (mulP c x (mulP c x x)) (bN c)) := rfl
 rw [ER.out]
 obtain ⟨sq, esq⟩ : ∃ y, y = mulP c x x := ⟨_, rfl⟩
 rw [← esq] at HM1 HM2 HA ⊢
 obtain ⟨cu, ecu⟩ : ∃ y, y = mulP c x sq := ⟨_, rfl⟩
 rw [← ecu] at HM2 HA ⊢
 obtain ⟨r, er⟩ : ∃ r, r = addP c cu (bN c) := ⟨_, rfl⟩
 rw [← er] at HA ⊢
 obtain ⟨bb, ebb⟩ : ∃ b, b = bN c := ⟨_, rfl⟩
 rw [← ebb] at HA HBB
 clear esq ecu ER er ebb
 go_enter Tryz.func43, Tryz.ntmps43
 go_upto_region 1 with fail
 obtain ⟨w0, hw0⟩ : ∃ w0 : World, w0 = (w.alloc (.cells #[.int .u64 (limb 0 (x)), .int .u64 (limb 1 (x)), .int .u64 (limb 2 (x)), .int .u64 (limb 3 (x))] 25)).alloc (.cells #[.int .u64 0, .int .u64 0, .int .u64 0, .int .u64 0] 25) := ⟨_, rfl⟩
 have bx : Blk w0 25 w.heap.size (fun i => limb i x) := by rw [hw0]; exact (Blk.newAt _ _ _ (fun i => limb i x) rfl).alloc _
 have br : Blk w0 25 (w.heap.size + 1) (fun _ => 0) := by rw [hw0]; exact Blk.newAt _ _ _ (fun _ => 0) (by simp)
 have hbw0 : Below w.heap.size w w0 := by rw [hw0]; exact bAlloc ((Below.refl _ _).alloc (Nat.le_refl _) _) _
 have hrw : w.heap.size ≤ w.heap.size + 1 := Nat.le_succ _
 rw [← hw0]
 clear hw0
 have HS0 : Hid (Below w0.heap.size w0 w0.drew) := (Below.refl _ _).drew
 refine wp_region_Z (fun w' => Below w0.heap.size w0 w') 11 (by kernel_rfl) ?_
 refine zt 0 5 (.int .i64 (c : Int)) rfl rfl (fun w hSw => by go_simp) HS0.out ?_
 simp only [Act.put, z1]
 dsimp only [z2, z3]
 refine zt 1 6 (.int .i64 (c : Int)) rfl rfl (fun w hSw => by go_simp) HS0.out ?_
 simp only [Act.put, z1]
 dsimp only [z2, z3]
 refine zt 2 7 (.agg #[.int .u64 (limb 0 (x)), .int .u64 (limb 1 (x)), .int .u64 (limb 2 (x)), .int .u64 (limb 3 (x))]) rfl rfl (fun w hSw => by (have qq := (bx.belowAll hSw).cell; clear hSw; go_simp)) HS0.out ?_
 simp only [Act.put, z1]
 dsimp only [z2, z3]
 refine zt 3 8 (.int .i64 (c : Int)) rfl rfl (fun w hSw => by go_simp) HS0.out ?_
 simp only [Act.put, z1]
 dsimp only [z2, z3]
 refine zt 4 9 (.agg #[.int .u64 (limb 0 (x)), .int .u64 (limb 1 (x)), .int .u64 (limb 2 (x)), .int .u64 (limb 3 (x))]) rfl rfl (fun w hSw => by (have qq := (bx.belowAll hSw).cell; clear hSw; go_simp)) HS0.out ?_
 simp only [Act.put, z1]
 dsimp only [z2, z3]
 refine zt 5 10 (.agg #[.int .u64 (limb 0 (x)), .int .u64 (limb 1 (x)), .int .u64 (limb 2 (x)), .int .u64 (limb 3 (x))]) rfl rfl (fun w hSw => by (have qq := (bx.belowAll hSw).cell; clear hSw; go_simp)) HS0.out ?_
 simp only [Act.put, z1]
 dsimp only [z2, z3]
 refine zt 8 13 (.int .i64 (c : Int)) rfl rfl (fun w hSw => by go_simp) HS0.out ?_
 simp only [Act.put, z1]
 dsimp only [z2, z3]
 refine wpZ_one (i := 6) (by kernel_rfl) rfl (fun K hK => ?_)
 go_simp
 refine (HM1.out w0.drew).mono ?_
 rintro e wK1 ⟨rfl, hbK1⟩
 have hSK1 : Below w0.heap.size w0 wK1 := bStep (HS0.out) hbK1
 go_wp2_with fail
 refine hK.out _ _ (fun _ => hSK1) ?_
 clear hK K
 refine wpZ_one (i := 7) (by kernel_rfl) rfl (fun K hK => ?_)
 go_simp
 refine (HM2.out wK1).mono ?_
 rintro e wK2 ⟨rfl, hbK2⟩
 have hSK2 : Below w0.heap.size w0 wK2 := bStep (hSK1) hbK2
 go_wp2_with fail
 refine hK.out _ _ (fun _ => hSK2) ?_
 clear hK K
 refine wpZ_one (i := 9) (by kernel_rfl) rfl (fun K hK => ?_)
 go_simp
 refine (HBB.out wK2).mono ?_
 rintro e wK3 ⟨rfl, hbK3⟩
 have hSK3 : Below w0.heap.size w0 wK3 := bStep (hSK2) hbK3
 go_wp2_with fail
 refine hK.out _ _ (fun _ => hSK3) ?_
 clear hK K
 refine wpZ_one (i := 10) (by kernel_rfl) rfl (fun K hK => ?_)
 go_simp
 refine (HA.out wK3).mono ?_
 rintro e wK4 ⟨rfl, hbK4⟩
 have hSK4 : Below w0.heap.size w0 wK4 := bStep (hSK3) hbK4
 go_wp2_with fail
 refine hK.out _ _ (fun _ => hSK4) ?_
 clear hK K
 refine wpZ_one (i := 11) (by kernel_rfl) rfl (fun K hK => ?_)
 have cR := (br.belowAll (hSK4)).cell; have fR := (br.belowAll (hSK4)).frozen
 go_simp
 refine hK.out _ _ (fun h => absurd rfl h) ?_
 clear hK K
 refine wpZ_done (by kernel_rfl) ?_ _
 go_wp2
 refine bodyPost_ret (v := .agg #[.int .u64 (limb 0 (r)), .int .u64 (limb 1 (r)), .int .u64 (limb 2 (r)), .int .u64 (limb 3 (r))]) (by simp [results, Tryz.results43, go_sem, cR]) rfl ⟨rfl, ?_⟩
 exact bSet4 (bStep hbw0 (hSK4)) hrw _ _ _ _
theorem mod_self_iff (c x : Nat) : x % modN c = x ↔ x < modN c := ⟨fun h => by rw [← h]; exact Nat.mod_lt _ (modN_pos c), fun h => Nat.mod_eq_of_lt h⟩
set_option maxHeartbeats 8000000 in
set_option maxRecDepth 20000 in
theorem ron_in (c x y : Nat) (i : Bool) (hc : c < 4) (hx : x < 115792089237316195423570985008687907853269984665640564039457584007913129639936) (hy : y < 115792089237316195423570985008687907853269984665640564039457584007913129639936) (w : World) : Calls Tryz.prog 24 #[.int .i64 (c : Int), .agg #[.int .u64 (limb 0 (x)), .int .u64 (limb 1 (x)), .int .u64 (limb 2 (x)), .int .u64 (limb 3 (x)), .int .u64 (limb 0 (y)), .int .u64 (limb 1 (y)), .int .u64 (limb 2 (y)), .int .u64 (limb 3 (y)), .bool i]] w fun e w' => e = .returned (.bool (decide (onC c x y i))) ∧ Below w.heap.size w w' := by
 have HIN : Hid (∀ w, _) := rInfinity_any
 have HOX : Hid (∀ w, _) := fun w => ref2Of_any c x hc hx w
 have HOY : Hid (∀ w, _) := fun w => ref2Of_any c y hc hy w
 have HM : Hid (∀ w, _) := fun w => ref2Mul_any c y y hc hy hy w
 have HQ : Hid (∀ w, _) := fun w => rcube_any c x hc hx w
 have QI := fun w => eqlP x y 0 0 i true hx hy (by decide) (by decide) w
 have QX := fun w => neqE (x % modN c) x (lt_M c _ (Nat.mod_lt _ (modN_pos c))) hx w
 have QY := fun w => neqE (y % modN c) y (lt_M c _ (Nat.mod_lt _ (modN_pos c))) hy w
 have QE := fun w => eqlE (mulP c y y) (sqY c x) (mulP_M _ _ _) (sqY_M _ _) w
 have IX := mod_self_iff c x
 have IY := mod_self_iff c y
 obtain ⟨ans, eans⟩ : ∃ b, b = decide (onC c x y i) := ⟨_, rfl⟩
 rw [← eans]
 have EA : Hid (ans = decide ((x = 0 ∧ y = 0 ∧ i = true) ∨ (i = false ∧ x < modN c ∧ y < modN c ∧ mulP c y y = sqY c x))) := by show _ = _; rw [eans]
 clear eans
 obtain ⟨m, em⟩ : ∃ m, m = modN c := ⟨_, rfl⟩
 obtain ⟨yy, eyy⟩ : ∃ z, z = mulP c y y := ⟨_, rfl⟩
 obtain ⟨sq, esq⟩ : ∃ z, z = sqY c x := ⟨_, rfl⟩
 rw [← em] at HOX HOY QX QY IX IY EA
 rw [← eyy] at HM QE EA
 rw [← esq] at HQ QE EA
 have HIX := (show Hid _ from IX); have HIY := (show Hid _ from IY)
 have hc0 : ¬ (c : Int) < 0 := by omega
 have hc3 : ¬ (3 : Int) < (c : Int) := by omega
 obtain ⟨xm, exm⟩ : ∃ z, z = x % m := ⟨_, rfl⟩
 obtain ⟨ym, eym⟩ : ∃ z, z = y % m := ⟨_, rfl⟩
 rw [← exm] at HOX QX HIX
 rw [← eym] at HOY QY HIY
 clear em eyy esq IX IY exm eym
 go_enter Tryz.func24, Tryz.ntmps24
 go_upto_region 3 with fail
 obtain ⟨w0, hw0⟩ : ∃ w0 : World, w0 = w.alloc (.cells #[.int .u64 (limb 0 x), .int .u64 (limb 1 x), .int .u64 (limb 2 x), .int .u64 (limb 3 x), .int .u64 (limb 0 y), .int .u64 (limb 1 y), .int .u64 (limb 2 y), .int .u64 (limb 3 y), .bool i] 27) := ⟨_, rfl⟩
 have bp : Pt w0 w.heap.size x y i := by rw [hw0]; exact Pt.newAt _ _ _ _ _ rfl
 have hbw0 : Below w.heap.size w w0 := by rw [hw0]; exact (Below.refl _ _).alloc (Nat.le_refl _) _
 rw [← hw0]
 clear hw0
 cases i with
 | true =>
  have hans : ans = decide (x = 0 ∧ y = 0 ∧ true = true) := by rw [EA.out]; simp
  have HANS := (show Hid _ from hans)
  obtain ⟨bb, ebb⟩ : ∃ b, b = decide (x = 0 ∧ y = 0 ∧ true = true) := ⟨_, rfl⟩
  rw [← ebb] at HANS QI
  clear hans ebb EA QX QY QE HIX HIY
  have q8 := bp.cells.2.2.2.2.2.2.2.2.1
  go_upto_region 4 with fail
  clear q8
  have HS0 : Hid (Below w0.heap.size w0 w0.drew) := (Below.refl _ _).drew
  refine wp_region_Z (fun w' => Below w0.heap.size w0 w') 99 (by kernel_rfl) ?_
  refine zt 0 13 (.agg #[.int .u64 (limb 0 (x)), .int .u64 (limb 1 (x)), .int .u64 (limb 2 (x)), .int .u64 (limb 3 (x)), .int .u64 (limb 0 (y)), .int .u64 (limb 1 (y)), .int .u64 (limb 2 (y)), .int .u64 (limb 3 (y)), .bool true]) rfl rfl (fun w hSw => by (obtain ⟨q0, q1, q2, q3, q4, q5, q6, q7, q8, qf⟩ := (bp.belowAll hSw).cells; clear hSw; go_simp)) HS0.out ?_
  simp only [Act.put, z1]
  dsimp only [z2, z3]
  refine wpZ_one (i := 1) (by kernel_rfl) rfl (fun K hK => ?_)
  go_simp
  refine (HIN.out w0.drew).mono ?_
  rintro e wK1 ⟨rfl, hbK1⟩
  have hSK1 : Below w0.heap.size w0 wK1 := bStep (HS0.out) hbK1
  go_wp2_with fail
  refine hK.out _ _ (fun _ => hSK1) ?_
  clear hK K
  refine zt 2 15 (.bool bb) rfl rfl (fun w hSw => by go_simp) hSK1 ?_
  simp only [Act.put, z1]
  dsimp only [z2, z3]
  refine zt 3 4 (.bool bb) rfl rfl (fun w hSw => by go_simp) hSK1 ?_
  simp only [Act.put, z1]
  dsimp only [z2, z3]
  refine wpZ_done (by kernel_rfl) ?_ _
  go_wp2
  go_ret
  exact ⟨by rw [HANS.out]; rfl, bStep hbw0 (hSK1)⟩
 | false =>
  have q8 := bp.cells.2.2.2.2.2.2.2.2.1
  go_upto_region 5 with fail
  clear q8 QI
  by_cases hxm : xm = x
  ·rw [show (!decide (xm = x)) = false from by simp [hxm]] at QX
   have hx2 := HIX.out.1 hxm
   by_cases hym : ym = y
   ·rw [show (!decide (ym = y)) = false from by simp [hym]] at QY
    have hy2 := HIY.out.1 hym
    have hans : ans = decide (yy = sq) := by rw [EA.out]; simp [hx2, hy2]
    have HANS := (show Hid _ from hans)
    clear hans hx2 hy2 hxm hym EA HIX HIY
    go_cut [31] (fun b wx => b = .bool false ∧ Below w0.heap.size w0 wx)
    case first =>
     have HS0 : Hid (Below w0.heap.size w0 w0.drew) := (Below.refl _ _).drew
     refine wp_region_Z (fun w' => Below w0.heap.size w0 w') 99 (by kernel_rfl) ?_
     refine zt 0 16 (.int .i64 (c : Int)) rfl rfl (fun w hSw => by go_simp) HS0.out ?_
     simp only [Act.put, z1]
     dsimp only [z2, z3]
     refine zt 1 17 (.pointer (some ⟨w.heap.size, 0, none⟩)) rfl rfl (fun w hSw => by go_simp) HS0.out ?_
     simp only [Act.put, z1]
     dsimp only [z2, z3]
     refine zt 2 18 (.agg #[.int .u64 (limb 0 (x)), .int .u64 (limb 1 (x)), .int .u64 (limb 2 (x)), .int .u64 (limb 3 (x))]) rfl rfl (fun w hSw => by (obtain ⟨q0, q1, q2, q3, q4, q5, q6, q7, q8, qf⟩ := (bp.belowAll hSw).cells; clear hSw; go_simp)) HS0.out ?_
     simp only [Act.put, z1]
     dsimp only [z2, z3]
     refine zt 4 20 (.pointer (some ⟨w.heap.size, 0, none⟩)) rfl rfl (fun w hSw => by go_simp) HS0.out ?_
     simp only [Act.put, z1]
     dsimp only [z2, z3]
     refine zt 5 21 (.agg #[.int .u64 (limb 0 (x)), .int .u64 (limb 1 (x)), .int .u64 (limb 2 (x)), .int .u64 (limb 3 (x))]) rfl rfl (fun w hSw => by (obtain ⟨q0, q1, q2, q3, q4, q5, q6, q7, q8, qf⟩ := (bp.belowAll hSw).cells; clear hSw; go_simp)) HS0.out ?_
     simp only [Act.put, z1]
     dsimp only [z2, z3]
     refine wpZ_one (i := 3) (by kernel_rfl) rfl (fun K hK => ?_)
     go_simp
     refine (HOX.out w0.drew).mono ?_
     rintro e wK1 ⟨rfl, hbK1⟩
     have hSK1 : Below w0.heap.size w0 wK1 := bStep (HS0.out) hbK1
     go_wp2_with fail
     refine hK.out _ _ (fun _ => hSK1) ?_
     clear hK K
     refine zt 6 22 (.bool false) rfl rfl (fun w hSw => by go_simp) hSK1 ?_
     simp only [Act.put, z1]
     dsimp only [z2, z3]
     refine zt 7 23 (.bool false) rfl rfl (fun w hSw => by go_simp) hSK1 ?_
     simp only [Act.put, z1]
     dsimp only [z2, z3]
     refine zt 8 24 (.int .i64 (c : Int)) rfl rfl (fun w hSw => by go_simp) hSK1 ?_
     simp only [Act.put, z1]
     dsimp only [z2, z3]
     refine zt 9 25 (.pointer (some ⟨w.heap.size, 4, none⟩)) rfl rfl (fun w hSw => by go_simp) hSK1 ?_
     simp only [Act.put, z1]
     dsimp only [z2, z3]
     refine zt 10 26 (.agg #[.int .u64 (limb 0 (y)), .int .u64 (limb 1 (y)), .int .u64 (limb 2 (y)), .int .u64 (limb 3 (y))]) rfl rfl (fun w hSw => by (obtain ⟨q0, q1, q2, q3, q4, q5, q6, q7, q8, qf⟩ := (bp.belowAll hSw).cells; clear hSw; go_simp)) hSK1 ?_
     simp only [Act.put, z1]
     dsimp only [z2, z3]
     refine zt 12 28 (.pointer (some ⟨w.heap.size, 4, none⟩)) rfl rfl (fun w hSw => by go_simp) hSK1 ?_
     simp only [Act.put, z1]
     dsimp only [z2, z3]
     refine zt 13 29 (.agg #[.int .u64 (limb 0 (y)), .int .u64 (limb 1 (y)), .int .u64 (limb 2 (y)), .int .u64 (limb 3 (y))]) rfl rfl (fun w hSw => by (obtain ⟨q0, q1, q2, q3, q4, q5, q6, q7, q8, qf⟩ := (bp.belowAll hSw).cells; clear hSw; go_simp)) hSK1 ?_
     simp only [Act.put, z1]
     dsimp only [z2, z3]
     refine wpZ_one (i := 11) (by kernel_rfl) rfl (fun K hK => ?_)
     go_simp
     refine (HOY.out wK1).mono ?_
     rintro e wK2 ⟨rfl, hbK2⟩
     have hSK2 : Below w0.heap.size w0 wK2 := bStep (hSK1) hbK2
     go_wp2_with fail
     refine hK.out _ _ (fun _ => hSK2) ?_
     clear hK K
     refine zt 14 30 (.bool false) rfl rfl (fun w hSw => by go_simp) hSK2 ?_
     simp only [Act.put, z1]
     dsimp only [z2, z3]
     refine zt 15 31 (.bool false) rfl rfl (fun w hSw => by go_simp) hSK2 ?_
     simp only [Act.put, z1]
     dsimp only [z2, z3]
     refine wpZ_done (by kernel_rfl) ?_ _
     go_wp2_with fail
     go_meet
     exact ⟨rfl, hSK2⟩
    obtain ⟨rfl, hbx⟩ := hcut
    have bp1 := bp.belowAll hbx
    have hbw1 := bStep hbw0 hbx
    clear bp hbw0 hbx
    go_upto_region 7 with fail
    have HS0 : Hid (Below wc.heap.size wc wc.drew) := (Below.refl _ _).drew
    refine wp_region_Z (fun w' => Below wc.heap.size wc w') 99 (by kernel_rfl) ?_
    refine zt 0 32 (.int .i64 (c : Int)) rfl rfl (fun w hSw => by go_simp) HS0.out ?_
    simp only [Act.put, z1]
    dsimp only [z2, z3]
    refine zt 1 33 (.pointer (some ⟨w.heap.size, 4, none⟩)) rfl rfl (fun w hSw => by go_simp) HS0.out ?_
    simp only [Act.put, z1]
    dsimp only [z2, z3]
    refine zt 2 34 (.agg #[.int .u64 (limb 0 (y)), .int .u64 (limb 1 (y)), .int .u64 (limb 2 (y)), .int .u64 (limb 3 (y))]) rfl rfl (fun w hSw => by (obtain ⟨q0, q1, q2, q3, q4, q5, q6, q7, q8, qf⟩ := (bp1.belowAll hSw).cells; clear hSw; go_simp)) HS0.out ?_
    simp only [Act.put, z1]
    dsimp only [z2, z3]
    refine zt 3 35 (.pointer (some ⟨w.heap.size, 4, none⟩)) rfl rfl (fun w hSw => by go_simp) HS0.out ?_
    simp only [Act.put, z1]
    dsimp only [z2, z3]
    refine zt 4 36 (.agg #[.int .u64 (limb 0 (y)), .int .u64 (limb 1 (y)), .int .u64 (limb 2 (y)), .int .u64 (limb 3 (y))]) rfl rfl (fun w hSw => by (obtain ⟨q0, q1, q2, q3, q4, q5, q6, q7, q8, qf⟩ := (bp1.belowAll hSw).cells; clear hSw; go_simp)) HS0.out ?_
    simp only [Act.put, z1]
    dsimp only [z2, z3]
    refine zt 6 38 (.int .i64 (c : Int)) rfl rfl (fun w hSw => by go_simp) HS0.out ?_
    simp only [Act.put, z1]
    dsimp only [z2, z3]
    refine zt 7 39 (.pointer (some ⟨w.heap.size, 0, none⟩)) rfl rfl (fun w hSw => by go_simp) HS0.out ?_
    simp only [Act.put, z1]
    dsimp only [z2, z3]
    refine zt 8 40 (.agg #[.int .u64 (limb 0 (x)), .int .u64 (limb 1 (x)), .int .u64 (limb 2 (x)), .int .u64 (limb 3 (x))]) rfl rfl (fun w hSw => by (obtain ⟨q0, q1, q2, q3, q4, q5, q6, q7, q8, qf⟩ := (bp1.belowAll hSw).cells; clear hSw; go_simp)) HS0.out ?_
    simp only [Act.put, z1]
    dsimp only [z2, z3]
    refine wpZ_one (i := 5) (by kernel_rfl) rfl (fun K hK => ?_)
    go_simp
    refine (HM.out wc.drew).mono ?_
    rintro e wK1 ⟨rfl, hbK1⟩
    have hSK1 : Below wc.heap.size wc wK1 := bStep (HS0.out) hbK1
    go_wp2_with fail
    refine hK.out _ _ (fun _ => hSK1) ?_
    clear hK K
    refine wpZ_one (i := 9) (by kernel_rfl) rfl (fun K hK => ?_)
    go_simp
    refine (HQ.out wK1).mono ?_
    rintro e wK2 ⟨rfl, hbK2⟩
    have hSK2 : Below wc.heap.size wc wK2 := bStep (hSK1) hbK2
    go_wp2_with fail
    refine hK.out _ _ (fun _ => hSK2) ?_
    clear hK K
    refine zt 10 42 (.bool (decide (yy = sq))) rfl rfl (fun w hSw => by go_simp) hSK2 ?_
    simp only [Act.put, z1]
    dsimp only [z2, z3]
    refine zt 11 4 (.bool (decide (yy = sq))) rfl rfl (fun w hSw => by go_simp) hSK2 ?_
    simp only [Act.put, z1]
    dsimp only [z2, z3]
    refine wpZ_done (by kernel_rfl) ?_ _
    go_wp2
    go_ret
    exact ⟨by rw [HANS.out]; rfl, bStep hbw1 (hSK2)⟩
   ·rw [show (!decide (ym = y)) = true from by simp [hym]] at QY
    have hy2 : ¬ y < m := fun h => hym (HIY.out.2 h)
    have hans : ans = false := by rw [EA.out]; simp [hy2]
    have HANS := (show Hid _ from hans)
    clear hans hx2 hy2 hxm hym EA HIX HIY
    go_cut [31] (fun b wx => b = .bool true ∧ Below w0.heap.size w0 wx)
    case first =>
     have HS0 : Hid (Below w0.heap.size w0 w0.drew) := (Below.refl _ _).drew
     refine wp_region_Z (fun w' => Below w0.heap.size w0 w') 99 (by kernel_rfl) ?_
     refine zt 0 16 (.int .i64 (c : Int)) rfl rfl (fun w hSw => by go_simp) HS0.out ?_
     simp only [Act.put, z1]
     dsimp only [z2, z3]
     refine zt 1 17 (.pointer (some ⟨w.heap.size, 0, none⟩)) rfl rfl (fun w hSw => by go_simp) HS0.out ?_
     simp only [Act.put, z1]
     dsimp only [z2, z3]
     refine zt 2 18 (.agg #[.int .u64 (limb 0 (x)), .int .u64 (limb 1 (x)), .int .u64 (limb 2 (x)), .int .u64 (limb 3 (x))]) rfl rfl (fun w hSw => by (obtain ⟨q0, q1, q2, q3, q4, q5, q6, q7, q8, qf⟩ := (bp.belowAll hSw).cells; clear hSw; go_simp)) HS0.out ?_
     simp only [Act.put, z1]
     dsimp only [z2, z3]
     refine zt 4 20 (.pointer (some ⟨w.heap.size, 0, none⟩)) rfl rfl (fun w hSw => by go_simp) HS0.out ?_
     simp only [Act.put, z1]
     dsimp only [z2, z3]
     refine zt 5 21 (.agg #[.int .u64 (limb 0 (x)), .int .u64 (limb 1 (x)), .int .u64 (limb 2 (x)), .int .u64 (limb 3 (x))]) rfl rfl (fun w hSw => by (obtain ⟨q0, q1, q2, q3, q4, q5, q6, q7, q8, qf⟩ := (bp.belowAll hSw).cells; clear hSw; go_simp)) HS0.out ?_
     simp only [Act.put, z1]
     dsimp only [z2, z3]
     refine wpZ_one (i := 3) (by kernel_rfl) rfl (fun K hK => ?_)
     go_simp
     refine (HOX.out w0.drew).mono ?_
     rintro e wK1 ⟨rfl, hbK1⟩
     have hSK1 : Below w0.heap.size w0 wK1 := bStep (HS0.out) hbK1
     go_wp2_with fail
     refine hK.out _ _ (fun _ => hSK1) ?_
     clear hK K
     refine zt 6 22 (.bool false) rfl rfl (fun w hSw => by go_simp) hSK1 ?_
     simp only [Act.put, z1]
     dsimp only [z2, z3]
     refine zt 7 23 (.bool false) rfl rfl (fun w hSw => by go_simp) hSK1 ?_
     simp only [Act.put, z1]
     dsimp only [z2, z3]
     refine zt 8 24 (.int .i64 (c : Int)) rfl rfl (fun w hSw => by go_simp) hSK1 ?_
     simp only [Act.put, z1]
     dsimp only [z2, z3]
     refine zt 9 25 (.pointer (some ⟨w.heap.size, 4, none⟩)) rfl rfl (fun w hSw => by go_simp) hSK1 ?_
     simp only [Act.put, z1]
     dsimp only [z2, z3]
     refine zt 10 26 (.agg #[.int .u64 (limb 0 (y)), .int .u64 (limb 1 (y)), .int .u64 (limb 2 (y)), .int .u64 (limb 3 (y))]) rfl rfl (fun w hSw => by (obtain ⟨q0, q1, q2, q3, q4, q5, q6, q7, q8, qf⟩ := (bp.belowAll hSw).cells; clear hSw; go_simp)) hSK1 ?_
     simp only [Act.put, z1]
     dsimp only [z2, z3]
     refine zt 12 28 (.pointer (some ⟨w.heap.size, 4, none⟩)) rfl rfl (fun w hSw => by go_simp) hSK1 ?_
     simp only [Act.put, z1]
     dsimp only [z2, z3]
     refine zt 13 29 (.agg #[.int .u64 (limb 0 (y)), .int .u64 (limb 1 (y)), .int .u64 (limb 2 (y)), .int .u64 (limb 3 (y))]) rfl rfl (fun w hSw => by (obtain ⟨q0, q1, q2, q3, q4, q5, q6, q7, q8, qf⟩ := (bp.belowAll hSw).cells; clear hSw; go_simp)) hSK1 ?_
     simp only [Act.put, z1]
     dsimp only [z2, z3]
     refine wpZ_one (i := 11) (by kernel_rfl) rfl (fun K hK => ?_)
     go_simp
     refine (HOY.out wK1).mono ?_
     rintro e wK2 ⟨rfl, hbK2⟩
     have hSK2 : Below w0.heap.size w0 wK2 := bStep (hSK1) hbK2
     go_wp2_with fail
     refine hK.out _ _ (fun _ => hSK2) ?_
     clear hK K
     refine zt 14 30 (.bool true) rfl rfl (fun w hSw => by go_simp) hSK2 ?_
     simp only [Act.put, z1]
     dsimp only [z2, z3]
     refine zt 15 31 (.bool true) rfl rfl (fun w hSw => by go_simp) hSK2 ?_
     simp only [Act.put, z1]
     dsimp only [z2, z3]
     refine wpZ_done (by kernel_rfl) ?_ _
     go_wp2_with fail
     go_meet
     exact ⟨rfl, hSK2⟩
    obtain ⟨rfl, hbx⟩ := hcut
    have bp1 := bp.belowAll hbx
    have hbw1 := bStep hbw0 hbx
    clear bp hbw0 hbx
    go_wp2
    go_ret
    exact ⟨by rw [HANS.out]; rfl, hbw1⟩
  ·rw [show (!decide (xm = x)) = true from by simp [hxm]] at QX
   have hx2 : ¬ x < m := fun h => hxm (HIX.out.2 h)
   have hans : ans = false := by rw [EA.out]; simp [hx2]
   have HANS := (show Hid _ from hans)
   clear hans hx2 hxm EA HIX HIY
   go_cut [31] (fun b wx => b = .bool true ∧ Below w0.heap.size w0 wx)
   case first =>
    have HS0 : Hid (Below w0.heap.size w0 w0.drew) := (Below.refl _ _).drew
    refine wp_region_Z (fun w' => Below w0.heap.size w0 w') 99 (by kernel_rfl) ?_
    refine zt 0 16 (.int .i64 (c : Int)) rfl rfl (fun w hSw => by go_simp) HS0.out ?_
    simp only [Act.put, z1]
    dsimp only [z2, z3]
    refine zt 1 17 (.pointer (some ⟨w.heap.size, 0, none⟩)) rfl rfl (fun w hSw => by go_simp) HS0.out ?_
    simp only [Act.put, z1]
    dsimp only [z2, z3]
    refine zt 2 18 (.agg #[.int .u64 (limb 0 (x)), .int .u64 (limb 1 (x)), .int .u64 (limb 2 (x)), .int .u64 (limb 3 (x))]) rfl rfl (fun w hSw => by (obtain ⟨q0, q1, q2, q3, q4, q5, q6, q7, q8, qf⟩ := (bp.belowAll hSw).cells; clear hSw; go_simp)) HS0.out ?_
    simp only [Act.put, z1]
    dsimp only [z2, z3]
    refine zt 4 20 (.pointer (some ⟨w.heap.size, 0, none⟩)) rfl rfl (fun w hSw => by go_simp) HS0.out ?_
    simp only [Act.put, z1]
    dsimp only [z2, z3]
    refine zt 5 21 (.agg #[.int .u64 (limb 0 (x)), .int .u64 (limb 1 (x)), .int .u64 (limb 2 (x)), .int .u64 (limb 3 (x))]) rfl rfl (fun w hSw => by (obtain ⟨q0, q1, q2, q3, q4, q5, q6, q7, q8, qf⟩ := (bp.belowAll hSw).cells; clear hSw; go_simp)) HS0.out ?_
    simp only [Act.put, z1]
    dsimp only [z2, z3]
    refine wpZ_one (i := 3) (by kernel_rfl) rfl (fun K hK => ?_)
    go_simp
    refine (HOX.out w0.drew).mono ?_
    rintro e wK1 ⟨rfl, hbK1⟩
    have hSK1 : Below w0.heap.size w0 wK1 := bStep (HS0.out) hbK1
    go_wp2_with fail
    refine hK.out _ _ (fun _ => hSK1) ?_
    clear hK K
    refine zt 6 22 (.bool true) rfl rfl (fun w hSw => by go_simp) hSK1 ?_
    simp only [Act.put, z1]
    dsimp only [z2, z3]
    refine zt 7 23 (.bool true) rfl rfl (fun w hSw => by go_simp) hSK1 ?_
    simp only [Act.put, z1]
    dsimp only [z2, z3]
    refine zu 8 24 rfl rfl hSK1 ?_
    simp only [Act.put, z1]
    dsimp only [z2, z3]
    refine zu 9 25 rfl rfl hSK1 ?_
    simp only [Act.put, z1]
    dsimp only [z2, z3]
    refine zu 10 26 rfl rfl hSK1 ?_
    simp only [Act.put, z1]
    dsimp only [z2, z3]
    refine zu 11 27 rfl rfl hSK1 ?_
    simp only [Act.put, z1]
    dsimp only [z2, z3]
    refine zu 12 28 rfl rfl hSK1 ?_
    simp only [Act.put, z1]
    dsimp only [z2, z3]
    refine zu 13 29 rfl rfl hSK1 ?_
    simp only [Act.put, z1]
    dsimp only [z2, z3]
    refine zu 14 30 rfl rfl hSK1 ?_
    simp only [Act.put, z1]
    dsimp only [z2, z3]
    refine zt 15 31 (.bool true) rfl rfl (fun w hSw => by go_simp) hSK1 ?_
    simp only [Act.put, z1]
    dsimp only [z2, z3]
    refine wpZ_done (by kernel_rfl) ?_ _
    go_wp2_with fail
    go_meet
    exact ⟨rfl, hSK1⟩
   obtain ⟨rfl, hbx⟩ := hcut
   have bp1 := bp.belowAll hbx
   have hbw1 := bStep hbw0 hbx
   clear bp hbw0 hbx
   go_wp2
   go_ret
   exact ⟨by rw [HANS.out]; rfl, hbw1⟩
end Go.Proofs.YtdeijnlbencfdaaGreatDoor
