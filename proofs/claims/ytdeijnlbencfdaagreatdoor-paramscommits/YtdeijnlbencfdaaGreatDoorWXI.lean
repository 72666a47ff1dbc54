import Derived.Test.YtdeijnlbencfdaaGreatDoorWK3
import Derived.Test.YtdeijnlbencfdaaGreatDoorWBE
import Derived.Test.YtdeijnlbencfdaaGreatDoorWXF
import Derived.Test.YtdeijnlbencfdaaGreatDoorWKD
set_option maxHeartbeats 8000000
namespace Go.Proofs.YtdeijnlbencfdaaGreatDoor
open Go.RowKit
theorem rInfinity_any (w : World) : Calls Tryz.prog 46 #[] w fun e w' => e = .returned (.agg #[.int .u64 (limb 0 0), .int .u64 (limb 1 0), .int .u64 (limb 2 0), .int .u64 (limb 3 0), .int .u64 (limb 0 0), .int .u64 (limb 1 0), .int .u64 (limb 2 0), .int .u64 (limb 3 0), .bool true]) ∧ Below w.heap.size w w' := by
 rw [infAgg]
 go_enter Tryz.func46, Tryz.ntmps46
 go_wp2
 refine bodyPost_ret (v := .agg #[.int .u64 0, .int .u64 0, .int .u64 0, .int .u64 0, .int .u64 0, .int .u64 0, .int .u64 0, .int .u64 0, .bool true]) (by simp [results, Tryz.results46, go_sem]) rfl ⟨rfl, ?_⟩
 repeat (first | with_reducible exact Below.refl _ _ | with_reducible refine Below.alloc ?_ (by first | omega | (simp; omega) | simp) _ | with_reducible refine Below.setCell ?_ (by first | omega | (simp; omega) | simp) _)
theorem rb_any (c : Nat) (hc : c < 4) (w : World) : Calls Tryz.prog 83 #[.int .i64 (c : Int)] w fun e w' => e = .returned (.agg #[.int .u64 (limb 0 (bN c)), .int .u64 (limb 1 (bN c)), .int .u64 (limb 2 (bN c)), .int .u64 (limb 3 (bN c))]) ∧ Below w.heap.size w w' := by
 rw [word_agg (bN c) (by have := bN_24 c; omega)]
 have h : c = 0 ∨ c = 1 ∨ c = 2 ∨ c = 3 := by omega
 rcases h with rfl | rfl | rfl | rfl
 ·go_enter Tryz.func83, Tryz.ntmps83
  go_wp2
  refine bodyPost_ret (v := .agg #[.int .u64 23, .int .u64 0, .int .u64 0, .int .u64 0]) (by simp [results, Tryz.results83, go_sem]) rfl ⟨rfl, ?_⟩
  repeat (first | with_reducible exact Below.refl _ _ | with_reducible refine Below.alloc ?_ (by first | omega | (simp; omega) | simp) _ | with_reducible refine Below.setCell ?_ (by first | omega | (simp; omega) | simp) _)
 ·go_enter Tryz.func83, Tryz.ntmps83
  go_wp2
  refine bodyPost_ret (v := .agg #[.int .u64 21, .int .u64 0, .int .u64 0, .int .u64 0]) (by simp [results, Tryz.results83, go_sem]) rfl ⟨rfl, ?_⟩
  repeat (first | with_reducible exact Below.refl _ _ | with_reducible refine Below.alloc ?_ (by first | omega | (simp; omega) | simp) _ | with_reducible refine Below.setCell ?_ (by first | omega | (simp; omega) | simp) _)
 ·go_enter Tryz.func83, Tryz.ntmps83
  go_wp2
  refine bodyPost_ret (v := .agg #[.int .u64 5, .int .u64 0, .int .u64 0, .int .u64 0]) (by simp [results, Tryz.results83, go_sem]) rfl ⟨rfl, ?_⟩
  repeat (first | with_reducible exact Below.refl _ _ | with_reducible refine Below.alloc ?_ (by first | omega | (simp; omega) | simp) _ | with_reducible refine Below.setCell ?_ (by first | omega | (simp; omega) | simp) _)
 ·go_enter Tryz.func83, Tryz.ntmps83
  go_wp2
  refine bodyPost_ret (v := .agg #[.int .u64 5, .int .u64 0, .int .u64 0, .int .u64 0]) (by simp [results, Tryz.results83, go_sem]) rfl ⟨rfl, ?_⟩
  repeat (first | with_reducible exact Below.refl _ _ | with_reducible refine Below.alloc ?_ (by first | omega | (simp; omega) | simp) _ | with_reducible refine Below.setCell ?_ (by first | omega | (simp; omega) | simp) _)
set_option maxRecDepth 20000 in
theorem rcube_any (c x : Nat) (hc : c < 4) (hx : x < 115792089237316195423570985008687907853269984665640564039457584007913129639936) (w : World) : Calls Tryz.prog 43 #[.int .i64 (c : Int), .agg #[.int .u64 (limb 0 x), .int .u64 (limb 1 x), .int .u64 (limb 2 x), .int .u64 (limb 3 x)]] w fun e w' => e = .returned (.agg #[.int .u64 (limb 0 (sqY c x)), .int .u64 (limb 1 (sqY c x)), .int .u64 (limb 2 (sqY c x)), .int .u64 (limb 3 (sqY c x))]) ∧ Below w.heap.size w w' := by
 have HM1 : Hid (∀ w, _) := fun w => ref2Mul_any c x x hc hx hx w
 have HM2 : Hid (∀ w, _) := fun w => ref2Mul_any c x (mulP c x x) hc hx (mulP_M _ _ _) w
 have HBB : Hid (∀ w, _) := fun w => rb_any c hc w
 have HA : Hid (∀ w, _) := fun w => ref2Add_any c (mulP c x (mulP c x x)) (bN c) hc (mulP_M _ _ _) (by have := bN_24 c; omega) w
 have ER : Hid (sqY c x = addP c (mulP c x (mulP c x x)) (bN c)) := rfl
 rw [ER.out]
 obtain ⟨sq, esq⟩ : ∃ y, y = mulP c x x := ⟨_, rfl⟩
 rw [← esq] at HM1 HM2 HA ⊢
 obtain ⟨cu, ecu⟩ : ∃ y, y = mulP c x sq := ⟨_, rfl⟩
 rw [← ecu] at HM2 HA ⊢
 obtain ⟨r, er⟩ : ∃ r, r = addP c cu (bN c) := ⟨_, rfl⟩
 rw [← er] at HA ⊢
 obtain ⟨bb, ebb⟩ : ∃ b, b = bN c := ⟨_, rfl⟩
 rw [← ebb] at HA HBB
 clear esq ecu ER er ebb
 go_enter Tryz.func43, Tryz.ntmps43
 go_upto_region 1 with fail
 obtain ⟨w0, hw0⟩ : ∃ w0 : World, w0 = (w.alloc (.cells #[.int .u64 (limb 0 x), .int .u64 (limb 1 x), .int .u64 (limb 2 x), .int .u64 (limb 3 x)] 25)).alloc (.cells #[.int .u64 0, .int .u64 0, .int .u64 0, .int .u64 0] 25) := ⟨_, rfl⟩
 have bx : Blk w0 25 w.heap.size (fun i => limb i x) := by rw [hw0]; exact (Blk.newAt _ _ _ (fun i => limb i x) rfl).alloc _
 have br : Blk w0 25 (w.heap.size + 1) (fun _ => 0) := by rw [hw0]; exact Blk.newAt _ _ _ (fun _ => 0) (by simp)
 have hbw0 : Below w.heap.size w w0 := by rw [hw0]; exact bAlloc ((Below.refl _ _).alloc (Nat.le_refl _) _) _
 have hrw : w.heap.size ≤ w.heap.size + 1 := Nat.le_succ _
 rw [← hw0]
 clear hw0
 have HS0 : Hid (Below w0.heap.size w0 w0.drew) := (Below.refl _ _).drew
 refine wp_region_Z (fun w' => Below w0.heap.size w0 w') 11 (by kernel_rfl) ?_
 refine zs 0 5 (.int .i64 (c : Int)) HS0.out ?_
 refine zs 1 6 (.int .i64 (c : Int)) HS0.out ?_
 refine zT 2 7 (.agg #[.int .u64 (limb 0 x), .int .u64 (limb 1 x), .int .u64 (limb 2 x), .int .u64 (limb 3 x)]) rfl rfl (fun w hSw => by (have qq := (bx.belowAll hSw).cell; clear hSw; go_simp)) HS0.out ?_
 refine zs 3 8 (.int .i64 (c : Int)) HS0.out ?_
 refine zT 4 9 (.agg #[.int .u64 (limb 0 x), .int .u64 (limb 1 x), .int .u64 (limb 2 x), .int .u64 (limb 3 x)]) rfl rfl (fun w hSw => by (have qq := (bx.belowAll hSw).cell; clear hSw; go_simp)) HS0.out ?_
 refine zT 5 10 (.agg #[.int .u64 (limb 0 x), .int .u64 (limb 1 x), .int .u64 (limb 2 x), .int .u64 (limb 3 x)]) rfl rfl (fun w hSw => by (have qq := (bx.belowAll hSw).cell; clear hSw; go_simp)) HS0.out ?_
 refine zs 8 13 (.int .i64 (c : Int)) HS0.out ?_
 refine zo 6 rfl (fun K hK => ?_)
 go_simp
 refine (HM1.out w0.drew).mono ?_
 rintro e wK1 ⟨rfl, hbK1⟩
 have hSK1 := bStep HS0.out hbK1
 go_wp2_with fail
 refine hK.out _ _ (fun _ => hSK1) ?_
 clear hK K
 refine zo 7 rfl (fun K hK => ?_)
 go_simp
 refine (HM2.out wK1).mono ?_
 rintro e wK2 ⟨rfl, hbK2⟩
 have hSK2 := bStep hSK1 hbK2
 go_wp2_with fail
 refine hK.out _ _ (fun _ => hSK2) ?_
 clear hK K
 refine zo 9 rfl (fun K hK => ?_)
 go_simp
 refine (HBB.out wK2).mono ?_
 rintro e wK3 ⟨rfl, hbK3⟩
 have hSK3 := bStep hSK2 hbK3
 go_wp2_with fail
 refine hK.out _ _ (fun _ => hSK3) ?_
 clear hK K
 refine zo 10 rfl (fun K hK => ?_)
 go_simp
 refine (HA.out wK3).mono ?_
 rintro e wK4 ⟨rfl, hbK4⟩
 have hSK4 := bStep hSK3 hbK4
 go_wp2_with fail
 refine hK.out _ _ (fun _ => hSK4) ?_
 clear hK K
 refine zo 11 rfl (fun K hK => ?_)
 have cR := (br.belowAll (hSK4)).cell; have fR := (br.belowAll (hSK4)).frozen
 go_simp
 refine hK.out _ _ (fun h => absurd rfl h) ?_
 clear hK K
 refine zd ?_ _
 go_wp2
 refine bodyPost_ret (v := .agg #[.int .u64 (limb 0 r), .int .u64 (limb 1 r), .int .u64 (limb 2 r), .int .u64 (limb 3 r)]) (by simp [results, Tryz.results43, go_sem, cR]) rfl ⟨rfl, ?_⟩
 exact bSet4 (bStep hbw0 (hSK4)) hrw _ _ _ _
theorem mod_self_iff (c x : Nat) : x % modN c = x ↔ x < modN c := ⟨fun h => by rw [← h]; exact Nat.mod_lt _ (modN_pos c), fun h => Nat.mod_eq_of_lt h⟩
set_option maxRecDepth 20000 in
theorem ron_in (c x y : Nat) (i : Bool) (hc : c < 4) (hx : x < 115792089237316195423570985008687907853269984665640564039457584007913129639936) (hy : y < 115792089237316195423570985008687907853269984665640564039457584007913129639936) (w : World) : Calls Tryz.prog 24 #[.int .i64 (c : Int), .agg #[.int .u64 (limb 0 x), .int .u64 (limb 1 x), .int .u64 (limb 2 x), .int .u64 (limb 3 x), .int .u64 (limb 0 y), .int .u64 (limb 1 y), .int .u64 (limb 2 y), .int .u64 (limb 3 y), .bool i]] w fun e w' => e = .returned (.bool (decide (onC c x y i))) ∧ Below w.heap.size w w' := by
 have HIN : Hid (∀ w, _) := rInfinity_any
 have HOX : Hid (∀ w, _) := fun w => ref2Of_any c x hc hx w
 have HOY : Hid (∀ w, _) := fun w => ref2Of_any c y hc hy w
 have HM : Hid (∀ w, _) := fun w => ref2Mul_any c y y hc hy hy w
 have HQ : Hid (∀ w, _) := fun w => rcube_any c x hc hx w
 have QI := fun w => eqlP x y 0 0 i true hx hy (by decide) (by decide) w
 have QX := fun w => neqE (x % modN c) x (lt_M c _ (Nat.mod_lt _ (modN_pos c))) hx w
 have QY := fun w => neqE (y % modN c) y (lt_M c _ (Nat.mod_lt _ (modN_pos c))) hy w
 have QE := fun w => eqlE (mulP c y y) (sqY c x) (mulP_M _ _ _) (sqY_M _ _) w
 have IX := mod_self_iff c x
 have IY := mod_self_iff c y
 obtain ⟨ans, eans⟩ : ∃ b, b = decide (onC c x y i) := ⟨_, rfl⟩
 rw [← eans]
 have EA : Hid (ans = decide ((x = 0 ∧ y = 0 ∧ i = true) ∨ (i = false ∧ x < modN c ∧ y < modN c ∧ mulP c y y = sqY c x))) := by show _ = _; rw [eans]
 clear eans
 obtain ⟨m, em⟩ : ∃ m, m = modN c := ⟨_, rfl⟩
 obtain ⟨yy, eyy⟩ : ∃ z, z = mulP c y y := ⟨_, rfl⟩
 obtain ⟨sq, esq⟩ : ∃ z, z = sqY c x := ⟨_, rfl⟩
 rw [← em] at HOX HOY QX QY IX IY EA
 rw [← eyy] at HM QE EA
 rw [← esq] at HQ QE EA
 have HIX := (show Hid _ from IX); have HIY := (show Hid _ from IY)
 have hc0 : ¬ (c : Int) < 0 := by omega
 have hc3 : ¬ (3 : Int) < (c : Int) := by omega
 obtain ⟨xm, exm⟩ : ∃ z, z = x % m := ⟨_, rfl⟩
 obtain ⟨ym, eym⟩ : ∃ z, z = y % m := ⟨_, rfl⟩
 rw [← exm] at HOX QX HIX
 rw [← eym] at HOY QY HIY
 clear em eyy esq IX IY exm eym
 go_enter Tryz.func24, Tryz.ntmps24
 go_upto_region 3 with fail
 obtain ⟨w0, hw0⟩ : ∃ w0 : World, w0 = w.alloc (.cells #[.int .u64 (limb 0 x), .int .u64 (limb 1 x), .int .u64 (limb 2 x), .int .u64 (limb 3 x), .int .u64 (limb 0 y), .int .u64 (limb 1 y), .int .u64 (limb 2 y), .int .u64 (limb 3 y), .bool i] 27) := ⟨_, rfl⟩
 have bp : Pt w0 w.heap.size x y i := by rw [hw0]; exact Pt.newAt _ _ _ _ _ rfl
 have hbw0 : Below w.heap.size w w0 := by rw [hw0]; exact (Below.refl _ _).alloc (Nat.le_refl _) _
 rw [← hw0]
 clear hw0
 cases i with
 | true =>
  have hans : ans = decide (x = 0 ∧ y = 0 ∧ true = true) := by rw [EA.out]; simp
  have HANS := (show Hid _ from hans)
  obtain ⟨bb, ebb⟩ : ∃ b, b = decide (x = 0 ∧ y = 0 ∧ true = true) := ⟨_, rfl⟩
  rw [← ebb] at HANS QI
  clear hans ebb EA QX QY QE HIX HIY
  have q8 := bp.cells.2.2.2.2.2.2.2.2.1
  go_upto_region 4 with fail
  clear q8
  have HS0 : Hid (Below w0.heap.size w0 w0.drew) := (Below.refl _ _).drew
  refine wp_region_Z (fun w' => Below w0.heap.size w0 w') 99 (by kernel_rfl) ?_
  refine zT 0 13 (.agg #[.int .u64 (limb 0 x), .int .u64 (limb 1 x), .int .u64 (limb 2 x), .int .u64 (limb 3 x), .int .u64 (limb 0 y), .int .u64 (limb 1 y), .int .u64 (limb 2 y), .int .u64 (limb 3 y), .bool true]) rfl rfl (fun w hSw => by (obtain ⟨q0, q1, q2, q3, q4, q5, q6, q7, q8, qf⟩ := (bp.belowAll hSw).cells; clear hSw; go_simp)) HS0.out ?_
  refine zo 1 rfl (fun K hK => ?_)
  go_simp
  refine (HIN.out w0.drew).mono ?_
  rintro e wK1 ⟨rfl, hbK1⟩
  have hSK1 := bStep HS0.out hbK1
  go_wp2_with fail
  refine hK.out _ _ (fun _ => hSK1) ?_
  clear hK K
  refine zs 2 15 (.bool bb) hSK1 ?_
  refine zs 3 4 (.bool bb) hSK1 ?_
  refine zd ?_ _
  go_wp2
  go_ret
  exact ⟨by rw [HANS.out]; rfl, bStep hbw0 (hSK1)⟩
 | false =>
  have q8 := bp.cells.2.2.2.2.2.2.2.2.1
  go_upto_region 5 with fail
  clear q8 QI
  by_cases hxm : xm = x
  ·rw [show (!decide (xm = x)) = false from by simp [hxm]] at QX
   have hx2 := HIX.out.1 hxm
   by_cases hym : ym = y
   ·rw [show (!decide (ym = y)) = false from by simp [hym]] at QY
    have hy2 := HIY.out.1 hym
    have hans : ans = decide (yy = sq) := by rw [EA.out]; simp [hx2, hy2]
    have HANS := (show Hid _ from hans)
    clear hans hx2 hy2 hxm hym EA HIX HIY
    go_cut [31] (fun b wx => b = .bool false ∧ Below w0.heap.size w0 wx)
    case first =>
     have HS0 : Hid (Below w0.heap.size w0 w0.drew) := (Below.refl _ _).drew
     refine wp_region_Z (fun w' => Below w0.heap.size w0 w') 99 (by kernel_rfl) ?_
     refine zs 0 16 (.int .i64 (c : Int)) HS0.out ?_
     refine zs 1 17 (.pointer (some ⟨w.heap.size, 0, none⟩)) HS0.out ?_
     refine zT 2 18 (.agg #[.int .u64 (limb 0 x), .int .u64 (limb 1 x), .int .u64 (limb 2 x), .int .u64 (limb 3 x)]) rfl rfl (fun w hSw => by (obtain ⟨q0, q1, q2, q3, q4, q5, q6, q7, q8, qf⟩ := (bp.belowAll hSw).cells; clear hSw; go_simp)) HS0.out ?_
     refine zs 4 20 (.pointer (some ⟨w.heap.size, 0, none⟩)) HS0.out ?_
     refine zT 5 21 (.agg #[.int .u64 (limb 0 x), .int .u64 (limb 1 x), .int .u64 (limb 2 x), .int .u64 (limb 3 x)]) rfl rfl (fun w hSw => by (obtain ⟨q0, q1, q2, q3, q4, q5, q6, q7, q8, qf⟩ := (bp.belowAll hSw).cells; clear hSw; go_simp)) HS0.out ?_
     refine zo 3 rfl (fun K hK => ?_)
     go_simp
     refine (HOX.out w0.drew).mono ?_
     rintro e wK1 ⟨rfl, hbK1⟩
     have hSK1 := bStep HS0.out hbK1
     go_wp2_with fail
     refine hK.out _ _ (fun _ => hSK1) ?_
     clear hK K
     refine zs 6 22 (.bool false) hSK1 ?_
     refine zs 7 23 (.bool false) hSK1 ?_
     refine zs 8 24 (.int .i64 (c : Int)) hSK1 ?_
     refine zs 9 25 (.pointer (some ⟨w.heap.size, 4, none⟩)) hSK1 ?_
     refine zT 10 26 (.agg #[.int .u64 (limb 0 y), .int .u64 (limb 1 y), .int .u64 (limb 2 y), .int .u64 (limb 3 y)]) rfl rfl (fun w hSw => by (obtain ⟨q0, q1, q2, q3, q4, q5, q6, q7, q8, qf⟩ := (bp.belowAll hSw).cells; clear hSw; go_simp)) hSK1 ?_
     refine zs 12 28 (.pointer (some ⟨w.heap.size, 4, none⟩)) hSK1 ?_
     refine zT 13 29 (.agg #[.int .u64 (limb 0 y), .int .u64 (limb 1 y), .int .u64 (limb 2 y), .int .u64 (limb 3 y)]) rfl rfl (fun w hSw => by (obtain ⟨q0, q1, q2, q3, q4, q5, q6, q7, q8, qf⟩ := (bp.belowAll hSw).cells; clear hSw; go_simp)) hSK1 ?_
     refine zo 11 rfl (fun K hK => ?_)
     go_simp
     refine (HOY.out wK1).mono ?_
     rintro e wK2 ⟨rfl, hbK2⟩
     have hSK2 := bStep hSK1 hbK2
     go_wp2_with fail
     refine hK.out _ _ (fun _ => hSK2) ?_
     clear hK K
     refine zs 14 30 (.bool false) hSK2 ?_
     refine zs 15 31 (.bool false) hSK2 ?_
     refine zd ?_ _
     go_wp2_with fail
     go_meet
     exact ⟨rfl, hSK2⟩
    obtain ⟨rfl, hbx⟩ := hcut
    have bp1 := bp.belowAll hbx
    have hbw1 := bStep hbw0 hbx
    clear bp hbw0 hbx
    go_upto_region 7 with fail
    have HS0 : Hid (Below wc.heap.size wc wc.drew) := (Below.refl _ _).drew
    refine wp_region_Z (fun w' => Below wc.heap.size wc w') 99 (by kernel_rfl) ?_
    refine zs 0 32 (.int .i64 (c : Int)) HS0.out ?_
    refine zs 1 33 (.pointer (some ⟨w.heap.size, 4, none⟩)) HS0.out ?_
    refine zT 2 34 (.agg #[.int .u64 (limb 0 y), .int .u64 (limb 1 y), .int .u64 (limb 2 y), .int .u64 (limb 3 y)]) rfl rfl (fun w hSw => by (obtain ⟨q0, q1, q2, q3, q4, q5, q6, q7, q8, qf⟩ := (bp1.belowAll hSw).cells; clear hSw; go_simp)) HS0.out ?_
    refine zs 3 35 (.pointer (some ⟨w.heap.size, 4, none⟩)) HS0.out ?_
    refine zT 4 36 (.agg #[.int .u64 (limb 0 y), .int .u64 (limb 1 y), .int .u64 (limb 2 y), .int .u64 (limb 3 y)]) rfl rfl (fun w hSw => by (obtain ⟨q0, q1, q2, q3, q4, q5, q6, q7, q8, qf⟩ := (bp1.belowAll hSw).cells; clear hSw; go_simp)) HS0.out ?_
    refine zs 6 38 (.int .i64 (c : Int)) HS0.out ?_
    refine zs 7 39 (.pointer (some ⟨w.heap.size, 0, none⟩)) HS0.out ?_
    refine zT 8 40 (.agg #[.int .u64 (limb 0 x), .int .u64 (limb 1 x), .int .u64 (limb 2 x), .int .u64 (limb 3 x)]) rfl rfl (fun w hSw => by (obtain ⟨q0, q1, q2, q3, q4, q5, q6, q7, q8, qf⟩ := (bp1.belowAll hSw).cells; clear hSw; go_simp)) HS0.out ?_
    refine zo 5 rfl (fun K hK => ?_)
    go_simp
    refine (HM.out wc.drew).mono ?_
    rintro e wK1 ⟨rfl, hbK1⟩
    have hSK1 := bStep HS0.out hbK1
    go_wp2_with fail
    refine hK.out _ _ (fun _ => hSK1) ?_
    clear hK K
    refine zo 9 rfl (fun K hK => ?_)
    go_simp
    refine (HQ.out wK1).mono ?_
    rintro e wK2 ⟨rfl, hbK2⟩
    have hSK2 := bStep hSK1 hbK2
    go_wp2_with fail
    refine hK.out _ _ (fun _ => hSK2) ?_
    clear hK K
    refine zs 10 42 (.bool (decide (yy = sq))) hSK2 ?_
    refine zs 11 4 (.bool (decide (yy = sq))) hSK2 ?_
    refine zd ?_ _
    go_wp2
    go_ret
    exact ⟨by rw [HANS.out]; rfl, bStep hbw1 (hSK2)⟩
   ·rw [show (!decide (ym = y)) = true from by simp [hym]] at QY
    have hy2 : ¬ y < m := fun h => hym (HIY.out.2 h)
    have hans : ans = false := by rw [EA.out]; simp [hy2]
    have HANS := (show Hid _ from hans)
    clear hans hx2 hy2 hxm hym EA HIX HIY
    go_cut [31] (fun b wx => b = .bool true ∧ Below w0.heap.size w0 wx)
    case first =>
     have HS0 : Hid (Below w0.heap.size w0 w0.drew) := (Below.refl _ _).drew
     refine wp_region_Z (fun w' => Below w0.heap.size w0 w') 99 (by kernel_rfl) ?_
     refine zs 0 16 (.int .i64 (c : Int)) HS0.out ?_
     refine zs 1 17 (.pointer (some ⟨w.heap.size, 0, none⟩)) HS0.out ?_
     refine zT 2 18 (.agg #[.int .u64 (limb 0 x), .int .u64 (limb 1 x), .int .u64 (limb 2 x), .int .u64 (limb 3 x)]) rfl rfl (fun w hSw => by (obtain ⟨q0, q1, q2, q3, q4, q5, q6, q7, q8, qf⟩ := (bp.belowAll hSw).cells; clear hSw; go_simp)) HS0.out ?_
     refine zs 4 20 (.pointer (some ⟨w.heap.size, 0, none⟩)) HS0.out ?_
     refine zT 5 21 (.agg #[.int .u64 (limb 0 x), .int .u64 (limb 1 x), .int .u64 (limb 2 x), .int .u64 (limb 3 x)]) rfl rfl (fun w hSw => by (obtain ⟨q0, q1, q2, q3, q4, q5, q6, q7, q8, qf⟩ := (bp.belowAll hSw).cells; clear hSw; go_simp)) HS0.out ?_
     refine zo 3 rfl (fun K hK => ?_)
     go_simp
     refine (HOX.out w0.drew).mono ?_
     rintro e wK1 ⟨rfl, hbK1⟩
     have hSK1 := bStep HS0.out hbK1
     go_wp2_with fail
     refine hK.out _ _ (fun _ => hSK1) ?_
     clear hK K
     refine zs 6 22 (.bool false) hSK1 ?_
     refine zs 7 23 (.bool false) hSK1 ?_
     refine zs 8 24 (.int .i64 (c : Int)) hSK1 ?_
     refine zs 9 25 (.pointer (some ⟨w.heap.size, 4, none⟩)) hSK1 ?_
     refine zT 10 26 (.agg #[.int .u64 (limb 0 y), .int .u64 (limb 1 y), .int .u64 (limb 2 y), .int .u64 (limb 3 y)]) rfl rfl (fun w hSw => by (obtain ⟨q0, q1, q2, q3, q4, q5, q6, q7, q8, qf⟩ := (bp.belowAll hSw).cells; clear hSw; go_simp)) hSK1 ?_
     refine zs 12 28 (.pointer (some ⟨w.heap.size, 4, none⟩)) hSK1 ?_
     refine zT 13 29 (.agg #[.int .u64 (limb 0 y), .int .u64 (limb 1 y), .int .u64 (limb 2 y), .int .u64 (limb 3 y)]) rfl rfl (fun w hSw => by (obtain ⟨q0, q1, q2, q3, q4, q5, q6, q7, q8, qf⟩ := (bp.belowAll hSw).cells; clear hSw; go_simp)) hSK1 ?_
     refine zo 11 rfl (fun K hK => ?_)
     go_simp
     refine (HOY.out wK1).mono ?_
     rintro e wK2 ⟨rfl, hbK2⟩
     have hSK2 := bStep hSK1 hbK2
     go_wp2_with fail
     refine hK.out _ _ (fun _ => hSK2) ?_
     clear hK K
     refine zs 14 30 (.bool true) hSK2 ?_
     refine zs 15 31 (.bool true) hSK2 ?_
     refine zd ?_ _
     go_wp2_with fail
     go_meet
     exact ⟨rfl, hSK2⟩
    obtain ⟨rfl, hbx⟩ := hcut
    have bp1 := bp.belowAll hbx
    have hbw1 := bStep hbw0 hbx
    clear bp hbw0 hbx
    go_wp2
    go_ret
    exact ⟨by rw [HANS.out]; rfl, hbw1⟩
  ·rw [show (!decide (xm = x)) = true from by simp [hxm]] at QX
   have hx2 : ¬ x < m := fun h => hxm (HIX.out.2 h)
   have hans : ans = false := by rw [EA.out]; simp [hx2]
   have HANS := (show Hid _ from hans)
   clear hans hx2 hxm EA HIX HIY
   go_cut [31] (fun b wx => b = .bool true ∧ Below w0.heap.size w0 wx)
   case first =>
    have HS0 : Hid (Below w0.heap.size w0 w0.drew) := (Below.refl _ _).drew
    refine wp_region_Z (fun w' => Below w0.heap.size w0 w') 99 (by kernel_rfl) ?_
    refine zs 0 16 (.int .i64 (c : Int)) HS0.out ?_
    refine zs 1 17 (.pointer (some ⟨w.heap.size, 0, none⟩)) HS0.out ?_
    refine zT 2 18 (.agg #[.int .u64 (limb 0 x), .int .u64 (limb 1 x), .int .u64 (limb 2 x), .int .u64 (limb 3 x)]) rfl rfl (fun w hSw => by (obtain ⟨q0, q1, q2, q3, q4, q5, q6, q7, q8, qf⟩ := (bp.belowAll hSw).cells; clear hSw; go_simp)) HS0.out ?_
    refine zs 4 20 (.pointer (some ⟨w.heap.size, 0, none⟩)) HS0.out ?_
    refine zT 5 21 (.agg #[.int .u64 (limb 0 x), .int .u64 (limb 1 x), .int .u64 (limb 2 x), .int .u64 (limb 3 x)]) rfl rfl (fun w hSw => by (obtain ⟨q0, q1, q2, q3, q4, q5, q6, q7, q8, qf⟩ := (bp.belowAll hSw).cells; clear hSw; go_simp)) HS0.out ?_
    refine zo 3 rfl (fun K hK => ?_)
    go_simp
    refine (HOX.out w0.drew).mono ?_
    rintro e wK1 ⟨rfl, hbK1⟩
    have hSK1 := bStep HS0.out hbK1
    go_wp2_with fail
    refine hK.out _ _ (fun _ => hSK1) ?_
    clear hK K
    refine zs 6 22 (.bool true) hSK1 ?_
    refine zs 7 23 (.bool true) hSK1 ?_
    refine zU 8 24 hSK1 ?_
    refine zU 9 25 hSK1 ?_
    refine zU 10 26 hSK1 ?_
    refine zU 11 27 hSK1 ?_
    refine zU 12 28 hSK1 ?_
    refine zU 13 29 hSK1 ?_
    refine zU 14 30 hSK1 ?_
    refine zs 15 31 (.bool true) hSK1 ?_
    refine zd ?_ _
    go_wp2_with fail
    go_meet
    exact ⟨rfl, hSK1⟩
   obtain ⟨rfl, hbx⟩ := hcut
   have bp1 := bp.belowAll hbx
   have hbw1 := bStep hbw0 hbx
   clear bp hbw0 hbx
   go_wp2
   go_ret
   exact ⟨by rw [HANS.out]; rfl, hbw1⟩
end Go.Proofs.YtdeijnlbencfdaaGreatDoor
namespace Go.Proofs.YtdeijnlbencfdaaGreatDoor
open Go.RowKit
def invU (m a : Nat) : Nat := powM m a (m - 2)
theorem invU_lt (m a : Nat) (h : 0 < m) : invU m a < m := powM_lt _ _ _ h
set_option maxRecDepth 20000 in
theorem rInv_zero (s a : Nat) (hs : s < 4) (ha : a < 115792089237316195423570985008687907853269984665640564039457584007913129639936) (hz : a % modN s = 0) (w : World) :
  Calls Tryz.prog 154 #[.int .i64 (s : Int), .agg #[.int .u64 (limb 0 a), .int .u64 (limb 1 a), .int .u64 (limb 2 a), .int .u64 (limb 3 a)]] w fun e w' => e = .returned (.tuple #[.agg #[.int .u64 0, .int .u64 0, .int .u64 0, .int .u64 0], .int .i64 10]) ∧ Below w.heap.size w w' := by
 have HM := fun w => ref2Modulus_any s hs w
 have OF := fun w => ref2Of_any s a hs ha w
 have hgl := (modN_good s).lt
 have lx := Nat.mod_lt a (modN_pos s)
 have QZ := fun w => eqlE (a % modN s) 0 (by omega) (by decide) w
 rw [show decide (a % modN s = 0) = true from by simp [hz]] at QZ
 obtain ⟨x, ex⟩ : ∃ x, x = a % modN s := ⟨_, rfl⟩
 rw [← ex] at OF QZ
 obtain ⟨m, em⟩ : ∃ m, m = modN s := ⟨_, rfl⟩
 rw [← em] at HM
 clear ex em hgl lx hz hs ha
 go_enter Tryz.func154, Tryz.ntmps154
 go_wp2_with fail
 obtain ⟨w0, hw0⟩ : ∃ w0 : World, w0 = (w.alloc (.cells #[.int .u64 (limb 0 a), .int .u64 (limb 1 a), .int .u64 (limb 2 a), .int .u64 (limb 3 a)] 25)).alloc (.cells #[.int .u64 0, .int .u64 0, .int .u64 0, .int .u64 0] 25) := ⟨_, rfl⟩
 have ba0 : Blk w0 25 w.heap.size (fun i => limb i a) := by rw [hw0]; exact (Blk.newAt _ _ _ (fun i => limb i a) (by simp)).alloc _
 have br0 : Blk w0 25 (w.heap.size + 1) (fun _ => 0) := by rw [hw0]; exact Blk.newAt _ _ _ (fun _ => 0) (by simp)
 have hb0 : Below w.heap.size w w0 := by
  rw [hw0]
  repeat (first | with_reducible exact Below.refl _ _ | with_reducible refine Below.alloc ?_ (by first | omega | (simp; omega) | simp) _)
 rw [← hw0]
 clear hw0
 refine (HM _).mono ?_
 rintro e w1 ⟨rfl, hb1⟩
 have ba1 := ba0.belowAll hb1; have br1 := br0.belowAll hb1
 have hbw1 := bStep hb0 hb1
 have lr1 := br1.lt
 clear ba0 br0 hb0 hb1 HM
 obtain ⟨N6, e6⟩ : ∃ N6, N6 = w1.heap.size := ⟨_, rfl⟩
 obtain ⟨w2, hw2⟩ : ∃ w2 : World, w2 = w1.alloc (.cells #[.int .u64 (limb 0 m), .int .u64 (limb 1 m), .int .u64 (limb 2 m), .int .u64 (limb 3 m)] 25) := ⟨_, rfl⟩
 have ba2 : Blk w2 25 w.heap.size (fun i => limb i a) := by rw [hw2]; exact ba1.alloc _
 have br2 : Blk w2 25 (w.heap.size + 1) (fun _ => 0) := by rw [hw2]; exact br1.alloc _
 have bm2 : Blk w2 25 N6 (fun i => limb i m) := by rw [hw2]; exact Blk.newAt _ _ _ (fun i => limb i m) e6
 have hbw2 : Below w.heap.size w w2 := by rw [hw2]; exact bAlloc hbw1 _
 have l6 : w.heap.size + 1 < N6 := by rw [e6]; exact lr1
 go_upto_region 2 with fail
 rw [← hw2, ← e6]
 clear hw2 e6 ba1 br1 hbw1 lr1
 obtain ⟨N8, e8⟩ : ∃ N8, N8 = w2.heap.size := ⟨_, rfl⟩
 obtain ⟨w3, hw3⟩ : ∃ w3 : World, w3 = w2.alloc (.cells #[.int .u64 0, .int .u64 0, .int .u64 0, .int .u64 0] 25) := ⟨_, rfl⟩
 have ba3 : Blk w3 25 w.heap.size (fun i => limb i a) := by rw [hw3]; exact ba2.alloc _
 have br3 : Blk w3 25 (w.heap.size + 1) (fun _ => 0) := by rw [hw3]; exact br2.alloc _
 have bm3 : Blk w3 25 N6 (fun i => limb i m) := by rw [hw3]; exact bm2.alloc _
 have bz3 : Blk w3 25 N8 (fun i => limb i 0) := by rw [hw3]; exact (Blk.newAt _ _ _ (fun _ => 0) e8).congr (fun i _ => limb_zero i)
 have hbw3 : Below w.heap.size w w3 := by rw [hw3]; exact bAlloc hbw2 _
 have l8 : N6 < N8 := by rw [e8]; exact bm2.lt
 go_upto_region 5 with fail
 rw [← hw3, ← e8]
 clear hw3 e8 ba2 br2 bm2 hbw2
 go_wp2_with fail
 go_region_held3 (fun w' => (∀ i, i < 4 → w'.cell? ⟨w.heap.size, i, none⟩ = some (.int .u64 (limb i a))) ∧ (∀ i, i < 4 → w'.cell? ⟨N8, i, none⟩ = some (.int .u64 (limb i 0))))
  (first | with_reducible exact hold2 hbA (by with_reducible assumption) | with_reducible exact ⟨ba3.drew.cell, bz3.drew.cell⟩)
  (first | (go_at_call 47; with_reducible refine (OF _).mono ?_; rintro e w4 ⟨rfl, hbA⟩) | fail)
 have ba4 := ba3.drew.belowAll hbA; have br4 := br3.drew.belowAll hbA; have bm4 := bm3.drew.belowAll hbA; have bz4 := bz3.drew.belowAll hbA
 have hbw4 := bStep hbw3.drew hbA
 clear ba3 br3 bm3 bz3 hbw3 hbA OF QZ
 have cr := br4.cell; have fr := br4.frozen; have lr := br4.lt; have cz := bz4.cell
 go_wp2
 refine bodyPost_ret (v := .tuple #[.agg #[.int .u64 0, .int .u64 0, .int .u64 0, .int .u64 0], .int .i64 10]) (by simp [results, Tryz.results154, go_sem, cr, limb_zero]) rfl ⟨rfl, ?_⟩
 repeat (first | with_reducible exact hbw4 | with_reducible refine Below.setCell ?_ (by first | omega | (simp; omega) | simp) _)
set_option maxRecDepth 20000 in
theorem rInv_some (s a : Nat) (hs : s < 4) (ha : a < 115792089237316195423570985008687907853269984665640564039457584007913129639936) (hz : a % modN s ≠ 0) (w : World) :
  Calls Tryz.prog 154 #[.int .i64 (s : Int), .agg #[.int .u64 (limb 0 a), .int .u64 (limb 1 a), .int .u64 (limb 2 a), .int .u64 (limb 3 a)]] w fun e w' => e = .returned (.tuple #[.agg #[.int .u64 (limb 0 (invU (modN s) a)), .int .u64 (limb 1 (invU (modN s) a)), .int .u64 (limb 2 (invU (modN s) a)), .int .u64 (limb 3 (invU (modN s) a))], .int .i64 0]) ∧ Below w.heap.size w w' := by
 have HM := fun w => ref2Modulus_any s hs w
 have OF := fun w => ref2Of_any s a hs ha w
 have hgl := (modN_good s).lt
 have lx := Nat.mod_lt a (modN_pos s)
 have QZ := fun w => eqlE (a % modN s) 0 (by omega) (by decide) w
 rw [show decide (a % modN s = 0) = false from by simp [hz]] at QZ
 have hod := modN_odd s
 have MI := fun w => ref2Minus_any (modN s) 2 hgl.2.2 (by decide) w
 rw [word_agg 2 (by decide), show sub256 (modN s) 2 = modN s - 2 from by unfold sub256; omega, show (((2 : Nat)) : Int) = 2 from rfl] at MI
 have EX := fun w => ref2Exp_any s a (modN s - 2) hs ha (by omega) w
 rw [show expP s a (modN s - 2) = invU (modN s) a from rfl] at EX
 obtain ⟨x, ex⟩ : ∃ x, x = a % modN s := ⟨_, rfl⟩
 rw [← ex] at OF QZ
 obtain ⟨q, eq⟩ : ∃ q, q = invU (modN s) a := ⟨_, rfl⟩
 rw [← eq] at EX ⊢
 obtain ⟨m2, em2⟩ : ∃ m2, m2 = modN s - 2 := ⟨_, rfl⟩
 rw [← em2] at EX MI
 obtain ⟨m, em⟩ : ∃ m, m = modN s := ⟨_, rfl⟩
 rw [← em] at HM MI
 clear ex em hgl lx hz hs ha eq em2 hod
 go_enter Tryz.func154, Tryz.ntmps154
 go_wp2_with fail
 obtain ⟨w0, hw0⟩ : ∃ w0 : World, w0 = (w.alloc (.cells #[.int .u64 (limb 0 a), .int .u64 (limb 1 a), .int .u64 (limb 2 a), .int .u64 (limb 3 a)] 25)).alloc (.cells #[.int .u64 0, .int .u64 0, .int .u64 0, .int .u64 0] 25) := ⟨_, rfl⟩
 have ba0 : Blk w0 25 w.heap.size (fun i => limb i a) := by rw [hw0]; exact (Blk.newAt _ _ _ (fun i => limb i a) (by simp)).alloc _
 have br0 : Blk w0 25 (w.heap.size + 1) (fun _ => 0) := by rw [hw0]; exact Blk.newAt _ _ _ (fun _ => 0) (by simp)
 have hb0 : Below w.heap.size w w0 := by
  rw [hw0]
  repeat (first | with_reducible exact Below.refl _ _ | with_reducible refine Below.alloc ?_ (by first | omega | (simp; omega) | simp) _)
 rw [← hw0]
 clear hw0
 refine (HM _).mono ?_
 rintro e w1 ⟨rfl, hb1⟩
 have ba1 := ba0.belowAll hb1; have br1 := br0.belowAll hb1
 have hbw1 := bStep hb0 hb1
 have lr1 := br1.lt
 clear ba0 br0 hb0 hb1 HM
 obtain ⟨N6, e6⟩ : ∃ N6, N6 = w1.heap.size := ⟨_, rfl⟩
 obtain ⟨w2, hw2⟩ : ∃ w2 : World, w2 = w1.alloc (.cells #[.int .u64 (limb 0 m), .int .u64 (limb 1 m), .int .u64 (limb 2 m), .int .u64 (limb 3 m)] 25) := ⟨_, rfl⟩
 have ba2 : Blk w2 25 w.heap.size (fun i => limb i a) := by rw [hw2]; exact ba1.alloc _
 have br2 : Blk w2 25 (w.heap.size + 1) (fun _ => 0) := by rw [hw2]; exact br1.alloc _
 have bm2 : Blk w2 25 N6 (fun i => limb i m) := by rw [hw2]; exact Blk.newAt _ _ _ (fun i => limb i m) e6
 have hbw2 : Below w.heap.size w w2 := by rw [hw2]; exact bAlloc hbw1 _
 have l6 : w.heap.size + 1 < N6 := by rw [e6]; exact lr1
 go_upto_region 2 with fail
 rw [← hw2, ← e6]
 clear hw2 e6 ba1 br1 hbw1 lr1
 obtain ⟨N8, e8⟩ : ∃ N8, N8 = w2.heap.size := ⟨_, rfl⟩
 obtain ⟨w3, hw3⟩ : ∃ w3 : World, w3 = w2.alloc (.cells #[.int .u64 0, .int .u64 0, .int .u64 0, .int .u64 0] 25) := ⟨_, rfl⟩
 have ba3 : Blk w3 25 w.heap.size (fun i => limb i a) := by rw [hw3]; exact ba2.alloc _
 have br3 : Blk w3 25 (w.heap.size + 1) (fun _ => 0) := by rw [hw3]; exact br2.alloc _
 have bm3 : Blk w3 25 N6 (fun i => limb i m) := by rw [hw3]; exact bm2.alloc _
 have bz3 : Blk w3 25 N8 (fun i => limb i 0) := by rw [hw3]; exact (Blk.newAt _ _ _ (fun _ => 0) e8).congr (fun i _ => limb_zero i)
 have hbw3 : Below w.heap.size w w3 := by rw [hw3]; exact bAlloc hbw2 _
 have l8 : N6 < N8 := by rw [e8]; exact bm2.lt
 go_upto_region 5 with fail
 rw [← hw3, ← e8]
 clear hw3 e8 ba2 br2 bm2 hbw2
 go_wp2_with fail
 go_region_held3 (fun w' => (∀ i, i < 4 → w'.cell? ⟨w.heap.size, i, none⟩ = some (.int .u64 (limb i a))) ∧ (∀ i, i < 4 → w'.cell? ⟨N8, i, none⟩ = some (.int .u64 (limb i 0))))
  (first | with_reducible exact hold2 hbA (by with_reducible assumption) | with_reducible exact ⟨ba3.drew.cell, bz3.drew.cell⟩)
  (first | (go_at_call 47; with_reducible refine (OF _).mono ?_; rintro e w4 ⟨rfl, hbA⟩) | fail)
 have ba4 := ba3.drew.belowAll hbA; have br4 := br3.drew.belowAll hbA; have bm4 := bm3.drew.belowAll hbA; have bz4 := bz3.drew.belowAll hbA
 have hbw4 := bStep hbw3.drew hbA
 clear ba3 br3 bm3 bz3 hbw3 hbA OF QZ
 have ca := ba4.cell; have cm := bm4.cell
 go_wp2_with fail
 go_region_with (first | (go_at_call 76; with_reducible refine (MI _).mono ?_; rintro e wA ⟨rfl, hbA⟩; have baA := ba4.drew.belowAll hbA; have caA := baA.cell; clear baA) | (go_at_call 77; with_reducible refine (EX _).mono ?_; rintro e wB ⟨rfl, hbB⟩; have brB := (br4.drew.belowAll hbA).belowAll hbB; have crB := brB.cell; have frB := brB.frozen; clear brB) | fail)
 all_goals
  go_wp2
  refine bodyPost_ret (v := .tuple #[.agg #[.int .u64 (limb 0 q), .int .u64 (limb 1 q), .int .u64 (limb 2 q), .int .u64 (limb 3 q)], .int .i64 0]) (by simp [results, Tryz.results154, go_sem, crB]) rfl ⟨rfl, ?_⟩
  have hbwB := bStep (bStep hbw4.drew hbA) hbB
  repeat (first | with_reducible exact hbwB | with_reducible refine Below.drew ?_ | with_reducible refine Below.setCell ?_ (by first | omega | (simp; omega) | simp) _)
end Go.Proofs.YtdeijnlbencfdaaGreatDoor
namespace Go.Proofs.YtdeijnlbencfdaaGreatDoor
open Go.RowKit
theorem invC_U (c a : Nat) (h : a % modN c ≠ 0) : invC c a = invU (modN c) a := by
 have hp := modN_prime c
 have h2 := hp.1
 refine invC_spec c a _ (invU_lt _ _ (modN_pos c)) ?_
 unfold invU
 rw [Nat.mul_mod_mod, powM_more, show modN c - 2 + 1 = modN c - 1 from by omega]
 exact fermat_one hp h
theorem invC_zero (c a : Nat) (h : a % modN c = 0) : invC c a = 0 := by
 apply invC_no
 rintro ⟨q, _, h1⟩
 rw [h, Nat.mul_zero, Nat.zero_mod] at h1
 cases h1
theorem rinv_c (c a : Nat) (hc : c < 4) (ha : a < 115792089237316195423570985008687907853269984665640564039457584007913129639936) (w : World) :
  Calls Tryz.prog 154 #[.int .i64 (c : Int), .agg #[.int .u64 (limb 0 a), .int .u64 (limb 1 a), .int .u64 (limb 2 a), .int .u64 (limb 3 a)]] w fun e w' => ∃ er : Int, e = .returned (.tuple #[.agg #[.int .u64 (limb 0 (invC c a)), .int .u64 (limb 1 (invC c a)), .int .u64 (limb 2 (invC c a)), .int .u64 (limb 3 (invC c a))], .int .i64 er]) ∧ Below w.heap.size w w' := by
 by_cases h : a % modN c = 0
 ·refine (rInv_zero c a hc ha h w).mono ?_
  rintro e w' ⟨rfl, hb⟩
  exact ⟨10, by rw [invC_zero c a h, zeroElem], hb⟩
 ·refine (rInv_some c a hc ha h w).mono ?_
  rintro e w' ⟨rfl, hb⟩
  exact ⟨0, by rw [invC_U c a h], hb⟩
set_option maxRecDepth 20000 in
theorem rby_any (c a b : Nat) (hc : c < 4) (ha : a < 115792089237316195423570985008687907853269984665640564039457584007913129639936) (hb : b < 115792089237316195423570985008687907853269984665640564039457584007913129639936) (w : World) :
  Calls Tryz.prog 149 #[.int .i64 (c : Int), .agg #[.int .u64 (limb 0 a), .int .u64 (limb 1 a), .int .u64 (limb 2 a), .int .u64 (limb 3 a)], .agg #[.int .u64 (limb 0 b), .int .u64 (limb 1 b), .int .u64 (limb 2 b), .int .u64 (limb 3 b)]] w fun e w' => e = .returned (.agg #[.int .u64 (limb 0 (mulP c a (invC c b))), .int .u64 (limb 1 (mulP c a (invC c b))), .int .u64 (limb 2 (mulP c a (invC c b))), .int .u64 (limb 3 (mulP c a (invC c b)))]) ∧ Below w.heap.size w w' := by
 have HI : Hid (∀ w, _) := fun w => rinv_c c b hc hb w
 have HM : Hid (∀ w, _) := fun w => ref2Mul_any c a (invC c b) hc ha (lt_M c _ (invC_lt _ _)) w
 obtain ⟨iv, eiv⟩ : ∃ z, z = invC c b := ⟨_, rfl⟩
 rw [← eiv] at HI HM ⊢
 obtain ⟨r, er'⟩ : ∃ z, z = mulP c a iv := ⟨_, rfl⟩
 rw [← er'] at HM ⊢
 clear eiv er'
 go_enter Tryz.func149, Tryz.ntmps149
 go_upto_region 1 with fail
 obtain ⟨w0, hw0⟩ : ∃ w0 : World, w0 = ((w.alloc (.cells #[.int .u64 (limb 0 a), .int .u64 (limb 1 a), .int .u64 (limb 2 a), .int .u64 (limb 3 a)] 25)).alloc (.cells #[.int .u64 (limb 0 b), .int .u64 (limb 1 b), .int .u64 (limb 2 b), .int .u64 (limb 3 b)] 25)).alloc (.cells #[.int .u64 0, .int .u64 0, .int .u64 0, .int .u64 0] 25) := ⟨_, rfl⟩
 have ba : Blk w0 25 w.heap.size (fun i => limb i a) := by rw [hw0]; exact ((Blk.newAt _ _ _ (fun i => limb i a) rfl).alloc _).alloc _
 have bb : Blk w0 25 (w.heap.size + 1) (fun i => limb i b) := by rw [hw0]; exact (Blk.newAt _ _ _ (fun i => limb i b) (by simp)).alloc _
 have br : Blk w0 25 (w.heap.size + 1 + 1) (fun _ => 0) := by rw [hw0]; exact Blk.newAt _ _ _ (fun _ => 0) (by simp)
 have hbw0 : Below w.heap.size w w0 := by rw [hw0]; exact bAlloc (bAlloc ((Below.refl _ _).alloc (Nat.le_refl _) _) _) _
 have hrw : w.heap.size ≤ w.heap.size + 1 + 1 := by omega
 rw [← hw0]
 clear hw0
 have cb := bb.cell
 go_wp2_with fail
 refine (HI.out _).mono ?_
 rintro e w1 ⟨er, rfl, hb1⟩
 have ba2 := (ba.belowAll hb1).alloc (.cells #[.int .u64 (limb 0 iv), .int .u64 (limb 1 iv), .int .u64 (limb 2 iv), .int .u64 (limb 3 iv)] 25)
 have br2 := (br.belowAll hb1).alloc (.cells #[.int .u64 (limb 0 iv), .int .u64 (limb 1 iv), .int .u64 (limb 2 iv), .int .u64 (limb 3 iv)] 25)
 have bi2 : Blk (w1.alloc (.cells #[.int .u64 (limb 0 iv), .int .u64 (limb 1 iv), .int .u64 (limb 2 iv), .int .u64 (limb 3 iv)] 25)) 25 w1.heap.size (fun i => limb i iv) := Blk.newAt _ _ _ (fun i => limb i iv) rfl
 have hbw2 := bAlloc (bStep hbw0 hb1) (.cells #[.int .u64 (limb 0 iv), .int .u64 (limb 1 iv), .int .u64 (limb 2 iv), .int .u64 (limb 3 iv)] 25)
 clear cb hb1 ba bb br hbw0
 go_upto_region 2 with fail
 obtain ⟨w2, hw2⟩ : ∃ x : World, x = w1.alloc (.cells #[.int .u64 (limb 0 iv), .int .u64 (limb 1 iv), .int .u64 (limb 2 iv), .int .u64 (limb 3 iv)] 25) := ⟨_, rfl⟩
 obtain ⟨N, hN⟩ : ∃ N, N = w1.heap.size := ⟨_, rfl⟩
 rw [← hw2] at ba2 br2 bi2 hbw2 ⊢
 rw [← hN] at bi2 ⊢
 clear hw2 hN
 have ca := ba2.cell; have ci := bi2.cell
 go_wp2_with fail
 refine (HM.out _).mono ?_
 rintro e w3 ⟨rfl, hb3⟩
 have cR := (br2.belowAll hb3).cell; have fR := (br2.belowAll hb3).frozen
 go_wp2
 refine bodyPost_ret (v := .agg #[.int .u64 (limb 0 r), .int .u64 (limb 1 r), .int .u64 (limb 2 r), .int .u64 (limb 3 r)]) (by simp [results, Tryz.results149, go_sem, cR]) rfl ⟨rfl, ?_⟩
 exact bSet4 (bStep hbw2 hb3) hrw _ _ _ _
end Go.Proofs.YtdeijnlbencfdaaGreatDoor
