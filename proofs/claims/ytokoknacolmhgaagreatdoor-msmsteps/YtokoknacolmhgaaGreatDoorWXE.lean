import Derived.Test.YtokoknacolmhgaaGreatDoorWK1
import Derived.Test.YtokoknacolmhgaaGreatDoorWBE
import Derived.Test.YtokoknacolmhgaaGreatDoorWFD
import Derived.Test.YtokoknacolmhgaaGreatDoorWXD
set_option maxHeartbeats 8000000
namespace Go.Proofs.YtokoknacolmhgaaGreatDoor
open Go.RowKit
theorem bN_24 (c : Nat) : bN c < 24 := by
 unfold bN
 split <;> decide
def GlobC (w : World) : Prop := Glob w ∧ ∀ i, i < 4 → w.cell? ⟨0, i, none⟩ = some (.int .u64 ((bN i : Nat) : Int))
theorem GlobC.below {w w' : World} (h : GlobC w) (hb : Below w.heap.size w w') : GlobC w' :=
 ⟨h.1.below hb, fun i hi => by rw [hb.cell (p := ⟨0, i, none⟩) (by have := h.1.1; dsimp only; omega)]; exact h.2 i hi⟩
theorem isCurve_in (c : Nat) (hc : c < 4) (w : World) : Calls Tryz.prog 63 #[.int .i64 (c : Int)] w fun e w' => e = .returned (.bool true) ∧ w' = w := by
 have h0 : (0 : Int) ≤ (c : Int) := by omega
 have h1 : (c : Int) < 4 := by omega
 go_enter Tryz.func63, Tryz.ntmps63
 go_wp2
 go_ret
 exact ⟨rfl, rfl⟩
theorem isCurve_out (c : Int) (hc : c < 0 ∨ 4 ≤ c) (w : World) : Calls Tryz.prog 63 #[.int .i64 c] w fun e w' => e = .returned (.bool false) ∧ w' = w := by
 by_cases h0 : 0 ≤ c
 ·have h1 : ¬ c < 4 := by omega
  go_enter Tryz.func63, Tryz.ntmps63
  go_wp2
  go_ret
  exact ⟨rfl, rfl⟩
 ·go_enter Tryz.func63, Tryz.ntmps63
  go_wp2
  go_ret
  exact ⟨rfl, rfl⟩
theorem infAgg : (.agg #[.int .u64 (limb 0 0), .int .u64 (limb 1 0), .int .u64 (limb 2 0), .int .u64 (limb 3 0), .int .u64 (limb 0 0), .int .u64 (limb 1 0), .int .u64 (limb 2 0), .int .u64 (limb 3 0), .bool true] : Value) = .agg #[.int .u64 0, .int .u64 0, .int .u64 0, .int .u64 0, .int .u64 0, .int .u64 0, .int .u64 0, .int .u64 0, .bool true] := by
 rw [limb_zero, limb_zero, limb_zero, limb_zero]; rfl
theorem infinity_any (w : World) : Calls Tryz.prog 42 #[] w fun e w' => e = .returned (.agg #[.int .u64 (limb 0 0), .int .u64 (limb 1 0), .int .u64 (limb 2 0), .int .u64 (limb 3 0), .int .u64 (limb 0 0), .int .u64 (limb 1 0), .int .u64 (limb 2 0), .int .u64 (limb 3 0), .bool true]) ∧ Below w.heap.size w w' := by
 rw [infAgg]
 go_enter Tryz.func42, Tryz.ntmps42
 go_wp2
 refine bodyPost_ret (v := .agg #[.int .u64 0, .int .u64 0, .int .u64 0, .int .u64 0, .int .u64 0, .int .u64 0, .int .u64 0, .int .u64 0, .bool true]) (by simp [results, Tryz.results42, go_sem]) rfl ⟨rfl, ?_⟩
 repeat (first | with_reducible exact Below.refl _ _ | with_reducible refine Below.alloc ?_ (by first | omega | (simp; omega) | simp) _ | with_reducible refine Below.setCell ?_ (by first | omega | (simp; omega) | simp) _)
theorem cBelow_any (c a : Nat) (hc : c < 4) (ha : a < 115792089237316195423570985008687907853269984665640564039457584007913129639936) (w : World) (hg : GlobC w) : Calls Tryz.prog 64 #[.int .i64 (c : Int), .agg #[.int .u64 (limb 0 a), .int .u64 (limb 1 a), .int .u64 (limb 2 a), .int .u64 (limb 3 a)]] w fun e w' => e = .returned (.bool (decide (a < modN c))) ∧ Below w.heap.size w w' := by
 have HM : Hid (∀ w, Glob w → _) := fun w hg => fModulus_any c hc w hg
 have HL : Hid (∀ w, _) := fun w => less_any a (modN c) ha (modN_good c).lt.2.2 w
 have HG : Hid (GlobC w) := hg
 obtain ⟨m, em⟩ : ∃ m, m = modN c := ⟨_, rfl⟩
 rw [← em] at HM HL ⊢
 clear em hg
 go_enter Tryz.func64, Tryz.ntmps64
 go_wp2_with fail
 obtain ⟨w0, hw0⟩ : ∃ w0 : World, w0 = w.alloc (.cells #[.int .u64 (limb 0 a), .int .u64 (limb 1 a), .int .u64 (limb 2 a), .int .u64 (limb 3 a)] 28) := ⟨_, rfl⟩
 have ba0 : Blk w0 28 w.heap.size (fun i => limb i a) := by rw [hw0]; exact Blk.newAt _ _ _ (fun i => limb i a) (by simp)
 have hbw0 : Below w.heap.size w w0 := by rw [hw0]; exact (Below.refl _ _).alloc (Nat.le_refl _) _
 rw [← hw0]
 clear hw0
 refine (HM.out _ (HG.out.below hbw0).1).mono ?_
 rintro e w1 ⟨rfl, hb1⟩
 have ba1 := ba0.belowAll hb1
 have hbw1 := bStep hbw0 hb1
 have ba2 := ba1.alloc (.cells #[.int .u64 (limb 0 m), .int .u64 (limb 1 m), .int .u64 (limb 2 m), .int .u64 (limb 3 m)] 28)
 have hbw2 := bAlloc hbw1 (.cells #[.int .u64 (limb 0 m), .int .u64 (limb 1 m), .int .u64 (limb 2 m), .int .u64 (limb 3 m)] 28)
 have bm2 : Blk (w1.alloc (.cells #[.int .u64 (limb 0 m), .int .u64 (limb 1 m), .int .u64 (limb 2 m), .int .u64 (limb 3 m)] 28)) 28 w1.heap.size (fun i => limb i m) := Blk.newAt _ _ _ (fun i => limb i m) rfl
 clear ba0 hbw0 hb1 HM
 go_upto_region 2 with fail
 obtain ⟨w2, hw2⟩ : ∃ w2 : World, w2 = w1.alloc (.cells #[.int .u64 (limb 0 m), .int .u64 (limb 1 m), .int .u64 (limb 2 m), .int .u64 (limb 3 m)] 28) := ⟨_, rfl⟩
 obtain ⟨N, eN⟩ : ∃ N, N = w1.heap.size := ⟨_, rfl⟩
 rw [← hw2] at ba2 hbw2 bm2 ⊢
 rw [← eN] at bm2 ⊢
 clear hw2 ba1 hbw1 eN
 have ca := ba2.cell; have cm := bm2.cell
 go_wp2_with fail
 refine (HL.out _).mono ?_
 rintro e w3 ⟨rfl, hb3⟩
 have hbw3 := bStep hbw2 hb3
 go_wp2
 go_ret
 exact ⟨rfl, hbw3⟩
def sqY (c x : Nat) : Nat := addP c (mulP c x (mulP c x x)) (bN c)
theorem lt_M (c a : Nat) (h : a < modN c) : a < 115792089237316195423570985008687907853269984665640564039457584007913129639936 := Nat.lt_trans h (modN_good c).lt.2.2
theorem mulP_M (c a b : Nat) : mulP c a b < 115792089237316195423570985008687907853269984665640564039457584007913129639936 := lt_M c _ (Nat.mod_lt _ (modN_pos c))
theorem addP_M (c a b : Nat) : addP c a b < 115792089237316195423570985008687907853269984665640564039457584007913129639936 := lt_M c _ (Nat.mod_lt _ (modN_pos c))
theorem subP_M (c a b : Nat) : subP c a b < 115792089237316195423570985008687907853269984665640564039457584007913129639936 := lt_M c _ (Nat.mod_lt _ (modN_pos c))
set_option maxRecDepth 20000 in
theorem squareOfY_any (c x : Nat) (hc : c < 4) (hx : x < 115792089237316195423570985008687907853269984665640564039457584007913129639936) (w : World) (hg : GlobC w) : Calls Tryz.prog 65 #[.int .i64 (c : Int), .agg #[.int .u64 (limb 0 x), .int .u64 (limb 1 x), .int .u64 (limb 2 x), .int .u64 (limb 3 x)]] w fun e w' => e = .returned (.agg #[.int .u64 (limb 0 (sqY c x)), .int .u64 (limb 1 (sqY c x)), .int .u64 (limb 2 (sqY c x)), .int .u64 (limb 3 (sqY c x))]) ∧ Below w.heap.size w w' := by
 have HG0 : Hid (GlobC w) := hg
 have HM1 : Hid (∀ w, Glob w → _) := fun w hg => fMul_any c x x hc hx hx w hg
 have HM2 : Hid (∀ w, Glob w → _) := fun w hg => fMul_any c x (mulP c x x) hc hx (mulP_M _ _ _) w hg
 have HA : Hid (∀ w, Glob w → _) := fun w hg => fAdd_any c (mulP c x (mulP c x x)) (bN c) hc (mulP_M _ _ _) (by have := bN_24 c; omega) w hg
 have EB : Hid ((.agg #[.int .u64 (limb 0 (bN c)), .int .u64 (limb 1 (bN c)), .int .u64 (limb 2 (bN c)), .int .u64 (limb 3 (bN c))] : Value) = _) := word_agg (bN c) (by have := bN_24 c; omega)
 obtain ⟨sq, esq⟩ : ∃ y, y = mulP c x x := ⟨_, rfl⟩
 rw [← esq] at HM1 HM2 HA
 obtain ⟨cu, ecu⟩ : ∃ y, y = mulP c x sq := ⟨_, rfl⟩
 rw [← ecu] at HM2 HA
 have ER : Hid (sqY c x = addP c cu (bN c)) := by show _ = _; rw [ecu, esq]; rfl
 rw [EB.out] at HA
 rw [ER.out]
 obtain ⟨r, er⟩ : ∃ r, r = addP c cu (bN c) := ⟨_, rfl⟩
 rw [← er] at HA ⊢
 obtain ⟨bb, ebb⟩ : ∃ b, b = bN c := ⟨_, rfl⟩
 rw [← ebb] at HA
 have hbb : ∀ W : World, GlobC W → W.cell? ⟨0, c, none⟩ = some (.int .u64 (bb : Int)) := fun W hW => by rw [ebb]; exact hW.2 c hc
 have HBB := (show Hid _ from hbb)
 have hc0 : (0 : Int) ≤ (c : Int) := by omega
 have hc4 : (c : Int) < 4 := by omega
 clear hg esq ecu ER er EB ebb hbb
 go_enter Tryz.func65, Tryz.ntmps65
 go_upto_region 1 with fail
 obtain ⟨w0, hw0⟩ : ∃ w0 : World, w0 = (w.alloc (.cells #[.int .u64 (limb 0 x), .int .u64 (limb 1 x), .int .u64 (limb 2 x), .int .u64 (limb 3 x)] 28)).alloc (.cells #[.int .u64 0, .int .u64 0, .int .u64 0, .int .u64 0] 28) := ⟨_, rfl⟩
 have bx : Blk w0 28 w.heap.size (fun i => limb i x) := by rw [hw0]; exact (Blk.newAt _ _ _ (fun i => limb i x) rfl).alloc _
 have br : Blk w0 28 (w.heap.size + 1) (fun _ => 0) := by rw [hw0]; exact Blk.newAt _ _ _ (fun _ => 0) (by simp)
 have hbw0 : Below w.heap.size w w0 := by rw [hw0]; exact bAlloc ((Below.refl _ _).alloc (Nat.le_refl _) _) _
 rw [← hw0]
 clear hw0
 have HG : Hid (GlobC w0) := HG0.out.below hbw0
 go_cut [5] (fun pr wx => ∃ N : Nat, pr = .pointer (some ⟨N, 0, none⟩) ∧ w0.heap.size ≤ N ∧ Blk wx 28 N (fun i => limb i cu) ∧ Below w0.heap.size w0 wx)
 case first =>
  have HS0 : Hid (Below w0.heap.size w0 w0.drew) := (Below.refl _ _).drew
  refine wp_region_Z (fun w' => Below w0.heap.size w0 w') 8 (by kernel_rfl) ?_
  refine zs 0 6 (.int .i64 (c : Int)) HS0.out ?_
  refine zT 1 7 (.agg #[.int .u64 (limb 0 x), .int .u64 (limb 1 x), .int .u64 (limb 2 x), .int .u64 (limb 3 x)]) rfl rfl (fun w hSw => by (have qq := (bx.belowAll hSw).cell; clear hSw; go_simp)) HS0.out ?_
  refine zs 2 8 (.int .i64 (c : Int)) HS0.out ?_
  refine zT 3 9 (.agg #[.int .u64 (limb 0 x), .int .u64 (limb 1 x), .int .u64 (limb 2 x), .int .u64 (limb 3 x)]) rfl rfl (fun w hSw => by (have qq := (bx.belowAll hSw).cell; clear hSw; go_simp)) HS0.out ?_
  refine zT 4 10 (.agg #[.int .u64 (limb 0 x), .int .u64 (limb 1 x), .int .u64 (limb 2 x), .int .u64 (limb 3 x)]) rfl rfl (fun w hSw => by (have qq := (bx.belowAll hSw).cell; clear hSw; go_simp)) HS0.out ?_
  refine zw 5 7 rfl rfl (fun K hK => ?_) (fun K hK => ?_)
  ·go_simp
   refine (HM1.out w0.drew (HG.out.below (HS0.out)).1).mono ?_
   rintro e wK1 ⟨rfl, hbK1⟩
   have hSK1 := bStep HS0.out hbK1
   go_wp2_with fail
   refine hK.out _ _ (fun _ => hSK1) ?_
   clear hK K
   refine zw 6 7 rfl rfl (fun K hK => ?_) (fun K hK => ?_)
   ·go_simp
    refine (HM2.out wK1 (HG.out.below (hSK1)).1).mono ?_
    rintro e wK2 ⟨rfl, hbK2⟩
    have hSK2 := bStep hSK1 hbK2
    go_wp2_with fail
    refine hK.out _ _ (fun _ => hSK2) ?_
    clear hK K
    refine zo 7 rfl (fun K hK => ?_)
    go_simp
    have hSK3 : Below w0.heap.size w0 ((wK2).alloc (.cells #[.int .u64 0, .int .u64 0, .int .u64 0, .int .u64 0] 28)) := bAlloc (hSK2) _
    refine hK.out _ _ (fun _ => hSK3) ?_
    clear hK K
    refine zo 8 rfl (fun K hK => ?_)
    go_simp
    refine hK.out _ _ (fun h => absurd rfl h) ?_
    clear hK K
    refine zd ?_ _
    go_wp2_with fail
    go_meet
    exact ⟨_, rfl, (by have := (hSK2).size; omega), Blk.new _ _ (fun i => limb i cu), bAlloc (hSK2) _⟩
   ·go_simp
    have hSK2 : Below w0.heap.size w0 ((wK1).alloc (.cells #[.int .u64 0, .int .u64 0, .int .u64 0, .int .u64 0] 28)) := bAlloc (hSK1) _
    refine hK.out _ _ (fun _ => hSK2) ?_
    clear hK K
    refine zo 6 rfl (fun K hK => ?_)
    go_simp
    refine (HM2.out ((wK1).alloc (.cells #[.int .u64 0, .int .u64 0, .int .u64 0, .int .u64 0] 28)) (HG.out.below (hSK2)).1).mono ?_
    rintro e wK3 ⟨rfl, hbK3⟩
    have hSK3 := bStep hSK2 hbK3
    go_wp2_with fail
    refine hK.out _ _ (fun _ => hSK3) ?_
    clear hK K
    refine zo 8 rfl (fun K hK => ?_)
    have bN5 : Blk wK3 28 (wK1).heap.size (fun _ => 0) := (Blk.new (wK1) 28 (fun _ => 0)).belowAll hbK3
    have cN5 := bN5.cell; have fN5 := bN5.frozen
    go_simp
    refine hK.out _ _ (fun h => absurd rfl h) ?_
    clear hK K
    refine zd ?_ _
    go_wp2_with fail
    go_meet
    exact ⟨_, rfl, (by have := hSK1.size; omega), ((Blk.new (wK1) _ (fun _ => 0)).belowAll hbK3).set4 (fun i => limb i cu), bSet4 (hSK3) (by have := hSK1.size; omega) _ _ _ _⟩
  ·go_simp
   have hSK1 : Below w0.heap.size w0 ((w0.drew).alloc (.cells #[.int .u64 0, .int .u64 0, .int .u64 0, .int .u64 0] 28)) := bAlloc (HS0.out) _
   refine hK.out _ _ (fun _ => hSK1) ?_
   clear hK K
   refine zo 5 rfl (fun K hK => ?_)
   go_simp
   refine (HM1.out ((w0.drew).alloc (.cells #[.int .u64 0, .int .u64 0, .int .u64 0, .int .u64 0] 28)) (HG.out.below (hSK1)).1).mono ?_
   rintro e wK2 ⟨rfl, hbK2⟩
   have hSK2 := bStep hSK1 hbK2
   go_wp2_with fail
   refine hK.out _ _ (fun _ => hSK2) ?_
   clear hK K
   refine zo 6 rfl (fun K hK => ?_)
   go_simp
   refine (HM2.out wK2 (HG.out.below (hSK2)).1).mono ?_
   rintro e wK3 ⟨rfl, hbK3⟩
   have hSK3 := bStep hSK2 hbK3
   go_wp2_with fail
   refine hK.out _ _ (fun _ => hSK3) ?_
   clear hK K
   refine zo 8 rfl (fun K hK => ?_)
   have bN5 : Blk wK3 28 (w0).heap.size (fun _ => 0) := ((Blk.new (w0.drew) 28 (fun _ => 0)).belowAll hbK2).belowAll hbK3
   have cN5 := bN5.cell; have fN5 := bN5.frozen
   go_simp
   refine hK.out _ _ (fun h => absurd rfl h) ?_
   clear hK K
   refine zd ?_ _
   go_wp2_with fail
   go_meet
   exact ⟨_, rfl, (by have := HS0.out.size; omega), (((Blk.new (w0.drew) _ (fun _ => 0)).belowAll hbK2).belowAll hbK3).set4 (fun i => limb i cu), bSet4 (hSK3) (by have := HS0.out.size; omega) _ _ _ _⟩
 obtain ⟨N, rfl, hN, bu, hbx⟩ := hcut
 have br1 := br.belowAll hbx
 have hbw1 := bStep hbw0 hbx
 have HG1 : Hid (GlobC wc) := HG.out.below hbx
 have hrw : w.heap.size ≤ w.heap.size + 1 := Nat.le_succ _
 clear bx br hbw0 hbx HM1 HM2 HG
 go_upto_region 2 with fail
 have HS0 : Hid (Below wc.heap.size wc wc.drew) := (Below.refl _ _).drew
 refine wp_region_Z (fun w' => Below wc.heap.size wc w') 7 (by kernel_rfl) ?_
 refine zs 0 13 (.int .i64 (c : Int)) HS0.out ?_
 refine zT 1 14 (.agg #[.int .u64 (limb 0 cu), .int .u64 (limb 1 cu), .int .u64 (limb 2 cu), .int .u64 (limb 3 cu)]) rfl rfl (fun w hSw => by (have qq := (bu.belowAll hSw).cell; clear hSw; go_simp)) HS0.out ?_
 refine zs 2 15 (.int .i64 (c : Int)) HS0.out ?_
 refine zs 3 16 (.pointer (some ⟨0, c, none⟩)) HS0.out ?_
 refine zT 4 17 (.int .u64 (bb : Int)) rfl rfl (fun w hSw => by (have qq := HBB.out _ (HG1.out.below hSw); clear hSw; go_simp)) HS0.out ?_
 refine zs 5 18 (.agg #[.int .u64 (bb : Int), .int .u64 0, .int .u64 0, .int .u64 0]) HS0.out ?_
 refine zo 6 rfl (fun K hK => ?_)
 go_simp
 refine (HA.out wc.drew (HG1.out.below (HS0.out)).1).mono ?_
 rintro e wK1 ⟨rfl, hbK1⟩
 have hSK1 := bStep HS0.out hbK1
 go_wp2_with fail
 refine hK.out _ _ (fun _ => hSK1) ?_
 clear hK K
 refine zo 7 rfl (fun K hK => ?_)
 have cR := (br1.belowAll (hSK1)).cell; have fR := (br1.belowAll (hSK1)).frozen
 go_simp
 refine hK.out _ _ (fun h => absurd rfl h) ?_
 clear hK K
 refine zd ?_ _
 go_wp2
 refine bodyPost_ret (v := .agg #[.int .u64 (limb 0 r), .int .u64 (limb 1 r), .int .u64 (limb 2 r), .int .u64 (limb 3 r)]) (by simp [results, Tryz.results65, go_sem, cR]) rfl ⟨rfl, ?_⟩
 exact bSet4 (bStep hbw1 (hSK1)) hrw _ _ _ _
end Go.Proofs.YtokoknacolmhgaaGreatDoor
namespace Go.Proofs.YtokoknacolmhgaaGreatDoor
open Go.RowKit
abbrev onC (c x y : Nat) (i : Bool) : Prop := (x = 0 ∧ y = 0 ∧ i = true) ∨ (i = false ∧ x < modN c ∧ y < modN c ∧ mulP c y y = sqY c x)
theorem sqY_M (c x : Nat) : sqY c x < 115792089237316195423570985008687907853269984665640564039457584007913129639936 := addP_M _ _ _
set_option maxRecDepth 20000 in
theorem on_in (c x y : Nat) (i : Bool) (hc : c < 4) (hx : x < 115792089237316195423570985008687907853269984665640564039457584007913129639936) (hy : y < 115792089237316195423570985008687907853269984665640564039457584007913129639936) (w : World) (hg : GlobC w) : Calls Tryz.prog 36 #[.int .i64 (c : Int), .agg #[.int .u64 (limb 0 x), .int .u64 (limb 1 x), .int .u64 (limb 2 x), .int .u64 (limb 3 x), .int .u64 (limb 0 y), .int .u64 (limb 1 y), .int .u64 (limb 2 y), .int .u64 (limb 3 y), .bool i]] w fun e w' => e = .returned (.bool (decide (onC c x y i))) ∧ Below w.heap.size w w' := by
 have HG0 : Hid (GlobC w) := hg
 have HIC : Hid (∀ w, _) := fun w => isCurve_in c hc w
 have HIN : Hid (∀ w, _) := infinity_any
 have HBX : Hid (∀ w, GlobC w → _) := fun w hg => cBelow_any c x hc hx w hg
 have HBY : Hid (∀ w, GlobC w → _) := fun w hg => cBelow_any c y hc hy w hg
 have HM : Hid (∀ w, Glob w → _) := fun w hg => fMul_any c y y hc hy hy w hg
 have HQ : Hid (∀ w, GlobC w → _) := fun w hg => squareOfY_any c x hc hx w hg
 have QI := fun w => eqlP x y 0 0 i true hx hy (by decide) (by decide) w
 have QE := fun w => eqlE (mulP c y y) (sqY c x) (mulP_M _ _ _) (sqY_M _ _) w
 have EO : Hid (decide (onC c x y i) = decide ((x = 0 ∧ y = 0 ∧ i = true) ∨ (i = false ∧ x < modN c ∧ y < modN c ∧ mulP c y y = sqY c x))) := rfl
 obtain ⟨ans, eans⟩ : ∃ b, b = decide (onC c x y i) := ⟨_, rfl⟩
 rw [← eans]
 have EA : Hid (ans = decide ((x = 0 ∧ y = 0 ∧ i = true) ∨ (i = false ∧ x < modN c ∧ y < modN c ∧ mulP c y y = sqY c x))) := by show _ = _; rw [eans, EO.out]
 clear eans EO
 obtain ⟨m, em⟩ : ∃ m, m = modN c := ⟨_, rfl⟩
 obtain ⟨yy, eyy⟩ : ∃ z, z = mulP c y y := ⟨_, rfl⟩
 obtain ⟨sq, esq⟩ : ∃ z, z = sqY c x := ⟨_, rfl⟩
 rw [← em] at HBX HBY EA
 rw [← eyy] at HM QE EA
 rw [← esq] at HQ QE EA
 clear hg em eyy esq
 go_enter Tryz.func36, Tryz.ntmps36
 go_wp2_with fail
 obtain ⟨w0, hw0⟩ : ∃ w0 : World, w0 = w.alloc (.cells #[.int .u64 (limb 0 x), .int .u64 (limb 1 x), .int .u64 (limb 2 x), .int .u64 (limb 3 x), .int .u64 (limb 0 y), .int .u64 (limb 1 y), .int .u64 (limb 2 y), .int .u64 (limb 3 y), .bool i] 30) := ⟨_, rfl⟩
 have bp : Pt w0 w.heap.size x y i := by rw [hw0]; exact Pt.newAt _ _ _ _ _ rfl
 have hbw0 : Below w.heap.size w w0 := by rw [hw0]; exact (Below.refl _ _).alloc (Nat.le_refl _) _
 rw [← hw0]
 clear hw0
 have HG : Hid (GlobC w0) := HG0.out.below hbw0
 refine (HIC.out _).mono ?_
 rintro e w1 ⟨rfl, hw1⟩
 rw [hw1]
 clear hw1 HIC
 go_upto_region 3 with fail
 go_cut [10] (fun b wx => b = .bool (decide (x = 0 ∧ y = 0 ∧ i = true)) ∧ Below w0.heap.size w0 wx)
 case first =>
  have HS0 : Hid (Below w0.heap.size w0 w0.drew) := (Below.refl _ _).drew
  refine wp_region_Z (fun w' => Below w0.heap.size w0 w') 99 (by kernel_rfl) ?_
  refine zT 0 8 (.agg #[.int .u64 (limb 0 x), .int .u64 (limb 1 x), .int .u64 (limb 2 x), .int .u64 (limb 3 x), .int .u64 (limb 0 y), .int .u64 (limb 1 y), .int .u64 (limb 2 y), .int .u64 (limb 3 y), .bool i]) rfl rfl (fun w hSw => by (obtain ⟨q0, q1, q2, q3, q4, q5, q6, q7, q8, qf⟩ := (bp.belowAll hSw).cells; clear hSw; go_simp)) HS0.out ?_
  refine zo 1 rfl (fun K hK => ?_)
  go_simp
  refine (HIN.out w0.drew).mono ?_
  rintro e wK1 ⟨rfl, hbK1⟩
  have hSK1 := bStep HS0.out hbK1
  go_wp2_with fail
  refine hK.out _ _ (fun _ => hSK1) ?_
  clear hK K
  refine zs 2 10 (.bool (decide (x = 0 ∧ y = 0 ∧ i = true))) hSK1 ?_
  refine zd ?_ _
  go_wp2_with fail
  go_meet
  exact ⟨rfl, hSK1⟩
 obtain ⟨rfl, hbx⟩ := hcut
 have bp1 := bp.belowAll hbx
 have hbw1 := bStep hbw0 hbx
 have HG1 : Hid (GlobC wc) := HG.out.below hbx
 clear bp hbw0 hbx HG HIN QI
 by_cases hI : x = 0 ∧ y = 0 ∧ i = true
 ·have dI : decide (x = 0 ∧ y = 0 ∧ i = true) = true := decide_eq_true hI
  have HR : Hid (ans = true) := by show _ = _; rw [EA.out]; exact decide_eq_true (Or.inl hI)
  rw [dI]
  clear dI hI
  go_wp2
  go_ret
  exact ⟨by rw [HR.out]; rfl, hbw1⟩
 ·have dI : decide (x = 0 ∧ y = 0 ∧ i = true) = false := decide_eq_false hI
  rw [dI]
  clear dI
  cases i with
  | true =>
   have HR : Hid (ans = false) := by show _ = _; rw [EA.out]; exact decide_eq_false (fun h => by rcases h with h | ⟨h, _⟩; exact hI h; cases h)
   clear hI QE
   go_upto_region 5 with fail
   have HS0 : Hid (Below wc.heap.size wc wc.drew) := (Below.refl _ _).drew
   refine wp_region_Z (fun w' => Below wc.heap.size wc w') 99 (by kernel_rfl) ?_
   refine zs 0 11 (.pointer (some ⟨w.heap.size, 8, none⟩)) HS0.out ?_
   refine zT 1 12 (.bool true) rfl rfl (fun w hSw => by (obtain ⟨q0, q1, q2, q3, q4, q5, q6, q7, q8, qf⟩ := (bp1.belowAll hSw).cells; clear hSw; go_simp)) HS0.out ?_
   refine zs 2 13 (.bool false) HS0.out ?_
   refine zs 3 14 (.bool false) HS0.out ?_
   refine zU 4 15 HS0.out ?_
   refine zU 5 16 HS0.out ?_
   refine zU 6 17 HS0.out ?_
   refine zU 7 18 HS0.out ?_
   refine zs 8 19 (.bool false) HS0.out ?_
   refine zs 9 20 (.bool false) HS0.out ?_
   refine zU 10 21 HS0.out ?_
   refine zU 11 22 HS0.out ?_
   refine zU 12 23 HS0.out ?_
   refine zU 13 24 HS0.out ?_
   refine zs 14 25 (.bool false) HS0.out ?_
   refine zs 15 26 (.bool false) HS0.out ?_
   refine zU 16 27 HS0.out ?_
   refine zU 17 28 HS0.out ?_
   refine zU 18 29 HS0.out ?_
   refine zU 19 30 HS0.out ?_
   refine zU 20 31 HS0.out ?_
   refine zU 21 32 HS0.out ?_
   refine zU 22 33 HS0.out ?_
   refine zU 23 34 HS0.out ?_
   refine zU 24 35 HS0.out ?_
   refine zU 25 36 HS0.out ?_
   refine zU 26 37 HS0.out ?_
   refine zs 27 38 (.bool false) HS0.out ?_
   refine zs 28 4 (.bool false) HS0.out ?_
   refine zd ?_ _
   go_wp2
   go_ret
   exact ⟨by rw [HR.out]; rfl, bStep hbw1 (HS0.out)⟩
  | false =>
   clear hI
   by_cases hxm : x < m
   ·rw [decide_eq_true hxm] at HBX
    by_cases hym : y < m
    ·rw [decide_eq_true hym] at HBY
     have HR : Hid (ans = decide (yy = sq)) := by show _ = _; rw [EA.out]; simp [hxm, hym]
     go_upto_region 5 with fail
     have HS0 : Hid (Below wc.heap.size wc wc.drew) := (Below.refl _ _).drew
     refine wp_region_Z (fun w' => Below wc.heap.size wc w') 99 (by kernel_rfl) ?_
     refine zs 0 11 (.pointer (some ⟨w.heap.size, 8, none⟩)) HS0.out ?_
     refine zT 1 12 (.bool false) rfl rfl (fun w hSw => by (obtain ⟨q0, q1, q2, q3, q4, q5, q6, q7, q8, qf⟩ := (bp1.belowAll hSw).cells; clear hSw; go_simp)) HS0.out ?_
     refine zs 2 13 (.bool true) HS0.out ?_
     refine zs 3 14 (.bool true) HS0.out ?_
     refine zs 4 15 (.int .i64 (c : Int)) HS0.out ?_
     refine zs 5 16 (.pointer (some ⟨w.heap.size, 0, none⟩)) HS0.out ?_
     refine zT 6 17 (.agg #[.int .u64 (limb 0 x), .int .u64 (limb 1 x), .int .u64 (limb 2 x), .int .u64 (limb 3 x)]) rfl rfl (fun w hSw => by (obtain ⟨q0, q1, q2, q3, q4, q5, q6, q7, q8, qf⟩ := (bp1.belowAll hSw).cells; clear hSw; go_simp)) HS0.out ?_
     refine zo 7 rfl (fun K hK => ?_)
     go_simp
     refine (HBX.out wc.drew (HG1.out.below (HS0.out))).mono ?_
     rintro e wK1 ⟨rfl, hbK1⟩
     have hSK1 := bStep HS0.out hbK1
     go_wp2_with fail
     refine hK.out _ _ (fun _ => hSK1) ?_
     clear hK K
     refine zs 8 19 (.bool true) hSK1 ?_
     refine zs 9 20 (.bool true) hSK1 ?_
     refine zs 10 21 (.int .i64 (c : Int)) hSK1 ?_
     refine zs 11 22 (.pointer (some ⟨w.heap.size, 4, none⟩)) hSK1 ?_
     refine zT 12 23 (.agg #[.int .u64 (limb 0 y), .int .u64 (limb 1 y), .int .u64 (limb 2 y), .int .u64 (limb 3 y)]) rfl rfl (fun w hSw => by (obtain ⟨q0, q1, q2, q3, q4, q5, q6, q7, q8, qf⟩ := (bp1.belowAll hSw).cells; clear hSw; go_simp)) hSK1 ?_
     refine zo 13 rfl (fun K hK => ?_)
     go_simp
     refine (HBY.out wK1 (HG1.out.below (hSK1))).mono ?_
     rintro e wK2 ⟨rfl, hbK2⟩
     have hSK2 := bStep hSK1 hbK2
     go_wp2_with fail
     refine hK.out _ _ (fun _ => hSK2) ?_
     clear hK K
     refine zs 14 25 (.bool true) hSK2 ?_
     refine zs 15 26 (.bool true) hSK2 ?_
     refine zs 16 27 (.int .i64 (c : Int)) hSK2 ?_
     refine zs 17 28 (.pointer (some ⟨w.heap.size, 4, none⟩)) hSK2 ?_
     refine zT 18 29 (.agg #[.int .u64 (limb 0 y), .int .u64 (limb 1 y), .int .u64 (limb 2 y), .int .u64 (limb 3 y)]) rfl rfl (fun w hSw => by (obtain ⟨q0, q1, q2, q3, q4, q5, q6, q7, q8, qf⟩ := (bp1.belowAll hSw).cells; clear hSw; go_simp)) hSK2 ?_
     refine zs 19 30 (.pointer (some ⟨w.heap.size, 4, none⟩)) hSK2 ?_
     refine zT 20 31 (.agg #[.int .u64 (limb 0 y), .int .u64 (limb 1 y), .int .u64 (limb 2 y), .int .u64 (limb 3 y)]) rfl rfl (fun w hSw => by (obtain ⟨q0, q1, q2, q3, q4, q5, q6, q7, q8, qf⟩ := (bp1.belowAll hSw).cells; clear hSw; go_simp)) hSK2 ?_
     refine zs 22 33 (.int .i64 (c : Int)) hSK2 ?_
     refine zs 23 34 (.pointer (some ⟨w.heap.size, 0, none⟩)) hSK2 ?_
     refine zT 24 35 (.agg #[.int .u64 (limb 0 x), .int .u64 (limb 1 x), .int .u64 (limb 2 x), .int .u64 (limb 3 x)]) rfl rfl (fun w hSw => by (obtain ⟨q0, q1, q2, q3, q4, q5, q6, q7, q8, qf⟩ := (bp1.belowAll hSw).cells; clear hSw; go_simp)) hSK2 ?_
     refine zo 21 rfl (fun K hK => ?_)
     go_simp
     refine (HM.out wK2 (HG1.out.below (hSK2)).1).mono ?_
     rintro e wK3 ⟨rfl, hbK3⟩
     have hSK3 := bStep hSK2 hbK3
     go_wp2_with fail
     refine hK.out _ _ (fun _ => hSK3) ?_
     clear hK K
     refine zo 25 rfl (fun K hK => ?_)
     go_simp
     refine (HQ.out wK3 (HG1.out.below (hSK3))).mono ?_
     rintro e wK4 ⟨rfl, hbK4⟩
     have hSK4 := bStep hSK3 hbK4
     go_wp2_with fail
     refine hK.out _ _ (fun _ => hSK4) ?_
     clear hK K
     refine zs 26 37 (.bool (decide (yy = sq))) hSK4 ?_
     refine zs 27 38 (.bool (decide (yy = sq))) hSK4 ?_
     refine zs 28 4 (.bool (decide (yy = sq))) hSK4 ?_
     refine zd ?_ _
     go_wp2
     go_ret
     exact ⟨by rw [HR.out]; rfl, bStep hbw1 (hSK4)⟩
    ·rw [decide_eq_false hym] at HBY
     have HR : Hid (ans = false) := by show _ = _; rw [EA.out]; simp [hym]
     clear QE
     go_upto_region 5 with fail
     have HS0 : Hid (Below wc.heap.size wc wc.drew) := (Below.refl _ _).drew
     refine wp_region_Z (fun w' => Below wc.heap.size wc w') 99 (by kernel_rfl) ?_
     refine zs 0 11 (.pointer (some ⟨w.heap.size, 8, none⟩)) HS0.out ?_
     refine zT 1 12 (.bool false) rfl rfl (fun w hSw => by (obtain ⟨q0, q1, q2, q3, q4, q5, q6, q7, q8, qf⟩ := (bp1.belowAll hSw).cells; clear hSw; go_simp)) HS0.out ?_
     refine zs 2 13 (.bool true) HS0.out ?_
     refine zs 3 14 (.bool true) HS0.out ?_
     refine zs 4 15 (.int .i64 (c : Int)) HS0.out ?_
     refine zs 5 16 (.pointer (some ⟨w.heap.size, 0, none⟩)) HS0.out ?_
     refine zT 6 17 (.agg #[.int .u64 (limb 0 x), .int .u64 (limb 1 x), .int .u64 (limb 2 x), .int .u64 (limb 3 x)]) rfl rfl (fun w hSw => by (obtain ⟨q0, q1, q2, q3, q4, q5, q6, q7, q8, qf⟩ := (bp1.belowAll hSw).cells; clear hSw; go_simp)) HS0.out ?_
     refine zo 7 rfl (fun K hK => ?_)
     go_simp
     refine (HBX.out wc.drew (HG1.out.below (HS0.out))).mono ?_
     rintro e wK1 ⟨rfl, hbK1⟩
     have hSK1 := bStep HS0.out hbK1
     go_wp2_with fail
     refine hK.out _ _ (fun _ => hSK1) ?_
     clear hK K
     refine zs 8 19 (.bool true) hSK1 ?_
     refine zs 9 20 (.bool true) hSK1 ?_
     refine zs 10 21 (.int .i64 (c : Int)) hSK1 ?_
     refine zs 11 22 (.pointer (some ⟨w.heap.size, 4, none⟩)) hSK1 ?_
     refine zT 12 23 (.agg #[.int .u64 (limb 0 y), .int .u64 (limb 1 y), .int .u64 (limb 2 y), .int .u64 (limb 3 y)]) rfl rfl (fun w hSw => by (obtain ⟨q0, q1, q2, q3, q4, q5, q6, q7, q8, qf⟩ := (bp1.belowAll hSw).cells; clear hSw; go_simp)) hSK1 ?_
     refine zo 13 rfl (fun K hK => ?_)
     go_simp
     refine (HBY.out wK1 (HG1.out.below (hSK1))).mono ?_
     rintro e wK2 ⟨rfl, hbK2⟩
     have hSK2 := bStep hSK1 hbK2
     go_wp2_with fail
     refine hK.out _ _ (fun _ => hSK2) ?_
     clear hK K
     refine zs 14 25 (.bool false) hSK2 ?_
     refine zs 15 26 (.bool false) hSK2 ?_
     refine zU 16 27 hSK2 ?_
     refine zU 17 28 hSK2 ?_
     refine zU 18 29 hSK2 ?_
     refine zU 19 30 hSK2 ?_
     refine zU 20 31 hSK2 ?_
     refine zU 21 32 hSK2 ?_
     refine zU 22 33 hSK2 ?_
     refine zU 23 34 hSK2 ?_
     refine zU 24 35 hSK2 ?_
     refine zU 25 36 hSK2 ?_
     refine zU 26 37 hSK2 ?_
     refine zs 27 38 (.bool false) hSK2 ?_
     refine zs 28 4 (.bool false) hSK2 ?_
     refine zd ?_ _
     go_wp2
     go_ret
     exact ⟨by rw [HR.out]; rfl, bStep hbw1 (hSK2)⟩
   ·rw [decide_eq_false hxm] at HBX
    have HR : Hid (ans = false) := by show _ = _; rw [EA.out]; simp [hxm]
    clear QE
    go_upto_region 5 with fail
    have HS0 : Hid (Below wc.heap.size wc wc.drew) := (Below.refl _ _).drew
    refine wp_region_Z (fun w' => Below wc.heap.size wc w') 99 (by kernel_rfl) ?_
    refine zs 0 11 (.pointer (some ⟨w.heap.size, 8, none⟩)) HS0.out ?_
    refine zT 1 12 (.bool false) rfl rfl (fun w hSw => by (obtain ⟨q0, q1, q2, q3, q4, q5, q6, q7, q8, qf⟩ := (bp1.belowAll hSw).cells; clear hSw; go_simp)) HS0.out ?_
    refine zs 2 13 (.bool true) HS0.out ?_
    refine zs 3 14 (.bool true) HS0.out ?_
    refine zs 4 15 (.int .i64 (c : Int)) HS0.out ?_
    refine zs 5 16 (.pointer (some ⟨w.heap.size, 0, none⟩)) HS0.out ?_
    refine zT 6 17 (.agg #[.int .u64 (limb 0 x), .int .u64 (limb 1 x), .int .u64 (limb 2 x), .int .u64 (limb 3 x)]) rfl rfl (fun w hSw => by (obtain ⟨q0, q1, q2, q3, q4, q5, q6, q7, q8, qf⟩ := (bp1.belowAll hSw).cells; clear hSw; go_simp)) HS0.out ?_
    refine zo 7 rfl (fun K hK => ?_)
    go_simp
    refine (HBX.out wc.drew (HG1.out.below (HS0.out))).mono ?_
    rintro e wK1 ⟨rfl, hbK1⟩
    have hSK1 := bStep HS0.out hbK1
    go_wp2_with fail
    refine hK.out _ _ (fun _ => hSK1) ?_
    clear hK K
    refine zs 8 19 (.bool false) hSK1 ?_
    refine zs 9 20 (.bool false) hSK1 ?_
    refine zU 10 21 hSK1 ?_
    refine zU 11 22 hSK1 ?_
    refine zU 12 23 hSK1 ?_
    refine zU 13 24 hSK1 ?_
    refine zs 14 25 (.bool false) hSK1 ?_
    refine zs 15 26 (.bool false) hSK1 ?_
    refine zU 16 27 hSK1 ?_
    refine zU 17 28 hSK1 ?_
    refine zU 18 29 hSK1 ?_
    refine zU 19 30 hSK1 ?_
    refine zU 20 31 hSK1 ?_
    refine zU 21 32 hSK1 ?_
    refine zU 22 33 hSK1 ?_
    refine zU 23 34 hSK1 ?_
    refine zU 24 35 hSK1 ?_
    refine zU 25 36 hSK1 ?_
    refine zU 26 37 hSK1 ?_
    refine zs 27 38 (.bool false) hSK1 ?_
    refine zs 28 4 (.bool false) hSK1 ?_
    refine zd ?_ _
    go_wp2
    go_ret
    exact ⟨by rw [HR.out]; rfl, bStep hbw1 (hSK1)⟩
end Go.Proofs.YtokoknacolmhgaaGreatDoor
namespace Go.Proofs.YtokoknacolmhgaaGreatDoor
open Go.RowKit
theorem Pt.zeroAt (w : World) (b : Nat) (hb : b = w.heap.size) : Pt (w.alloc (.cells #[.int .u64 0, .int .u64 0, .int .u64 0, .int .u64 0, .int .u64 0, .int .u64 0, .int .u64 0, .int .u64 0, .bool false] 30)) b 0 0 false := by
 have h := Pt.newAt w b 0 0 false hb
 simp only [limb_zero] at h
 exact h
theorem bSet9 {w W : World} (h : Below w.heap.size w W) {r : Nat} (hr : w.heap.size ≤ r) (v0 v1 v2 v3 v4 v5 v6 v7 v8 : Value) :
  Below w.heap.size w (((((((((W.setCell ⟨r, 0, none⟩ v0).setCell ⟨r, 1, none⟩ v1).setCell ⟨r, 2, none⟩ v2).setCell ⟨r, 3, none⟩ v3).setCell ⟨r, 4, none⟩ v4).setCell ⟨r, 5, none⟩ v5).setCell ⟨r, 6, none⟩ v6).setCell ⟨r, 7, none⟩ v7).setCell ⟨r, 8, none⟩ v8) :=
 ((((((((h.setCell hr _).setCell hr _).setCell hr _).setCell hr _).setCell hr _).setCell hr _).setCell hr _).setCell hr _).setCell hr _
def Kp (W w' : World) : Prop := Below W.heap.size W w'
def srch (p : Nat → Bool) : Nat → Nat
 | 0 => 0
 | n + 1 => if p n then n else srch p n
theorem srch_yes (p : Nat → Bool) : ∀ n, (∃ q, q < n ∧ p q = true) → srch p n < n ∧ p (srch p n) = true
 | 0 => fun ⟨_, h, _⟩ => absurd h (Nat.not_lt_zero _)
 | n + 1 => fun ⟨q, hq, hp⟩ => by
  show (if p n then n else srch p n) < n + 1 ∧ p (if p n then n else srch p n) = true
  by_cases h : p n = true
  ·rw [if_pos h]; exact ⟨Nat.lt_succ_self n, h⟩
  ·rw [if_neg h]
   have hn : q ≠ n := fun k => h (by rw [← k]; exact hp)
   have r := srch_yes p n ⟨q, by omega, hp⟩
   exact ⟨by omega, r.2⟩
theorem srch_no (p : Nat → Bool) : ∀ n, (¬ ∃ q, q < n ∧ p q = true) → srch p n = 0
 | 0 => fun _ => rfl
 | n + 1 => fun hh => by
  show (if p n then n else srch p n) = 0
  rw [if_neg (fun h => hh ⟨n, Nat.lt_succ_self n, h⟩)]
  exact srch_no p n (fun ⟨q, hq, hp⟩ => hh ⟨q, by omega, hp⟩)
def isInv (c a q : Nat) : Bool := decide (q * (a % modN c) % modN c = 1)
def invC (c a : Nat) : Nat := srch (isInv c a) (modN c)
theorem invC_spec (c a q : Nat) (hq : q < modN c) (h : q * (a % modN c) % modN c = 1) : invC c a = q := by
 have hs := srch_yes (isInv c a) (modN c) ⟨q, hq, decide_eq_true h⟩
 unfold invC
 generalize srch (isInv c a) (modN c) = r at hs
 obtain ⟨hr, h3⟩ := hs
 have h2 : r * (a % modN c) % modN c = 1 := of_decide_eq_true h3
 have hm := modN_pos c
 have e1 : r * (q * (a % modN c)) % modN c = r := by rw [Nat.mul_mod, h, Nat.mul_one, Nat.mod_mod, Nat.mod_eq_of_lt hr]
 have e2 : q * (r * (a % modN c)) % modN c = q := by rw [Nat.mul_mod, h2, Nat.mul_one, Nat.mod_mod, Nat.mod_eq_of_lt hq]
 rw [Nat.mul_left_comm] at e1
 exact e1.symm.trans e2
theorem invC_no (c a : Nat) (h : ¬ ∃ q, q < modN c ∧ q * (a % modN c) % modN c = 1) : invC c a = 0 :=
 srch_no _ _ (fun ⟨q, hq, hp⟩ => h ⟨q, hq, of_decide_eq_true hp⟩)
theorem invC_lt (c a : Nat) : invC c a < modN c := by
 by_cases h : ∃ q, q < modN c ∧ isInv c a q = true
 ·exact (srch_yes _ _ h).1
 ·unfold invC
  rw [srch_no _ _ h]
  exact modN_pos c
theorem inv_c (c a : Nat) (hc : c < 4) (ha : a < 115792089237316195423570985008687907853269984665640564039457584007913129639936) (w : World) (hg : Glob w) :
  Calls Tryz.prog 73 #[.int .i64 (c : Int), .agg #[.int .u64 (limb 0 a), .int .u64 (limb 1 a), .int .u64 (limb 2 a), .int .u64 (limb 3 a)]] w fun e w' => ∃ er : Int, e = .returned (.tuple #[.agg #[.int .u64 (limb 0 (invC c a)), .int .u64 (limb 1 (invC c a)), .int .u64 (limb 2 (invC c a)), .int .u64 (limb 3 (invC c a))], .int .i64 er]) ∧ Below w.heap.size w w' := by
 refine (fInv_any c a hc ha w hg).mono ?_
 rintro e w' ⟨h | ⟨h0, q, hq, h1, rfl⟩, hb⟩
 ·obtain ⟨h0, rfl⟩ := h
  refine ⟨10, ?_, hb⟩
  have hz : invC c a = 0 := by
   apply invC_no
   rintro ⟨q, _, h1⟩
   rw [h0, Nat.mul_zero, Nat.zero_mod] at h1
   cases h1
  rw [hz, zeroElem]
 ·exact ⟨0, by rw [invC_spec c a q hq h1], hb⟩
def riseC (c x y v : Nat) (same : Bool) : Nat := if same then mulP c 3 (mulP c x x) else subP c v y
def runC (c x y u : Nat) (same : Bool) : Nat := if same then addP c y y else subP c u x
def slopeC (c x y u v : Nat) (same : Bool) : Nat := mulP c (riseC c x y v same) (invC c (runC c x y u same))
theorem three_agg : (.agg #[.int .u64 (limb 0 3), .int .u64 (limb 1 3), .int .u64 (limb 2 3), .int .u64 (limb 3 3)] : Value) = .agg #[.int .u64 3, .int .u64 0, .int .u64 0, .int .u64 0] := word_agg 3 (by decide)
def sumXC (c x y u v : Nat) : Nat := subP c (subP c (mulP c (slopeC c x y u v (decide (x = u ∧ y = v))) (slopeC c x y u v (decide (x = u ∧ y = v)))) x) u
def sumYC (c x y u v : Nat) : Nat := subP c (mulP c (slopeC c x y u v (decide (x = u ∧ y = v))) (subP c x (sumXC c x y u v))) y
def sumPt (c x y : Nat) (i : Bool) (u v : Nat) (j : Bool) : Nat × Nat × Bool :=
 if i = true then (u, v, j) else if j = true then (x, y, i) else if x = u ∧ y ≠ v then (0, 0, true) else (sumXC c x y u v, sumYC c x y u v, false)
def raddPt (c x y : Nat) (i : Bool) (u v : Nat) (j : Bool) : Nat × Nat × Bool := if ¬ onC c x y i ∨ ¬ onC c u v j then (0, 0, true) else sumPt c x y i u v j
theorem sqY_cube (c x : Nat) : sqY c x = (x * x * x + bN c) % modN c := by
 unfold sqY addP mulP
 rw [Nat.mul_mod_mod, Nat.mod_add_mod, Nat.mul_assoc]
theorem on_y {c x y : Nat} (h : onC c x y false) : y ≠ 0 := by
 unfold onC at h
 rcases h with ⟨_, _, h⟩ | ⟨_, _, _, h⟩
 ·cases h
 ·intro h0
  rw [h0, sqY_cube] at h
  have hz : mulP c 0 0 = 0 := by unfold mulP; rw [Nat.mul_zero, Nat.zero_mod]
  rw [hz] at h
  exact cube_none c x h.symm
theorem on_fin' {c x y : Nat} (h : onC c x y false) : x < modN c ∧ y < modN c ∧ mulP c y y = sqY c x := by
 unfold onC at h
 rcases h with ⟨_, _, h⟩ | ⟨_, h⟩
 ·cases h
 ·exact h
theorem two_roots {p y v : Nat} (hp : IsPrime p) (hy : y < p) (hv : v < p) (h : y * y % p = v * v % p) : y = v ∨ y + v = 0 ∨ y + v = p := by
 have key : ∀ a b : Nat, a < p → b ≤ a → a * a % p = b * b % p → a = b ∨ a + b = 0 ∨ a + b = p := by
  intro a b ha hb h
  have e : (a - b) * (a + b) = a * a - b * b := by
   rw [Nat.mul_comm, Nat.mul_self_sub_mul_self_eq]
  have hd : p ∣ (a - b) * (a + b) := by
   rw [e]
   exact Nat.dvd_of_mod_eq_zero (Nat.sub_mod_eq_zero_of_mod_eq h)
  rcases hp.dvd_mul hd with h1 | h1
  ·left
   have := Nat.eq_zero_of_dvd_of_lt h1 (by omega)
   omega
  ·right
   obtain ⟨k, hk⟩ := h1
   have : k < 2 := by
    apply Nat.lt_of_not_le
    intro h2
    have := Nat.mul_le_mul_left p h2
    omega
   have : k = 0 ∨ k = 1 := by omega
   rcases this with rfl | rfl
   ·left; omega
   ·right; omega
 rcases Nat.le_total v y with hle | hle
 ·exact key y v hy hle h
 ·rcases key v y hv hle h.symm with h1 | h1 | h1
  ·exact Or.inl h1.symm
  ·exact Or.inr (Or.inl (by omega))
  ·exact Or.inr (Or.inr (by omega))
theorem neg_eq (c y : Nat) (hy : y < modN c) (h0 : y ≠ 0) : subP c 0 y = modN c - y := by
 unfold subP
 rw [Nat.mod_eq_of_lt hy, Nat.zero_add, Nat.mod_eq_of_lt (by omega)]
theorem opp_iff {c x y v : Nat} (h1 : onC c x y false) (h2 : onC c x v false) : v = subP c 0 y ↔ y ≠ v := by
 obtain ⟨_, hy, e1⟩ := on_fin' h1
 obtain ⟨_, hv, e2⟩ := on_fin' h2
 have y0 := on_y h1
 rw [neg_eq c y hy y0]
 constructor
 ·intro h e
  have ho := (modN_odd c).1
  omega
 ·intro hne
  rcases two_roots (modN_prime c) hy hv (by have := e1.trans e2.symm; exact this) with h | h | h
  ·exact absurd h hne
  ·omega
  ·omega
theorem on_inf {c x y : Nat} (h : onC c x y true) : x = 0 ∧ y = 0 := by
 unfold onC at h
 rcases h with ⟨a, b, _⟩ | ⟨h, _⟩
 ·exact ⟨a, b⟩
 ·cases h
theorem eqlP_self (x y : Nat) (i : Bool) (hx : x < 115792089237316195423570985008687907853269984665640564039457584007913129639936) (hy : y < 115792089237316195423570985008687907853269984665640564039457584007913129639936) (w : World) : (binOp .eql 30 (.agg #[.int .u64 (limb 0 x), .int .u64 (limb 1 x), .int .u64 (limb 2 x), .int .u64 (limb 3 x), .int .u64 (limb 0 y), .int .u64 (limb 1 y), .int .u64 (limb 2 y), .int .u64 (limb 3 y), .bool i]) (.agg #[.int .u64 (limb 0 x), .int .u64 (limb 1 x), .int .u64 (limb 2 x), .int .u64 (limb 3 x), .int .u64 (limb 0 y), .int .u64 (limb 1 y), .int .u64 (limb 2 y), .int .u64 (limb 3 y), .bool i])).run Tryz.prog w = .ok (.bool true) w := by
 have h := eqlP x y x y i i hx hy hx hy w
 rw [decide_eq_true (⟨rfl, rfl, rfl⟩ : x = x ∧ y = y ∧ i = i)] at h
 exact h
theorem on_out (c : Int) (hc : c < 0 ∨ 4 ≤ c) (x y : Nat) (i : Bool) (w : World) : Calls Tryz.prog 36 #[.int .i64 c, .agg #[.int .u64 (limb 0 x), .int .u64 (limb 1 x), .int .u64 (limb 2 x), .int .u64 (limb 3 x), .int .u64 (limb 0 y), .int .u64 (limb 1 y), .int .u64 (limb 2 y), .int .u64 (limb 3 y), .bool i]] w fun e w' => e = .returned (.bool false) ∧ Below w.heap.size w w' := by
 have HIC : Hid (∀ w, _) := fun w => isCurve_out c hc w
 clear hc
 go_enter Tryz.func36, Tryz.ntmps36
 go_wp2_with fail
 obtain ⟨w0, hw0⟩ : ∃ w0 : World, w0 = w.alloc (.cells #[.int .u64 (limb 0 x), .int .u64 (limb 1 x), .int .u64 (limb 2 x), .int .u64 (limb 3 x), .int .u64 (limb 0 y), .int .u64 (limb 1 y), .int .u64 (limb 2 y), .int .u64 (limb 3 y), .bool i] 30) := ⟨_, rfl⟩
 have hbw0 : Below w.heap.size w w0 := by rw [hw0]; exact (Below.refl _ _).alloc (Nat.le_refl _) _
 rw [← hw0]
 clear hw0
 refine (HIC.out _).mono ?_
 rintro e w1 ⟨rfl, hw1⟩
 rw [hw1]
 clear hw1
 go_wp2
 go_ret
 exact ⟨rfl, hbw0⟩
end Go.Proofs.YtokoknacolmhgaaGreatDoor
