import Derived.Test.YtdeijnlbencfdaaGreatDoorWK1
import Derived.Test.YtdeijnlbencfdaaGreatDoorWBE
import Derived.Test.YtdeijnlbencfdaaGreatDoorWFD
import Derived.Test.YtdeijnlbencfdaaGreatDoorWXD
set_option maxHeartbeats 4000000
namespace Go.Proofs.YtdeijnlbencfdaaGreatDoor
open Go.RowKit
theorem bN_24 (c : Nat) : bN c < 24 := by
 unfold bN
 split <;> decide
def GlobC (w : World) : Prop := Glob w ∧ ∀ i, i < 4 → w.cell? ⟨1, i, none⟩ = some (.int .u64 ((bN i : Nat) : Int))
theorem GlobC.below {w w' : World} (h : GlobC w) (hb : Below w.heap.size w w') : GlobC w' :=
 ⟨h.1.below hb, fun i hi => by rw [hb.cell (p := ⟨1, i, none⟩) (by have := h.1.1; dsimp only; omega)]; exact h.2 i hi⟩
theorem isCurve_in (c : Nat) (hc : c < 4) (w : World) : Calls Tryz.prog 58 #[.int .i64 (c : Int)] w fun e w' => e = .returned (.bool true) ∧ w' = w := by
 have h0 : (0 : Int) ≤ (c : Int) := by omega
 have h1 : (c : Int) < 4 := by omega
 go_enter Tryz.func58, Tryz.ntmps58
 go_wp2
 go_ret
 exact ⟨rfl, rfl⟩
theorem isCurve_out (c : Int) (hc : c < 0 ∨ 4 ≤ c) (w : World) : Calls Tryz.prog 58 #[.int .i64 c] w fun e w' => e = .returned (.bool false) ∧ w' = w := by
 by_cases h0 : 0 ≤ c
 ·have h1 : ¬ c < 4 := by omega
  go_enter Tryz.func58, Tryz.ntmps58
  go_wp2
  go_ret
  exact ⟨rfl, rfl⟩
 ·go_enter Tryz.func58, Tryz.ntmps58
  go_wp2
  go_ret
  exact ⟨rfl, rfl⟩
theorem infAgg : (.agg #[.int .u64 (limb 0 0), .int .u64 (limb 1 0), .int .u64 (limb 2 0), .int .u64 (limb 3 0), .int .u64 (limb 0 0), .int .u64 (limb 1 0), .int .u64 (limb 2 0), .int .u64 (limb 3 0), .bool true] : Value) = .agg #[.int .u64 0, .int .u64 0, .int .u64 0, .int .u64 0, .int .u64 0, .int .u64 0, .int .u64 0, .int .u64 0, .bool true] := by
 rw [limb_zero, limb_zero, limb_zero, limb_zero]; rfl
theorem infinity_any (w : World) : Calls Tryz.prog 34 #[] w fun e w' => e = .returned (.agg #[.int .u64 (limb 0 0), .int .u64 (limb 1 0), .int .u64 (limb 2 0), .int .u64 (limb 3 0), .int .u64 (limb 0 0), .int .u64 (limb 1 0), .int .u64 (limb 2 0), .int .u64 (limb 3 0), .bool true]) ∧ Below w.heap.size w w' := by
 rw [infAgg]
 go_enter Tryz.func34, Tryz.ntmps34
 go_wp2
 refine bodyPost_ret (v := .agg #[.int .u64 0, .int .u64 0, .int .u64 0, .int .u64 0, .int .u64 0, .int .u64 0, .int .u64 0, .int .u64 0, .bool true]) (by simp [results, Tryz.results34, go_sem]) rfl ⟨rfl, ?_⟩
 repeat (first | with_reducible exact Below.refl _ _ | with_reducible refine Below.alloc ?_ (by first | omega | (simp; omega) | simp) _ | with_reducible refine Below.setCell ?_ (by first | omega | (simp; omega) | simp) _)
theorem cBelow_any (c a : Nat) (hc : c < 4) (ha : a < 115792089237316195423570985008687907853269984665640564039457584007913129639936) (w : World) (hg : GlobC w) : Calls Tryz.prog 59 #[.int .i64 (c : Int), .agg #[.int .u64 (limb 0 a), .int .u64 (limb 1 a), .int .u64 (limb 2 a), .int .u64 (limb 3 a)]] w fun e w' => e = .returned (.bool (decide (a < modN c))) ∧ Below w.heap.size w w' := by
 have HM : Hid (∀ w, Glob w → _) := fun w hg => fModulus_any c hc w hg
 have HL : Hid (∀ w, _) := fun w => less_any a (modN c) ha (modN_good c).lt.2.2 w
 have HG : Hid (GlobC w) := hg
 obtain ⟨m, em⟩ : ∃ m, m = modN c := ⟨_, rfl⟩
 rw [← em] at HM HL ⊢
 clear em hg
 go_enter Tryz.func59, Tryz.ntmps59
 go_wp2_with fail
 obtain ⟨w0, hw0⟩ : ∃ w0 : World, w0 = w.alloc (.cells #[.int .u64 (limb 0 a), .int .u64 (limb 1 a), .int .u64 (limb 2 a), .int .u64 (limb 3 a)] 25) := ⟨_, rfl⟩
 have ba0 : Blk w0 25 w.heap.size (fun i => limb i a) := by rw [hw0]; exact Blk.newAt _ _ _ (fun i => limb i a) (by simp)
 have hbw0 : Below w.heap.size w w0 := by rw [hw0]; exact (Below.refl _ _).alloc (Nat.le_refl _) _
 rw [← hw0]
 clear hw0
 refine (HM.out _ (HG.out.below hbw0).1).mono ?_
 rintro e w1 ⟨rfl, hb1⟩
 have ba1 := ba0.belowAll hb1
 have hbw1 := bStep hbw0 hb1
 have ba2 := ba1.alloc (.cells #[.int .u64 (limb 0 m), .int .u64 (limb 1 m), .int .u64 (limb 2 m), .int .u64 (limb 3 m)] 25)
 have hbw2 := bAlloc hbw1 (.cells #[.int .u64 (limb 0 m), .int .u64 (limb 1 m), .int .u64 (limb 2 m), .int .u64 (limb 3 m)] 25)
 have bm2 : Blk (w1.alloc (.cells #[.int .u64 (limb 0 m), .int .u64 (limb 1 m), .int .u64 (limb 2 m), .int .u64 (limb 3 m)] 25)) 25 w1.heap.size (fun i => limb i m) := Blk.newAt _ _ _ (fun i => limb i m) rfl
 clear ba0 hbw0 hb1 HM
 go_upto_region 2 with fail
 obtain ⟨w2, hw2⟩ : ∃ w2 : World, w2 = w1.alloc (.cells #[.int .u64 (limb 0 m), .int .u64 (limb 1 m), .int .u64 (limb 2 m), .int .u64 (limb 3 m)] 25) := ⟨_, rfl⟩
 obtain ⟨N, eN⟩ : ∃ N, N = w1.heap.size := ⟨_, rfl⟩
 rw [← hw2] at ba2 hbw2 bm2 ⊢
 rw [← eN] at bm2 ⊢
 clear hw2 ba1 hbw1 eN
 have ca := ba2.cell; have cm := bm2.cell
 go_wp2_with fail
 refine (HL.out _).mono ?_
 rintro e w3 ⟨rfl, hb3⟩
 have hbw3 := bStep hbw2 hb3
 go_wp2
 go_ret
 exact ⟨rfl, hbw3⟩
def sqY (c x : Nat) : Nat := addP c (mulP c x (mulP c x x)) (bN c)
theorem lt_M (c a : Nat) (h : a < modN c) : a < 115792089237316195423570985008687907853269984665640564039457584007913129639936 := Nat.lt_trans h (modN_good c).lt.2.2
theorem mulP_M (c a b : Nat) : mulP c a b < 115792089237316195423570985008687907853269984665640564039457584007913129639936 := lt_M c _ (Nat.mod_lt _ (modN_pos c))
theorem addP_M (c a b : Nat) : addP c a b < 115792089237316195423570985008687907853269984665640564039457584007913129639936 := lt_M c _ (Nat.mod_lt _ (modN_pos c))
theorem subP_M (c a b : Nat) : subP c a b < 115792089237316195423570985008687907853269984665640564039457584007913129639936 := lt_M c _ (Nat.mod_lt _ (modN_pos c))
set_option maxRecDepth 20000 in
theorem squareOfY_any (c x : Nat) (hc : c < 4) (hx : x < 115792089237316195423570985008687907853269984665640564039457584007913129639936) (w : World) (hg : GlobC w) : Calls Tryz.prog 60 #[.int .i64 (c : Int), .agg #[.int .u64 (limb 0 x), .int .u64 (limb 1 x), .int .u64 (limb 2 x), .int .u64 (limb 3 x)]] w fun e w' => e = .returned (.agg #[.int .u64 (limb 0 (sqY c x)), .int .u64 (limb 1 (sqY c x)), .int .u64 (limb 2 (sqY c x)), .int .u64 (limb 3 (sqY c x))]) ∧ Below w.heap.size w w' := by
 have HG0 : Hid (GlobC w) := hg
 have HM1 : Hid (∀ w, Glob w → _) := fun w hg => fMul_any c x x hc hx hx w hg
 have HM2 : Hid (∀ w, Glob w → _) := fun w hg => fMul_any c x (mulP c x x) hc hx (mulP_M _ _ _) w hg
 have HA : Hid (∀ w, Glob w → _) := fun w hg => fAdd_any c (mulP c x (mulP c x x)) (bN c) hc (mulP_M _ _ _) (by have := bN_24 c; omega) w hg
 have EB : Hid ((.agg #[.int .u64 (limb 0 (bN c)), .int .u64 (limb 1 (bN c)), .int .u64 (limb 2 (bN c)), .int .u64 (limb 3 (bN c))] : Value) = _) := word_agg (bN c) (by have := bN_24 c; omega)
 obtain ⟨sq, esq⟩ : ∃ y, y = mulP c x x := ⟨_, rfl⟩
 rw [← esq] at HM1 HM2 HA
 obtain ⟨cu, ecu⟩ : ∃ y, y = mulP c x sq := ⟨_, rfl⟩
 rw [← ecu] at HM2 HA
 have ER : Hid (sqY c x = addP c cu (bN c)) := by show _ = _; rw [ecu, esq]; rfl
 rw [EB.out] at HA
 rw [ER.out]
 obtain ⟨r, er⟩ : ∃ r, r = addP c cu (bN c) := ⟨_, rfl⟩
 rw [← er] at HA ⊢
 obtain ⟨bb, ebb⟩ : ∃ b, b = bN c := ⟨_, rfl⟩
 rw [← ebb] at HA
 have hbb : ∀ W : World, GlobC W → W.cell? ⟨1, c, none⟩ = some (.int .u64 (bb : Int)) := fun W hW => by rw [ebb]; exact hW.2 c hc
 have HBB := (show Hid _ from hbb)
 have hc0 : (0 : Int) ≤ (c : Int) := by omega
 have hc4 : (c : Int) < 4 := by omega
 clear hg esq ecu ER er EB ebb hbb
 go_enter Tryz.func60, Tryz.ntmps60
 go_upto_region 1 with fail
 obtain ⟨w0, hw0⟩ : ∃ w0 : World, w0 = (w.alloc (.cells #[.int .u64 (limb 0 x), .int .u64 (limb 1 x), .int .u64 (limb 2 x), .int .u64 (limb 3 x)] 25)).alloc (.cells #[.int .u64 0, .int .u64 0, .int .u64 0, .int .u64 0] 25) := ⟨_, rfl⟩
 have bx : Blk w0 25 w.heap.size (fun i => limb i x) := by rw [hw0]; exact (Blk.newAt _ _ _ (fun i => limb i x) rfl).alloc _
 have br : Blk w0 25 (w.heap.size + 1) (fun _ => 0) := by rw [hw0]; exact Blk.newAt _ _ _ (fun _ => 0) (by simp)
 have hbw0 : Below w.heap.size w w0 := by rw [hw0]; exact bAlloc ((Below.refl _ _).alloc (Nat.le_refl _) _) _
 rw [← hw0]
 clear hw0
 have HG : Hid (GlobC w0) := HG0.out.below hbw0
 go_cut [5] (fun pr wx => ∃ N : Nat, pr = .pointer (some ⟨N, 0, none⟩) ∧ w0.heap.size ≤ N ∧ Blk wx 25 N (fun i => limb i cu) ∧ Below w0.heap.size w0 wx)
 case first =>
  have HS0 : Hid (Below w0.heap.size w0 w0.drew) := (Below.refl _ _).drew
  refine wp_region_Z (fun w' => Below w0.heap.size w0 w') 8 (by kernel_rfl) ?_
  refine zs 0 6 (.int .i64 (c : Int)) HS0.out ?_
  refine zT 1 7 (.agg #[.int .u64 (limb 0 x), .int .u64 (limb 1 x), .int .u64 (limb 2 x), .int .u64 (limb 3 x)]) rfl rfl (fun w hSw => by (have qq := (bx.belowAll hSw).cell; clear hSw; go_simp)) HS0.out ?_
  refine zs 2 8 (.int .i64 (c : Int)) HS0.out ?_
  refine zT 3 9 (.agg #[.int .u64 (limb 0 x), .int .u64 (limb 1 x), .int .u64 (limb 2 x), .int .u64 (limb 3 x)]) rfl rfl (fun w hSw => by (have qq := (bx.belowAll hSw).cell; clear hSw; go_simp)) HS0.out ?_
  refine zT 4 10 (.agg #[.int .u64 (limb 0 x), .int .u64 (limb 1 x), .int .u64 (limb 2 x), .int .u64 (limb 3 x)]) rfl rfl (fun w hSw => by (have qq := (bx.belowAll hSw).cell; clear hSw; go_simp)) HS0.out ?_
  refine zw 5 7 rfl rfl (fun K hK => ?_) (fun K hK => ?_)
  ·go_simp
   refine (HM1.out w0.drew (HG.out.below (HS0.out)).1).mono ?_
   rintro e wK1 ⟨rfl, hbK1⟩
   have hSK1 := bStep HS0.out hbK1
   go_wp2_with fail
   refine hK.out _ _ (fun _ => hSK1) ?_
   clear hK K
   refine zw 6 7 rfl rfl (fun K hK => ?_) (fun K hK => ?_)
   ·go_simp
    refine (HM2.out wK1 (HG.out.below (hSK1)).1).mono ?_
    rintro e wK2 ⟨rfl, hbK2⟩
    have hSK2 := bStep hSK1 hbK2
    go_wp2_with fail
    refine hK.out _ _ (fun _ => hSK2) ?_
    clear hK K
    refine zo 7 rfl (fun K hK => ?_)
    go_simp
    have hSK3 : Below w0.heap.size w0 ((wK2).alloc (.cells #[.int .u64 0, .int .u64 0, .int .u64 0, .int .u64 0] 25)) := bAlloc (hSK2) _
    refine hK.out _ _ (fun _ => hSK3) ?_
    clear hK K
    refine zo 8 rfl (fun K hK => ?_)
    go_simp
    refine hK.out _ _ (fun h => absurd rfl h) ?_
    clear hK K
    refine zd ?_ _
    go_wp2_with fail
    go_meet
    exact ⟨_, rfl, (by have := (hSK2).size; omega), Blk.new _ _ (fun i => limb i cu), bAlloc (hSK2) _⟩
   ·go_simp
    have hSK2 : Below w0.heap.size w0 ((wK1).alloc (.cells #[.int .u64 0, .int .u64 0, .int .u64 0, .int .u64 0] 25)) := bAlloc (hSK1) _
    refine hK.out _ _ (fun _ => hSK2) ?_
    clear hK K
    refine zo 6 rfl (fun K hK => ?_)
    go_simp
    refine (HM2.out ((wK1).alloc (.cells #[.int .u64 0, .int .u64 0, .int .u64 0, .int .u64 0] 25)) (HG.out.below (hSK2)).1).mono ?_
    rintro e wK3 ⟨rfl, hbK3⟩
    have hSK3 := bStep hSK2 hbK3
    go_wp2_with fail
    refine hK.out _ _ (fun _ => hSK3) ?_
    clear hK K
    refine zo 8 rfl (fun K hK => ?_)
    have bN5 : Blk wK3 25 (wK1).heap.size (fun _ => 0) := (Blk.new (wK1) 25 (fun _ => 0)).belowAll hbK3
    have cN5 := bN5.cell; have fN5 := bN5.frozen
    go_simp
    refine hK.out _ _ (fun h => absurd rfl h) ?_
    clear hK K
    refine zd ?_ _
    go_wp2_with fail
    go_meet
    exact ⟨_, rfl, (by have := hSK1.size; omega), ((Blk.new (wK1) _ (fun _ => 0)).belowAll hbK3).set4 (fun i => limb i cu), bSet4 (hSK3) (by have := hSK1.size; omega) _ _ _ _⟩
  ·go_simp
   have hSK1 : Below w0.heap.size w0 ((w0.drew).alloc (.cells #[.int .u64 0, .int .u64 0, .int .u64 0, .int .u64 0] 25)) := bAlloc (HS0.out) _
   refine hK.out _ _ (fun _ => hSK1) ?_
   clear hK K
   refine zo 5 rfl (fun K hK => ?_)
   go_simp
   refine (HM1.out ((w0.drew).alloc (.cells #[.int .u64 0, .int .u64 0, .int .u64 0, .int .u64 0] 25)) (HG.out.below (hSK1)).1).mono ?_
   rintro e wK2 ⟨rfl, hbK2⟩
   have hSK2 := bStep hSK1 hbK2
   go_wp2_with fail
   refine hK.out _ _ (fun _ => hSK2) ?_
   clear hK K
   refine zo 6 rfl (fun K hK => ?_)
   go_simp
   refine (HM2.out wK2 (HG.out.below (hSK2)).1).mono ?_
   rintro e wK3 ⟨rfl, hbK3⟩
   have hSK3 := bStep hSK2 hbK3
   go_wp2_with fail
   refine hK.out _ _ (fun _ => hSK3) ?_
   clear hK K
   refine zo 8 rfl (fun K hK => ?_)
   have bN5 : Blk wK3 25 (w0).heap.size (fun _ => 0) := ((Blk.new (w0.drew) 25 (fun _ => 0)).belowAll hbK2).belowAll hbK3
   have cN5 := bN5.cell; have fN5 := bN5.frozen
   go_simp
   refine hK.out _ _ (fun h => absurd rfl h) ?_
   clear hK K
   refine zd ?_ _
   go_wp2_with fail
   go_meet
   exact ⟨_, rfl, (by have := HS0.out.size; omega), (((Blk.new (w0.drew) _ (fun _ => 0)).belowAll hbK2).belowAll hbK3).set4 (fun i => limb i cu), bSet4 (hSK3) (by have := HS0.out.size; omega) _ _ _ _⟩
 obtain ⟨N, rfl, hN, bu, hbx⟩ := hcut
 have br1 := br.belowAll hbx
 have hbw1 := bStep hbw0 hbx
 have HG1 : Hid (GlobC wc) := HG.out.below hbx
 have hrw : w.heap.size ≤ w.heap.size + 1 := Nat.le_succ _
 clear bx br hbw0 hbx HM1 HM2 HG
 go_upto_region 2 with fail
 have HS0 : Hid (Below wc.heap.size wc wc.drew) := (Below.refl _ _).drew
 refine wp_region_Z (fun w' => Below wc.heap.size wc w') 7 (by kernel_rfl) ?_
 refine zs 0 13 (.int .i64 (c : Int)) HS0.out ?_
 refine zT 1 14 (.agg #[.int .u64 (limb 0 cu), .int .u64 (limb 1 cu), .int .u64 (limb 2 cu), .int .u64 (limb 3 cu)]) rfl rfl (fun w hSw => by (have qq := (bu.belowAll hSw).cell; clear hSw; go_simp)) HS0.out ?_
 refine zs 2 15 (.int .i64 (c : Int)) HS0.out ?_
 refine zs 3 16 (.pointer (some ⟨1, c, none⟩)) HS0.out ?_
 refine zT 4 17 (.int .u64 (bb : Int)) rfl rfl (fun w hSw => by (have qq := HBB.out _ (HG1.out.below hSw); clear hSw; go_simp)) HS0.out ?_
 refine zs 5 18 (.agg #[.int .u64 (bb : Int), .int .u64 0, .int .u64 0, .int .u64 0]) HS0.out ?_
 refine zo 6 rfl (fun K hK => ?_)
 go_simp
 refine (HA.out wc.drew (HG1.out.below (HS0.out)).1).mono ?_
 rintro e wK1 ⟨rfl, hbK1⟩
 have hSK1 := bStep HS0.out hbK1
 go_wp2_with fail
 refine hK.out _ _ (fun _ => hSK1) ?_
 clear hK K
 refine zo 7 rfl (fun K hK => ?_)
 have cR := (br1.belowAll (hSK1)).cell; have fR := (br1.belowAll (hSK1)).frozen
 go_simp
 refine hK.out _ _ (fun h => absurd rfl h) ?_
 clear hK K
 refine zd ?_ _
 go_wp2
 refine bodyPost_ret (v := .agg #[.int .u64 (limb 0 r), .int .u64 (limb 1 r), .int .u64 (limb 2 r), .int .u64 (limb 3 r)]) (by simp [results, Tryz.results60, go_sem, cR]) rfl ⟨rfl, ?_⟩
 exact bSet4 (bStep hbw1 (hSK1)) hrw _ _ _ _
end Go.Proofs.YtdeijnlbencfdaaGreatDoor
