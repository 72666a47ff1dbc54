/- What field.inverse does: the walk. -/
import Derived.Test.YtfbfenljfdnggaaGreatDoorVFC
import Derived.Deep.RegionWith
import Derived.BigRegion
namespace Go.Proofs.YtfbfenljfdnggaaGreatDoor
open Go.RowKit
theorem bAlloc2 (w : World) (o1 o2 : Obj) : Below w.heap.size w ((w.alloc o1).alloc o2) := ((Below.refl _ _).alloc (Nat.le_refl _) _).alloc (by simp) _
theorem limb_one : limb 0 1 = 1 ∧ limb 1 1 = 0 ∧ limb 2 1 = 0 ∧ limb 3 1 = 0 := by decide
set_option maxHeartbeats 8000000 in
set_option maxRecDepth 20000 in
theorem inverse_any (m x : Nat) (hm : 2 * m ≤ 115792089237316195423570985008687907853269984665640564039457584007913129639936) (h1 : 1 < m) (ho : m % 2 = 1) (hx : x < m) (hgc : Nat.gcd x m = 1) (w : World) (hg : Glob w) :
    Calls Tryz.prog 130 #[.agg #[.int .u64 ((limb 0 (m) : Nat) : Int), .int .u64 ((limb 1 (m) : Nat) : Int), .int .u64 ((limb 2 (m) : Nat) : Int), .int .u64 ((limb 3 (m) : Nat) : Int)], .agg #[.int .u64 ((limb 0 (x) : Nat) : Int), .int .u64 ((limb 1 (x) : Nat) : Int), .int .u64 ((limb 2 (x) : Nat) : Int), .int .u64 ((limb 3 (x) : Nat) : Int)]] w fun e w' => ∃ q, q < m ∧ q * x % m = 1 ∧ e = .returned (.agg #[.int .u64 ((limb 0 (q) : Nat) : Int), .int .u64 ((limb 1 (q) : Nat) : Int), .int .u64 ((limb 2 (q) : Nat) : Int), .int .u64 ((limb 3 (q) : Nat) : Int)]) ∧ Below w.heap.size w w' := by
  have hI := (show Hid _ from invI_start m x h1 ho hx hgc)
  clear hgc
  have HO := (show Hid _ from ho); clear ho
  go_enter Tryz.func130, Tryz.ntmps130
  go_wp2
  obtain ⟨w0, hw0⟩ : ∃ w0 : World, w0 = ((w.alloc (.cells #[.int .u64 ((limb 0 (m) : Nat) : Int), .int .u64 ((limb 1 (m) : Nat) : Int), .int .u64 ((limb 2 (m) : Nat) : Int), .int .u64 ((limb 3 (m) : Nat) : Int)] 154)).alloc (.cells #[.int .u64 ((limb 0 (x) : Nat) : Int), .int .u64 ((limb 1 (x) : Nat) : Int), .int .u64 ((limb 2 (x) : Nat) : Int), .int .u64 ((limb 3 (x) : Nat) : Int)] 154)).alloc (.cells #[.int .u64 0, .int .u64 0, .int .u64 0, .int .u64 0] 154) := ⟨_, rfl⟩
  have bm0 : Blk w0 154 w.heap.size (fun i => limb i m) := by rw [hw0]; exact ((Blk.newAt _ _ _ (fun i => limb i m) (by simp)).alloc _).alloc _
  have bx0 : Blk w0 154 (w.heap.size + 1) (fun i => limb i x) := by rw [hw0]; exact (Blk.newAt _ _ _ (fun i => limb i x) (by simp)).alloc _
  have br0 : Blk w0 154 (w.heap.size + 1 + 1) (fun _ => 0) := by rw [hw0]; exact Blk.newAt _ _ _ (fun _ => 0) (by simp)
  have hg0 : Glob w0 := by rw [hw0]; exact ((hg.alloc _).alloc _).alloc _
  have hb0 : Below w.heap.size w w0 := by
    rw [hw0]
    repeat (first | with_reducible exact Below.refl _ _ | with_reducible refine Below.alloc ?_ (by first | omega | (simp; omega) | simp) _)
  rw [← hw0]
  clear hw0 hg
  have cm := bm0.cell; have cx := bx0.cell; have lm := bm0.lt; have lx := bx0.lt; have lr := br0.lt
  obtain ⟨hA, hG⟩ := acell2 (w := w0)
  obtain ⟨hA1, hG1⟩ := acell (w := w0) (n := w0.heap.size) (Nat.le_refl _)
  go_cut [5, 6] (fun pu pv wx => ∃ bu bv : Nat, pu = .pointer (some ⟨bu, 0, none⟩) ∧ pv = .pointer (some ⟨bv, 0, none⟩) ∧ w0.heap.size ≤ bu ∧ w0.heap.size ≤ bv ∧ bu ≠ bv ∧ Blk wx 154 bu (fun i => limb i x) ∧ Blk wx 154 bv (fun i => limb i m) ∧ Below w0.heap.size w0 wx)
  case first =>
    go_region
    all_goals (go_wp2_with fail; go_meet)
    all_goals
      refine ⟨_, _, rfl, rfl, by omega, by omega, by omega, ?_, ?_, ?_⟩
      · first | exact ((Blk.newAt _ _ _ (fun i => limb i x) (by simp)).alloc _).drew | exact (Blk.newAt _ _ _ (fun i => limb i x) (by simp)).drew
      · first | exact ((Blk.newAt _ _ _ (fun i => limb i m) (by simp)).alloc _).drew | exact (Blk.newAt _ _ _ (fun i => limb i m) (by simp)).drew
      · exact (bAlloc2 w0 _ _).drew
  case rest =>
    obtain ⟨bu, bv, rfl, rfl, hu, hv, huv, bU, bV, hbx⟩ := hcut
    have bm1 := bm0.belowAll hbx; have br1 := br0.belowAll hbx; have hg1 := hg0.below hbx
    have hbw1 := bStep hb0 hbx
    have cg := hg1.2.2
    have lU := bU.lt; have lV := bV.lt
    clear bm0 bx0 br0 hg0 hb0 cm cx hA hG hA1 hG1
    go_wp2
    go_loopw [] (fun wr => ∃ u v p q : Nat, InvI m x u v p q ∧ Blk wr 154 bu (fun i => limb i u) ∧ Blk wr 154 bv (fun i => limb i v) ∧ Blk wr 154 wc.heap.size (fun i => limb i p) ∧ Blk wr 154 (wc.heap.size + 1) (fun i => limb i q) ∧ Blk wr 154 w.heap.size (fun i => limb i m) ∧ Blk wr 154 (w.heap.size + 1 + 1) (fun _ => 0) ∧ Below w.heap.size w wr) (fun wr => numAt wr bu + numAt wr bv)
    case atStart =>
      refine ⟨x, m, 1, 0, hI.out, (bU.alloc _).alloc _, (bV.alloc _).alloc _, (Blk.new wc _ (fun i => limb i 1)).alloc _, ?_, (bm1.alloc _).alloc _, (br1.alloc _).alloc _, bAlloc (bAlloc hbw1 _) _⟩
      exact (Blk.newAt _ _ _ (fun _ => 0) (by simp)).congr (fun i _ => limbz i)
    case round =>
      obtain ⟨u, v, p, q, hinv, bU2, bV2, bP2, bQ2, bM2, bR2, hbr⟩ := hrel
      have lu : u < 115792089237316195423570985008687907853269984665640564039457584007913129639936 := by have := hinv.2.2.2.2.2.2.1; omega
      have lv : v < 115792089237316195423570985008687907853269984665640564039457584007913129639936 := by have := hinv.2.2.2.2.2.2.2; omega
      have lp : p < m := hinv.2.2.2.2.1
      have lq : q < m := hinv.2.2.2.2.2.1
      have lbr := bR2.lt
      have cU := bU2.cell
      by_cases h0 : u = 0
      · subst h0
        have hend := invI_end m x v p q hinv h1
        have hq0 := fun w => neqS0 0 (by decide) w
        rw [show (decide ((0 : Nat) = 0)) = true from by decide] at hq0
        have HE := (show Hid _ from hend)
        have cQ := bQ2.cell; have cr := bR2.cell; have fr := bR2.frozen
        clear hend hinv
        go_wp2
        refine bodyPost_ret (v := .agg #[.int .u64 ((limb 0 (q) : Nat) : Int), .int .u64 ((limb 1 (q) : Nat) : Int), .int .u64 ((limb 2 (q) : Nat) : Int), .int .u64 ((limb 3 (q) : Nat) : Int)]) (by simp [results, Tryz.results130, go_sem, cr]) rfl ⟨q, lq, HE.out, rfl, ?_⟩
        repeat (first | with_reducible exact hbr | with_reducible refine Below.setCell ?_ (by first | omega | (simp; omega) | simp) _)
      · have hq0 := fun w => neqS0 u lu w
        rw [show decide (u = 0) = false from by simp [h0]] at hq0
        have hl : limb 0 u % 2 = u % 2 := by rw [limb0]; omega
        have nUM : bu ≠ w.heap.size := by omega
        have nVM : bv ≠ w.heap.size := by omega
        have nUR : bu ≠ w.heap.size + 1 + 1 := by omega
        have nVR : bv ≠ w.heap.size + 1 + 1 := by omega
        have nUP : bu ≠ wc.heap.size := by omega
        have nUQ : bu ≠ wc.heap.size + 1 := by omega
        have nVP : bv ≠ wc.heap.size := by omega
        have nVQ : bv ≠ wc.heap.size + 1 := by omega
        have zc : w0.heap.size ≤ wc.heap.size := hbx.size
        have nPM : wc.heap.size ≠ w.heap.size := by omega
        have nPR : wc.heap.size ≠ w.heap.size + 1 + 1 := by omega
        have lU2 := bU2.lt; have lV2 := bV2.lt; have lP2 := bP2.lt; have lQ2 := bQ2.lt; have lM2 := bM2.lt
        have cP := bP2.cell; have cM := bM2.cell; have cV := bV2.cell; have cQ := bQ2.cell; have fU := bU2.frozen; have fP := bP2.frozen; have fV := bV2.frozen; have fQ := bQ2.frozen
        have mU := numAt_eq bU2 lu; have mV := numAt_eq bV2 lv
        have MU := (show Hid _ from mU); have MV := (show Hid _ from mV)
        clear mU mV
        by_cases he : u % 2 = 0
        · have hb : (((limb 0 u : Nat) : Int) % 2) = 0 := by omega
          have hn := invI_half HO.out hinv he
          have HN := (show Hid _ from hn)
          have sU : w.heap.size ≤ bu := by omega
          have sP : w.heap.size ≤ wc.heap.size := by omega
          have NN := (show Hid _ from (And.intro nUM (And.intro nVM (And.intro nUR (And.intro nVR (And.intro nUQ (And.intro nVP (And.intro nVQ (And.intro nPM (And.intro nPR (And.intro lU2 (And.intro lV2 (And.intro lP2 (And.intro lQ2 (And.intro lM2 (And.intro lr (And.intro lU (And.intro lV (And.intro lm (And.intro lx (And.intro hu (And.intro hv (And.intro zc (And.intro lbr (And.intro h0 lv)))))))))))))))))))))))))
          clear hinv he hl hn fU fP fV fQ
          have dU0 : wr.cell? ⟨bu, 0, none⟩ = some (.int .u64 ((limb 0 u : Nat) : Int)) := cU 0 (by decide)
          have dU1 : wr.cell? ⟨bu, 1, none⟩ = some (.int .u64 ((limb 1 u : Nat) : Int)) := cU 1 (by decide)
          have dU2 : wr.cell? ⟨bu, 2, none⟩ = some (.int .u64 ((limb 2 u : Nat) : Int)) := cU 2 (by decide)
          have dU3 : wr.cell? ⟨bu, 3, none⟩ = some (.int .u64 ((limb 3 u : Nat) : Int)) := cU 3 (by decide)
          have dP0 : wr.cell? ⟨wc.heap.size, 0, none⟩ = some (.int .u64 ((limb 0 p : Nat) : Int)) := cP 0 (by decide)
          have dP1 : wr.cell? ⟨wc.heap.size, 1, none⟩ = some (.int .u64 ((limb 1 p : Nat) : Int)) := cP 1 (by decide)
          have dP2 : wr.cell? ⟨wc.heap.size, 2, none⟩ = some (.int .u64 ((limb 2 p : Nat) : Int)) := cP 2 (by decide)
          have dP3 : wr.cell? ⟨wc.heap.size, 3, none⟩ = some (.int .u64 ((limb 3 p : Nat) : Int)) := cP 3 (by decide)
          have dM0 : wr.cell? ⟨w.heap.size, 0, none⟩ = some (.int .u64 ((limb 0 m : Nat) : Int)) := cM 0 (by decide)
          have dM1 : wr.cell? ⟨w.heap.size, 1, none⟩ = some (.int .u64 ((limb 1 m : Nat) : Int)) := cM 1 (by decide)
          have dM2 : wr.cell? ⟨w.heap.size, 2, none⟩ = some (.int .u64 ((limb 2 m : Nat) : Int)) := cM 2 (by decide)
          have dM3 : wr.cell? ⟨w.heap.size, 3, none⟩ = some (.int .u64 ((limb 3 m : Nat) : Int)) := cM 3 (by decide)
          go_wp2_with fail
          clear cU cP cM cV cQ hq0 hb cg nUM nVM nUR nVR nUQ nVP nVQ nPM nPR lU2 lV2 lP2 lQ2 lM2 lr lU lV lm lx hu hv zc lbr h0 lv
          go_region_with (first | (go_at_call 159; with_reducible refine (shiftDown1_any u lu _).mono ?_; rintro e w1 ⟨rfl, hb1⟩; have bU3 := bU2.drew.belowAll hb1; have bP3 := bP2.drew.belowAll hb1; have bM3 := bM2.drew.belowAll hb1; have eP0 := bP3.cell 0 (by decide); have eP1 := bP3.cell 1 (by decide); have eP2 := bP3.cell 2 (by decide); have eP3 := bP3.cell 3 (by decide); have eM0 := bM3.cell 0 (by decide); have eM1 := bM3.cell 1 (by decide); have eM2 := bM3.cell 2 (by decide); have eM3 := bM3.cell 3 (by decide)) | (go_at_call 162; with_reducible refine (half_any m p hm lp _).mono ?_; rintro e w2 ⟨rfl, hb2⟩; have bU4 := bU3.belowAll hb2; have bP4 := bP3.belowAll hb2; have gU0 := bU4.cell 0 (by decide); have gU1 := bU4.cell 1 (by decide); have gU2 := bU4.cell 2 (by decide); have gU3 := bU4.cell 3 (by decide); have gP0 := bP4.cell 0 (by decide); have gP1 := bP4.cell 1 (by decide); have gP2 := bP4.cell 2 (by decide); have gP3 := bP4.cell 3 (by decide); have fU4 := bU4.frozen; have fP4 := bP4.frozen) | fail)
          all_goals
            obtain ⟨nUM, nVM, nUR, nVR, nUQ, nVP, nVQ, nPM, nPR, lU2, lV2, lP2, lQ2, lM2, lr, lU, lV, lm, lx, hu, hv, zc, lbr, h0, lv⟩ := NN.out
            have bV4 := (bV2.drew.belowAll hb1).belowAll hb2
            have bQ4 := (bQ2.drew.belowAll hb1).belowAll hb2
            have bM4 := (bM2.drew.belowAll hb1).belowAll hb2
            have bR4 := (bR2.drew.belowAll hb1).belowAll hb2
            have hbw4 := bStep (bStep hbr.drew hb1) hb2
            have bU5 := (bU4.set4 (fun i => limb i (u / 2))).other4 nUP (.int .u64 ((limb 0 (halfN m p) : Nat) : Int)) (.int .u64 ((limb 1 (halfN m p) : Nat) : Int)) (.int .u64 ((limb 2 (halfN m p) : Nat) : Int)) (.int .u64 ((limb 3 (halfN m p) : Nat) : Int))
            have bV5 := (bV4.other4 huv.symm (.int .u64 ((limb 0 (u / 2) : Nat) : Int)) (.int .u64 ((limb 1 (u / 2) : Nat) : Int)) (.int .u64 ((limb 2 (u / 2) : Nat) : Int)) (.int .u64 ((limb 3 (u / 2) : Nat) : Int))).other4 nVP (.int .u64 ((limb 0 (halfN m p) : Nat) : Int)) (.int .u64 ((limb 1 (halfN m p) : Nat) : Int)) (.int .u64 ((limb 2 (halfN m p) : Nat) : Int)) (.int .u64 ((limb 3 (halfN m p) : Nat) : Int))
            have mU5 := numAt_eq bU5 (show u / 2 < 115792089237316195423570985008687907853269984665640564039457584007913129639936 by omega); have mV5 := numAt_eq bV5 lv
            go_wp2
            go_roundw
            case measure => rw [mU5, mV5, MU.out, MV.out]; omega
            case rel =>
              exact ⟨u / 2, v, halfN m p, q, HN.out, bU5, bV5, (bP4.other4 nUP.symm _ _ _ _).set4 (fun i => limb i (halfN m p)), (bQ4.other4 nUQ.symm _ _ _ _).other4 (by omega) _ _ _ _, (bM4.other4 nUM.symm _ _ _ _).other4 nPM.symm _ _ _ _, (bR4.other4 nUR.symm _ _ _ _).other4 nPR.symm _ _ _ _, bSet4 (bSet4 hbw4 sU _ _ _ _) sP _ _ _ _⟩
        · have hb : (((limb 0 u : Nat) : Int) % 2) = 1 := by omega
          have hodd : u % 2 = 1 := by omega
          clear he hl
          have hvodd : Hid (v % 2 = 1) := hinv.2.2.1
          have HI2 := (show Hid _ from hinv)
          clear hinv
          go_wp2_with fail
          refine (isBelow_any u v lu lv _).mono ?_
          rintro e w1 ⟨rfl, hb1⟩
          have bU1 := bU2.belowAll hb1; have bV1 := bV2.belowAll hb1; have bP1 := bP2.belowAll hb1; have bQ1 := bQ2.belowAll hb1; have bM1 := bM2.belowAll hb1; have bR1 := bR2.belowAll hb1
          have hbw1b := bStep hbr hb1
          clear bU2 bV2 bP2 bQ2 bM2 bR2 hb1 cU cP cM cV cQ fU fP fV fQ hb hq0
          have cU := bU1.cell; have cV := bV1.cell; have cP := bP1.cell; have cQ := bQ1.cell; have cM := bM1.cell
          by_cases hlt : u < v
          · rw [show below256 u v = true from by simp [below256, hlt]]
            have fU := bU1.frozen; have fP := bP1.frozen; have fV := bV1.frozen; have fQ := bQ1.frozen
            have dU0 : w1.cell? ⟨bu, 0, none⟩ = some (.int .u64 ((limb 0 u : Nat) : Int)) := cU 0 (by decide)
            have dU1 : w1.cell? ⟨bu, 1, none⟩ = some (.int .u64 ((limb 1 u : Nat) : Int)) := cU 1 (by decide)
            have dU2 : w1.cell? ⟨bu, 2, none⟩ = some (.int .u64 ((limb 2 u : Nat) : Int)) := cU 2 (by decide)
            have dU3 : w1.cell? ⟨bu, 3, none⟩ = some (.int .u64 ((limb 3 u : Nat) : Int)) := cU 3 (by decide)
            have dV0 : w1.cell? ⟨bv, 0, none⟩ = some (.int .u64 ((limb 0 v : Nat) : Int)) := cV 0 (by decide)
            have dV1 : w1.cell? ⟨bv, 1, none⟩ = some (.int .u64 ((limb 1 v : Nat) : Int)) := cV 1 (by decide)
            have dV2 : w1.cell? ⟨bv, 2, none⟩ = some (.int .u64 ((limb 2 v : Nat) : Int)) := cV 2 (by decide)
            have dV3 : w1.cell? ⟨bv, 3, none⟩ = some (.int .u64 ((limb 3 v : Nat) : Int)) := cV 3 (by decide)
            have dP0 : w1.cell? ⟨wc.heap.size, 0, none⟩ = some (.int .u64 ((limb 0 p : Nat) : Int)) := cP 0 (by decide)
            have dP1 : w1.cell? ⟨wc.heap.size, 1, none⟩ = some (.int .u64 ((limb 1 p : Nat) : Int)) := cP 1 (by decide)
            have dP2 : w1.cell? ⟨wc.heap.size, 2, none⟩ = some (.int .u64 ((limb 2 p : Nat) : Int)) := cP 2 (by decide)
            have dP3 : w1.cell? ⟨wc.heap.size, 3, none⟩ = some (.int .u64 ((limb 3 p : Nat) : Int)) := cP 3 (by decide)
            have dQ0 : w1.cell? ⟨(wc.heap.size + 1), 0, none⟩ = some (.int .u64 ((limb 0 q : Nat) : Int)) := cQ 0 (by decide)
            have dQ1 : w1.cell? ⟨(wc.heap.size + 1), 1, none⟩ = some (.int .u64 ((limb 1 q : Nat) : Int)) := cQ 1 (by decide)
            have dQ2 : w1.cell? ⟨(wc.heap.size + 1), 2, none⟩ = some (.int .u64 ((limb 2 q : Nat) : Int)) := cQ 2 (by decide)
            have dQ3 : w1.cell? ⟨(wc.heap.size + 1), 3, none⟩ = some (.int .u64 ((limb 3 q : Nat) : Int)) := cQ 3 (by decide)
            have NN := (show Hid _ from (And.intro nUM (And.intro nVM (And.intro nUR (And.intro nVR (And.intro nPM (And.intro nPR (And.intro hlt (And.intro hodd (And.intro lU2 (And.intro lV2 (And.intro lP2 (And.intro lQ2 (And.intro lM2 (And.intro lbr (And.intro lr (And.intro lU (And.intro lV (And.intro lm (And.intro lx (And.intro hu (And.intro hv (And.intro zc (And.intro lu (And.intro lv (And.intro lp (And.intro lq (And.intro hx (And.intro h1 (And.intro hm h0))))))))))))))))))))))))))))))
            clear cU cV cP cQ cM
            go_wp2_with fail
            clear nUM nVM nUR nVR nPM nPR hlt hodd lU2 lV2 lP2 lQ2 lM2 lbr lr lU lV lm lx hu hv zc lu lv lp lq hx h1 hm h0 cg
            go_region
            obtain ⟨nUM, nVM, nUR, nVR, nPM, nPR, hlt, hodd, lU2, lV2, lP2, lQ2, lM2, lbr, lr, lU, lV, lm, lx, hu, hv, zc, lu, lv, lp, lq, hx, h1, hm, h0⟩ := NN.out
            obtain ⟨w7, hw7⟩ : ∃ w7 : World, w7 = ((((((((((((((((w1.setCell ⟨bu, 0, none⟩ (.int .u64 ((limb 0 (v) : Nat) : Int))).setCell ⟨bu, 1, none⟩ (.int .u64 ((limb 1 (v) : Nat) : Int))).setCell ⟨bu, 2, none⟩ (.int .u64 ((limb 2 (v) : Nat) : Int))).setCell ⟨bu, 3, none⟩ (.int .u64 ((limb 3 (v) : Nat) : Int))).setCell ⟨bv, 0, none⟩ (.int .u64 ((limb 0 (u) : Nat) : Int))).setCell ⟨bv, 1, none⟩ (.int .u64 ((limb 1 (u) : Nat) : Int))).setCell ⟨bv, 2, none⟩ (.int .u64 ((limb 2 (u) : Nat) : Int))).setCell ⟨bv, 3, none⟩ (.int .u64 ((limb 3 (u) : Nat) : Int))).setCell ⟨wc.heap.size, 0, none⟩ (.int .u64 ((limb 0 (q) : Nat) : Int))).setCell ⟨wc.heap.size, 1, none⟩ (.int .u64 ((limb 1 (q) : Nat) : Int))).setCell ⟨wc.heap.size, 2, none⟩ (.int .u64 ((limb 2 (q) : Nat) : Int))).setCell ⟨wc.heap.size, 3, none⟩ (.int .u64 ((limb 3 (q) : Nat) : Int))).setCell ⟨wc.heap.size + 1, 0, none⟩ (.int .u64 ((limb 0 (p) : Nat) : Int))).setCell ⟨wc.heap.size + 1, 1, none⟩ (.int .u64 ((limb 1 (p) : Nat) : Int))).setCell ⟨wc.heap.size + 1, 2, none⟩ (.int .u64 ((limb 2 (p) : Nat) : Int))).setCell ⟨wc.heap.size + 1, 3, none⟩ (.int .u64 ((limb 3 (p) : Nat) : Int))).drew := ⟨_, rfl⟩
            rw [← hw7]
            have bU7 : Blk w7 154 bu (fun i => limb i v) := by rw [hw7]; exact ((((bU1.set4 (fun i => limb i v)).other4 huv (.int .u64 ((limb 0 (u) : Nat) : Int)) (.int .u64 ((limb 1 (u) : Nat) : Int)) (.int .u64 ((limb 2 (u) : Nat) : Int)) (.int .u64 ((limb 3 (u) : Nat) : Int))).other4 nUP (.int .u64 ((limb 0 (q) : Nat) : Int)) (.int .u64 ((limb 1 (q) : Nat) : Int)) (.int .u64 ((limb 2 (q) : Nat) : Int)) (.int .u64 ((limb 3 (q) : Nat) : Int))).other4 nUQ (.int .u64 ((limb 0 (p) : Nat) : Int)) (.int .u64 ((limb 1 (p) : Nat) : Int)) (.int .u64 ((limb 2 (p) : Nat) : Int)) (.int .u64 ((limb 3 (p) : Nat) : Int))).drew
            have bV7 : Blk w7 154 bv (fun i => limb i u) := by rw [hw7]; exact (((((bV1).other4 huv.symm (.int .u64 ((limb 0 (v) : Nat) : Int)) (.int .u64 ((limb 1 (v) : Nat) : Int)) (.int .u64 ((limb 2 (v) : Nat) : Int)) (.int .u64 ((limb 3 (v) : Nat) : Int))).set4 (fun i => limb i u)).other4 nVP (.int .u64 ((limb 0 (q) : Nat) : Int)) (.int .u64 ((limb 1 (q) : Nat) : Int)) (.int .u64 ((limb 2 (q) : Nat) : Int)) (.int .u64 ((limb 3 (q) : Nat) : Int))).other4 nVQ (.int .u64 ((limb 0 (p) : Nat) : Int)) (.int .u64 ((limb 1 (p) : Nat) : Int)) (.int .u64 ((limb 2 (p) : Nat) : Int)) (.int .u64 ((limb 3 (p) : Nat) : Int))).drew
            have bP7 : Blk w7 154 wc.heap.size (fun i => limb i q) := by rw [hw7]; exact (((((bP1).other4 nUP.symm (.int .u64 ((limb 0 (v) : Nat) : Int)) (.int .u64 ((limb 1 (v) : Nat) : Int)) (.int .u64 ((limb 2 (v) : Nat) : Int)) (.int .u64 ((limb 3 (v) : Nat) : Int))).other4 nVP.symm (.int .u64 ((limb 0 (u) : Nat) : Int)) (.int .u64 ((limb 1 (u) : Nat) : Int)) (.int .u64 ((limb 2 (u) : Nat) : Int)) (.int .u64 ((limb 3 (u) : Nat) : Int))).set4 (fun i => limb i q)).other4 (by omega) (.int .u64 ((limb 0 (p) : Nat) : Int)) (.int .u64 ((limb 1 (p) : Nat) : Int)) (.int .u64 ((limb 2 (p) : Nat) : Int)) (.int .u64 ((limb 3 (p) : Nat) : Int))).drew
            have bQ7 : Blk w7 154 (wc.heap.size + 1) (fun i => limb i p) := by rw [hw7]; exact (((((bQ1).other4 nUQ.symm (.int .u64 ((limb 0 (v) : Nat) : Int)) (.int .u64 ((limb 1 (v) : Nat) : Int)) (.int .u64 ((limb 2 (v) : Nat) : Int)) (.int .u64 ((limb 3 (v) : Nat) : Int))).other4 nVQ.symm (.int .u64 ((limb 0 (u) : Nat) : Int)) (.int .u64 ((limb 1 (u) : Nat) : Int)) (.int .u64 ((limb 2 (u) : Nat) : Int)) (.int .u64 ((limb 3 (u) : Nat) : Int))).other4 (by omega) (.int .u64 ((limb 0 (q) : Nat) : Int)) (.int .u64 ((limb 1 (q) : Nat) : Int)) (.int .u64 ((limb 2 (q) : Nat) : Int)) (.int .u64 ((limb 3 (q) : Nat) : Int))).set4 (fun i => limb i p)).drew
            have bM7 : Blk w7 154 w.heap.size (fun i => limb i m) := by rw [hw7]; exact (((((bM1).other4 nUM.symm (.int .u64 ((limb 0 (v) : Nat) : Int)) (.int .u64 ((limb 1 (v) : Nat) : Int)) (.int .u64 ((limb 2 (v) : Nat) : Int)) (.int .u64 ((limb 3 (v) : Nat) : Int))).other4 nVM.symm (.int .u64 ((limb 0 (u) : Nat) : Int)) (.int .u64 ((limb 1 (u) : Nat) : Int)) (.int .u64 ((limb 2 (u) : Nat) : Int)) (.int .u64 ((limb 3 (u) : Nat) : Int))).other4 nPM.symm (.int .u64 ((limb 0 (q) : Nat) : Int)) (.int .u64 ((limb 1 (q) : Nat) : Int)) (.int .u64 ((limb 2 (q) : Nat) : Int)) (.int .u64 ((limb 3 (q) : Nat) : Int))).other4 (by omega) (.int .u64 ((limb 0 (p) : Nat) : Int)) (.int .u64 ((limb 1 (p) : Nat) : Int)) (.int .u64 ((limb 2 (p) : Nat) : Int)) (.int .u64 ((limb 3 (p) : Nat) : Int))).drew
            have bR7 : Blk w7 154 (w.heap.size + 1 + 1) (fun _ => 0) := by rw [hw7]; exact (((((bR1).other4 nUR.symm (.int .u64 ((limb 0 (v) : Nat) : Int)) (.int .u64 ((limb 1 (v) : Nat) : Int)) (.int .u64 ((limb 2 (v) : Nat) : Int)) (.int .u64 ((limb 3 (v) : Nat) : Int))).other4 nVR.symm (.int .u64 ((limb 0 (u) : Nat) : Int)) (.int .u64 ((limb 1 (u) : Nat) : Int)) (.int .u64 ((limb 2 (u) : Nat) : Int)) (.int .u64 ((limb 3 (u) : Nat) : Int))).other4 nPR.symm (.int .u64 ((limb 0 (q) : Nat) : Int)) (.int .u64 ((limb 1 (q) : Nat) : Int)) (.int .u64 ((limb 2 (q) : Nat) : Int)) (.int .u64 ((limb 3 (q) : Nat) : Int))).other4 (by omega) (.int .u64 ((limb 0 (p) : Nat) : Int)) (.int .u64 ((limb 1 (p) : Nat) : Int)) (.int .u64 ((limb 2 (p) : Nat) : Int)) (.int .u64 ((limb 3 (p) : Nat) : Int))).drew
            have hbw7 : Below w.heap.size w w7 := by rw [hw7]; exact (bSet4 (bSet4 (bSet4 (bSet4 hbw1b (by omega) _ _ _ _) (by omega) _ _ _ _) (by omega) _ _ _ _) (by omega) _ _ _ _).drew
            clear hw7 bU1 bV1 bP1 bQ1 bM1 bR1 hbw1b fU fP fV fQ dU0 dU1 dU2 dU3 dV0 dV1 dV2 dV3 dP0 dP1 dP2 dP3 dQ0 dQ1 dQ2 dQ3
            have cU := bU7.cell; have cV := bV7.cell
            go_wp2_with fail
            refine (fminus_any v u lv lu _).mono ?_
            rintro e w8 ⟨rfl, hb8⟩
            have bU8 := bU7.belowAll hb8
            have bV8 := bV7.belowAll hb8
            have bP8 := bP7.belowAll hb8
            have bQ8 := bQ7.belowAll hb8
            have bM8 := bM7.belowAll hb8
            have bR8 := bR7.belowAll hb8
            have hbw8 := bStep hbw7 hb8
            have cM8 := bM8.cell; have cP8 := bP8.cell; have cQ8 := bQ8.cell; have cU8 := bU8.cell; have fU8 := bU8.frozen
            go_wp2_with fail
            refine (difference_any m q p (by omega) (by omega) (by omega) (by omega) _).mono ?_
            rintro e w9 ⟨rfl, hb9⟩
            have bU9 := (bU8.set4 (fun i => limb i (sub256 v u))).belowAll hb9
            have bV9 := (bV8.other4 huv.symm _ _ _ _).belowAll hb9
            have bP9 := (bP8.other4 nUP.symm _ _ _ _).belowAll hb9
            have bQ9 := (bQ8.other4 nUQ.symm _ _ _ _).belowAll hb9
            have bM9 := (bM8.other4 nUM.symm _ _ _ _).belowAll hb9
            have bR9 := (bR8.other4 nUR.symm _ _ _ _).belowAll hb9
            have hbw9 := bStep (bSet4 hbw8 (by omega) _ _ _ _) hb9
            have cP9 := bP9.cell; have fP9 := bP9.frozen
            clear bU8 bV8 bP8 bQ8 bM8 bR8 cM8 cP8 cQ8 cU8 fU8 hb8
            have bU10 := bU9.other4 nUP (.int .u64 ((limb 0 (diffN m q p) : Nat) : Int)) (.int .u64 ((limb 1 (diffN m q p) : Nat) : Int)) (.int .u64 ((limb 2 (diffN m q p) : Nat) : Int)) (.int .u64 ((limb 3 (diffN m q p) : Nat) : Int))
            have bV10 := bV9.other4 nVP (.int .u64 ((limb 0 (diffN m q p) : Nat) : Int)) (.int .u64 ((limb 1 (diffN m q p) : Nat) : Int)) (.int .u64 ((limb 2 (diffN m q p) : Nat) : Int)) (.int .u64 ((limb 3 (diffN m q p) : Nat) : Int))
            have mU10 := numAt_eq bU10 (sub256_lt _ _); have mV10 := numAt_eq bV10 lu
            have hsub : sub256 v u = v - u := sub256_ge v u lv (by omega)
            have MU2 := (show Hid _ from mU10); have MV2 := (show Hid _ from mV10); have HS := (show Hid _ from hsub)
            clear mU10 mV10 hsub
            go_wp2
            go_roundw
            case measure =>
              rw [MU2.out, MV2.out, MU.out, MV.out, HS.out]
              have := hvodd.out
              omega
            case rel =>
              refine ⟨sub256 v u, u, diffN m q p, p, ?_, bU10, bV10, bP9.set4 (fun i => limb i (diffN m q p)), bQ9.other4 (by omega) _ _ _ _, bM9.other4 nPM.symm _ _ _ _, bR9.other4 nPR.symm _ _ _ _, bSet4 hbw9 (by omega) _ _ _ _⟩
              rw [HS.out]
              exact invI_keep (invI_swap HI2.out hodd) (by omega)
          · rw [show below256 u v = false from by simp [below256]; omega]
            go_wp2_with fail
            refine (fminus_any u v lu lv _).mono ?_
            rintro e w8 ⟨rfl, hb8⟩
            have bU8 := (bU1).belowAll hb8
            have bV8 := (bV1).belowAll hb8
            have bP8 := (bP1).belowAll hb8
            have bQ8 := (bQ1).belowAll hb8
            have bM8 := (bM1).belowAll hb8
            have bR8 := (bR1).belowAll hb8
            have hbw8 := bStep (hbw1b) hb8
            have cM8 := bM8.cell; have cP8 := bP8.cell; have cQ8 := bQ8.cell; have cU8 := bU8.cell; have fU8 := bU8.frozen
            go_wp2_with fail
            refine (difference_any m p q (by omega) (by omega) (by omega) (by omega) _).mono ?_
            rintro e w9 ⟨rfl, hb9⟩
            have bU9 := (bU8.set4 (fun i => limb i (sub256 u v))).belowAll hb9
            have bV9 := (bV8.other4 huv.symm _ _ _ _).belowAll hb9
            have bP9 := (bP8.other4 nUP.symm _ _ _ _).belowAll hb9
            have bQ9 := (bQ8.other4 nUQ.symm _ _ _ _).belowAll hb9
            have bM9 := (bM8.other4 nUM.symm _ _ _ _).belowAll hb9
            have bR9 := (bR8.other4 nUR.symm _ _ _ _).belowAll hb9
            have hbw9 := bStep (bSet4 hbw8 (by omega) _ _ _ _) hb9
            have cP9 := bP9.cell; have fP9 := bP9.frozen
            clear bU8 bV8 bP8 bQ8 bM8 bR8 cM8 cP8 cQ8 cU8 fU8 hb8
            have bU10 := bU9.other4 nUP (.int .u64 ((limb 0 (diffN m p q) : Nat) : Int)) (.int .u64 ((limb 1 (diffN m p q) : Nat) : Int)) (.int .u64 ((limb 2 (diffN m p q) : Nat) : Int)) (.int .u64 ((limb 3 (diffN m p q) : Nat) : Int))
            have bV10 := bV9.other4 nVP (.int .u64 ((limb 0 (diffN m p q) : Nat) : Int)) (.int .u64 ((limb 1 (diffN m p q) : Nat) : Int)) (.int .u64 ((limb 2 (diffN m p q) : Nat) : Int)) (.int .u64 ((limb 3 (diffN m p q) : Nat) : Int))
            have mU10 := numAt_eq bU10 (sub256_lt _ _); have mV10 := numAt_eq bV10 lv
            have hsub : sub256 u v = u - v := sub256_ge u v lu (by omega)
            have MU2 := (show Hid _ from mU10); have MV2 := (show Hid _ from mV10); have HS := (show Hid _ from hsub)
            clear mU10 mV10 hsub
            go_wp2
            go_roundw
            case measure =>
              rw [MU2.out, MV2.out, MU.out, MV.out, HS.out]
              have := hvodd.out
              omega
            case rel =>
              refine ⟨sub256 u v, v, diffN m p q, q, ?_, bU10, bV10, bP9.set4 (fun i => limb i (diffN m p q)), bQ9.other4 (by omega) _ _ _ _, bM9.other4 nPM.symm _ _ _ _, bR9.other4 nPR.symm _ _ _ _, bSet4 hbw9 (by omega) _ _ _ _⟩
              rw [HS.out]
              exact invI_keep HI2.out (by omega)
end Go.Proofs.YtfbfenljfdnggaaGreatDoor
