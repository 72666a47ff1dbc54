/- PolyLaws: the walk. -/
import Derived.Test.YtfjdnlcfhgamfaaDoorPM2
namespace Go.Proofs.YtfjdnlcfhgamfaaDoor
open Go.RowKit

set_option maxHeartbeats 16000000 in
set_option maxRecDepth 40000 in
theorem plaws_z (s : Nat) (oa ob oc : Option Addr) (n cn m cm l cl x y1 y2 y3 K1 K2 K3 K4 K5 : Nat) (f g h F1 F2 F3 F4 F5 : Nat → Nat) (hs : s < 4) (hn : n ≤ 60) (hm : m ≤ 60) (hl : l ≤ 60) (hy : y1 < 115792089237316195423570985008687907853269984665640564039457584007913129639936) (hK : K4 ≤ 1000 ∧ K5 ≤ 1000) (hF4 : ∀ i, i < K4 → F4 i < 115792089237316195423570985008687907853269984665640564039457584007913129639936) (hF5 : ∀ i, i < K5 → F5 i < 115792089237316195423570985008687907853269984665640564039457584007913129639936)
    (HM10 : ∀ w v u, Glob w → Es w v n f → Es w u m g → Calls Tryd.prog 22 #[.int .i64 (s : Int), v, u] w fun e w' => (∃ r, e = .returned (.tuple #[r, .int .i64 0]) ∧ Es w' r K1 F1) ∧ Below w.heap.size w w')
    (HM20 : ∀ w v u, Glob w → Es w v n f → Es w u l h → Calls Tryd.prog 22 #[.int .i64 (s : Int), v, u] w fun e w' => (∃ r, e = .returned (.tuple #[r, .int .i64 0]) ∧ Es w' r K2 F2) ∧ Below w.heap.size w w')
    (HA10 : ∀ w v u, Glob w → Es w v m g → Es w u l h → Calls Tryd.prog 16 #[.int .i64 (s : Int), v, u] w fun e w' => (∃ r, e = .returned r ∧ Es w' r K3 F3) ∧ Below w.heap.size w w')
    (HM30 : ∀ w v u, Glob w → Es w v n f → Es w u K3 F3 → Calls Tryd.prog 22 #[.int .i64 (s : Int), v, u] w fun e w' => (∃ r, e = .returned (.tuple #[r, .int .i64 0]) ∧ Es w' r K4 F4) ∧ Below w.heap.size w w')
    (HA20 : ∀ w v u, Glob w → Es w v K1 F1 → Es w u K2 F2 → Calls Tryd.prog 16 #[.int .i64 (s : Int), v, u] w fun e w' => (∃ r, e = .returned r ∧ Es w' r K4 F4) ∧ Below w.heap.size w w')
    (HE10 : ∀ w v, Glob w → Es w v K1 F1 → Calls Tryd.prog 20 #[.int .i64 (s : Int), v, .agg #[.int .u64 ((limb 0 (x) : Nat) : Int), .int .u64 ((limb 1 (x) : Nat) : Int), .int .u64 ((limb 2 (x) : Nat) : Int), .int .u64 ((limb 3 (x) : Nat) : Int)]] w fun e w' => e = .returned (.agg #[.int .u64 ((limb 0 (y1) : Nat) : Int), .int .u64 ((limb 1 (y1) : Nat) : Int), .int .u64 ((limb 2 (y1) : Nat) : Int), .int .u64 ((limb 3 (y1) : Nat) : Int)]) ∧ Below w.heap.size w w')
    (HE20 : ∀ w v, Glob w → Es w v n f → Calls Tryd.prog 20 #[.int .i64 (s : Int), v, .agg #[.int .u64 ((limb 0 (x) : Nat) : Int), .int .u64 ((limb 1 (x) : Nat) : Int), .int .u64 ((limb 2 (x) : Nat) : Int), .int .u64 ((limb 3 (x) : Nat) : Int)]] w fun e w' => e = .returned (.agg #[.int .u64 ((limb 0 (y2) : Nat) : Int), .int .u64 ((limb 1 (y2) : Nat) : Int), .int .u64 ((limb 2 (y2) : Nat) : Int), .int .u64 ((limb 3 (y2) : Nat) : Int)]) ∧ Below w.heap.size w w')
    (HE30 : ∀ w v, Glob w → Es w v m g → Calls Tryd.prog 20 #[.int .i64 (s : Int), v, .agg #[.int .u64 ((limb 0 (x) : Nat) : Int), .int .u64 ((limb 1 (x) : Nat) : Int), .int .u64 ((limb 2 (x) : Nat) : Int), .int .u64 ((limb 3 (x) : Nat) : Int)]] w fun e w' => e = .returned (.agg #[.int .u64 ((limb 0 (y3) : Nat) : Int), .int .u64 ((limb 1 (y3) : Nat) : Int), .int .u64 ((limb 2 (y3) : Nat) : Int), .int .u64 ((limb 3 (y3) : Nat) : Int)]) ∧ Below w.heap.size w w')
    (HMU0 : ∀ w, Glob w → Calls Tryd.prog 30 #[.int .i64 (s : Int), .agg #[.int .u64 ((limb 0 (y2) : Nat) : Int), .int .u64 ((limb 1 (y2) : Nat) : Int), .int .u64 ((limb 2 (y2) : Nat) : Int), .int .u64 ((limb 3 (y2) : Nat) : Int)], .agg #[.int .u64 ((limb 0 (y3) : Nat) : Int), .int .u64 ((limb 1 (y3) : Nat) : Int), .int .u64 ((limb 2 (y3) : Nat) : Int), .int .u64 ((limb 3 (y3) : Nat) : Int)]] w fun e w' => e = .returned (.agg #[.int .u64 ((limb 0 (y1) : Nat) : Int), .int .u64 ((limb 1 (y1) : Nat) : Int), .int .u64 ((limb 2 (y1) : Nat) : Int), .int .u64 ((limb 3 (y1) : Nat) : Int)]) ∧ Below w.heap.size w w')
    (HTB0 : ∀ w v, Glob w → Es w v m g → Calls Tryd.prog 14 #[.int .i64 (s : Int), v] w fun e w' => (∃ G c, e = .returned (.slice (some ⟨G, 0, none⟩) 0 c)) ∧ Below w.heap.size w w')
    (HD0 : ∀ w v u, Glob w → Es w v K1 F1 → Es w u m g → Calls Tryd.prog 24 #[.int .i64 (s : Int), v, u] w fun e w' => e = .returned (.tuple #[.slice none 0 0, .slice none 0 0, .int .i64 10]) ∧ Below w.heap.size w w')
    (w : World) (hg : Glob w) (hv : Es w (.slice oa n cn) n f) (hu : Es w (.slice ob m cm) m g) (ht : Es w (.slice oc l cl) l h) :
    Calls Tryd.prog 7 #[.int .i64 (s : Int), .slice oa n cn, .slice ob m cm, .slice oc l cl, .agg #[.int .u64 ((limb 0 (x) : Nat) : Int), .int .u64 ((limb 1 (x) : Nat) : Int), .int .u64 ((limb 2 (x) : Nat) : Int), .int .u64 ((limb 3 (x) : Nat) : Int)]] w fun e w' => e = .returned (.bool true) ∧ Below w.heap.size w w' := by
  have HM1 : Hid (∀ w v u, Glob w → Es w v n f → Es w u m g → Calls Tryd.prog 22 #[.int .i64 (s : Int), v, u] w fun e w' => (∃ r, e = .returned (.tuple #[r, .int .i64 0]) ∧ Es w' r K1 F1) ∧ Below w.heap.size w w') := HM10
  clear HM10
  have HM2 : Hid (∀ w v u, Glob w → Es w v n f → Es w u l h → Calls Tryd.prog 22 #[.int .i64 (s : Int), v, u] w fun e w' => (∃ r, e = .returned (.tuple #[r, .int .i64 0]) ∧ Es w' r K2 F2) ∧ Below w.heap.size w w') := HM20
  clear HM20
  have HA1 : Hid (∀ w v u, Glob w → Es w v m g → Es w u l h → Calls Tryd.prog 16 #[.int .i64 (s : Int), v, u] w fun e w' => (∃ r, e = .returned r ∧ Es w' r K3 F3) ∧ Below w.heap.size w w') := HA10
  clear HA10
  have HM3 : Hid (∀ w v u, Glob w → Es w v n f → Es w u K3 F3 → Calls Tryd.prog 22 #[.int .i64 (s : Int), v, u] w fun e w' => (∃ r, e = .returned (.tuple #[r, .int .i64 0]) ∧ Es w' r K4 F4) ∧ Below w.heap.size w w') := HM30
  clear HM30
  have HA2 : Hid (∀ w v u, Glob w → Es w v K1 F1 → Es w u K2 F2 → Calls Tryd.prog 16 #[.int .i64 (s : Int), v, u] w fun e w' => (∃ r, e = .returned r ∧ Es w' r K4 F4) ∧ Below w.heap.size w w') := HA20
  clear HA20
  have HE1 : Hid (∀ w v, Glob w → Es w v K1 F1 → Calls Tryd.prog 20 #[.int .i64 (s : Int), v, .agg #[.int .u64 ((limb 0 (x) : Nat) : Int), .int .u64 ((limb 1 (x) : Nat) : Int), .int .u64 ((limb 2 (x) : Nat) : Int), .int .u64 ((limb 3 (x) : Nat) : Int)]] w fun e w' => e = .returned (.agg #[.int .u64 ((limb 0 (y1) : Nat) : Int), .int .u64 ((limb 1 (y1) : Nat) : Int), .int .u64 ((limb 2 (y1) : Nat) : Int), .int .u64 ((limb 3 (y1) : Nat) : Int)]) ∧ Below w.heap.size w w') := HE10
  clear HE10
  have HE2 : Hid (∀ w v, Glob w → Es w v n f → Calls Tryd.prog 20 #[.int .i64 (s : Int), v, .agg #[.int .u64 ((limb 0 (x) : Nat) : Int), .int .u64 ((limb 1 (x) : Nat) : Int), .int .u64 ((limb 2 (x) : Nat) : Int), .int .u64 ((limb 3 (x) : Nat) : Int)]] w fun e w' => e = .returned (.agg #[.int .u64 ((limb 0 (y2) : Nat) : Int), .int .u64 ((limb 1 (y2) : Nat) : Int), .int .u64 ((limb 2 (y2) : Nat) : Int), .int .u64 ((limb 3 (y2) : Nat) : Int)]) ∧ Below w.heap.size w w') := HE20
  clear HE20
  have HE3 : Hid (∀ w v, Glob w → Es w v m g → Calls Tryd.prog 20 #[.int .i64 (s : Int), v, .agg #[.int .u64 ((limb 0 (x) : Nat) : Int), .int .u64 ((limb 1 (x) : Nat) : Int), .int .u64 ((limb 2 (x) : Nat) : Int), .int .u64 ((limb 3 (x) : Nat) : Int)]] w fun e w' => e = .returned (.agg #[.int .u64 ((limb 0 (y3) : Nat) : Int), .int .u64 ((limb 1 (y3) : Nat) : Int), .int .u64 ((limb 2 (y3) : Nat) : Int), .int .u64 ((limb 3 (y3) : Nat) : Int)]) ∧ Below w.heap.size w w') := HE30
  clear HE30
  have HMU : Hid (∀ w, Glob w → Calls Tryd.prog 30 #[.int .i64 (s : Int), .agg #[.int .u64 ((limb 0 (y2) : Nat) : Int), .int .u64 ((limb 1 (y2) : Nat) : Int), .int .u64 ((limb 2 (y2) : Nat) : Int), .int .u64 ((limb 3 (y2) : Nat) : Int)], .agg #[.int .u64 ((limb 0 (y3) : Nat) : Int), .int .u64 ((limb 1 (y3) : Nat) : Int), .int .u64 ((limb 2 (y3) : Nat) : Int), .int .u64 ((limb 3 (y3) : Nat) : Int)]] w fun e w' => e = .returned (.agg #[.int .u64 ((limb 0 (y1) : Nat) : Int), .int .u64 ((limb 1 (y1) : Nat) : Int), .int .u64 ((limb 2 (y1) : Nat) : Int), .int .u64 ((limb 3 (y1) : Nat) : Int)]) ∧ Below w.heap.size w w') := HMU0
  clear HMU0
  have HTB : Hid (∀ w v, Glob w → Es w v m g → Calls Tryd.prog 14 #[.int .i64 (s : Int), v] w fun e w' => (∃ G c, e = .returned (.slice (some ⟨G, 0, none⟩) 0 c)) ∧ Below w.heap.size w w') := HTB0
  clear HTB0
  have HD : Hid (∀ w v u, Glob w → Es w v K1 F1 → Es w u m g → Calls Tryd.prog 24 #[.int .i64 (s : Int), v, u] w fun e w' => e = .returned (.tuple #[.slice none 0 0, .slice none 0 0, .int .i64 10]) ∧ Below w.heap.size w w') := HD0
  clear HD0
  have CA : Hid (∀ w, Es w (.slice oa n cn) n f → _) := fun w h => copyE_any n _ f (by omega) w h
  have CB : Hid (∀ w, Es w (.slice ob m cm) m g → _) := fun w h => copyE_any m _ g (by omega) w h
  have CC : Hid (∀ w, Es w (.slice oc l cl) l h → _) := fun w h2 => copyE_any l _ h (by omega) w h2
  have HG : Hid (Glob w) := hg
  have HVA : Hid (Es w (.slice oa n cn) n f) := hv
  have HVB : Hid (Es w (.slice ob m cm) m g) := hu
  have HVC : Hid (Es w (.slice oc l cl) l h) := ht
  have HM4 : Hid (∀ i, i < K4 → F4 i < 115792089237316195423570985008687907853269984665640564039457584007913129639936) := hF4
  have HM5 : Hid (∀ i, i < K5 → F5 i < 115792089237316195423570985008687907853269984665640564039457584007913129639936) := hF5
  have HN : Hid (K4 ≤ 1000 ∧ K5 ≤ 1000) := hK
  have HNQ : Hid (∀ w, (binOp .neq 25 (.agg #[.int .u64 ((limb 0 (y1) : Nat) : Int), .int .u64 ((limb 1 (y1) : Nat) : Int), .int .u64 ((limb 2 (y1) : Nat) : Int), .int .u64 ((limb 3 (y1) : Nat) : Int)]) (.agg #[.int .u64 ((limb 0 (y1) : Nat) : Int), .int .u64 ((limb 1 (y1) : Nat) : Int), .int .u64 ((limb 2 (y1) : Nat) : Int), .int .u64 ((limb 3 (y1) : Nat) : Int)])).run Tryd.prog w = .ok (.bool false) w) := fun w => by have h := neqE y1 y1 hy hy w; rw [decide_eq_true rfl] at h; exact h
  have HGR : Hid (∀ w, _) := fun w => great7_any oa ob n cn m cm w
  rw [decide_eq_false (by omega)] at HGR
  have hs0 : ¬ (s : Int) < 0 := by omega
  have hs3 : ¬ (3 : Int) < (s : Int) := by omega
  have hl6 : ¬ (60 : Int) < (l : Int) := by omega
  clear hg hv hu ht hF4 hF5 hK hy hs
  go_enter Tryd.func7, Tryd.ntmps7
  go_wp2_with fail
  obtain ⟨w0, hw0⟩ : ∃ z : World, z = w.alloc (.cells #[.int .u64 ((limb 0 (x) : Nat) : Int), .int .u64 ((limb 1 (x) : Nat) : Int), .int .u64 ((limb 2 (x) : Nat) : Int), .int .u64 ((limb 3 (x) : Nat) : Int)] 25) := ⟨_, rfl⟩
  obtain ⟨N9, e9⟩ : ∃ z, z = w.heap.size := ⟨_, rfl⟩
  have bx_w0 : Blk w0 25 N9 (fun i => limb i x) := by rw [hw0]; exact Blk.newAt _ _ _ (fun i => limb i x) e9
  have hb_w0 : Below w.heap.size w w0 := by rw [hw0]; exact bAlloc (Below.refl _ _) _
  rw [← hw0, ← e9]
  clear hw0 e9
  refine (alive7_any w0 (HG.out.below hb_w0)).mono ?_
  rintro e w1 ⟨rfl, hq⟩
  have hb_w1 := bStep hb_w0 hq
  have bx_w1 := bx_w0.belowAll hq
  clear hb_w0 hq bx_w0
  go_wp2_with fail
  refine (HGR.out w1).mono ?_
  rintro e w1' ⟨rfl, hw⟩
  obtain rfl := hw.symm
  clear hw HGR
  go_wp2_with fail
  refine (CA.out w1 (HVA.out.below hb_w1)).mono ?_
  rintro e w2 ⟨va, rfl, ownVa, hq⟩
  have hb_w2 := bStep hb_w1 hq
  have bx_w2 := bx_w1.belowAll hq
  have Va_w2 : Hid (Es w2 va n f) := own_Es ownVa
  clear hq hb_w1 bx_w1
  clear ownVa
  go_wp2_with fail
  refine (CB.out w2 (HVB.out.below hb_w2)).mono ?_
  rintro e w3 ⟨vb, rfl, ownVb, hq⟩
  have hb_w3 := bStep hb_w2 hq
  have bx_w3 := bx_w2.belowAll hq
  have Va_w3 : Hid (Es w3 va n f) := Va_w2.out.below hq
  have Vb_w3 : Hid (Es w3 vb m g) := own_Es ownVb
  clear hq hb_w2 bx_w2 Va_w2
  clear ownVb
  go_wp2_with fail
  refine (HM1.out w3 va vb (HG.out.below hb_w3) Va_w3.out Vb_w3.out).mono ?_
  rintro e w4 ⟨⟨r1, rfl, hE⟩, hq⟩
  have hb_w4 := bStep hb_w3 hq
  have bx_w4 := bx_w3.belowAll hq
  have Va_w4 : Hid (Es w4 va n f) := Va_w3.out.below hq
  have Vb_w4 : Hid (Es w4 vb m g) := Vb_w3.out.below hq
  have E1_w4 : Hid (Es w4 r1 K1 F1) := hE
  clear hq hb_w3 bx_w3 Va_w3 Vb_w3 hE
  clear Va_w4
  clear Vb_w4
  go_wp2_with fail
  refine (CA.out w4 (HVA.out.below hb_w4)).mono ?_
  rintro e w5 ⟨vc, rfl, ownVc, hq⟩
  have hb_w5 := bStep hb_w4 hq
  have bx_w5 := bx_w4.belowAll hq
  have E1_w5 : Hid (Es w5 r1 K1 F1) := E1_w4.out.below hq
  have Vc_w5 : Hid (Es w5 vc n f) := own_Es ownVc
  clear hq hb_w4 bx_w4 E1_w4
  clear ownVc
  go_wp2_with fail
  refine (CC.out w5 (HVC.out.below hb_w5)).mono ?_
  rintro e w6 ⟨vd, rfl, ownVd, hq⟩
  have hb_w6 := bStep hb_w5 hq
  have bx_w6 := bx_w5.belowAll hq
  have E1_w6 : Hid (Es w6 r1 K1 F1) := E1_w5.out.below hq
  have Vc_w6 : Hid (Es w6 vc n f) := Vc_w5.out.below hq
  have Vd_w6 : Hid (Es w6 vd l h) := own_Es ownVd
  clear hq hb_w5 bx_w5 E1_w5 Vc_w5
  clear ownVd
  go_wp2_with fail
  refine (HM2.out w6 vc vd (HG.out.below hb_w6) Vc_w6.out Vd_w6.out).mono ?_
  rintro e w7 ⟨⟨r2, rfl, hE⟩, hq⟩
  have hb_w7 := bStep hb_w6 hq
  have bx_w7 := bx_w6.belowAll hq
  have E1_w7 : Hid (Es w7 r1 K1 F1) := E1_w6.out.below hq
  have Vc_w7 : Hid (Es w7 vc n f) := Vc_w6.out.below hq
  have Vd_w7 : Hid (Es w7 vd l h) := Vd_w6.out.below hq
  have E2_w7 : Hid (Es w7 r2 K2 F2) := hE
  clear hq hb_w6 bx_w6 E1_w6 Vc_w6 Vd_w6 hE
  clear Vc_w7
  clear Vd_w7
  go_wp2_with fail
  refine (CB.out w7 (HVB.out.below hb_w7)).mono ?_
  rintro e w8 ⟨ve, rfl, ownVe, hq⟩
  have hb_w8 := bStep hb_w7 hq
  have bx_w8 := bx_w7.belowAll hq
  have E1_w8 : Hid (Es w8 r1 K1 F1) := E1_w7.out.below hq
  have E2_w8 : Hid (Es w8 r2 K2 F2) := E2_w7.out.below hq
  have Ve_w8 : Hid (Es w8 ve m g) := own_Es ownVe
  clear hq hb_w7 bx_w7 E1_w7 E2_w7
  clear ownVe
  go_wp2_with fail
  refine (CC.out w8 (HVC.out.below hb_w8)).mono ?_
  rintro e w9 ⟨vf, rfl, ownVf, hq⟩
  have hb_w9 := bStep hb_w8 hq
  have bx_w9 := bx_w8.belowAll hq
  have E1_w9 : Hid (Es w9 r1 K1 F1) := E1_w8.out.below hq
  have E2_w9 : Hid (Es w9 r2 K2 F2) := E2_w8.out.below hq
  have Ve_w9 : Hid (Es w9 ve m g) := Ve_w8.out.below hq
  have Vf_w9 : Hid (Es w9 vf l h) := own_Es ownVf
  clear hq hb_w8 bx_w8 E1_w8 E2_w8 Ve_w8
  clear ownVf
  go_wp2_with fail
  refine (HA1.out w9 ve vf (HG.out.below hb_w9) Ve_w9.out Vf_w9.out).mono ?_
  rintro e w10 ⟨⟨r3, rfl, hE⟩, hq⟩
  have hb_w10 := bStep hb_w9 hq
  have bx_w10 := bx_w9.belowAll hq
  have E1_w10 : Hid (Es w10 r1 K1 F1) := E1_w9.out.below hq
  have E2_w10 : Hid (Es w10 r2 K2 F2) := E2_w9.out.below hq
  have Ve_w10 : Hid (Es w10 ve m g) := Ve_w9.out.below hq
  have Vf_w10 : Hid (Es w10 vf l h) := Vf_w9.out.below hq
  have E3_w10 : Hid (Es w10 r3 K3 F3) := hE
  clear hq hb_w9 bx_w9 E1_w9 E2_w9 Ve_w9 Vf_w9 hE
  clear Ve_w10
  clear Vf_w10
  go_wp2_with fail
  refine (CA.out w10 (HVA.out.below hb_w10)).mono ?_
  rintro e w11 ⟨vg, rfl, ownVg, hq⟩
  have hb_w11 := bStep hb_w10 hq
  have bx_w11 := bx_w10.belowAll hq
  have E1_w11 : Hid (Es w11 r1 K1 F1) := E1_w10.out.below hq
  have E2_w11 : Hid (Es w11 r2 K2 F2) := E2_w10.out.below hq
  have E3_w11 : Hid (Es w11 r3 K3 F3) := E3_w10.out.below hq
  have Vg_w11 : Hid (Es w11 vg n f) := own_Es ownVg
  clear hq hb_w10 bx_w10 E1_w10 E2_w10 E3_w10
  clear ownVg
  go_wp2_with fail
  refine (HM3.out w11 vg r3 (HG.out.below hb_w11) Vg_w11.out E3_w11.out).mono ?_
  rintro e w12 ⟨⟨r4, rfl, hE⟩, hq⟩
  have hb_w12 := bStep hb_w11 hq
  have bx_w12 := bx_w11.belowAll hq
  have E1_w12 : Hid (Es w12 r1 K1 F1) := E1_w11.out.below hq
  have E2_w12 : Hid (Es w12 r2 K2 F2) := E2_w11.out.below hq
  have E3_w12 : Hid (Es w12 r3 K3 F3) := E3_w11.out.below hq
  have Vg_w12 : Hid (Es w12 vg n f) := Vg_w11.out.below hq
  have E4_w12 : Hid (Es w12 r4 K4 F4) := hE
  clear hq hb_w11 bx_w11 E1_w11 E2_w11 E3_w11 Vg_w11 hE
  clear Vg_w12
  clear E3_w12
  go_wp2_with fail
  refine (HA2.out w12 r1 r2 (HG.out.below hb_w12) E1_w12.out E2_w12.out).mono ?_
  rintro e w13 ⟨⟨r5, rfl, hE⟩, hq⟩
  have hb_w13 := bStep hb_w12 hq
  have bx_w13 := bx_w12.belowAll hq
  have E1_w13 : Hid (Es w13 r1 K1 F1) := E1_w12.out.below hq
  have E2_w13 : Hid (Es w13 r2 K2 F2) := E2_w12.out.below hq
  have E4_w13 : Hid (Es w13 r4 K4 F4) := E4_w12.out.below hq
  have E5_w13 : Hid (Es w13 r5 K4 F4) := hE
  clear hq hb_w12 bx_w12 E1_w12 E2_w12 E4_w12 hE
  clear E2_w13
  go_wp2_with fail
  refine (sameE_self r4 r5 K4 F4 HN.out.1 HM4.out w13 E4_w13.out E5_w13.out).mono ?_
  rintro e w14 ⟨rfl, hq⟩
  have hb_w14 := bStep hb_w13 hq
  have bx_w14 := bx_w13.belowAll hq
  have E1_w14 : Hid (Es w14 r1 K1 F1) := E1_w13.out.below hq
  have E4_w14 : Hid (Es w14 r4 K4 F4) := E4_w13.out.below hq
  have E5_w14 : Hid (Es w14 r5 K4 F4) := E5_w13.out.below hq
  clear hq hb_w13 bx_w13 E1_w13 E4_w13 E5_w13
  clear E4_w14
  clear E5_w14
  obtain ⟨W, eW⟩ : ∃ z, z = w14 := ⟨_, rfl⟩
  rw [← eW] at hb_w14 bx_w14 E1_w14
  have hb_W := hb_w14; have bx_W := bx_w14; have E1_W := E1_w14
  go_upto_region 11 with fail
  rw [← eW]
  clear eW hb_w14 bx_w14 E1_w14
  refine wp_region_Z (fun w' => Below W.heap.size W w') 99 (by kernel_rfl) ?_
  obtain ⟨wD, hD⟩ : ∃ x : World, x = W.drew := ⟨_, rfl⟩
  rw [← hD]
  have hp0_0 : Below W.heap.size W wD := by rw [hD]; exact (Below.refl _ _).drew
  have hlow0 : Below W.heap.size W wD := by rw [hD]; exact (Below.refl _ _).drew
  clear hD
  refine wpZ_take (i := 0) (v := .int .i64 (s : Int)) 89 rfl rfl (by kernel_rfl) (by kernel_rfl) (by kernel_rfl) (Or.inr (by decide)) (fun _ _ _ h => h) (Or.inl ⟨by rfl, fun w hSw => by go_simp⟩) hp0_0 ?_
  simp only [Act.put, List.setIfInBounds_toArray]
  dsimp only [List.set_cons_zero, List.set_cons_succ]
  refine wpZ_take (i := 1) (v := r1) 90 rfl rfl (by kernel_rfl) (by kernel_rfl) (by kernel_rfl) (Or.inr (by decide)) (fun _ _ _ h => h) (Or.inl ⟨by rfl, fun w hSw => by go_simp⟩) hp0_0 ?_
  simp only [Act.put, List.setIfInBounds_toArray]
  dsimp only [List.set_cons_zero, List.set_cons_succ]
  refine wpZ_take (i := 2) (v := .agg #[.int .u64 ((limb 0 (x) : Nat) : Int), .int .u64 ((limb 1 (x) : Nat) : Int), .int .u64 ((limb 2 (x) : Nat) : Int), .int .u64 ((limb 3 (x) : Nat) : Int)]) 91 rfl rfl (by kernel_rfl) (by kernel_rfl) (by kernel_rfl) (Or.inr (by decide)) (fun _ _ _ h => h) (Or.inl ⟨by rfl, fun w hSw => by (have qq := (bx_W.belowAll hSw).cell; clear hSw; go_simp)⟩) hp0_0 ?_
  simp only [Act.put, List.setIfInBounds_toArray]
  dsimp only [List.set_cons_zero, List.set_cons_succ]
  refine wpZ_take (i := 4) (v := .int .i64 (s : Int)) 93 rfl rfl (by kernel_rfl) (by kernel_rfl) (by kernel_rfl) (Or.inr (by decide)) (fun _ _ _ h => h) (Or.inl ⟨by rfl, fun w hSw => by go_simp⟩) hp0_0 ?_
  simp only [Act.put, List.setIfInBounds_toArray]
  dsimp only [List.set_cons_zero, List.set_cons_succ]
  refine wpZ_take (i := 5) (v := .int .i64 (s : Int)) 94 rfl rfl (by kernel_rfl) (by kernel_rfl) (by kernel_rfl) (Or.inr (by decide)) (fun _ _ _ h => h) (Or.inl ⟨by rfl, fun w hSw => by go_simp⟩) hp0_0 ?_
  simp only [Act.put, List.setIfInBounds_toArray]
  dsimp only [List.set_cons_zero, List.set_cons_succ]
  refine wpZ_take (i := 6) (v := .slice oa n cn) 95 rfl rfl (by kernel_rfl) (by kernel_rfl) (by kernel_rfl) (Or.inr (by decide)) (fun _ _ _ h => h) (Or.inl ⟨by rfl, fun w hSw => by go_simp⟩) hp0_0 ?_
  simp only [Act.put, List.setIfInBounds_toArray]
  dsimp only [List.set_cons_zero, List.set_cons_succ]
  refine wpZ_take (i := 8) (v := .agg #[.int .u64 ((limb 0 (x) : Nat) : Int), .int .u64 ((limb 1 (x) : Nat) : Int), .int .u64 ((limb 2 (x) : Nat) : Int), .int .u64 ((limb 3 (x) : Nat) : Int)]) 97 rfl rfl (by kernel_rfl) (by kernel_rfl) (by kernel_rfl) (Or.inr (by decide)) (fun _ _ _ h => h) (Or.inl ⟨by rfl, fun w hSw => by (have qq := (bx_W.belowAll hSw).cell; clear hSw; go_simp)⟩) hp0_0 ?_
  simp only [Act.put, List.setIfInBounds_toArray]
  dsimp only [List.set_cons_zero, List.set_cons_succ]
  refine wpZ_take (i := 10) (v := .int .i64 (s : Int)) 99 rfl rfl (by kernel_rfl) (by kernel_rfl) (by kernel_rfl) (Or.inr (by decide)) (fun _ _ _ h => h) (Or.inl ⟨by rfl, fun w hSw => by go_simp⟩) hp0_0 ?_
  simp only [Act.put, List.setIfInBounds_toArray]
  dsimp only [List.set_cons_zero, List.set_cons_succ]
  refine wpZ_take (i := 11) (v := .slice ob m cm) 100 rfl rfl (by kernel_rfl) (by kernel_rfl) (by kernel_rfl) (Or.inr (by decide)) (fun _ _ _ h => h) (Or.inl ⟨by rfl, fun w hSw => by go_simp⟩) hp0_0 ?_
  simp only [Act.put, List.setIfInBounds_toArray]
  dsimp only [List.set_cons_zero, List.set_cons_succ]
  refine wpZ_take (i := 13) (v := .agg #[.int .u64 ((limb 0 (x) : Nat) : Int), .int .u64 ((limb 1 (x) : Nat) : Int), .int .u64 ((limb 2 (x) : Nat) : Int), .int .u64 ((limb 3 (x) : Nat) : Int)]) 102 rfl rfl (by kernel_rfl) (by kernel_rfl) (by kernel_rfl) (Or.inr (by decide)) (fun _ _ _ h => h) (Or.inl ⟨by rfl, fun w hSw => by (have qq := (bx_W.belowAll hSw).cell; clear hSw; go_simp)⟩) hp0_0 ?_
  simp only [Act.put, List.setIfInBounds_toArray]
  dsimp only [List.set_cons_zero, List.set_cons_succ]
  refine wpZ_one (i := 3) (by kernel_rfl) rfl (fun K hK => ?_)
  go_simp
  refine (HE1.out wD r1 (HG.out.below (bStep hb_W hlow0)) (E1_W.out.below hlow0)).mono ?_
  rintro e wL1 ⟨rfl, hbL1⟩
  have hlowL1 := bStep hlow0 hbL1
  go_wp2_with fail
  refine hK.out _ _ (fun _ => hlowL1) ?_
  clear hK K hbL1
  refine wpZ_one (i := 7) (by kernel_rfl) rfl (fun K hK => ?_)
  go_simp
  refine (CA.out wL1 (HVA.out.below (bStep hb_W hlowL1))).mono ?_
  rintro e wL2 ⟨v1, rfl, own1, hbL2⟩
  have hlowL2 := bStep hlowL1 hbL2
  have Ea : Hid (Es wL2 v1 n f) := own_Es own1
  clear own1
  go_wp2_with fail
  refine hK.out _ _ (fun _ => hlowL2) ?_
  clear hK K hbL2
  refine wpZ_one (i := 9) (by kernel_rfl) rfl (fun K hK => ?_)
  go_simp
  refine (HE2.out wL2 v1 (HG.out.below (bStep hb_W hlowL2)) Ea.out).mono ?_
  rintro e wL3 ⟨rfl, hbL3⟩
  have hlowL3 := bStep hlowL2 hbL3
  go_wp2_with fail
  refine hK.out _ _ (fun _ => hlowL3) ?_
  clear hK K hbL3
  refine wpZ_one (i := 12) (by kernel_rfl) rfl (fun K hK => ?_)
  go_simp
  refine (CB.out wL3 (HVB.out.below (bStep hb_W hlowL3))).mono ?_
  rintro e wL4 ⟨v2, rfl, own2, hbL4⟩
  have hlowL4 := bStep hlowL3 hbL4
  have Eb : Hid (Es wL4 v2 m g) := own_Es own2
  clear own2
  go_wp2_with fail
  refine hK.out _ _ (fun _ => hlowL4) ?_
  clear hK K hbL4
  refine wpZ_one (i := 14) (by kernel_rfl) rfl (fun K hK => ?_)
  go_simp
  refine (HE3.out wL4 v2 (HG.out.below (bStep hb_W hlowL4)) Eb.out).mono ?_
  rintro e wL5 ⟨rfl, hbL5⟩
  have hlowL5 := bStep hlowL4 hbL5
  go_wp2_with fail
  refine hK.out _ _ (fun _ => hlowL5) ?_
  clear hK K hbL5
  refine wpZ_one (i := 15) (by kernel_rfl) rfl (fun K hK => ?_)
  go_simp
  refine (HMU.out wL5 (HG.out.below (bStep hb_W hlowL5))).mono ?_
  rintro e wL6 ⟨rfl, hbL6⟩
  have hlowL6 := bStep hlowL5 hbL6
  go_wp2_with fail
  refine hK.out _ _ (fun _ => hlowL6) ?_
  clear hK K hbL6
  refine wpZ_take (i := 16) (v := .bool false) 105 rfl rfl (by kernel_rfl) (by kernel_rfl) (by kernel_rfl) (Or.inr (by decide)) (fun _ _ _ h => h) (Or.inl ⟨by rfl, fun w hSw => by (have qq := HNQ.out; clear hSw; go_simp)⟩) hlowL6 ?_
  simp only [Act.put, List.setIfInBounds_toArray]
  dsimp only [List.set_cons_zero, List.set_cons_succ]
  refine wpZ_done (by kernel_rfl) ?_ _
  have hb_X := bStep hb_W hlowL6
  have E1_X : Hid (Es wL6 r1 K1 F1) := E1_W.out.below hlowL6
  obtain ⟨X, eX⟩ : ∃ z, z = wL6 := ⟨_, rfl⟩
  rw [← eX] at hb_X E1_X ⊢
  clear eX
  go_wp2_with fail
  refine (CB.out X (HVB.out.below hb_X)).mono ?_
  rintro e w15 ⟨vh, rfl, ownVh, hq⟩
  have hb_w15 := bStep hb_X hq
  have E1_w15 : Hid (Es w15 r1 K1 F1) := E1_X.out.below hq
  have Vh_w15 : Hid (Es w15 vh m g) := own_Es ownVh
  clear hq hb_X E1_X
  clear ownVh
  go_wp2_with fail
  refine (HD.out w15 r1 vh (HG.out.below hb_w15) E1_w15.out Vh_w15.out).mono ?_
  rintro e w16 ⟨rfl, hq⟩
  have hb_w16 := bStep hb_w15 hq
  clear hq hb_w15
  go_wp2_with fail
  refine (CB.out w16 (HVB.out.below hb_w16)).mono ?_
  rintro e w17 ⟨vi, rfl, ownVi, hq⟩
  have hb_w17 := bStep hb_w16 hq
  have Vi_w17 : Hid (Es w17 vi m g) := own_Es ownVi
  clear hq hb_w16
  clear ownVi
  go_wp2_with fail
  refine (HTB.out w17 vi (HG.out.below hb_w17) Vi_w17.out).mono ?_
  rintro e w18 ⟨⟨G1, c1, rfl⟩, hq⟩
  have hb_w18 := bStep hb_w17 hq
  clear hq hb_w17
  go_wp2
  go_ret
  exact ⟨rfl, hb_w18⟩
set_option maxHeartbeats 16000000 in
set_option maxRecDepth 40000 in
theorem plaws_n (s : Nat) (oa ob oc : Option Addr) (n cn m cm l cl x y1 y2 y3 K1 K2 K3 K4 K5 KB : Nat) (f g h F1 F2 F3 F4 F5 : Nat → Nat) (hs : s < 4) (hn : n ≤ 60) (hm : m ≤ 60) (hl : l ≤ 60) (hKB : KB ≠ 0) (hy : y1 < 115792089237316195423570985008687907853269984665640564039457584007913129639936) (hK : K4 ≤ 1000 ∧ K5 ≤ 1000) (hF4 : ∀ i, i < K4 → F4 i < 115792089237316195423570985008687907853269984665640564039457584007913129639936) (hF5 : ∀ i, i < K5 → F5 i < 115792089237316195423570985008687907853269984665640564039457584007913129639936)
    (HM10 : ∀ w v u, Glob w → Es w v n f → Es w u m g → Calls Tryd.prog 22 #[.int .i64 (s : Int), v, u] w fun e w' => (∃ r, e = .returned (.tuple #[r, .int .i64 0]) ∧ Es w' r K1 F1) ∧ Below w.heap.size w w')
    (HM20 : ∀ w v u, Glob w → Es w v n f → Es w u l h → Calls Tryd.prog 22 #[.int .i64 (s : Int), v, u] w fun e w' => (∃ r, e = .returned (.tuple #[r, .int .i64 0]) ∧ Es w' r K2 F2) ∧ Below w.heap.size w w')
    (HA10 : ∀ w v u, Glob w → Es w v m g → Es w u l h → Calls Tryd.prog 16 #[.int .i64 (s : Int), v, u] w fun e w' => (∃ r, e = .returned r ∧ Es w' r K3 F3) ∧ Below w.heap.size w w')
    (HM30 : ∀ w v u, Glob w → Es w v n f → Es w u K3 F3 → Calls Tryd.prog 22 #[.int .i64 (s : Int), v, u] w fun e w' => (∃ r, e = .returned (.tuple #[r, .int .i64 0]) ∧ Es w' r K4 F4) ∧ Below w.heap.size w w')
    (HA20 : ∀ w v u, Glob w → Es w v K1 F1 → Es w u K2 F2 → Calls Tryd.prog 16 #[.int .i64 (s : Int), v, u] w fun e w' => (∃ r, e = .returned r ∧ Es w' r K4 F4) ∧ Below w.heap.size w w')
    (HE10 : ∀ w v, Glob w → Es w v K1 F1 → Calls Tryd.prog 20 #[.int .i64 (s : Int), v, .agg #[.int .u64 ((limb 0 (x) : Nat) : Int), .int .u64 ((limb 1 (x) : Nat) : Int), .int .u64 ((limb 2 (x) : Nat) : Int), .int .u64 ((limb 3 (x) : Nat) : Int)]] w fun e w' => e = .returned (.agg #[.int .u64 ((limb 0 (y1) : Nat) : Int), .int .u64 ((limb 1 (y1) : Nat) : Int), .int .u64 ((limb 2 (y1) : Nat) : Int), .int .u64 ((limb 3 (y1) : Nat) : Int)]) ∧ Below w.heap.size w w')
    (HE20 : ∀ w v, Glob w → Es w v n f → Calls Tryd.prog 20 #[.int .i64 (s : Int), v, .agg #[.int .u64 ((limb 0 (x) : Nat) : Int), .int .u64 ((limb 1 (x) : Nat) : Int), .int .u64 ((limb 2 (x) : Nat) : Int), .int .u64 ((limb 3 (x) : Nat) : Int)]] w fun e w' => e = .returned (.agg #[.int .u64 ((limb 0 (y2) : Nat) : Int), .int .u64 ((limb 1 (y2) : Nat) : Int), .int .u64 ((limb 2 (y2) : Nat) : Int), .int .u64 ((limb 3 (y2) : Nat) : Int)]) ∧ Below w.heap.size w w')
    (HE30 : ∀ w v, Glob w → Es w v m g → Calls Tryd.prog 20 #[.int .i64 (s : Int), v, .agg #[.int .u64 ((limb 0 (x) : Nat) : Int), .int .u64 ((limb 1 (x) : Nat) : Int), .int .u64 ((limb 2 (x) : Nat) : Int), .int .u64 ((limb 3 (x) : Nat) : Int)]] w fun e w' => e = .returned (.agg #[.int .u64 ((limb 0 (y3) : Nat) : Int), .int .u64 ((limb 1 (y3) : Nat) : Int), .int .u64 ((limb 2 (y3) : Nat) : Int), .int .u64 ((limb 3 (y3) : Nat) : Int)]) ∧ Below w.heap.size w w')
    (HMU0 : ∀ w, Glob w → Calls Tryd.prog 30 #[.int .i64 (s : Int), .agg #[.int .u64 ((limb 0 (y2) : Nat) : Int), .int .u64 ((limb 1 (y2) : Nat) : Int), .int .u64 ((limb 2 (y2) : Nat) : Int), .int .u64 ((limb 3 (y2) : Nat) : Int)], .agg #[.int .u64 ((limb 0 (y3) : Nat) : Int), .int .u64 ((limb 1 (y3) : Nat) : Int), .int .u64 ((limb 2 (y3) : Nat) : Int), .int .u64 ((limb 3 (y3) : Nat) : Int)]] w fun e w' => e = .returned (.agg #[.int .u64 ((limb 0 (y1) : Nat) : Int), .int .u64 ((limb 1 (y1) : Nat) : Int), .int .u64 ((limb 2 (y1) : Nat) : Int), .int .u64 ((limb 3 (y1) : Nat) : Int)]) ∧ Below w.heap.size w w')
    (HTB0 : ∀ w v, Glob w → Es w v m g → Calls Tryd.prog 14 #[.int .i64 (s : Int), v] w fun e w' => (∃ G c, e = .returned (.slice (some ⟨G, 0, none⟩) KB c)) ∧ Below w.heap.size w w')
    (HD0 : ∀ w v u, Glob w → Es w v K1 F1 → Es w u m g → Calls Tryd.prog 24 #[.int .i64 (s : Int), v, u] w fun e w' => (∃ q or_ cr, e = .returned (.tuple #[q, .slice or_ 0 cr, .int .i64 0]) ∧ Es w' q K5 F5) ∧ Below w.heap.size w w')
    (HTA0 : ∀ w v, Glob w → Es w v n f → Calls Tryd.prog 14 #[.int .i64 (s : Int), v] w fun e w' => (∃ r, e = .returned r ∧ Es w' r K5 F5) ∧ Below w.heap.size w w')
    (w : World) (hg : Glob w) (hv : Es w (.slice oa n cn) n f) (hu : Es w (.slice ob m cm) m g) (ht : Es w (.slice oc l cl) l h) :
    Calls Tryd.prog 7 #[.int .i64 (s : Int), .slice oa n cn, .slice ob m cm, .slice oc l cl, .agg #[.int .u64 ((limb 0 (x) : Nat) : Int), .int .u64 ((limb 1 (x) : Nat) : Int), .int .u64 ((limb 2 (x) : Nat) : Int), .int .u64 ((limb 3 (x) : Nat) : Int)]] w fun e w' => e = .returned (.bool true) ∧ Below w.heap.size w w' := by
  have HM1 : Hid (∀ w v u, Glob w → Es w v n f → Es w u m g → Calls Tryd.prog 22 #[.int .i64 (s : Int), v, u] w fun e w' => (∃ r, e = .returned (.tuple #[r, .int .i64 0]) ∧ Es w' r K1 F1) ∧ Below w.heap.size w w') := HM10
  clear HM10
  have HM2 : Hid (∀ w v u, Glob w → Es w v n f → Es w u l h → Calls Tryd.prog 22 #[.int .i64 (s : Int), v, u] w fun e w' => (∃ r, e = .returned (.tuple #[r, .int .i64 0]) ∧ Es w' r K2 F2) ∧ Below w.heap.size w w') := HM20
  clear HM20
  have HA1 : Hid (∀ w v u, Glob w → Es w v m g → Es w u l h → Calls Tryd.prog 16 #[.int .i64 (s : Int), v, u] w fun e w' => (∃ r, e = .returned r ∧ Es w' r K3 F3) ∧ Below w.heap.size w w') := HA10
  clear HA10
  have HM3 : Hid (∀ w v u, Glob w → Es w v n f → Es w u K3 F3 → Calls Tryd.prog 22 #[.int .i64 (s : Int), v, u] w fun e w' => (∃ r, e = .returned (.tuple #[r, .int .i64 0]) ∧ Es w' r K4 F4) ∧ Below w.heap.size w w') := HM30
  clear HM30
  have HA2 : Hid (∀ w v u, Glob w → Es w v K1 F1 → Es w u K2 F2 → Calls Tryd.prog 16 #[.int .i64 (s : Int), v, u] w fun e w' => (∃ r, e = .returned r ∧ Es w' r K4 F4) ∧ Below w.heap.size w w') := HA20
  clear HA20
  have HE1 : Hid (∀ w v, Glob w → Es w v K1 F1 → Calls Tryd.prog 20 #[.int .i64 (s : Int), v, .agg #[.int .u64 ((limb 0 (x) : Nat) : Int), .int .u64 ((limb 1 (x) : Nat) : Int), .int .u64 ((limb 2 (x) : Nat) : Int), .int .u64 ((limb 3 (x) : Nat) : Int)]] w fun e w' => e = .returned (.agg #[.int .u64 ((limb 0 (y1) : Nat) : Int), .int .u64 ((limb 1 (y1) : Nat) : Int), .int .u64 ((limb 2 (y1) : Nat) : Int), .int .u64 ((limb 3 (y1) : Nat) : Int)]) ∧ Below w.heap.size w w') := HE10
  clear HE10
  have HE2 : Hid (∀ w v, Glob w → Es w v n f → Calls Tryd.prog 20 #[.int .i64 (s : Int), v, .agg #[.int .u64 ((limb 0 (x) : Nat) : Int), .int .u64 ((limb 1 (x) : Nat) : Int), .int .u64 ((limb 2 (x) : Nat) : Int), .int .u64 ((limb 3 (x) : Nat) : Int)]] w fun e w' => e = .returned (.agg #[.int .u64 ((limb 0 (y2) : Nat) : Int), .int .u64 ((limb 1 (y2) : Nat) : Int), .int .u64 ((limb 2 (y2) : Nat) : Int), .int .u64 ((limb 3 (y2) : Nat) : Int)]) ∧ Below w.heap.size w w') := HE20
  clear HE20
  have HE3 : Hid (∀ w v, Glob w → Es w v m g → Calls Tryd.prog 20 #[.int .i64 (s : Int), v, .agg #[.int .u64 ((limb 0 (x) : Nat) : Int), .int .u64 ((limb 1 (x) : Nat) : Int), .int .u64 ((limb 2 (x) : Nat) : Int), .int .u64 ((limb 3 (x) : Nat) : Int)]] w fun e w' => e = .returned (.agg #[.int .u64 ((limb 0 (y3) : Nat) : Int), .int .u64 ((limb 1 (y3) : Nat) : Int), .int .u64 ((limb 2 (y3) : Nat) : Int), .int .u64 ((limb 3 (y3) : Nat) : Int)]) ∧ Below w.heap.size w w') := HE30
  clear HE30
  have HMU : Hid (∀ w, Glob w → Calls Tryd.prog 30 #[.int .i64 (s : Int), .agg #[.int .u64 ((limb 0 (y2) : Nat) : Int), .int .u64 ((limb 1 (y2) : Nat) : Int), .int .u64 ((limb 2 (y2) : Nat) : Int), .int .u64 ((limb 3 (y2) : Nat) : Int)], .agg #[.int .u64 ((limb 0 (y3) : Nat) : Int), .int .u64 ((limb 1 (y3) : Nat) : Int), .int .u64 ((limb 2 (y3) : Nat) : Int), .int .u64 ((limb 3 (y3) : Nat) : Int)]] w fun e w' => e = .returned (.agg #[.int .u64 ((limb 0 (y1) : Nat) : Int), .int .u64 ((limb 1 (y1) : Nat) : Int), .int .u64 ((limb 2 (y1) : Nat) : Int), .int .u64 ((limb 3 (y1) : Nat) : Int)]) ∧ Below w.heap.size w w') := HMU0
  clear HMU0
  have HTB : Hid (∀ w v, Glob w → Es w v m g → Calls Tryd.prog 14 #[.int .i64 (s : Int), v] w fun e w' => (∃ G c, e = .returned (.slice (some ⟨G, 0, none⟩) KB c)) ∧ Below w.heap.size w w') := HTB0
  clear HTB0
  have HD : Hid (∀ w v u, Glob w → Es w v K1 F1 → Es w u m g → Calls Tryd.prog 24 #[.int .i64 (s : Int), v, u] w fun e w' => (∃ q or_ cr, e = .returned (.tuple #[q, .slice or_ 0 cr, .int .i64 0]) ∧ Es w' q K5 F5) ∧ Below w.heap.size w w') := HD0
  clear HD0
  have HTA : Hid (∀ w v, Glob w → Es w v n f → Calls Tryd.prog 14 #[.int .i64 (s : Int), v] w fun e w' => (∃ r, e = .returned r ∧ Es w' r K5 F5) ∧ Below w.heap.size w w') := HTA0
  clear HTA0
  have CA : Hid (∀ w, Es w (.slice oa n cn) n f → _) := fun w h => copyE_any n _ f (by omega) w h
  have CB : Hid (∀ w, Es w (.slice ob m cm) m g → _) := fun w h => copyE_any m _ g (by omega) w h
  have CC : Hid (∀ w, Es w (.slice oc l cl) l h → _) := fun w h2 => copyE_any l _ h (by omega) w h2
  have HG : Hid (Glob w) := hg
  have HVA : Hid (Es w (.slice oa n cn) n f) := hv
  have HVB : Hid (Es w (.slice ob m cm) m g) := hu
  have HVC : Hid (Es w (.slice oc l cl) l h) := ht
  have HM4 : Hid (∀ i, i < K4 → F4 i < 115792089237316195423570985008687907853269984665640564039457584007913129639936) := hF4
  have HM5 : Hid (∀ i, i < K5 → F5 i < 115792089237316195423570985008687907853269984665640564039457584007913129639936) := hF5
  have HN : Hid (K4 ≤ 1000 ∧ K5 ≤ 1000) := hK
  have HNQ : Hid (∀ w, (binOp .neq 25 (.agg #[.int .u64 ((limb 0 (y1) : Nat) : Int), .int .u64 ((limb 1 (y1) : Nat) : Int), .int .u64 ((limb 2 (y1) : Nat) : Int), .int .u64 ((limb 3 (y1) : Nat) : Int)]) (.agg #[.int .u64 ((limb 0 (y1) : Nat) : Int), .int .u64 ((limb 1 (y1) : Nat) : Int), .int .u64 ((limb 2 (y1) : Nat) : Int), .int .u64 ((limb 3 (y1) : Nat) : Int)])).run Tryd.prog w = .ok (.bool false) w) := fun w => by have h := neqE y1 y1 hy hy w; rw [decide_eq_true rfl] at h; exact h
  have HGR : Hid (∀ w, _) := fun w => great7_any oa ob n cn m cm w
  rw [decide_eq_false (by omega)] at HGR
  have hs0 : ¬ (s : Int) < 0 := by omega
  have hs3 : ¬ (3 : Int) < (s : Int) := by omega
  have hl6 : ¬ (60 : Int) < (l : Int) := by omega
  have hKb : ((KB : Int) == 0) = false := by rw [beq_eq_false_iff_ne]; omega
  clear hg hv hu ht hF4 hF5 hK hy hs
  go_enter Tryd.func7, Tryd.ntmps7
  go_wp2_with fail
  obtain ⟨w0, hw0⟩ : ∃ z : World, z = w.alloc (.cells #[.int .u64 ((limb 0 (x) : Nat) : Int), .int .u64 ((limb 1 (x) : Nat) : Int), .int .u64 ((limb 2 (x) : Nat) : Int), .int .u64 ((limb 3 (x) : Nat) : Int)] 25) := ⟨_, rfl⟩
  obtain ⟨N9, e9⟩ : ∃ z, z = w.heap.size := ⟨_, rfl⟩
  have bx_w0 : Blk w0 25 N9 (fun i => limb i x) := by rw [hw0]; exact Blk.newAt _ _ _ (fun i => limb i x) e9
  have hb_w0 : Below w.heap.size w w0 := by rw [hw0]; exact bAlloc (Below.refl _ _) _
  rw [← hw0, ← e9]
  clear hw0 e9
  refine (alive7_any w0 (HG.out.below hb_w0)).mono ?_
  rintro e w1 ⟨rfl, hq⟩
  have hb_w1 := bStep hb_w0 hq
  have bx_w1 := bx_w0.belowAll hq
  clear hb_w0 hq bx_w0
  go_wp2_with fail
  refine (HGR.out w1).mono ?_
  rintro e w1' ⟨rfl, hw⟩
  obtain rfl := hw.symm
  clear hw HGR
  go_wp2_with fail
  refine (CA.out w1 (HVA.out.below hb_w1)).mono ?_
  rintro e w2 ⟨va, rfl, ownVa, hq⟩
  have hb_w2 := bStep hb_w1 hq
  have bx_w2 := bx_w1.belowAll hq
  have Va_w2 : Hid (Es w2 va n f) := own_Es ownVa
  clear hq hb_w1 bx_w1
  clear ownVa
  go_wp2_with fail
  refine (CB.out w2 (HVB.out.below hb_w2)).mono ?_
  rintro e w3 ⟨vb, rfl, ownVb, hq⟩
  have hb_w3 := bStep hb_w2 hq
  have bx_w3 := bx_w2.belowAll hq
  have Va_w3 : Hid (Es w3 va n f) := Va_w2.out.below hq
  have Vb_w3 : Hid (Es w3 vb m g) := own_Es ownVb
  clear hq hb_w2 bx_w2 Va_w2
  clear ownVb
  go_wp2_with fail
  refine (HM1.out w3 va vb (HG.out.below hb_w3) Va_w3.out Vb_w3.out).mono ?_
  rintro e w4 ⟨⟨r1, rfl, hE⟩, hq⟩
  have hb_w4 := bStep hb_w3 hq
  have bx_w4 := bx_w3.belowAll hq
  have Va_w4 : Hid (Es w4 va n f) := Va_w3.out.below hq
  have Vb_w4 : Hid (Es w4 vb m g) := Vb_w3.out.below hq
  have E1_w4 : Hid (Es w4 r1 K1 F1) := hE
  clear hq hb_w3 bx_w3 Va_w3 Vb_w3 hE
  clear Va_w4
  clear Vb_w4
  go_wp2_with fail
  refine (CA.out w4 (HVA.out.below hb_w4)).mono ?_
  rintro e w5 ⟨vc, rfl, ownVc, hq⟩
  have hb_w5 := bStep hb_w4 hq
  have bx_w5 := bx_w4.belowAll hq
  have E1_w5 : Hid (Es w5 r1 K1 F1) := E1_w4.out.below hq
  have Vc_w5 : Hid (Es w5 vc n f) := own_Es ownVc
  clear hq hb_w4 bx_w4 E1_w4
  clear ownVc
  go_wp2_with fail
  refine (CC.out w5 (HVC.out.below hb_w5)).mono ?_
  rintro e w6 ⟨vd, rfl, ownVd, hq⟩
  have hb_w6 := bStep hb_w5 hq
  have bx_w6 := bx_w5.belowAll hq
  have E1_w6 : Hid (Es w6 r1 K1 F1) := E1_w5.out.below hq
  have Vc_w6 : Hid (Es w6 vc n f) := Vc_w5.out.below hq
  have Vd_w6 : Hid (Es w6 vd l h) := own_Es ownVd
  clear hq hb_w5 bx_w5 E1_w5 Vc_w5
  clear ownVd
  go_wp2_with fail
  refine (HM2.out w6 vc vd (HG.out.below hb_w6) Vc_w6.out Vd_w6.out).mono ?_
  rintro e w7 ⟨⟨r2, rfl, hE⟩, hq⟩
  have hb_w7 := bStep hb_w6 hq
  have bx_w7 := bx_w6.belowAll hq
  have E1_w7 : Hid (Es w7 r1 K1 F1) := E1_w6.out.below hq
  have Vc_w7 : Hid (Es w7 vc n f) := Vc_w6.out.below hq
  have Vd_w7 : Hid (Es w7 vd l h) := Vd_w6.out.below hq
  have E2_w7 : Hid (Es w7 r2 K2 F2) := hE
  clear hq hb_w6 bx_w6 E1_w6 Vc_w6 Vd_w6 hE
  clear Vc_w7
  clear Vd_w7
  go_wp2_with fail
  refine (CB.out w7 (HVB.out.below hb_w7)).mono ?_
  rintro e w8 ⟨ve, rfl, ownVe, hq⟩
  have hb_w8 := bStep hb_w7 hq
  have bx_w8 := bx_w7.belowAll hq
  have E1_w8 : Hid (Es w8 r1 K1 F1) := E1_w7.out.below hq
  have E2_w8 : Hid (Es w8 r2 K2 F2) := E2_w7.out.below hq
  have Ve_w8 : Hid (Es w8 ve m g) := own_Es ownVe
  clear hq hb_w7 bx_w7 E1_w7 E2_w7
  clear ownVe
  go_wp2_with fail
  refine (CC.out w8 (HVC.out.below hb_w8)).mono ?_
  rintro e w9 ⟨vf, rfl, ownVf, hq⟩
  have hb_w9 := bStep hb_w8 hq
  have bx_w9 := bx_w8.belowAll hq
  have E1_w9 : Hid (Es w9 r1 K1 F1) := E1_w8.out.below hq
  have E2_w9 : Hid (Es w9 r2 K2 F2) := E2_w8.out.below hq
  have Ve_w9 : Hid (Es w9 ve m g) := Ve_w8.out.below hq
  have Vf_w9 : Hid (Es w9 vf l h) := own_Es ownVf
  clear hq hb_w8 bx_w8 E1_w8 E2_w8 Ve_w8
  clear ownVf
  go_wp2_with fail
  refine (HA1.out w9 ve vf (HG.out.below hb_w9) Ve_w9.out Vf_w9.out).mono ?_
  rintro e w10 ⟨⟨r3, rfl, hE⟩, hq⟩
  have hb_w10 := bStep hb_w9 hq
  have bx_w10 := bx_w9.belowAll hq
  have E1_w10 : Hid (Es w10 r1 K1 F1) := E1_w9.out.below hq
  have E2_w10 : Hid (Es w10 r2 K2 F2) := E2_w9.out.below hq
  have Ve_w10 : Hid (Es w10 ve m g) := Ve_w9.out.below hq
  have Vf_w10 : Hid (Es w10 vf l h) := Vf_w9.out.below hq
  have E3_w10 : Hid (Es w10 r3 K3 F3) := hE
  clear hq hb_w9 bx_w9 E1_w9 E2_w9 Ve_w9 Vf_w9 hE
  clear Ve_w10
  clear Vf_w10
  go_wp2_with fail
  refine (CA.out w10 (HVA.out.below hb_w10)).mono ?_
  rintro e w11 ⟨vg, rfl, ownVg, hq⟩
  have hb_w11 := bStep hb_w10 hq
  have bx_w11 := bx_w10.belowAll hq
  have E1_w11 : Hid (Es w11 r1 K1 F1) := E1_w10.out.below hq
  have E2_w11 : Hid (Es w11 r2 K2 F2) := E2_w10.out.below hq
  have E3_w11 : Hid (Es w11 r3 K3 F3) := E3_w10.out.below hq
  have Vg_w11 : Hid (Es w11 vg n f) := own_Es ownVg
  clear hq hb_w10 bx_w10 E1_w10 E2_w10 E3_w10
  clear ownVg
  go_wp2_with fail
  refine (HM3.out w11 vg r3 (HG.out.below hb_w11) Vg_w11.out E3_w11.out).mono ?_
  rintro e w12 ⟨⟨r4, rfl, hE⟩, hq⟩
  have hb_w12 := bStep hb_w11 hq
  have bx_w12 := bx_w11.belowAll hq
  have E1_w12 : Hid (Es w12 r1 K1 F1) := E1_w11.out.below hq
  have E2_w12 : Hid (Es w12 r2 K2 F2) := E2_w11.out.below hq
  have E3_w12 : Hid (Es w12 r3 K3 F3) := E3_w11.out.below hq
  have Vg_w12 : Hid (Es w12 vg n f) := Vg_w11.out.below hq
  have E4_w12 : Hid (Es w12 r4 K4 F4) := hE
  clear hq hb_w11 bx_w11 E1_w11 E2_w11 E3_w11 Vg_w11 hE
  clear Vg_w12
  clear E3_w12
  go_wp2_with fail
  refine (HA2.out w12 r1 r2 (HG.out.below hb_w12) E1_w12.out E2_w12.out).mono ?_
  rintro e w13 ⟨⟨r5, rfl, hE⟩, hq⟩
  have hb_w13 := bStep hb_w12 hq
  have bx_w13 := bx_w12.belowAll hq
  have E1_w13 : Hid (Es w13 r1 K1 F1) := E1_w12.out.below hq
  have E2_w13 : Hid (Es w13 r2 K2 F2) := E2_w12.out.below hq
  have E4_w13 : Hid (Es w13 r4 K4 F4) := E4_w12.out.below hq
  have E5_w13 : Hid (Es w13 r5 K4 F4) := hE
  clear hq hb_w12 bx_w12 E1_w12 E2_w12 E4_w12 hE
  clear E2_w13
  go_wp2_with fail
  refine (sameE_self r4 r5 K4 F4 HN.out.1 HM4.out w13 E4_w13.out E5_w13.out).mono ?_
  rintro e w14 ⟨rfl, hq⟩
  have hb_w14 := bStep hb_w13 hq
  have bx_w14 := bx_w13.belowAll hq
  have E1_w14 : Hid (Es w14 r1 K1 F1) := E1_w13.out.below hq
  have E4_w14 : Hid (Es w14 r4 K4 F4) := E4_w13.out.below hq
  have E5_w14 : Hid (Es w14 r5 K4 F4) := E5_w13.out.below hq
  clear hq hb_w13 bx_w13 E1_w13 E4_w13 E5_w13
  clear E4_w14
  clear E5_w14
  obtain ⟨W, eW⟩ : ∃ z, z = w14 := ⟨_, rfl⟩
  rw [← eW] at hb_w14 bx_w14 E1_w14
  have hb_W := hb_w14; have bx_W := bx_w14; have E1_W := E1_w14
  go_upto_region 11 with fail
  rw [← eW]
  clear eW hb_w14 bx_w14 E1_w14
  refine wp_region_Z (fun w' => Below W.heap.size W w') 99 (by kernel_rfl) ?_
  obtain ⟨wD, hD⟩ : ∃ x : World, x = W.drew := ⟨_, rfl⟩
  rw [← hD]
  have hp0_0 : Below W.heap.size W wD := by rw [hD]; exact (Below.refl _ _).drew
  have hlow0 : Below W.heap.size W wD := by rw [hD]; exact (Below.refl _ _).drew
  clear hD
  refine wpZ_take (i := 0) (v := .int .i64 (s : Int)) 89 rfl rfl (by kernel_rfl) (by kernel_rfl) (by kernel_rfl) (Or.inr (by decide)) (fun _ _ _ h => h) (Or.inl ⟨by rfl, fun w hSw => by go_simp⟩) hp0_0 ?_
  simp only [Act.put, List.setIfInBounds_toArray]
  dsimp only [List.set_cons_zero, List.set_cons_succ]
  refine wpZ_take (i := 1) (v := r1) 90 rfl rfl (by kernel_rfl) (by kernel_rfl) (by kernel_rfl) (Or.inr (by decide)) (fun _ _ _ h => h) (Or.inl ⟨by rfl, fun w hSw => by go_simp⟩) hp0_0 ?_
  simp only [Act.put, List.setIfInBounds_toArray]
  dsimp only [List.set_cons_zero, List.set_cons_succ]
  refine wpZ_take (i := 2) (v := .agg #[.int .u64 ((limb 0 (x) : Nat) : Int), .int .u64 ((limb 1 (x) : Nat) : Int), .int .u64 ((limb 2 (x) : Nat) : Int), .int .u64 ((limb 3 (x) : Nat) : Int)]) 91 rfl rfl (by kernel_rfl) (by kernel_rfl) (by kernel_rfl) (Or.inr (by decide)) (fun _ _ _ h => h) (Or.inl ⟨by rfl, fun w hSw => by (have qq := (bx_W.belowAll hSw).cell; clear hSw; go_simp)⟩) hp0_0 ?_
  simp only [Act.put, List.setIfInBounds_toArray]
  dsimp only [List.set_cons_zero, List.set_cons_succ]
  refine wpZ_take (i := 4) (v := .int .i64 (s : Int)) 93 rfl rfl (by kernel_rfl) (by kernel_rfl) (by kernel_rfl) (Or.inr (by decide)) (fun _ _ _ h => h) (Or.inl ⟨by rfl, fun w hSw => by go_simp⟩) hp0_0 ?_
  simp only [Act.put, List.setIfInBounds_toArray]
  dsimp only [List.set_cons_zero, List.set_cons_succ]
  refine wpZ_take (i := 5) (v := .int .i64 (s : Int)) 94 rfl rfl (by kernel_rfl) (by kernel_rfl) (by kernel_rfl) (Or.inr (by decide)) (fun _ _ _ h => h) (Or.inl ⟨by rfl, fun w hSw => by go_simp⟩) hp0_0 ?_
  simp only [Act.put, List.setIfInBounds_toArray]
  dsimp only [List.set_cons_zero, List.set_cons_succ]
  refine wpZ_take (i := 6) (v := .slice oa n cn) 95 rfl rfl (by kernel_rfl) (by kernel_rfl) (by kernel_rfl) (Or.inr (by decide)) (fun _ _ _ h => h) (Or.inl ⟨by rfl, fun w hSw => by go_simp⟩) hp0_0 ?_
  simp only [Act.put, List.setIfInBounds_toArray]
  dsimp only [List.set_cons_zero, List.set_cons_succ]
  refine wpZ_take (i := 8) (v := .agg #[.int .u64 ((limb 0 (x) : Nat) : Int), .int .u64 ((limb 1 (x) : Nat) : Int), .int .u64 ((limb 2 (x) : Nat) : Int), .int .u64 ((limb 3 (x) : Nat) : Int)]) 97 rfl rfl (by kernel_rfl) (by kernel_rfl) (by kernel_rfl) (Or.inr (by decide)) (fun _ _ _ h => h) (Or.inl ⟨by rfl, fun w hSw => by (have qq := (bx_W.belowAll hSw).cell; clear hSw; go_simp)⟩) hp0_0 ?_
  simp only [Act.put, List.setIfInBounds_toArray]
  dsimp only [List.set_cons_zero, List.set_cons_succ]
  refine wpZ_take (i := 10) (v := .int .i64 (s : Int)) 99 rfl rfl (by kernel_rfl) (by kernel_rfl) (by kernel_rfl) (Or.inr (by decide)) (fun _ _ _ h => h) (Or.inl ⟨by rfl, fun w hSw => by go_simp⟩) hp0_0 ?_
  simp only [Act.put, List.setIfInBounds_toArray]
  dsimp only [List.set_cons_zero, List.set_cons_succ]
  refine wpZ_take (i := 11) (v := .slice ob m cm) 100 rfl rfl (by kernel_rfl) (by kernel_rfl) (by kernel_rfl) (Or.inr (by decide)) (fun _ _ _ h => h) (Or.inl ⟨by rfl, fun w hSw => by go_simp⟩) hp0_0 ?_
  simp only [Act.put, List.setIfInBounds_toArray]
  dsimp only [List.set_cons_zero, List.set_cons_succ]
  refine wpZ_take (i := 13) (v := .agg #[.int .u64 ((limb 0 (x) : Nat) : Int), .int .u64 ((limb 1 (x) : Nat) : Int), .int .u64 ((limb 2 (x) : Nat) : Int), .int .u64 ((limb 3 (x) : Nat) : Int)]) 102 rfl rfl (by kernel_rfl) (by kernel_rfl) (by kernel_rfl) (Or.inr (by decide)) (fun _ _ _ h => h) (Or.inl ⟨by rfl, fun w hSw => by (have qq := (bx_W.belowAll hSw).cell; clear hSw; go_simp)⟩) hp0_0 ?_
  simp only [Act.put, List.setIfInBounds_toArray]
  dsimp only [List.set_cons_zero, List.set_cons_succ]
  refine wpZ_one (i := 3) (by kernel_rfl) rfl (fun K hK => ?_)
  go_simp
  refine (HE1.out wD r1 (HG.out.below (bStep hb_W hlow0)) (E1_W.out.below hlow0)).mono ?_
  rintro e wL1 ⟨rfl, hbL1⟩
  have hlowL1 := bStep hlow0 hbL1
  go_wp2_with fail
  refine hK.out _ _ (fun _ => hlowL1) ?_
  clear hK K hbL1
  refine wpZ_one (i := 7) (by kernel_rfl) rfl (fun K hK => ?_)
  go_simp
  refine (CA.out wL1 (HVA.out.below (bStep hb_W hlowL1))).mono ?_
  rintro e wL2 ⟨v1, rfl, own1, hbL2⟩
  have hlowL2 := bStep hlowL1 hbL2
  have Ea : Hid (Es wL2 v1 n f) := own_Es own1
  clear own1
  go_wp2_with fail
  refine hK.out _ _ (fun _ => hlowL2) ?_
  clear hK K hbL2
  refine wpZ_one (i := 9) (by kernel_rfl) rfl (fun K hK => ?_)
  go_simp
  refine (HE2.out wL2 v1 (HG.out.below (bStep hb_W hlowL2)) Ea.out).mono ?_
  rintro e wL3 ⟨rfl, hbL3⟩
  have hlowL3 := bStep hlowL2 hbL3
  go_wp2_with fail
  refine hK.out _ _ (fun _ => hlowL3) ?_
  clear hK K hbL3
  refine wpZ_one (i := 12) (by kernel_rfl) rfl (fun K hK => ?_)
  go_simp
  refine (CB.out wL3 (HVB.out.below (bStep hb_W hlowL3))).mono ?_
  rintro e wL4 ⟨v2, rfl, own2, hbL4⟩
  have hlowL4 := bStep hlowL3 hbL4
  have Eb : Hid (Es wL4 v2 m g) := own_Es own2
  clear own2
  go_wp2_with fail
  refine hK.out _ _ (fun _ => hlowL4) ?_
  clear hK K hbL4
  refine wpZ_one (i := 14) (by kernel_rfl) rfl (fun K hK => ?_)
  go_simp
  refine (HE3.out wL4 v2 (HG.out.below (bStep hb_W hlowL4)) Eb.out).mono ?_
  rintro e wL5 ⟨rfl, hbL5⟩
  have hlowL5 := bStep hlowL4 hbL5
  go_wp2_with fail
  refine hK.out _ _ (fun _ => hlowL5) ?_
  clear hK K hbL5
  refine wpZ_one (i := 15) (by kernel_rfl) rfl (fun K hK => ?_)
  go_simp
  refine (HMU.out wL5 (HG.out.below (bStep hb_W hlowL5))).mono ?_
  rintro e wL6 ⟨rfl, hbL6⟩
  have hlowL6 := bStep hlowL5 hbL6
  go_wp2_with fail
  refine hK.out _ _ (fun _ => hlowL6) ?_
  clear hK K hbL6
  refine wpZ_take (i := 16) (v := .bool false) 105 rfl rfl (by kernel_rfl) (by kernel_rfl) (by kernel_rfl) (Or.inr (by decide)) (fun _ _ _ h => h) (Or.inl ⟨by rfl, fun w hSw => by (have qq := HNQ.out; clear hSw; go_simp)⟩) hlowL6 ?_
  simp only [Act.put, List.setIfInBounds_toArray]
  dsimp only [List.set_cons_zero, List.set_cons_succ]
  refine wpZ_done (by kernel_rfl) ?_ _
  have hb_X := bStep hb_W hlowL6
  have E1_X : Hid (Es wL6 r1 K1 F1) := E1_W.out.below hlowL6
  obtain ⟨X, eX⟩ : ∃ z, z = wL6 := ⟨_, rfl⟩
  rw [← eX] at hb_X E1_X ⊢
  clear eX
  go_wp2_with fail
  refine (CB.out X (HVB.out.below hb_X)).mono ?_
  rintro e w15 ⟨vh, rfl, ownVh, hq⟩
  have hb_w15 := bStep hb_X hq
  have E1_w15 : Hid (Es w15 r1 K1 F1) := E1_X.out.below hq
  have Vh_w15 : Hid (Es w15 vh m g) := own_Es ownVh
  clear hq hb_X E1_X
  clear ownVh
  go_wp2_with fail
  refine (HD.out w15 r1 vh (HG.out.below hb_w15) E1_w15.out Vh_w15.out).mono ?_
  rintro e w16 ⟨⟨qq, or_, cr, rfl, hE⟩, hq⟩
  have hb_w16 := bStep hb_w15 hq
  have Eq_w16 : Hid (Es w16 qq K5 F5) := hE
  clear hq hb_w15 hE
  go_wp2_with fail
  refine (CB.out w16 (HVB.out.below hb_w16)).mono ?_
  rintro e w17 ⟨vi, rfl, ownVi, hq⟩
  have hb_w17 := bStep hb_w16 hq
  have Eq_w17 : Hid (Es w17 qq K5 F5) := Eq_w16.out.below hq
  have Vi_w17 : Hid (Es w17 vi m g) := own_Es ownVi
  clear hq hb_w16 Eq_w16
  clear ownVi
  go_wp2_with fail
  refine (HTB.out w17 vi (HG.out.below hb_w17) Vi_w17.out).mono ?_
  rintro e w18 ⟨⟨G1, c1, rfl⟩, hq⟩
  have hb_w18 := bStep hb_w17 hq
  have Eq_w18 : Hid (Es w18 qq K5 F5) := Eq_w17.out.below hq
  clear hq hb_w17 Eq_w17
  go_wp2_with fail
  refine (CA.out w18 (HVA.out.below hb_w18)).mono ?_
  rintro e w19 ⟨vj, rfl, ownVj, hq⟩
  have hb_w19 := bStep hb_w18 hq
  have Eq_w19 : Hid (Es w19 qq K5 F5) := Eq_w18.out.below hq
  have Vj_w19 : Hid (Es w19 vj n f) := own_Es ownVj
  clear hq hb_w18 Eq_w18
  clear ownVj
  go_wp2_with fail
  refine (HTA.out w19 vj (HG.out.below hb_w19) Vj_w19.out).mono ?_
  rintro e w20 ⟨⟨rt, rfl, hE⟩, hq⟩
  have hb_w20 := bStep hb_w19 hq
  have Eq_w20 : Hid (Es w20 qq K5 F5) := Eq_w19.out.below hq
  have Et_w20 : Hid (Es w20 rt K5 F5) := hE
  clear hq hb_w19 Eq_w19 hE
  go_wp2_with fail
  refine (sameE_self qq rt K5 F5 HN.out.2 HM5.out w20 Eq_w20.out Et_w20.out).mono ?_
  rintro e w21 ⟨rfl, hq⟩
  have hb_w21 := bStep hb_w20 hq
  clear hq hb_w20
  go_wp2
  go_ret
  exact ⟨rfl, hb_w21⟩
end Go.Proofs.YtfjdnlcfhgamfaaDoor
