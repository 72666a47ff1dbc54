/- poly: Zeros; PolyRests: the walk. -/
import Derived.Test.YtfjdnlcfhgamfaaDoorPM2
import Derived.Test.YtfjdnlcfhgamfaaDoorPZ1
import Derived.Test.YtfjdnlcfhgamfaaDoorPB8
namespace Go.Proofs.YtfjdnlcfhgamfaaDoor
open Go.RowKit

/-- A list of one. -/
theorem one_list {w w' : World} {b x : Nat} (hw : w' = w.alloc (.cells #[.int .u64 ((limb 0 (x) : Nat) : Int), .int .u64 ((limb 1 (x) : Nat) : Int), .int .u64 ((limb 2 (x) : Nat) : Int), .int .u64 ((limb 3 (x) : Nat) : Int)] 25)) (hb : b = w.heap.size) : Es w' (.slice (some ⟨b, 0, none⟩) 1 1) 1 (fun _ => x) := by
  have k := Blk.newAt w 25 b (fun i => limb i x) hb
  rw [← hw] at k
  refine Or.inr ⟨b, 0, 1, rfl, Nat.le_refl _, by unfold maxLen; omega, k.lt, fun i hi j hj => ?_⟩
  obtain rfl : i = 0 := by omega
  rw [Nat.zero_mul, Nat.zero_add]
  exact k.cell j hj
set_option maxHeartbeats 4000000 in
set_option maxRecDepth 20000 in
/-- poly.Zeros. -/
theorem pZeros_in (s n cn : Nat) (oa : Option Addr) (xs : Nat → Nat) (hs : s < 4) (hn : n ≤ 1023) (hf : ∀ i, i < n → xs i < 115792089237316195423570985008687907853269984665640564039457584007913129639936) (w : World) (hg : Glob w) (hv : Es w (.slice oa n cn) n xs) :
    Calls Tryd.prog 26 #[.int .i64 (s : Int), .slice oa n cn] w fun e w' => (∃ G, e = .returned (.tuple #[.slice (some ⟨G, 0, none⟩) (n + 1) (n + 1), .int .i64 0]) ∧ w.heap.size ≤ G ∧ BlkE w' G (n + 1) (zrs s xs n)) ∧ Below w.heap.size w w' := by
  have HMO : Hid (∀ w, Glob w → _) := fun w hg => fModulus_any s hs w hg
  have HZO : Hid (∀ w, Glob w → Es w (.slice oa n cn) n xs → _) := fun w hg hv => zeros_any s n cn oa xs hs (by omega) hf w hg hv
  have HG : Hid (Glob w) := hg
  have HV : Hid (Es w (.slice oa n cn) n xs) := hv
  have hni : ¬ (1023 : Int) < (n : Int) := by omega
  clear hg hv hf
  go_enter Tryd.func26, Tryd.ntmps26
  go_wp2_with fail
  refine (HMO.out w HG.out).mono ?_
  rintro e w1 ⟨rfl, hb1⟩
  obtain ⟨w2, hw2⟩ : ∃ z : World, z = w1.alloc (.cells #[.int .u64 ((limb 0 (modN s) : Nat) : Int), .int .u64 ((limb 1 (modN s) : Nat) : Int), .int .u64 ((limb 2 (modN s) : Nat) : Int), .int .u64 ((limb 3 (modN s) : Nat) : Int)] 25) := ⟨_, rfl⟩
  have hb2 : Below w.heap.size w w2 := by rw [hw2]; exact bAlloc hb1 _
  go_wp2_with fail
  rw [← hw2]
  clear hw2 hb1
  refine (HZO.out w2 (HG.out.below hb2) (HV.out.below hb2)).mono ?_
  rintro e w3 ⟨⟨G, rfl, lG, hB⟩, hb3⟩
  have hb := bStep hb2 hb3
  have l2 := hb2.size
  clear hb2 hb3
  go_wp2
  go_ret2
  exact ⟨⟨G, rfl, by omega, hB⟩, hb⟩
set_option maxHeartbeats 16000000 in
set_option maxRecDepth 40000 in
theorem prests_z (s : Nat) (oa ob : Option Addr) (n cn m cm x : Nat) (f g : Nat → Nat) (hs : s < 4) (hn : n ≤ 60) (hm : m ≤ 60) 
    (HD10 : ∀ w v u, Glob w → Es w v n f → Es w u m g → Calls Tryd.prog 24 #[.int .i64 (s : Int), v, u] w fun e w' => e = .returned (.tuple #[.slice none 0 0, .slice none 0 0, .int .i64 10]) ∧ Below w.heap.size w w')
    (w : World) (hg : Glob w) (hv : Es w (.slice oa n cn) n f) (hu : Es w (.slice ob m cm) m g) :
    Calls Tryd.prog 8 #[.int .i64 (s : Int), .slice oa n cn, .slice ob m cm, .agg #[.int .u64 ((limb 0 (x) : Nat) : Int), .int .u64 ((limb 1 (x) : Nat) : Int), .int .u64 ((limb 2 (x) : Nat) : Int), .int .u64 ((limb 3 (x) : Nat) : Int)]] w fun e w' => e = .returned (.bool true) ∧ Below w.heap.size w w' := by
  have HD1 : Hid (∀ w v u, Glob w → Es w v n f → Es w u m g → Calls Tryd.prog 24 #[.int .i64 (s : Int), v, u] w fun e w' => e = .returned (.tuple #[.slice none 0 0, .slice none 0 0, .int .i64 10]) ∧ Below w.heap.size w w') := HD10
  clear HD10
  have CA : Hid (∀ w, Es w (.slice oa n cn) n f → _) := fun w h => copyE_any n _ f (by omega) w h
  have CB : Hid (∀ w, Es w (.slice ob m cm) m g → _) := fun w h => copyE_any m _ g (by omega) w h
  have HG : Hid (Glob w) := hg
  have HVA : Hid (Es w (.slice oa n cn) n f) := hv
  have HVB : Hid (Es w (.slice ob m cm) m g) := hu
  have HGR : Hid (∀ w, _) := fun w => great7_any oa ob n cn m cm w
  rw [decide_eq_false (by omega)] at HGR
  have hs0 : ¬ (s : Int) < 0 := by omega
  have hs3 : ¬ (3 : Int) < (s : Int) := by omega
  clear hg hv hu hs
  go_enter Tryd.func8, Tryd.ntmps8
  go_wp2_with fail
  obtain ⟨w0, hw0⟩ : ∃ z : World, z = w.alloc (.cells #[.int .u64 ((limb 0 (x) : Nat) : Int), .int .u64 ((limb 1 (x) : Nat) : Int), .int .u64 ((limb 2 (x) : Nat) : Int), .int .u64 ((limb 3 (x) : Nat) : Int)] 25) := ⟨_, rfl⟩
  obtain ⟨N7, e7⟩ : ∃ z, z = w.heap.size := ⟨_, rfl⟩
  have bx_w0 : Blk w0 25 N7 (fun i => limb i x) := by rw [hw0]; exact Blk.newAt _ _ _ (fun i => limb i x) e7
  have hb_w0 : Below w.heap.size w w0 := by rw [hw0]; exact bAlloc (Below.refl _ _) _
  rw [← hw0, ← e7]
  clear hw0 e7
  refine (alive7_any w0 (HG.out.below hb_w0)).mono ?_
  rintro e w1 ⟨rfl, hq⟩
  have hb_w1 := bStep hb_w0 hq
  have bx_w1 := bx_w0.belowAll hq
  clear hb_w0 hq bx_w0
  go_wp2_with fail
  refine (HGR.out w1).mono ?_
  rintro e w1' ⟨rfl, hw⟩
  obtain rfl := hw.symm
  clear hw HGR
  go_wp2_with fail
  refine (CA.out w1 (HVA.out.below hb_w1)).mono ?_
  rintro e w2 ⟨va, rfl, ownVa, hq⟩
  have hb_w2 := bStep hb_w1 hq
  have bx_w2 := bx_w1.belowAll hq
  have Va_w2 : Hid (Es w2 va n f) := own_Es ownVa
  clear hq hb_w1 bx_w1
  clear ownVa
  go_wp2_with fail
  refine (CB.out w2 (HVB.out.below hb_w2)).mono ?_
  rintro e w3 ⟨vb, rfl, ownVb, hq⟩
  have hb_w3 := bStep hb_w2 hq
  have bx_w3 := bx_w2.belowAll hq
  have Va_w3 : Hid (Es w3 va n f) := Va_w2.out.below hq
  have Vb_w3 : Hid (Es w3 vb m g) := own_Es ownVb
  clear hq hb_w2 bx_w2 Va_w2
  clear ownVb
  go_wp2_with fail
  refine (HD1.out w3 va vb (HG.out.below hb_w3) Va_w3.out Vb_w3.out).mono ?_
  rintro e w4 ⟨rfl, hq⟩
  have hb_w4 := bStep hb_w3 hq
  have bx_w4 := bx_w3.belowAll hq
  have Va_w4 : Hid (Es w4 va n f) := Va_w3.out.below hq
  have Vb_w4 : Hid (Es w4 vb m g) := Vb_w3.out.below hq
  clear hq hb_w3 bx_w3 Va_w3 Vb_w3
  go_wp2
  go_ret
  exact ⟨rfl, hb_w4⟩
set_option maxHeartbeats 16000000 in
set_option maxRecDepth 40000 in
theorem prests_n (s : Nat) (oa ob : Option Addr) (n cn m cm x y KB K4 K5 : Nat) (f g F4 F5 Z : Nat → Nat) (QQ : Nat → (Nat → Nat) → Nat → (Nat → Nat) → Prop) (hs : s < 4) (hn : n ≤ 60) (hm : m ≤ 60) (hK : K4 ≤ 1000 ∧ K5 ≤ 1000) (hF4 : ∀ i, i < K4 → F4 i < 115792089237316195423570985008687907853269984665640564039457584007913129639936) (hF5 : ∀ i, i < K5 → F5 i < 115792089237316195423570985008687907853269984665640564039457584007913129639936)
    (HD10 : ∀ w v u, Glob w → Es w v n f → Es w u m g → Calls Tryd.prog 24 #[.int .i64 (s : Int), v, u] w fun e w' => (∃ (K1 : Nat) (F1 : Nat → Nat) (K2 : Nat) (F2 : Nat → Nat) (q r : Value), e = .returned (.tuple #[q, r, .int .i64 0]) ∧ Es w' q K1 F1 ∧ Es w' r K2 F2 ∧ QQ K1 F1 K2 F2) ∧ Below w.heap.size w w')
    (HQQ0 : ∀ K1 F1 K2 F2, QQ K1 F1 K2 F2 → ∃ (K3 : Nat) (F3 : Nat → Nat), K2 < KB ∧ (∀ w v u, Glob w → Es w v K1 F1 → Es w u m g → Calls Tryd.prog 22 #[.int .i64 (s : Int), v, u] w fun e w' => (∃ r, e = .returned (.tuple #[r, .int .i64 0]) ∧ Es w' r K3 F3) ∧ Below w.heap.size w w') ∧ (∀ w v u, Glob w → Es w v K3 F3 → Es w u K2 F2 → Calls Tryd.prog 16 #[.int .i64 (s : Int), v, u] w fun e w' => (∃ r, e = .returned r ∧ Es w' r K4 F4) ∧ Below w.heap.size w w'))
    (HT10 : ∀ w v, Glob w → Es w v n f → Calls Tryd.prog 14 #[.int .i64 (s : Int), v] w fun e w' => (∃ r, e = .returned r ∧ Es w' r K4 F4) ∧ Below w.heap.size w w')
    (HTB0 : ∀ w v, Glob w → Es w v m g → Calls Tryd.prog 14 #[.int .i64 (s : Int), v] w fun e w' => (∃ G c, e = .returned (.slice (some ⟨G, 0, none⟩) KB c)) ∧ Below w.heap.size w w')
    (HZE0 : ∀ w v, Glob w → Es w v 1 (fun _ => x) → Calls Tryd.prog 26 #[.int .i64 (s : Int), v] w fun e w' => (∃ r, e = .returned (.tuple #[r, .int .i64 0]) ∧ Es w' r 2 Z) ∧ Below w.heap.size w w')
    (HD20 : ∀ w v u, Glob w → Es w v n f → Es w u 2 Z → Calls Tryd.prog 24 #[.int .i64 (s : Int), v, u] w fun e w' => (∃ (q r : Value), e = .returned (.tuple #[q, r, .int .i64 0]) ∧ Es w' r K5 F5) ∧ Below w.heap.size w w')
    (HEV0 : ∀ w v, Glob w → Es w v n f → Calls Tryd.prog 20 #[.int .i64 (s : Int), v, .agg #[.int .u64 ((limb 0 (x) : Nat) : Int), .int .u64 ((limb 1 (x) : Nat) : Int), .int .u64 ((limb 2 (x) : Nat) : Int), .int .u64 ((limb 3 (x) : Nat) : Int)]] w fun e w' => e = .returned (.agg #[.int .u64 ((limb 0 (y) : Nat) : Int), .int .u64 ((limb 1 (y) : Nat) : Int), .int .u64 ((limb 2 (y) : Nat) : Int), .int .u64 ((limb 3 (y) : Nat) : Int)]) ∧ Below w.heap.size w w')
    (HT20 : ∀ w v, Glob w → Es w v 1 (fun _ => y) → Calls Tryd.prog 14 #[.int .i64 (s : Int), v] w fun e w' => (∃ r, e = .returned r ∧ Es w' r K5 F5) ∧ Below w.heap.size w w')
    (w : World) (hg : Glob w) (hv : Es w (.slice oa n cn) n f) (hu : Es w (.slice ob m cm) m g) :
    Calls Tryd.prog 8 #[.int .i64 (s : Int), .slice oa n cn, .slice ob m cm, .agg #[.int .u64 ((limb 0 (x) : Nat) : Int), .int .u64 ((limb 1 (x) : Nat) : Int), .int .u64 ((limb 2 (x) : Nat) : Int), .int .u64 ((limb 3 (x) : Nat) : Int)]] w fun e w' => e = .returned (.bool true) ∧ Below w.heap.size w w' := by
  have HD1 : Hid (∀ w v u, Glob w → Es w v n f → Es w u m g → Calls Tryd.prog 24 #[.int .i64 (s : Int), v, u] w fun e w' => (∃ (K1 : Nat) (F1 : Nat → Nat) (K2 : Nat) (F2 : Nat → Nat) (q r : Value), e = .returned (.tuple #[q, r, .int .i64 0]) ∧ Es w' q K1 F1 ∧ Es w' r K2 F2 ∧ QQ K1 F1 K2 F2) ∧ Below w.heap.size w w') := HD10
  clear HD10
  have HQQ : Hid (∀ K1 F1 K2 F2, QQ K1 F1 K2 F2 → ∃ (K3 : Nat) (F3 : Nat → Nat), K2 < KB ∧ (∀ w v u, Glob w → Es w v K1 F1 → Es w u m g → Calls Tryd.prog 22 #[.int .i64 (s : Int), v, u] w fun e w' => (∃ r, e = .returned (.tuple #[r, .int .i64 0]) ∧ Es w' r K3 F3) ∧ Below w.heap.size w w') ∧ (∀ w v u, Glob w → Es w v K3 F3 → Es w u K2 F2 → Calls Tryd.prog 16 #[.int .i64 (s : Int), v, u] w fun e w' => (∃ r, e = .returned r ∧ Es w' r K4 F4) ∧ Below w.heap.size w w')) := HQQ0
  clear HQQ0
  have HT1 : Hid (∀ w v, Glob w → Es w v n f → Calls Tryd.prog 14 #[.int .i64 (s : Int), v] w fun e w' => (∃ r, e = .returned r ∧ Es w' r K4 F4) ∧ Below w.heap.size w w') := HT10
  clear HT10
  have HTB : Hid (∀ w v, Glob w → Es w v m g → Calls Tryd.prog 14 #[.int .i64 (s : Int), v] w fun e w' => (∃ G c, e = .returned (.slice (some ⟨G, 0, none⟩) KB c)) ∧ Below w.heap.size w w') := HTB0
  clear HTB0
  have HZE : Hid (∀ w v, Glob w → Es w v 1 (fun _ => x) → Calls Tryd.prog 26 #[.int .i64 (s : Int), v] w fun e w' => (∃ r, e = .returned (.tuple #[r, .int .i64 0]) ∧ Es w' r 2 Z) ∧ Below w.heap.size w w') := HZE0
  clear HZE0
  have HD2 : Hid (∀ w v u, Glob w → Es w v n f → Es w u 2 Z → Calls Tryd.prog 24 #[.int .i64 (s : Int), v, u] w fun e w' => (∃ (q r : Value), e = .returned (.tuple #[q, r, .int .i64 0]) ∧ Es w' r K5 F5) ∧ Below w.heap.size w w') := HD20
  clear HD20
  have HEV : Hid (∀ w v, Glob w → Es w v n f → Calls Tryd.prog 20 #[.int .i64 (s : Int), v, .agg #[.int .u64 ((limb 0 (x) : Nat) : Int), .int .u64 ((limb 1 (x) : Nat) : Int), .int .u64 ((limb 2 (x) : Nat) : Int), .int .u64 ((limb 3 (x) : Nat) : Int)]] w fun e w' => e = .returned (.agg #[.int .u64 ((limb 0 (y) : Nat) : Int), .int .u64 ((limb 1 (y) : Nat) : Int), .int .u64 ((limb 2 (y) : Nat) : Int), .int .u64 ((limb 3 (y) : Nat) : Int)]) ∧ Below w.heap.size w w') := HEV0
  clear HEV0
  have HT2 : Hid (∀ w v, Glob w → Es w v 1 (fun _ => y) → Calls Tryd.prog 14 #[.int .i64 (s : Int), v] w fun e w' => (∃ r, e = .returned r ∧ Es w' r K5 F5) ∧ Below w.heap.size w w') := HT20
  clear HT20
  have CA : Hid (∀ w, Es w (.slice oa n cn) n f → _) := fun w h => copyE_any n _ f (by omega) w h
  have CB : Hid (∀ w, Es w (.slice ob m cm) m g → _) := fun w h => copyE_any m _ g (by omega) w h
  have HG : Hid (Glob w) := hg
  have HVA : Hid (Es w (.slice oa n cn) n f) := hv
  have HVB : Hid (Es w (.slice ob m cm) m g) := hu
  have HM4 : Hid (∀ i, i < K4 → F4 i < 115792089237316195423570985008687907853269984665640564039457584007913129639936) := hF4
  have HM5 : Hid (∀ i, i < K5 → F5 i < 115792089237316195423570985008687907853269984665640564039457584007913129639936) := hF5
  have HN5 : Hid (K4 ≤ 1000 ∧ K5 ≤ 1000) := hK
  clear hF4 hF5 hK
  have HGR : Hid (∀ w, _) := fun w => great7_any oa ob n cn m cm w
  rw [decide_eq_false (by omega)] at HGR
  have hs0 : ¬ (s : Int) < 0 := by omega
  have hs3 : ¬ (3 : Int) < (s : Int) := by omega
  clear hg hv hu hs
  go_enter Tryd.func8, Tryd.ntmps8
  go_wp2_with fail
  obtain ⟨w0, hw0⟩ : ∃ z : World, z = w.alloc (.cells #[.int .u64 ((limb 0 (x) : Nat) : Int), .int .u64 ((limb 1 (x) : Nat) : Int), .int .u64 ((limb 2 (x) : Nat) : Int), .int .u64 ((limb 3 (x) : Nat) : Int)] 25) := ⟨_, rfl⟩
  obtain ⟨N7, e7⟩ : ∃ z, z = w.heap.size := ⟨_, rfl⟩
  have bx_w0 : Blk w0 25 N7 (fun i => limb i x) := by rw [hw0]; exact Blk.newAt _ _ _ (fun i => limb i x) e7
  have hb_w0 : Below w.heap.size w w0 := by rw [hw0]; exact bAlloc (Below.refl _ _) _
  rw [← hw0, ← e7]
  clear hw0 e7
  refine (alive7_any w0 (HG.out.below hb_w0)).mono ?_
  rintro e w1 ⟨rfl, hq⟩
  have hb_w1 := bStep hb_w0 hq
  have bx_w1 := bx_w0.belowAll hq
  clear hb_w0 hq bx_w0
  go_wp2_with fail
  refine (HGR.out w1).mono ?_
  rintro e w1' ⟨rfl, hw⟩
  obtain rfl := hw.symm
  clear hw HGR
  go_wp2_with fail
  refine (CA.out w1 (HVA.out.below hb_w1)).mono ?_
  rintro e w2 ⟨va, rfl, ownVa, hq⟩
  have hb_w2 := bStep hb_w1 hq
  have bx_w2 := bx_w1.belowAll hq
  have Va_w2 : Hid (Es w2 va n f) := own_Es ownVa
  clear hq hb_w1 bx_w1
  clear ownVa
  go_wp2_with fail
  refine (CB.out w2 (HVB.out.below hb_w2)).mono ?_
  rintro e w3 ⟨vb, rfl, ownVb, hq⟩
  have hb_w3 := bStep hb_w2 hq
  have bx_w3 := bx_w2.belowAll hq
  have Va_w3 : Hid (Es w3 va n f) := Va_w2.out.below hq
  have Vb_w3 : Hid (Es w3 vb m g) := own_Es ownVb
  clear hq hb_w2 bx_w2 Va_w2
  clear ownVb
  go_wp2_with fail
  refine (HD1.out w3 va vb (HG.out.below hb_w3) Va_w3.out Vb_w3.out).mono ?_
  rintro e w4 ⟨⟨K1, F1, K2, F2, q, r, rfl, hE1, hE2, hQ⟩, hq⟩
  have hb_w4 := bStep hb_w3 hq
  have bx_w4 := bx_w3.belowAll hq
  have Va_w4 : Hid (Es w4 va n f) := Va_w3.out.below hq
  have Vb_w4 : Hid (Es w4 vb m g) := Vb_w3.out.below hq
  have E1_w4 : Hid (Es w4 q K1 F1) := hE1
  have E2_w4 : Hid (Es w4 r K2 F2) := hE2
  clear hq hb_w3 bx_w3 Va_w3 Vb_w3 hE1 hE2
  clear Va_w4
  clear Vb_w4
  obtain ⟨K3, F3, hlt, hm1, ha1⟩ := HQQ.out _ _ _ _ hQ
  have HM1 : Hid (∀ w v u, Glob w → Es w v K1 F1 → Es w u m g → Calls Tryd.prog 22 #[.int .i64 (s : Int), v, u] w fun e w' => (∃ r, e = .returned (.tuple #[r, .int .i64 0]) ∧ Es w' r K3 F3) ∧ Below w.heap.size w w') := hm1
  have HA1 : Hid (∀ w v u, Glob w → Es w v K3 F3 → Es w u K2 F2 → Calls Tryd.prog 16 #[.int .i64 (s : Int), v, u] w fun e w' => (∃ r, e = .returned r ∧ Es w' r K4 F4) ∧ Below w.heap.size w w') := ha1
  have hlt2 : ¬ (KB : Int) ≤ (K2 : Int) := by omega
  clear hm1 ha1 hQ hlt
  obtain ⟨or_, cr, rfl⟩ := E2_w4.out.shape
  go_wp2_with fail
  refine (CB.out w4 (HVB.out.below hb_w4)).mono ?_
  rintro e w5 ⟨vc, rfl, ownVc, hq⟩
  have hb_w5 := bStep hb_w4 hq
  have bx_w5 := bx_w4.belowAll hq
  have E1_w5 : Hid (Es w5 q K1 F1) := E1_w4.out.below hq
  have E2_w5 : Hid (Es w5 (.slice or_ K2 cr) K2 F2) := E2_w4.out.below hq
  have Vc_w5 : Hid (Es w5 vc m g) := own_Es ownVc
  clear hq hb_w4 bx_w4 E1_w4 E2_w4
  clear ownVc
  go_wp2_with fail
  refine (HM1.out w5 q vc (HG.out.below hb_w5) E1_w5.out Vc_w5.out).mono ?_
  rintro e w6 ⟨⟨r3, rfl, hE⟩, hq⟩
  have hb_w6 := bStep hb_w5 hq
  have bx_w6 := bx_w5.belowAll hq
  have E1_w6 : Hid (Es w6 q K1 F1) := E1_w5.out.below hq
  have E2_w6 : Hid (Es w6 (.slice or_ K2 cr) K2 F2) := E2_w5.out.below hq
  have Vc_w6 : Hid (Es w6 vc m g) := Vc_w5.out.below hq
  have E3_w6 : Hid (Es w6 r3 K3 F3) := hE
  clear hq hb_w5 bx_w5 E1_w5 E2_w5 Vc_w5 hE
  clear E1_w6
  clear Vc_w6
  go_wp2_with fail
  refine (HA1.out w6 r3 _ (HG.out.below hb_w6) E3_w6.out E2_w6.out).mono ?_
  rintro e w7 ⟨⟨r4, rfl, hE⟩, hq⟩
  have hb_w7 := bStep hb_w6 hq
  have bx_w7 := bx_w6.belowAll hq
  have E2_w7 : Hid (Es w7 (.slice or_ K2 cr) K2 F2) := E2_w6.out.below hq
  have E3_w7 : Hid (Es w7 r3 K3 F3) := E3_w6.out.below hq
  have E4_w7 : Hid (Es w7 r4 K4 F4) := hE
  clear hq hb_w6 bx_w6 E2_w6 E3_w6 hE
  clear E3_w7
  clear E2_w7
  go_wp2_with fail
  refine (CA.out w7 (HVA.out.below hb_w7)).mono ?_
  rintro e w8 ⟨vd, rfl, ownVd, hq⟩
  have hb_w8 := bStep hb_w7 hq
  have bx_w8 := bx_w7.belowAll hq
  have E4_w8 : Hid (Es w8 r4 K4 F4) := E4_w7.out.below hq
  have Vd_w8 : Hid (Es w8 vd n f) := own_Es ownVd
  clear hq hb_w7 bx_w7 E4_w7
  clear ownVd
  go_wp2_with fail
  refine (HT1.out w8 vd (HG.out.below hb_w8) Vd_w8.out).mono ?_
  rintro e w9 ⟨⟨r5, rfl, hE⟩, hq⟩
  have hb_w9 := bStep hb_w8 hq
  have bx_w9 := bx_w8.belowAll hq
  have E4_w9 : Hid (Es w9 r4 K4 F4) := E4_w8.out.below hq
  have Vd_w9 : Hid (Es w9 vd n f) := Vd_w8.out.below hq
  have E5_w9 : Hid (Es w9 r5 K4 F4) := hE
  clear hq hb_w8 bx_w8 E4_w8 Vd_w8 hE
  clear Vd_w9
  go_wp2_with fail
  refine (sameE_self r4 r5 K4 F4 HN5.out.1 HM4.out w9 E4_w9.out E5_w9.out).mono ?_
  rintro e w10 ⟨rfl, hq⟩
  have hb_w10 := bStep hb_w9 hq
  have bx_w10 := bx_w9.belowAll hq
  have E4_w10 : Hid (Es w10 r4 K4 F4) := E4_w9.out.below hq
  have E5_w10 : Hid (Es w10 r5 K4 F4) := E5_w9.out.below hq
  clear hq hb_w9 bx_w9 E4_w9 E5_w9
  clear E4_w10
  clear E5_w10
  go_wp2_with fail
  refine (CB.out w10 (HVB.out.below hb_w10)).mono ?_
  rintro e w11 ⟨ve, rfl, ownVe, hq⟩
  have hb_w11 := bStep hb_w10 hq
  have bx_w11 := bx_w10.belowAll hq
  have Ve_w11 : Hid (Es w11 ve m g) := own_Es ownVe
  clear hq hb_w10 bx_w10
  clear ownVe
  go_wp2_with fail
  refine (HTB.out w11 ve (HG.out.below hb_w11) Ve_w11.out).mono ?_
  rintro e w12 ⟨⟨G1, c1, rfl⟩, hq⟩
  have hb_w12 := bStep hb_w11 hq
  have bx_w12 := bx_w11.belowAll hq
  have Ve_w12 : Hid (Es w12 ve m g) := Ve_w11.out.below hq
  clear hq hb_w11 bx_w11 Ve_w11
  clear Ve_w12
  have bxc := bx_w12.cell
  go_upto_region 11 with fail
  go_wp2_with fail
  obtain ⟨NT, eT⟩ : ∃ N, N = w12.heap.size := ⟨_, rfl⟩
  obtain ⟨wT, hwT⟩ : ∃ zz : World, zz = w12.alloc (.cells #[.int .u64 ((limb 0 (x) : Nat) : Int), .int .u64 ((limb 1 (x) : Nat) : Int), .int .u64 ((limb 2 (x) : Nat) : Int), .int .u64 ((limb 3 (x) : Nat) : Int)] 25) := ⟨_, rfl⟩
  have ET_wT : Hid (Es wT (.slice (some ⟨NT, 0, none⟩) 1 1) 1 (fun _ => x)) := one_list hwT eT
  have hb_wT : Below w.heap.size w wT := by rw [hwT]; exact bAlloc hb_w12 _
  have bx_wT := bx_w12.belowAll (show Below w12.heap.size w12 wT by rw [hwT]; exact bAlloc (Below.refl _ _) _)
  rw [← hwT, ← eT]
  clear hwT eT hb_w12 bx_w12 bxc
  refine (HZE.out wT _ (HG.out.below hb_wT) ET_wT.out).mono ?_
  rintro e w13 ⟨⟨zz, rfl, hE⟩, hq⟩
  have hb_w13 := bStep hb_wT hq
  have bx_w13 := bx_wT.belowAll hq
  have Ez_w13 : Hid (Es w13 zz 2 Z) := hE
  clear hq hE hb_wT bx_wT ET_wT
  go_wp2_with fail
  refine (CA.out w13 (HVA.out.below hb_w13)).mono ?_
  rintro e w14 ⟨vf, rfl, ownVf, hq⟩
  have hb_w14 := bStep hb_w13 hq
  have bx_w14 := bx_w13.belowAll hq
  have Ez_w14 : Hid (Es w14 zz 2 Z) := Ez_w13.out.below hq
  have Vf_w14 : Hid (Es w14 vf n f) := own_Es ownVf
  clear hq hb_w13 bx_w13 Ez_w13
  clear ownVf
  go_wp2_with fail
  refine (HD2.out w14 vf zz (HG.out.below hb_w14) Vf_w14.out Ez_w14.out).mono ?_
  rintro e w15 ⟨⟨q2, r6, rfl, hE⟩, hq⟩
  have hb_w15 := bStep hb_w14 hq
  have bx_w15 := bx_w14.belowAll hq
  have Ez_w15 : Hid (Es w15 zz 2 Z) := Ez_w14.out.below hq
  have Vf_w15 : Hid (Es w15 vf n f) := Vf_w14.out.below hq
  have E6_w15 : Hid (Es w15 r6 K5 F5) := hE
  clear hq hb_w14 bx_w14 Ez_w14 Vf_w14 hE
  clear Vf_w15
  clear Ez_w15
  obtain ⟨W, eW⟩ : ∃ z, z = w15 := ⟨_, rfl⟩
  rw [← eW] at hb_w15 bx_w15 E6_w15
  have hb_W := hb_w15; have bx_W := bx_w15; have E6_W := E6_w15
  go_upto_region 13 with fail
  rw [← eW]
  clear eW hb_w15 bx_w15 E6_w15
  refine wp_region_Z (fun w' => Below W.heap.size W w') 99 (by kernel_rfl) ?_
  obtain ⟨wD, hD⟩ : ∃ x : World, x = W.drew := ⟨_, rfl⟩
  rw [← hD]
  have hp0_0 : Below W.heap.size W wD := by rw [hD]; exact (Below.refl _ _).drew
  have hlow0 : Below W.heap.size W wD := by rw [hD]; exact (Below.refl _ _).drew
  clear hD
  refine wpZ_take (i := 0) (v := .int .i64 0) 90 rfl rfl (by kernel_rfl) (by kernel_rfl) (by kernel_rfl) (Or.inr (by decide)) (fun _ _ _ h => h) (Or.inl ⟨by rfl, fun w hSw => by go_simp⟩) hp0_0 ?_
  simp only [Act.put, List.setIfInBounds_toArray]
  dsimp only [List.set_cons_zero, List.set_cons_succ]
  refine wpZ_take (i := 1) (v := .bool true) 91 rfl rfl (by kernel_rfl) (by kernel_rfl) (by kernel_rfl) (Or.inr (by decide)) (fun _ _ _ h => h) (Or.inl ⟨by rfl, fun w hSw => by go_simp⟩) hp0_0 ?_
  simp only [Act.put, List.setIfInBounds_toArray]
  dsimp only [List.set_cons_zero, List.set_cons_succ]
  refine wpZ_take (i := 2) (v := .bool true) 92 rfl rfl (by kernel_rfl) (by kernel_rfl) (by kernel_rfl) (Or.inr (by decide)) (fun _ _ _ h => h) (Or.inl ⟨by rfl, fun w hSw => by go_simp⟩) hp0_0 ?_
  simp only [Act.put, List.setIfInBounds_toArray]
  dsimp only [List.set_cons_zero, List.set_cons_succ]
  refine wpZ_take (i := 3) (v := r6) 93 rfl rfl (by kernel_rfl) (by kernel_rfl) (by kernel_rfl) (Or.inr (by decide)) (fun _ _ _ h => h) (Or.inl ⟨by rfl, fun w hSw => by go_simp⟩) hp0_0 ?_
  simp only [Act.put, List.setIfInBounds_toArray]
  dsimp only [List.set_cons_zero, List.set_cons_succ]
  refine wpZ_take (i := 4) (v := .int .i64 (s : Int)) 94 rfl rfl (by kernel_rfl) (by kernel_rfl) (by kernel_rfl) (Or.inr (by decide)) (fun _ _ _ h => h) (Or.inl ⟨by rfl, fun w hSw => by go_simp⟩) hp0_0 ?_
  simp only [Act.put, List.setIfInBounds_toArray]
  dsimp only [List.set_cons_zero, List.set_cons_succ]
  refine wpZ_take (i := 5) (v := .int .i64 (s : Int)) 95 rfl rfl (by kernel_rfl) (by kernel_rfl) (by kernel_rfl) (Or.inr (by decide)) (fun _ _ _ h => h) (Or.inl ⟨by rfl, fun w hSw => by go_simp⟩) hp0_0 ?_
  simp only [Act.put, List.setIfInBounds_toArray]
  dsimp only [List.set_cons_zero, List.set_cons_succ]
  refine wpZ_take (i := 6) (v := .slice oa n cn) 96 rfl rfl (by kernel_rfl) (by kernel_rfl) (by kernel_rfl) (Or.inr (by decide)) (fun _ _ _ h => h) (Or.inl ⟨by rfl, fun w hSw => by go_simp⟩) hp0_0 ?_
  simp only [Act.put, List.setIfInBounds_toArray]
  dsimp only [List.set_cons_zero, List.set_cons_succ]
  refine wpZ_take (i := 8) (v := .agg #[.int .u64 ((limb 0 (x) : Nat) : Int), .int .u64 ((limb 1 (x) : Nat) : Int), .int .u64 ((limb 2 (x) : Nat) : Int), .int .u64 ((limb 3 (x) : Nat) : Int)]) 98 rfl rfl (by kernel_rfl) (by kernel_rfl) (by kernel_rfl) (Or.inr (by decide)) (fun _ _ _ h => h) (Or.inl ⟨by rfl, fun w hSw => by (have qq := (bx_W.belowAll hSw).cell; clear hSw; go_simp)⟩) hp0_0 ?_
  simp only [Act.put, List.setIfInBounds_toArray]
  dsimp only [List.set_cons_zero, List.set_cons_succ]
  refine wpZ_one (i := 7) (by kernel_rfl) rfl (fun K hK => ?_)
  go_simp
  refine (CA.out wD (HVA.out.below (bStep hb_W hlow0))).mono ?_
  rintro e wL1 ⟨v1, rfl, own1, hbL1⟩
  have hlowL1 := bStep hlow0 hbL1
  have Ea : Hid (Es wL1 v1 n f) := own_Es own1
  clear own1
  go_wp2_with fail
  refine hK.out _ _ (fun _ => hlowL1) ?_
  clear hK K hbL1
  refine wpZ_one (i := 9) (by kernel_rfl) rfl (fun K hK => ?_)
  go_simp
  refine (HEV.out wL1 v1 (HG.out.below (bStep hb_W hlowL1)) Ea.out).mono ?_
  rintro e wL2 ⟨rfl, hbL2⟩
  have hlowL2 := bStep hlowL1 hbL2
  go_wp2_with fail
  refine hK.out _ _ (fun _ => hlowL2) ?_
  clear hK K hbL2
  refine wpZ_one (i := 10) (by kernel_rfl) rfl (fun K hK => ?_)
  go_simp
  obtain ⟨NS, eS⟩ : ∃ N, N = wL2.heap.size := ⟨_, rfl⟩
  obtain ⟨wS, hwS⟩ : ∃ zz : World, zz = wL2.alloc (.cells #[.int .u64 ((limb 0 (y) : Nat) : Int), .int .u64 ((limb 1 (y) : Nat) : Int), .int .u64 ((limb 2 (y) : Nat) : Int), .int .u64 ((limb 3 (y) : Nat) : Int)] 25) := ⟨_, rfl⟩
  have hlowS : Below W.heap.size W wS := by rw [hwS]; exact bAlloc hlowL2 _
  have ES : Hid (Es wS (.slice (some ⟨NS, 0, none⟩) 1 1) 1 (fun _ => y)) := one_list hwS eS
  try rw [← hwS, ← eS]
  refine hK.out _ _ (fun _ => hlowS) ?_
  clear hK K hwS eS
  refine wpZ_one (i := 11) (by kernel_rfl) rfl (fun K hK => ?_)
  go_simp
  refine (HT2.out wS (.slice (some ⟨NS, 0, none⟩) 1 1) (HG.out.below (bStep hb_W hlowS)) ES.out).mono ?_
  rintro e wL3 ⟨⟨r7, rfl, hE7⟩, hbL3⟩
  have hlowL3 := bStep hlowS hbL3
  have E7 : Hid (Es wL3 r7 K5 F5) := hE7
  clear hE7
  go_wp2_with fail
  refine hK.out _ _ (fun _ => hlowL3) ?_
  clear hK K hbL3
  refine wpZ_one (i := 12) (by kernel_rfl) rfl (fun K hK => ?_)
  go_simp
  refine (sameE_self r6 r7 K5 F5 HN5.out.2 HM5.out wL3 (E6_W.out.below hlowL3) E7.out).mono ?_
  rintro e wL4 ⟨rfl, hbL4⟩
  have hlowL4 := bStep hlowL3 hbL4
  go_wp2_with fail
  refine hK.out _ _ (fun _ => hlowL4) ?_
  clear hK K hbL4
  refine wpZ_take (i := 13) (v := .bool true) 103 rfl rfl (by kernel_rfl) (by kernel_rfl) (by kernel_rfl) (Or.inr (by decide)) (fun _ _ _ h => h) (Or.inl ⟨by rfl, fun w hSw => by go_simp⟩) hlowL4 ?_
  simp only [Act.put, List.setIfInBounds_toArray]
  dsimp only [List.set_cons_zero, List.set_cons_succ]
  refine wpZ_take (i := 14) (v := .bool true) 8 rfl rfl (by kernel_rfl) (by kernel_rfl) (by kernel_rfl) (Or.inr (by decide)) (fun _ _ _ h => h) (Or.inl ⟨by rfl, fun w hSw => by go_simp⟩) hlowL4 ?_
  simp only [Act.put, List.setIfInBounds_toArray]
  dsimp only [List.set_cons_zero, List.set_cons_succ]
  refine wpZ_done (by kernel_rfl) ?_ _
  have hb_X := bStep hb_W hlowL4
  go_wp2
  go_ret
  exact ⟨rfl, hb_X⟩
end Go.Proofs.YtfjdnlcfhgamfaaDoor
