/- LookupPermutes' walk. -/
import Derived.Test.YtobeeoelfmfpdaaDoorPLUM
import Derived.Test.YtobeeoelfmfpdaaDoorPLUQ
namespace Go.Proofs.YtobeeoelfmfpdaaDoor
open Go.RowKit
set_option maxHeartbeats 4000000 in
set_option maxRecDepth 100000 in
theorem lperm_walk (si ee : Int) (th n m N X ci ct : Nat) (oi ot : Option Addr) (f g FA FB : Nat → Nat) (hn : n ≤ 100) (hm : m ≤ 100) (hN : N ≤ 100) (hX : X < 115792089237316195423570985008687907853269984665640564039457584007913129639936) (hf : ∀ i, i < n → f i < 115792089237316195423570985008687907853269984665640564039457584007913129639936) (hgm : ∀ i, i < m → g i < 115792089237316195423570985008687907853269984665640564039457584007913129639936) (hFA : ∀ i, i < N → FA i < 115792089237316195423570985008687907853269984665640564039457584007913129639936) (hFB : ∀ i, i < N → FB i < 115792089237316195423570985008687907853269984665640564039457584007913129639936)
    (hPM : ∀ w oa ob ca cb, Glob w → Es w (.slice oa n ca) n f → Es w (.slice ob m cb) m g → Calls Tryd.prog 11 #[.int .i64 si, .slice oa n ca, .slice ob m cb] w fun e w' => (∃ va vb, e = .returned (.tuple #[va, vb, .int .i64 ee]) ∧ Es w' va N FA ∧ Es w' vb N FB) ∧ Below w.heap.size w w')
    (hRP : ∀ w, Es w (.slice oi n ci) n f → Es w (.slice ot m ct) m g → Calls Tryd.prog 12 #[.int .i64 si, .slice oi n ci, .slice ot m ct] w fun e w' => (∃ va vb, e = .returned (.tuple #[va, vb, .int .i64 ee]) ∧ Es w' va N FA ∧ Es w' vb N FB) ∧ Below w.heap.size w w')
    (hC : ∀ w oa ca, Glob w → Es w (.slice oa n ca) n f → Calls Tryd.prog 14 #[.int .i64 si, .agg #[.int .u64 ((limb 0 (th) : Nat) : Int), .int .u64 ((limb 1 (th) : Nat) : Int), .int .u64 ((limb 2 (th) : Nat) : Int), .int .u64 ((limb 3 (th) : Nat) : Int)], .slice oa n ca] w fun e w' => e = .returned (.agg #[.int .u64 ((limb 0 (X) : Nat) : Int), .int .u64 ((limb 1 (X) : Nat) : Int), .int .u64 ((limb 2 (X) : Nat) : Int), .int .u64 ((limb 3 (X) : Nat) : Int)]) ∧ Below w.heap.size w w')
    (hR : ∀ w, Es w (.slice oi n ci) n f → Calls Tryd.prog 15 #[.int .i64 si, .agg #[.int .u64 ((limb 0 (th) : Nat) : Int), .int .u64 ((limb 1 (th) : Nat) : Int), .int .u64 ((limb 2 (th) : Nat) : Int), .int .u64 ((limb 3 (th) : Nat) : Int)], .slice oi n ci] w fun e w' => e = .returned (.agg #[.int .u64 ((limb 0 (X) : Nat) : Int), .int .u64 ((limb 1 (X) : Nat) : Int), .int .u64 ((limb 2 (X) : Nat) : Int), .int .u64 ((limb 3 (X) : Nat) : Int)]) ∧ Below w.heap.size w w')
    (w : World) (hg : Glob w) (hv : Es w (.slice oi n ci) n f) (hu : Es w (.slice ot m ct) m g) :
    Calls Tryd.prog 3 #[.int .i64 si, .agg #[.int .u64 ((limb 0 (th) : Nat) : Int), .int .u64 ((limb 1 (th) : Nat) : Int), .int .u64 ((limb 2 (th) : Nat) : Int), .int .u64 ((limb 3 (th) : Nat) : Int)], .slice oi n ci, .slice ot m ct] w fun e w' => e = .returned (.bool true) ∧ Below w.heap.size w w' := by
  have HPM := (show Hid (∀ w oa ob ca cb, Glob w → _) from hPM)
  have HRP := (show Hid (∀ w, Es w (.slice oi n ci) n f → _) from hRP)
  have HC0 := (show Hid (∀ w oa ca, Glob w → _) from hC)
  have HR0 := (show Hid (∀ w, Es w (.slice oi n ci) n f → _) from hR)
  have HG : Hid (Glob w) := hg
  have HV : Hid (Es w (.slice oi n ci) n f) := hv
  have HU : Hid (Es w (.slice ot m ct) m g) := hu
  have HAL : Hid (∀ w, Glob w → _) := fun w hg => alive17_any w hg
  have HSP0 : Hid (∀ w, Es w (.slice oi n ci) n f → _) := fun w hv => spare_fullD n (.slice oi n ci) f (by omega) w hv
  have HCP : Hid (∀ w, Es w (.slice ot m ct) m g → Calls Tryd.prog 10 #[.slice ot m ct] w fun e w' => (∃ oq cq, e = .returned (.slice oq m cq) ∧ Es w' (.slice oq m cq) m g) ∧ Below w.heap.size w w') := fun w hv => (copyE_any m _ g (by omega) w hv).mono (by
    rintro e w' ⟨v', rfl, hown, hb⟩
    have hE := own_Es hown
    obtain ⟨oq, cq, rfl⟩ := hE.shape
    exact ⟨⟨oq, cq, rfl, hE⟩, hb⟩)
  have HSA : Hid (∀ v u w, Es w v N FA → Es w u N FA → _) := fun v u w h1 h2 => sameE_self v u N FA (by omega) hFA w h1 h2
  have HSB : Hid (∀ v u w, Es w v N FB → Es w u N FB → _) := fun v u w h1 h2 => sameE_self v u N FB (by omega) hFB w h1 h2
  have HSG : Hid (∀ v u w, Es w v m g → Es w u m g → _) := fun v u w h1 h2 => sameE_self v u m g (by omega) hgm w h1 h2
  have HSF : Hid (∀ v u w, Es w v (n + 4) (spD f n) → Es w u (n + 4) (spD f n) → _) := fun v u w h1 h2 => sameE_self v u (n + 4) (spD f n) (by omega) (spD_lt hf) w h1 h2
  have HQ : Hid (∀ w : World, (Op.equalIn 10000 24 (.agg #[.int .u64 ((limb 0 (X) : Nat) : Int), .int .u64 ((limb 1 (X) : Nat) : Int), .int .u64 ((limb 2 (X) : Nat) : Int), .int .u64 ((limb 3 (X) : Nat) : Int)]) (.agg #[.int .u64 ((limb 0 (X) : Nat) : Int), .int .u64 ((limb 1 (X) : Nat) : Int), .int .u64 ((limb 2 (X) : Nat) : Int), .int .u64 ((limb 3 (X) : Nat) : Int)])).run Tryd.prog w = .ok true w) := fun w => by have h := eqlIn X X hX hX w; rwa [decide_eq_true rfl] at h
  have i1 : ¬ (100 : Int) < (n : Int) := by omega
  have i2 : ¬ (100 : Int) < (m : Int) := by omega
  have i1' : ¬ 100 < n := by omega
  have i2' : ¬ 100 < m := by omega
  clear hPM hRP hC hR hg hv hu hf hgm hFA hFB hX
  go_enter Tryd.func3, Tryd.ntmps3
  go_wp2_with fail
  obtain ⟨w0, hw0⟩ : ∃ z : World, z = w.alloc (.cells #[.int .u64 ((limb 0 (th) : Nat) : Int), .int .u64 ((limb 1 (th) : Nat) : Int), .int .u64 ((limb 2 (th) : Nat) : Int), .int .u64 ((limb 3 (th) : Nat) : Int)] 24) := ⟨_, rfl⟩
  obtain ⟨N5, e5⟩ : ∃ z, z = w.heap.size := ⟨_, rfl⟩
  have a5 : Blk w0 24 N5 (fun i => limb i th) := by rw [hw0]; exact Blk.newAt _ _ _ (fun i => limb i th) e5
  have hb0 : Below w.heap.size w w0 := by rw [hw0]; exact bAlloc (Below.refl _ _) _
  rw [← hw0]
  try rw [← e5]
  clear hw0 e5
  refine (HAL.out w0 (HG.out.below hb0)).mono ?_
  rintro e w1 ⟨rfl, hb1⟩
  have p5 := a5.belowAll hb1
  have hbw1 := bStep hb0 hb1
  clear a5 hb0 hb1 HAL
  go_wp2_with fail
  refine (HSP0.out w1 (HV.out.below hbw1)).mono ?_
  rintro e w2 ⟨gx, cx, rfl, fx, lgx, hb2⟩
  have q5 := p5.belowAll hb2
  have hbw2 := bStep hbw1 hb2
  have hcx : (n : Int) ≤ (cx : Int) := by have := fx.1; omega
  clear p5 hbw1 hb2 lgx
  go_wp2_with fail
  refine (HCP.out w2 (HU.out.below hbw2)).mono ?_
  rintro e w3 ⟨⟨oy, cy, rfl, ey⟩, hb3⟩
  have r5 := q5.belowAll hb3
  have fx3 := fx.belowAll hb3
  have hbw3 := bStep hbw2 hb3
  clear q5 fx hbw2 hb3 HCP
  go_wp2_with fail
  refine (HPM.out w3 _ _ _ _ (HG.out.below hbw3) fx3.part ey).mono ?_
  rintro e w4 ⟨⟨va, vb, rfl, ea, eb⟩, hb4⟩
  have s5 := r5.belowAll hb4
  have fx4 := fx3.belowAll hb4
  have ey4 := ey.below hb4
  have hbw4 := bStep hbw3 hb4
  clear r5 fx3 ey hbw3 hb4 HPM
  go_wp2_with fail
  refine (HRP.out w4 (HV.out.below hbw4) (HU.out.below hbw4)).mono ?_
  rintro e w9 ⟨⟨vc, vd, rfl, ec, ed⟩, hb5⟩
  have b5 := s5.belowAll hb5
  have hb9 := bStep hbw4 hb5
  have HS1 : Hid (∀ w', Below w9.heap.size w9 w' → _) := fun w' hb => HSA.out va vc w' ((ea.below hb5).below hb) (ec.below hb)
  have HS2 : Hid (∀ w', Below w9.heap.size w9 w' → _) := fun w' hb => HSB.out vb vd w' ((eb.below hb5).below hb) (ed.below hb)
  have fx9 := fx4.belowAll hb5
  have ey9 := ey4.below hb5
  have HC : Hid (∀ w', Glob w' → Below w9.heap.size w9 w' → _) := fun w' hg hb => HC0.out w' _ _ hg (fx9.belowAll hb).part
  have HR : Hid (∀ w', Below w9.heap.size w9 w' → _) := fun w' hb => HR0.out w' ((HV.out.below hb9).below hb)
  have HSP : Hid (∀ w', Below w9.heap.size w9 w' → _) := fun w' hb => HSP0.out w' ((HV.out.below hb9).below hb)
  have HSQ : Hid (∀ w' gq cq, Below w9.heap.size w9 w' → Es w' (.slice (some ⟨gq, 0, none⟩) (n + 4) cq) (n + 4) (spD f n) → _) := fun w' gq cq hb h => HSF.out (.slice (some ⟨gx, 0, none⟩) (n + 4) cx) (.slice (some ⟨gq, 0, none⟩) (n + 4) cq) w' (fx9.belowAll hb).all h
  have HS4 : Hid (∀ w', Below w9.heap.size w9 w' → _) := fun w' hb => HSG.out (.slice oy m cy) (.slice ot m ct) w' (ey9.below hb) ((HU.out.below hb9).below hb)
  clear s5 fx4 ey4 hbw4 hb5 ea eb ec ed fx9 ey9 HSA HSB HSG HSF HC0 HR0 HSP0 HRP
  go_upto_region 9 with fail
  refine wp_region_Z (fun w' => Below w9.heap.size w9 w') 99 (by kernel_rfl) ?_
  obtain ⟨wD, hD⟩ : ∃ z : World, z = w9.drew := ⟨_, rfl⟩
  rw [← hD]
  have hp0 : Below w9.heap.size w9 wD := by rw [hD]; exact (Below.refl _ _).drew
  clear hD
  refine zt 0 50 (va) rfl rfl (fun w hSw => by go_simp) hp0 ?_
  simp only [Act.put, List.setIfInBounds_toArray]
  (try dsimp only [List.set_cons_zero, List.set_cons_succ])
  refine zt 1 51 (vc) rfl rfl (fun w hSw => by go_simp) hp0 ?_
  simp only [Act.put, List.setIfInBounds_toArray]
  (try dsimp only [List.set_cons_zero, List.set_cons_succ])
  refine wpZ_one (i := 2) (by kernel_rfl) rfl (fun K hK => ?_)
  go_simp
  refine Calls.mono (HS1.out wD (hp0)) ?_
  rintro e wK1 ⟨rfl, hbK1⟩
  have hpK1 : Below w9.heap.size w9 wK1 := bStep hp0 hbK1
  clear hbK1
  go_wp2_with fail
  refine hK.out _ _ (fun _ => hpK1) ?_
  clear hK K
  refine zt 3 53 (.bool true) rfl rfl (fun w hSw => by go_simp) hpK1 ?_
  simp only [Act.put, List.setIfInBounds_toArray]
  (try dsimp only [List.set_cons_zero, List.set_cons_succ])
  refine zt 4 54 (vb) rfl rfl (fun w hSw => by go_simp) hpK1 ?_
  simp only [Act.put, List.setIfInBounds_toArray]
  (try dsimp only [List.set_cons_zero, List.set_cons_succ])
  refine zt 5 55 (vd) rfl rfl (fun w hSw => by go_simp) hpK1 ?_
  simp only [Act.put, List.setIfInBounds_toArray]
  (try dsimp only [List.set_cons_zero, List.set_cons_succ])
  refine wpZ_one (i := 6) (by kernel_rfl) rfl (fun K hK => ?_)
  rw [if_pos (show Region.wanted _ _ = true from rfl)]
  go_simp
  refine Calls.mono (HS2.out wK1 (hpK1)) ?_
  rintro e wK2 ⟨rfl, hbK2⟩
  have hpK2 : Below w9.heap.size w9 wK2 := bStep hpK1 hbK2
  clear hbK2
  go_wp2_with fail
  refine hK.out _ _ (fun _ => hpK2) ?_
  clear hK K
  refine zt 7 57 (.bool true) rfl rfl (fun w hSw => by go_simp) hpK2 ?_
  simp only [Act.put, List.setIfInBounds_toArray]
  (try dsimp only [List.set_cons_zero, List.set_cons_succ])
  refine zt 8 58 (.bool true) rfl rfl (fun w hSw => by go_simp) hpK2 ?_
  simp only [Act.put, List.setIfInBounds_toArray]
  (try dsimp only [List.set_cons_zero, List.set_cons_succ])
  refine zt 9 59 (.int .i64 ee) rfl rfl (fun w hSw => by go_simp) hpK2 ?_
  simp only [Act.put, List.setIfInBounds_toArray]
  (try dsimp only [List.set_cons_zero, List.set_cons_succ])
  refine zt 10 60 (.int .i64 ee) rfl rfl (fun w hSw => by go_simp) hpK2 ?_
  simp only [Act.put, List.setIfInBounds_toArray]
  (try dsimp only [List.set_cons_zero, List.set_cons_succ])
  refine zt 11 61 (.bool true) rfl rfl (fun w hSw => by go_simp) hpK2 ?_
  simp only [Act.put, List.setIfInBounds_toArray]
  (try dsimp only [List.set_cons_zero, List.set_cons_succ])
  refine zt 12 62 (.bool true) rfl rfl (fun w hSw => by go_simp) hpK2 ?_
  simp only [Act.put, List.setIfInBounds_toArray]
  (try dsimp only [List.set_cons_zero, List.set_cons_succ])
  refine zt 13 63 (.bool true) rfl rfl (fun w hSw => by go_simp) hpK2 ?_
  simp only [Act.put, List.setIfInBounds_toArray]
  (try dsimp only [List.set_cons_zero, List.set_cons_succ])
  refine zt 14 64 (.int .i64 si) rfl rfl (fun w hSw => by go_simp) hpK2 ?_
  simp only [Act.put, List.setIfInBounds_toArray]
  (try dsimp only [List.set_cons_zero, List.set_cons_succ])
  refine zt 15 65 (.agg #[.int .u64 ((limb 0 (th) : Nat) : Int), .int .u64 ((limb 1 (th) : Nat) : Int), .int .u64 ((limb 2 (th) : Nat) : Int), .int .u64 ((limb 3 (th) : Nat) : Int)]) rfl rfl (fun w hSw => by (have qq := (b5.belowAll hSw).cell); clear hSw; go_simp) hpK2 ?_
  simp only [Act.put, List.setIfInBounds_toArray]
  (try dsimp only [List.set_cons_zero, List.set_cons_succ])
  refine zt 16 66 (.slice (some ⟨gx, 0, none⟩) (n + 4) cx) rfl rfl (fun w hSw => by go_simp) hpK2 ?_
  simp only [Act.put, List.setIfInBounds_toArray]
  (try dsimp only [List.set_cons_zero, List.set_cons_succ])
  refine zt 17 67 (.slice oi n ci) rfl rfl (fun w hSw => by go_simp) hpK2 ?_
  simp only [Act.put, List.setIfInBounds_toArray]
  (try dsimp only [List.set_cons_zero, List.set_cons_succ])
  refine zt 18 68 (.int .i64 (n : Int)) rfl rfl (fun w hSw => by go_simp) hpK2 ?_
  simp only [Act.put, List.setIfInBounds_toArray]
  (try dsimp only [List.set_cons_zero, List.set_cons_succ])
  refine zt 19 69 (.slice (some ⟨gx, 0, none⟩) n cx) rfl rfl (fun w hSw => by go_simp) hpK2 ?_
  simp only [Act.put, List.setIfInBounds_toArray]
  (try dsimp only [List.set_cons_zero, List.set_cons_succ])
  refine zt 21 71 (.int .i64 si) rfl rfl (fun w hSw => by go_simp) hpK2 ?_
  simp only [Act.put, List.setIfInBounds_toArray]
  (try dsimp only [List.set_cons_zero, List.set_cons_succ])
  refine zt 22 72 (.agg #[.int .u64 ((limb 0 (th) : Nat) : Int), .int .u64 ((limb 1 (th) : Nat) : Int), .int .u64 ((limb 2 (th) : Nat) : Int), .int .u64 ((limb 3 (th) : Nat) : Int)]) rfl rfl (fun w hSw => by (have qq := (b5.belowAll hSw).cell); clear hSw; go_simp) hpK2 ?_
  simp only [Act.put, List.setIfInBounds_toArray]
  (try dsimp only [List.set_cons_zero, List.set_cons_succ])
  refine zt 23 73 (.slice oi n ci) rfl rfl (fun w hSw => by go_simp) hpK2 ?_
  simp only [Act.put, List.setIfInBounds_toArray]
  (try dsimp only [List.set_cons_zero, List.set_cons_succ])
  refine wpZ_one (i := 20) (by kernel_rfl) rfl (fun K hK => ?_)
  rw [if_pos (show Region.wanted _ _ = true from rfl)]
  go_simp
  refine Calls.mono (HC.out wK2 (HG.out.below (hb9.trans ((hpK2).mono hb9.size))) (hpK2)) ?_
  rintro e wK3 ⟨rfl, hbK3⟩
  have hpK3 : Below w9.heap.size w9 wK3 := bStep hpK2 hbK3
  clear hbK3
  go_wp2_with fail
  refine hK.out _ _ (fun _ => hpK3) ?_
  clear hK K
  refine wpZ_one (i := 24) (by kernel_rfl) rfl (fun K hK => ?_)
  rw [if_pos (show Region.wanted _ _ = true from rfl)]
  go_simp
  refine Calls.mono (HR.out wK3 (hpK3)) ?_
  rintro e wK4 ⟨rfl, hbK4⟩
  have hpK4 : Below w9.heap.size w9 wK4 := bStep hpK3 hbK4
  clear hbK4
  go_wp2_with fail
  refine hK.out _ _ (fun _ => hpK4) ?_
  clear hK K
  refine zt 25 75 (.bool true) rfl rfl (fun w hSw => by have hq := HQ.out w; clear hSw; go_simp) hpK4 ?_
  simp only [Act.put, List.setIfInBounds_toArray]
  (try dsimp only [List.set_cons_zero, List.set_cons_succ])
  refine zt 26 76 (.bool true) rfl rfl (fun w hSw => by go_simp) hpK4 ?_
  simp only [Act.put, List.setIfInBounds_toArray]
  (try dsimp only [List.set_cons_zero, List.set_cons_succ])
  refine zt 27 77 (.bool true) rfl rfl (fun w hSw => by go_simp) hpK4 ?_
  simp only [Act.put, List.setIfInBounds_toArray]
  (try dsimp only [List.set_cons_zero, List.set_cons_succ])
  refine zt 28 78 (.slice (some ⟨gx, 0, none⟩) (n + 4) cx) rfl rfl (fun w hSw => by go_simp) hpK4 ?_
  simp only [Act.put, List.setIfInBounds_toArray]
  (try dsimp only [List.set_cons_zero, List.set_cons_succ])
  refine zt 29 79 (.slice oi n ci) rfl rfl (fun w hSw => by go_simp) hpK4 ?_
  simp only [Act.put, List.setIfInBounds_toArray]
  (try dsimp only [List.set_cons_zero, List.set_cons_succ])
  refine wpZ_one (i := 30) (by kernel_rfl) rfl (fun K hK => ?_)
  rw [if_pos (show Region.wanted _ _ = true from rfl)]
  go_simp
  refine Calls.mono (HSP.out wK4 (hpK4)) ?_
  rintro e wK5 ⟨gq, cq, rfl, fq, lgq, hbK5⟩
  have hpK5 : Below w9.heap.size w9 wK5 := bStep hpK4 hbK5
  have HFQ : Hid (FullD wK5 gq n cq f) := fq
  have HSX : Hid (∀ w3, Below wK5.heap.size wK5 w3 → Es w3 (.slice (some ⟨gq, 0, none⟩) (n + 4) cq) (n + 4) (spD f n)) := fun w3 hb => (fq.belowAll hb).all
  clear fq lgq HFQ
  clear hbK5
  go_wp2_with fail
  refine hK.out _ _ (fun _ => hpK5) ?_
  clear hK K
  refine wpZ_one (i := 31) (by kernel_rfl) rfl (fun K hK => ?_)
  rw [if_pos (show Region.wanted _ _ = true from rfl)]
  go_simp
  refine Calls.mono (HSQ.out wK5 _ _ (hpK5) (HSX.out _ (Below.refl _ _))) ?_
  rintro e wK6 ⟨rfl, hbK6⟩
  have hpK6 : Below w9.heap.size w9 wK6 := bStep hpK5 hbK6
  clear hbK6
  go_wp2_with fail
  refine hK.out _ _ (fun _ => hpK6) ?_
  clear hK K
  refine zt 32 82 (.bool true) rfl rfl (fun w hSw => by go_simp) hpK6 ?_
  simp only [Act.put, List.setIfInBounds_toArray]
  (try dsimp only [List.set_cons_zero, List.set_cons_succ])
  refine zt 33 83 (.bool true) rfl rfl (fun w hSw => by go_simp) hpK6 ?_
  simp only [Act.put, List.setIfInBounds_toArray]
  (try dsimp only [List.set_cons_zero, List.set_cons_succ])
  refine zt 34 84 (.slice oy m cy) rfl rfl (fun w hSw => by go_simp) hpK6 ?_
  simp only [Act.put, List.setIfInBounds_toArray]
  (try dsimp only [List.set_cons_zero, List.set_cons_succ])
  refine zt 35 85 (.slice ot m ct) rfl rfl (fun w hSw => by go_simp) hpK6 ?_
  simp only [Act.put, List.setIfInBounds_toArray]
  (try dsimp only [List.set_cons_zero, List.set_cons_succ])
  refine wpZ_one (i := 36) (by kernel_rfl) rfl (fun K hK => ?_)
  rw [if_pos (show Region.wanted _ _ = true from rfl)]
  go_simp
  refine Calls.mono (HS4.out wK6 (hpK6)) ?_
  rintro e wK7 ⟨rfl, hbK7⟩
  have hpK7 : Below w9.heap.size w9 wK7 := bStep hpK6 hbK7
  clear hbK7
  go_wp2_with fail
  refine hK.out _ _ (fun _ => hpK7) ?_
  clear hK K
  refine zt 37 87 (.bool true) rfl rfl (fun w hSw => by go_simp) hpK7 ?_
  simp only [Act.put, List.setIfInBounds_toArray]
  (try dsimp only [List.set_cons_zero, List.set_cons_succ])
  refine zt 38 8 (.bool true) rfl rfl (fun w hSw => by go_simp) hpK7 ?_
  simp only [Act.put, List.setIfInBounds_toArray]
  (try dsimp only [List.set_cons_zero, List.set_cons_succ])
  refine wpZ_done (by kernel_rfl) ?_ _
  have hbf := hb9.trans ((hpK7).mono hb9.size)
  go_wp2
  go_ret
  exact ⟨rfl, hbf⟩
end Go.Proofs.YtobeeoelfmfpdaaDoor
