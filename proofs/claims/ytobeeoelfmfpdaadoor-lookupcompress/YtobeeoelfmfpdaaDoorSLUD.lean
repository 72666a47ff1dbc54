/- LookupCompress' walk. -/
import Derived.Test.YtobeeoelfmfpdaaDoorSLUC
namespace Go.Proofs.YtobeeoelfmfpdaaDoor
open Go.RowKit
def Kp (W w' : World) : Prop := Below W.heap.size W w'
theorem eqlIn (X Y : Nat) (hX : X < 115792089237316195423570985008687907853269984665640564039457584007913129639936) (hY : Y < 115792089237316195423570985008687907853269984665640564039457584007913129639936) (w : World) : (Op.equalIn 10000 24 (.agg #[.int .u64 ((limb 0 (X) : Nat) : Int), .int .u64 ((limb 1 (X) : Nat) : Int), .int .u64 ((limb 2 (X) : Nat) : Int), .int .u64 ((limb 3 (X) : Nat) : Int)]) (.agg #[.int .u64 ((limb 0 (Y) : Nat) : Int), .int .u64 ((limb 1 (Y) : Nat) : Int), .int .u64 ((limb 2 (Y) : Nat) : Int), .int .u64 ((limb 3 (Y) : Nat) : Int)])).run Tryd.prog w = .ok (decide (X = Y)) w := by rw [eq4_in, eq4N X Y hX hY]
theorem eqlIn0 (X : Nat) (hX : X < 115792089237316195423570985008687907853269984665640564039457584007913129639936) (w : World) : (Op.equalIn 10000 24 (.agg #[.int .u64 ((limb 0 (X) : Nat) : Int), .int .u64 ((limb 1 (X) : Nat) : Int), .int .u64 ((limb 2 (X) : Nat) : Int), .int .u64 ((limb 3 (X) : Nat) : Int)]) (.agg #[.int .u64 0, .int .u64 0, .int .u64 0, .int .u64 0])).run Tryd.prog w = .ok (decide (X = 0)) w := by
  have h := eqlIn X 0 hX M_pos w
  rwa [zE] at h
set_option maxHeartbeats 4000000 in
set_option maxRecDepth 100000 in
theorem comp_walk (s n cn a th v X Y D T : Nat) (bD bT bE : Bool) (oa : Option Addr) (f g : Nat → Nat) (hs : s < 4) (hn : n ≤ 100) (ha : a < n) (hg0 : g = fun i => if i = a then v else f i)
    (hC1 : ∀ w oa c, Glob w → Es w (.slice oa n c) n f → Calls Tryd.prog 14 #[.int .i64 (s : Int), .agg #[.int .u64 ((limb 0 (th) : Nat) : Int), .int .u64 ((limb 1 (th) : Nat) : Int), .int .u64 ((limb 2 (th) : Nat) : Int), .int .u64 ((limb 3 (th) : Nat) : Int)], .slice oa n c] w fun e w' => e = .returned (.agg #[.int .u64 ((limb 0 (X) : Nat) : Int), .int .u64 ((limb 1 (X) : Nat) : Int), .int .u64 ((limb 2 (X) : Nat) : Int), .int .u64 ((limb 3 (X) : Nat) : Int)]) ∧ Below w.heap.size w w')
    (hC2 : ∀ w oa c, Glob w → Es w (.slice oa n c) n g → Calls Tryd.prog 14 #[.int .i64 (s : Int), .agg #[.int .u64 ((limb 0 (th) : Nat) : Int), .int .u64 ((limb 1 (th) : Nat) : Int), .int .u64 ((limb 2 (th) : Nat) : Int), .int .u64 ((limb 3 (th) : Nat) : Int)], .slice oa n c] w fun e w' => e = .returned (.agg #[.int .u64 ((limb 0 (Y) : Nat) : Int), .int .u64 ((limb 1 (Y) : Nat) : Int), .int .u64 ((limb 2 (Y) : Nat) : Int), .int .u64 ((limb 3 (Y) : Nat) : Int)]) ∧ Below w.heap.size w w')
    (hSB : ∀ w, Glob w → Calls Tryd.prog 24 #[.int .i64 (s : Int), .agg #[.int .u64 ((limb 0 (v) : Nat) : Int), .int .u64 ((limb 1 (v) : Nat) : Int), .int .u64 ((limb 2 (v) : Nat) : Int), .int .u64 ((limb 3 (v) : Nat) : Int)], .agg #[.int .u64 ((limb 0 (f a) : Nat) : Int), .int .u64 ((limb 1 (f a) : Nat) : Int), .int .u64 ((limb 2 (f a) : Nat) : Int), .int .u64 ((limb 3 (f a) : Nat) : Int)]] w fun e w' => e = .returned (.agg #[.int .u64 ((limb 0 (D) : Nat) : Int), .int .u64 ((limb 1 (D) : Nat) : Int), .int .u64 ((limb 2 (D) : Nat) : Int), .int .u64 ((limb 3 (D) : Nat) : Int)]) ∧ Below w.heap.size w w')
    (hAD : ∀ w, Glob w → Calls Tryd.prog 25 #[.int .i64 (s : Int), .agg #[.int .u64 ((limb 0 (th) : Nat) : Int), .int .u64 ((limb 1 (th) : Nat) : Int), .int .u64 ((limb 2 (th) : Nat) : Int), .int .u64 ((limb 3 (th) : Nat) : Int)], .agg #[.int .u64 0, .int .u64 0, .int .u64 0, .int .u64 0]] w fun e w' => e = .returned (.agg #[.int .u64 ((limb 0 (T) : Nat) : Int), .int .u64 ((limb 1 (T) : Nat) : Int), .int .u64 ((limb 2 (T) : Nat) : Int), .int .u64 ((limb 3 (T) : Nat) : Int)]) ∧ Below w.heap.size w w')
    (hE1 : ∀ w, (Op.equalIn 10000 24 (.agg #[.int .u64 ((limb 0 (D) : Nat) : Int), .int .u64 ((limb 1 (D) : Nat) : Int), .int .u64 ((limb 2 (D) : Nat) : Int), .int .u64 ((limb 3 (D) : Nat) : Int)]) (.agg #[.int .u64 0, .int .u64 0, .int .u64 0, .int .u64 0])).run Tryd.prog w = .ok bD w) (hE2 : ∀ w, (Op.equalIn 10000 24 (.agg #[.int .u64 ((limb 0 (T) : Nat) : Int), .int .u64 ((limb 1 (T) : Nat) : Int), .int .u64 ((limb 2 (T) : Nat) : Int), .int .u64 ((limb 3 (T) : Nat) : Int)]) (.agg #[.int .u64 0, .int .u64 0, .int .u64 0, .int .u64 0])).run Tryd.prog w = .ok bT w) (hE3 : ∀ w, (Op.equalIn 10000 24 (.agg #[.int .u64 ((limb 0 (X) : Nat) : Int), .int .u64 ((limb 1 (X) : Nat) : Int), .int .u64 ((limb 2 (X) : Nat) : Int), .int .u64 ((limb 3 (X) : Nat) : Int)]) (.agg #[.int .u64 ((limb 0 (Y) : Nat) : Int), .int .u64 ((limb 1 (Y) : Nat) : Int), .int .u64 ((limb 2 (Y) : Nat) : Int), .int .u64 ((limb 3 (Y) : Nat) : Int)])).run Tryd.prog w = .ok bE w)
    (hF : (bE == (bD || (decide (a < n - 1) && bT))) = true) (w : World) (hg : Glob w) (hv : Es w (.slice oa n cn) n f) :
    Calls Tryd.prog 7 #[.int .i64 (s : Int), .agg #[.int .u64 ((limb 0 (th) : Nat) : Int), .int .u64 ((limb 1 (th) : Nat) : Int), .int .u64 ((limb 2 (th) : Nat) : Int), .int .u64 ((limb 3 (th) : Nat) : Int)], .slice oa n cn, .int .i64 (a : Int), .agg #[.int .u64 ((limb 0 (v) : Nat) : Int), .int .u64 ((limb 1 (v) : Nat) : Int), .int .u64 ((limb 2 (v) : Nat) : Int), .int .u64 ((limb 3 (v) : Nat) : Int)]] w fun e w' => e = .returned (.bool true) ∧ Below w.heap.size w w' := by
  have HC1 := (show Hid (∀ w oa c, Glob w → Es w (.slice oa n c) n f → _) from hC1); have HC2 := (show Hid (∀ w oa c, Glob w → Es w (.slice oa n c) n g → _) from hC2); have HSB0 := (show Hid (∀ w, Glob w → _) from hSB); have HAD := (show Hid (∀ w, Glob w → _) from hAD)
  have HE1 := (show Hid (∀ w : World, _) from hE1); have HE2 := (show Hid (∀ w : World, _) from hE2); have HE3 := (show Hid (∀ w : World, _) from hE3)
  have HF := (show Hid (_ = _) from hF)
  have HG : Hid (Glob w) := hg
  have HV : Hid (Es w (.slice oa n cn) n f) := hv
  have HGG : Hid (g = fun i => if i = a then v else f i) := hg0
  have HAL : Hid (∀ w, Glob w → _) := fun w hg => alive17_any w hg
  have HCP : Hid (∀ w, Es w (.slice oa n cn) n f → Calls Tryd.prog 10 #[.slice oa n cn] w fun e w' => (∃ gq cq, e = .returned (.slice (some ⟨gq, 0, none⟩) n cq) ∧ n ≤ cq ∧ cq ≤ maxLen ∧ w.heap.size ≤ gq ∧ BlkP w' gq n f) ∧ Below w.heap.size w w') := fun w hv => (copyE_any n _ f (by omega) w hv).mono (by
    rintro e w' ⟨v', rfl, hown, hb⟩
    obtain ⟨g, c, rfl, h1, h2, h3, h4⟩ := own_P hown (by omega)
    exact ⟨⟨g, c, rfl, h1, h2, h3, h4⟩, hb⟩)
  have i1 : ¬ (s : Int) < 0 := by omega
  have i2 : ¬ (3 : Int) < (s : Int) := by omega
  have i2' : ¬ 3 < s := by omega
  have i3 : ¬ (100 : Int) < (n : Int) := by omega
  have i3' : ¬ 100 < n := by omega
  have i4 : ¬ (a : Int) < 0 := by omega
  have i5 : ¬ (n : Int) ≤ (a : Int) := by omega
  have i5' : ¬ n ≤ a := by omega
  have i6 : (a : Int) < (n : Int) := by omega
  clear hC1 hC2 hSB hAD hE1 hE2 hE3 hF hg hv hg0 hs
  go_enter Tryd.func7, Tryd.ntmps7
  go_wp2_with fail
  have hs1 : (w.alloc (.cells #[.int .u64 ((limb 0 (th) : Nat) : Int), .int .u64 ((limb 1 (th) : Nat) : Int), .int .u64 ((limb 2 (th) : Nat) : Int), .int .u64 ((limb 3 (th) : Nat) : Int)] 24)).heap.size = w.heap.size + 1 := Array.size_push ..
  obtain ⟨w0, hw0⟩ : ∃ z : World, z = (w.alloc (.cells #[.int .u64 ((limb 0 (th) : Nat) : Int), .int .u64 ((limb 1 (th) : Nat) : Int), .int .u64 ((limb 2 (th) : Nat) : Int), .int .u64 ((limb 3 (th) : Nat) : Int)] 24)).alloc (.cells #[.int .u64 ((limb 0 (v) : Nat) : Int), .int .u64 ((limb 1 (v) : Nat) : Int), .int .u64 ((limb 2 (v) : Nat) : Int), .int .u64 ((limb 3 (v) : Nat) : Int)] 24) := ⟨_, rfl⟩
  obtain ⟨N6, e6⟩ : ∃ z, z = w.heap.size := ⟨_, rfl⟩
  obtain ⟨N9, e9⟩ : ∃ z, z = N6 + 1 := ⟨_, rfl⟩
  have a6 : Blk w0 24 N6 (fun i => limb i th) := by rw [hw0]; exact (Blk.newAt _ _ _ (fun i => limb i th) e6).alloc _
  have a9 : Blk w0 24 N9 (fun i => limb i v) := by rw [hw0]; exact Blk.newAt _ _ _ (fun i => limb i v) (by rw [e9, e6, hs1])
  have hb0 : Below w.heap.size w w0 := by rw [hw0]; exact bAlloc (bAlloc (Below.refl _ _) _) _
  rw [← hw0]
  try rw [← e6]
  try rw [← e9]
  clear hw0 hs1 e6 e9
  refine (HAL.out w0 (HG.out.below hb0)).mono ?_
  rintro e w1 ⟨rfl, hb1⟩
  have p6 := a6.belowAll hb1; have p9 := a9.belowAll hb1
  have hbw1 := bStep hb0 hb1
  clear a6 a9 hb0 hb1 HAL
  go_wp2_with fail
  refine (HCP.out w1 (HV.out.below hbw1)).mono ?_
  rintro e w2 ⟨⟨go, co, rfl, lo1, lo2, lgo, bo⟩, hb2⟩
  have q6 := p6.belowAll hb2; have q9 := p9.belowAll hb2
  have hbw2 := bStep hbw1 hb2
  have n6 : N6 ≠ go := by have := p6.lt; omega
  have n9 : N9 ≠ go := by have := p9.lt; omega
  have lgw : w.heap.size ≤ go := Nat.le_trans hbw1.size lgo
  have o0 := bo.cell a ha 0 (by decide); have o1 := bo.cell a ha 1 (by decide); have o2 := bo.cell a ha 2 (by decide); have o3 := bo.cell a ha 3 (by decide)
  rw [Nat.add_zero] at o0
  have fo := bo.frozen
  have c9 := q9.cell
  obtain ⟨w3, hw3, bo3, hk3⟩ := bo.put ha v
  have hbw3 := bKept hbw2 lgw hk3
  have s6 := q6.kept n6 hk3; have s9 := q9.kept n9 hk3
  have HBO : Hid (n ≤ co ∧ co ≤ maxLen) := ⟨lo1, lo2⟩
  have bog : BlkP w3 go n g := by rw [HGG.out]; exact bo3
  clear p6 p9 hb2 hbw1 hbw2 q6 q9 bo bo3 hk3 lgo lo1 lo2
  go_upto_region 8 with fail
  obtain ⟨w5, hw5⟩ : ∃ z : World, z = w3.alloc (.cells #[.int .u64 0, .int .u64 0, .int .u64 0, .int .u64 0] 24) := ⟨_, rfl⟩
  obtain ⟨N12, e12⟩ : ∃ z, z = w3.heap.size := ⟨_, rfl⟩
  have b12 : Blk w5 24 N12 (fun _ => 0) := by rw [hw5]; exact Blk.newAt _ _ _ (fun _ => 0) e12
  have hbx5 : Below w3.heap.size w3 w5 := by rw [hw5]; exact bAlloc (Below.refl _ _) _
  have b6 := s6.belowAll hbx5; have b9 := s9.belowAll hbx5; have bo5 := bog.belowAll hbx5
  have hbw5 := bStep hbw3 hbx5
  rw [← hw5]
  try rw [← e12]
  clear hw5 e12 s6 s9 bog hbx5 hbw3 hw3 o0 o1 o2 o3 fo c9
  go_cut [13] (fun p wx => ∃ N : Nat, p = .pointer (some ⟨N, 0, none⟩) ∧ w5.heap.size ≤ N ∧ Blk wx 24 N (fun i => limb i X) ∧ Below w5.heap.size w5 wx)
  case first =>
    have HS0 : Hid (Below w5.heap.size w5 w5.drew) := (Below.refl _ _).drew
    refine wp_region_Z (fun w' => Kp w5 w') 99 (by kernel_rfl) ?_
    refine wpZ_take (i := 0) (v := .int .i64 (s : Int)) 46 rfl rfl (by kernel_rfl) (by kernel_rfl) (by kernel_rfl) (Or.inr (by decide)) (fun _ _ _ h => h) (Or.inl ⟨by rfl, fun w hSw => by go_simp⟩) (HS0.out) ?_
    simp only [Act.put, List.setIfInBounds_toArray]
    dsimp only [List.set_cons_zero, List.set_cons_succ]
    refine wpZ_take (i := 1) (v := .agg #[.int .u64 ((limb 0 (th) : Nat) : Int), .int .u64 ((limb 1 (th) : Nat) : Int), .int .u64 ((limb 2 (th) : Nat) : Int), .int .u64 ((limb 3 (th) : Nat) : Int)]) 47 rfl rfl (by kernel_rfl) (by kernel_rfl) (by kernel_rfl) (Or.inr (by decide)) (fun _ _ _ h => h) (Or.inl ⟨by rfl, fun w hSw => by (have qq := (b6.belowAll hSw).cell; clear hSw; go_simp)⟩) (HS0.out) ?_
    simp only [Act.put, List.setIfInBounds_toArray]
    dsimp only [List.set_cons_zero, List.set_cons_succ]
    refine wpZ_take (i := 2) (v := .slice oa n cn) 48 rfl rfl (by kernel_rfl) (by kernel_rfl) (by kernel_rfl) (Or.inr (by decide)) (fun _ _ _ h => h) (Or.inl ⟨by rfl, fun w hSw => by go_simp⟩) (HS0.out) ?_
    simp only [Act.put, List.setIfInBounds_toArray]
    dsimp only [List.set_cons_zero, List.set_cons_succ]
    refine wpZ_two (i := 3) (j := 5) (by kernel_rfl) rfl rfl (fun K hK => ?_) (fun K hK => ?_) 
    · go_simp
      refine (HCP.out w5.drew (HV.out.below (hbw5.trans (((HS0.out)).mono hbw5.size)))).mono ?_
      rintro e wK1 ⟨⟨gq, cq, rfl, lc1, lc2, lg, bq⟩, hbK1⟩
      have hSK1 : Below w5.heap.size w5 wK1 := bStep (HS0.out) hbK1
      have HBQ : Hid (BlkP _ gq n f ∧ n ≤ cq ∧ cq ≤ maxLen) := ⟨bq, lc1, lc2⟩
      clear bq lc1 lc2 lg
      go_wp2_with fail
      refine hK.out _ _ (fun _ => hSK1) ?_
      clear hK K
      refine wpZ_two (i := 4) (j := 5) (by kernel_rfl) rfl rfl (fun K hK => ?_) (fun K hK => ?_) 
      · go_simp
        refine (HC1.out wK1 _ _ (HG.out.below (hbw5.trans (((hSK1)).mono hbw5.size))) (HBQ.out.1.Es HBQ.out.2.1 HBQ.out.2.2)).mono ?_
        rintro e wK2 ⟨rfl, hbK2⟩
        have hSK2 : Below w5.heap.size w5 wK2 := bStep (hSK1) hbK2
        go_wp2_with fail
        refine hK.out _ _ (fun _ => hSK2) ?_
        clear hK K
        refine wpZ_one (i := 5) (by kernel_rfl) rfl (fun K hK => ?_)
        go_simp
        have hSK3' : Below w5.heap.size w5 (wK2.alloc (.cells #[.int .u64 0, .int .u64 0, .int .u64 0, .int .u64 0] 24)) := bAlloc (hSK2) _
        refine hK.out _ _ (fun _ => hSK3') ?_
        clear hK K
        obtain ⟨N13_3, hN13_3⟩ : ∃ N, N = wK2.heap.size := ⟨_, rfl⟩
        obtain ⟨wK3, hwK3⟩ : ∃ x : World, x = wK2.alloc (.cells #[.int .u64 0, .int .u64 0, .int .u64 0, .int .u64 0] 24) := ⟨_, rfl⟩
        have hSK3 : Below w5.heap.size w5 wK3 := by rw [hwK3]; exact hSK3'
        try have HBQ : Hid (BlkP wK3 gq n f ∧ n ≤ cq ∧ cq ≤ maxLen) := by rw [hwK3]; exact ⟨HBQ.out.1.belowAll (bAlloc (Below.refl _ _) _), HBQ.out.2⟩
        have b13_3 : Blk wK3 24 N13_3 (fun _ => 0) := by rw [hwK3, hN13_3]; exact Blk.new wK2 24 (fun _ => 0)
        have lN13_3 : w5.heap.size ≤ N13_3 := by rw [hN13_3]; exact (hSK2).size
        rw [← hwK3, ← hN13_3]
        clear hwK3 hSK3' hN13_3
        refine wpZ_one (i := 6) (by kernel_rfl) rfl (fun K hK => ?_)
        have cS := b13_3.cell; have fS := b13_3.frozen
        go_simp
        refine hK.out _ _ (fun _ => bSet4 (hSK3) lN13_3 _ _ _ _) ?_
        clear hK K cS fS
        obtain ⟨wK4, hwK4⟩ : ∃ x : World, x = ((((wK3.setCell ⟨N13_3, 0, none⟩ (.int .u64 ((limb 0 X : Nat) : Int))).setCell ⟨N13_3, 1, none⟩ (.int .u64 ((limb 1 X : Nat) : Int))).setCell ⟨N13_3, 2, none⟩ (.int .u64 ((limb 2 X : Nat) : Int))).setCell ⟨N13_3, 3, none⟩ (.int .u64 ((limb 3 X : Nat) : Int))) := ⟨_, rfl⟩
        have hSK4 : Below w5.heap.size w5 wK4 := by rw [hwK4]; exact bSet4 (hSK3) lN13_3 _ _ _ _
        have b13_4 : Blk wK4 24 N13_3 (fun i => limb i X) := by rw [hwK4]; exact b13_3.set4 (fun i => limb i X)
        rw [← hwK4]
        clear hwK4
        refine wpZ_done (by kernel_rfl) ?_ _
        go_wp2_with fail
        go_meet
        exact ⟨_, rfl, lN13_3, b13_4, hSK4⟩
      · go_simp
        have hSK2' : Below w5.heap.size w5 (wK1.alloc (.cells #[.int .u64 0, .int .u64 0, .int .u64 0, .int .u64 0] 24)) := bAlloc (hSK1) _
        refine hK.out _ _ (fun _ => hSK2') ?_
        clear hK K
        obtain ⟨N13_2, hN13_2⟩ : ∃ N, N = wK1.heap.size := ⟨_, rfl⟩
        obtain ⟨wK2, hwK2⟩ : ∃ x : World, x = wK1.alloc (.cells #[.int .u64 0, .int .u64 0, .int .u64 0, .int .u64 0] 24) := ⟨_, rfl⟩
        have hSK2 : Below w5.heap.size w5 wK2 := by rw [hwK2]; exact hSK2'
        try have HBQ : Hid (BlkP wK2 gq n f ∧ n ≤ cq ∧ cq ≤ maxLen) := by rw [hwK2]; exact ⟨HBQ.out.1.belowAll (bAlloc (Below.refl _ _) _), HBQ.out.2⟩
        have b13_2 : Blk wK2 24 N13_2 (fun _ => 0) := by rw [hwK2, hN13_2]; exact Blk.new wK1 24 (fun _ => 0)
        have lN13_2 : w5.heap.size ≤ N13_2 := by rw [hN13_2]; exact (hSK1).size
        rw [← hwK2, ← hN13_2]
        clear hwK2 hSK2' hN13_2
        refine wpZ_one (i := 4) (by kernel_rfl) rfl (fun K hK => ?_)
        go_simp
        refine (HC1.out wK2 _ _ (HG.out.below (hbw5.trans (((hSK2)).mono hbw5.size))) (HBQ.out.1.Es HBQ.out.2.1 HBQ.out.2.2)).mono ?_
        rintro e wK3 ⟨rfl, hbK3⟩
        have hSK3 : Below w5.heap.size w5 wK3 := bStep (hSK2) hbK3
        go_wp2_with fail
        refine hK.out _ _ (fun _ => hSK3) ?_
        clear hK K
        have b13_3 := b13_2.belowAll hbK3
        refine wpZ_one (i := 6) (by kernel_rfl) rfl (fun K hK => ?_)
        have cS := b13_3.cell; have fS := b13_3.frozen
        go_simp
        refine hK.out _ _ (fun _ => bSet4 (hSK3) lN13_2 _ _ _ _) ?_
        clear hK K cS fS
        obtain ⟨wK4, hwK4⟩ : ∃ x : World, x = ((((wK3.setCell ⟨N13_2, 0, none⟩ (.int .u64 ((limb 0 X : Nat) : Int))).setCell ⟨N13_2, 1, none⟩ (.int .u64 ((limb 1 X : Nat) : Int))).setCell ⟨N13_2, 2, none⟩ (.int .u64 ((limb 2 X : Nat) : Int))).setCell ⟨N13_2, 3, none⟩ (.int .u64 ((limb 3 X : Nat) : Int))) := ⟨_, rfl⟩
        have hSK4 : Below w5.heap.size w5 wK4 := by rw [hwK4]; exact bSet4 (hSK3) lN13_2 _ _ _ _
        have b13_4 : Blk wK4 24 N13_2 (fun i => limb i X) := by rw [hwK4]; exact b13_3.set4 (fun i => limb i X)
        rw [← hwK4]
        clear hwK4
        refine wpZ_done (by kernel_rfl) ?_ _
        go_wp2_with fail
        go_meet
        exact ⟨_, rfl, lN13_2, b13_4, hSK4⟩
    · go_simp
      have hSK1' : Below w5.heap.size w5 ((w5.alloc (.cells #[.int .u64 0, .int .u64 0, .int .u64 0, .int .u64 0] 24)).drew) := (bAlloc (Below.refl _ _) _).drew
      refine hK.out _ _ (fun _ => hSK1') ?_
      clear hK K
      obtain ⟨N13_1, hN13_1⟩ : ∃ N, N = w5.heap.size := ⟨_, rfl⟩
      obtain ⟨wK1, hwK1⟩ : ∃ x : World, x = (w5.alloc (.cells #[.int .u64 0, .int .u64 0, .int .u64 0, .int .u64 0] 24)).drew := ⟨_, rfl⟩
      have hSK1 : Below w5.heap.size w5 wK1 := by rw [hwK1]; exact hSK1'
      try have HBQ : Hid (BlkP wK1 gq n f ∧ n ≤ cq ∧ cq ≤ maxLen) := by rw [hwK1]; exact ⟨HBQ.out.1.belowAll (bAlloc (Below.refl _ _) _), HBQ.out.2⟩
      have b13_1 : Blk wK1 24 N13_1 (fun _ => 0) := by rw [hwK1, hN13_1]; exact (Blk.new w5 24 (fun _ => 0)).drew
      have lN13_1 : w5.heap.size ≤ N13_1 := by rw [hN13_1]; exact (HS0.out).size
      rw [← hwK1, ← hN13_1]
      clear hwK1 hSK1' hN13_1
      refine wpZ_one (i := 3) (by kernel_rfl) rfl (fun K hK => ?_)
      go_simp
      refine (HCP.out wK1 (HV.out.below (hbw5.trans (((hSK1)).mono hbw5.size)))).mono ?_
      rintro e wK2 ⟨⟨gq, cq, rfl, lc1, lc2, lg, bq⟩, hbK2⟩
      have hSK2 : Below w5.heap.size w5 wK2 := bStep (hSK1) hbK2
      have HBQ : Hid (BlkP _ gq n f ∧ n ≤ cq ∧ cq ≤ maxLen) := ⟨bq, lc1, lc2⟩
      clear bq lc1 lc2 lg
      go_wp2_with fail
      refine hK.out _ _ (fun _ => hSK2) ?_
      clear hK K
      have b13_2 := b13_1.belowAll hbK2
      refine wpZ_one (i := 4) (by kernel_rfl) rfl (fun K hK => ?_)
      go_simp
      refine (HC1.out wK2 _ _ (HG.out.below (hbw5.trans (((hSK2)).mono hbw5.size))) (HBQ.out.1.Es HBQ.out.2.1 HBQ.out.2.2)).mono ?_
      rintro e wK3 ⟨rfl, hbK3⟩
      have hSK3 : Below w5.heap.size w5 wK3 := bStep (hSK2) hbK3
      go_wp2_with fail
      refine hK.out _ _ (fun _ => hSK3) ?_
      clear hK K
      have b13_3 := b13_2.belowAll hbK3
      refine wpZ_one (i := 6) (by kernel_rfl) rfl (fun K hK => ?_)
      have cS := b13_3.cell; have fS := b13_3.frozen
      go_simp
      refine hK.out _ _ (fun _ => bSet4 (hSK3) lN13_1 _ _ _ _) ?_
      clear hK K cS fS
      obtain ⟨wK4, hwK4⟩ : ∃ x : World, x = ((((wK3.setCell ⟨N13_1, 0, none⟩ (.int .u64 ((limb 0 X : Nat) : Int))).setCell ⟨N13_1, 1, none⟩ (.int .u64 ((limb 1 X : Nat) : Int))).setCell ⟨N13_1, 2, none⟩ (.int .u64 ((limb 2 X : Nat) : Int))).setCell ⟨N13_1, 3, none⟩ (.int .u64 ((limb 3 X : Nat) : Int))) := ⟨_, rfl⟩
      have hSK4 : Below w5.heap.size w5 wK4 := by rw [hwK4]; exact bSet4 (hSK3) lN13_1 _ _ _ _
      have b13_4 : Blk wK4 24 N13_1 (fun i => limb i X) := by rw [hwK4]; exact b13_3.set4 (fun i => limb i X)
      rw [← hwK4]
      clear hwK4
      refine wpZ_done (by kernel_rfl) ?_ _
      go_wp2_with fail
      go_meet
      exact ⟨_, rfl, lN13_1, b13_4, hSK4⟩
  obtain ⟨N13, rfl, l13, b13, hbx6⟩ := hcut
  have d6' := b6.belowAll hbx6; have d9' := b9.belowAll hbx6; have d12' := b12.belowAll hbx6; have bo6 := bo5.belowAll hbx6
  have hbw6 := bStep hbw5 hbx6
  obtain ⟨w6, hw6⟩ : ∃ z, z = wc := ⟨_, rfl⟩
  rw [← hw6] at b13 d6' d9' d12' bo6 hbw6 ⊢
  clear hw6 hbx6 b6 b9 b12 bo5 hbw5 HC1 HCP
  have k6 := d6'.cell
  go_wp2_with fail
  refine (HC2.out w6 _ _ (HG.out.below hbw6) (bo6.Es HBO.out.1 HBO.out.2)).mono ?_
  rintro e w7 ⟨rfl, hb7⟩
  have m6 := d6'.belowAll hb7; have m9 := d9'.belowAll hb7; have m12 := d12'.belowAll hb7; have m13 := b13.belowAll hb7
  have hbw7 := bStep hbw6 hb7
  clear d6' d9' d12' b13 hbw6 hb7 bo6 HC2 k6
  go_upto_region 10 with fail
  obtain ⟨w9, hw9⟩ : ∃ z : World, z = w7.alloc (.cells #[.int .u64 ((limb 0 (Y) : Nat) : Int), .int .u64 ((limb 1 (Y) : Nat) : Int), .int .u64 ((limb 2 (Y) : Nat) : Int), .int .u64 ((limb 3 (Y) : Nat) : Int)] 24) := ⟨_, rfl⟩
  obtain ⟨N14, e14⟩ : ∃ z, z = w7.heap.size := ⟨_, rfl⟩
  have d14 : Blk w9 24 N14 (fun i => limb i Y) := by rw [hw9]; exact Blk.newAt _ _ _ (fun i => limb i Y) e14
  have hbx9 : Below w7.heap.size w7 w9 := by rw [hw9]; exact bAlloc (Below.refl _ _) _
  have d6 := m6.belowAll hbx9; have d9 := m9.belowAll hbx9; have d12 := m12.belowAll hbx9; have d13 := m13.belowAll hbx9
  have hbw9 := bStep hbw7 hbx9
  rw [← hw9]
  try rw [← e14]
  clear hw9 e14 m6 m9 m12 m13 hbx9 hbw7
  rcases HV.out.open with ⟨_, h0, _⟩ | ⟨ab, ao, rfl, _, _, lab, hc⟩
  · omega
  have lab9 : ab < w9.heap.size := Nat.lt_of_lt_of_le lab hbw9.size
  have x0 := (hbw9.cell (p := ⟨ab, ao + a * 4 + 0, none⟩) lab).trans (hc a ha 0 (by decide)); have x1 := (hbw9.cell (p := ⟨ab, ao + a * 4 + 1, none⟩) lab).trans (hc a ha 1 (by decide)); have x2 := (hbw9.cell (p := ⟨ab, ao + a * 4 + 2, none⟩) lab).trans (hc a ha 2 (by decide)); have x3 := (hbw9.cell (p := ⟨ab, ao + a * 4 + 3, none⟩) lab).trans (hc a ha 3 (by decide))
  rw [Nat.add_zero] at x0
  obtain ⟨x, ex⟩ : ∃ x, x = f a := ⟨_, rfl⟩
  rw [← ex] at x0 x1 x2 x3 HSB0
  have HSB : Hid (∀ w, Glob w → _) := HSB0.out
  clear ex hc HSB0 lab HGG
  refine wp_region_Z (fun w' => Below w9.heap.size w9 w') 99 (by kernel_rfl) ?_
  obtain ⟨wD, hD⟩ : ∃ z : World, z = w9.drew := ⟨_, rfl⟩
  rw [← hD]
  have hp0 : Below w9.heap.size w9 wD := by rw [hD]; exact (Below.refl _ _).drew
  clear hD
  refine zt 0 55 (.int .i64 (s : Int)) rfl rfl (fun w hSw => by go_simp) hp0 ?_
  simp only [Act.put, List.setIfInBounds_toArray]
  (try dsimp only [List.set_cons_zero, List.set_cons_succ])
  refine zt 1 56 (.agg #[.int .u64 ((limb 0 (v) : Nat) : Int), .int .u64 ((limb 1 (v) : Nat) : Int), .int .u64 ((limb 2 (v) : Nat) : Int), .int .u64 ((limb 3 (v) : Nat) : Int)]) rfl rfl (fun w hSw => by (have qq := (d9.belowAll hSw).cell); clear hSw; go_simp) hp0 ?_
  simp only [Act.put, List.setIfInBounds_toArray]
  (try dsimp only [List.set_cons_zero, List.set_cons_succ])
  refine zt 2 57 (.slice (some ⟨ab, ao, none⟩) n cn) rfl rfl (fun w hSw => by go_simp) hp0 ?_
  simp only [Act.put, List.setIfInBounds_toArray]
  (try dsimp only [List.set_cons_zero, List.set_cons_succ])
  refine zt 3 58 (.int .i64 (a : Int)) rfl rfl (fun w hSw => by go_simp) hp0 ?_
  simp only [Act.put, List.setIfInBounds_toArray]
  (try dsimp only [List.set_cons_zero, List.set_cons_succ])
  refine zt 4 59 (.pointer (some ⟨ab, ao + a * 4, none⟩)) rfl rfl (fun w hSw => by go_simp) hp0 ?_
  simp only [Act.put, List.setIfInBounds_toArray]
  (try dsimp only [List.set_cons_zero, List.set_cons_succ])
  refine zt 5 60 (.agg #[.int .u64 ((limb 0 (x) : Nat) : Int), .int .u64 ((limb 1 (x) : Nat) : Int), .int .u64 ((limb 2 (x) : Nat) : Int), .int .u64 ((limb 3 (x) : Nat) : Int)]) rfl rfl (fun w hSw => by (have q0 := ((hSw).cell (p := ⟨ab, ao + a * 4, none⟩) lab9).trans x0; have q1 := ((hSw).cell (p := ⟨ab, ao + a * 4 + 1, none⟩) lab9).trans x1; have q2 := ((hSw).cell (p := ⟨ab, ao + a * 4 + 2, none⟩) lab9).trans x2; have q3 := ((hSw).cell (p := ⟨ab, ao + a * 4 + 3, none⟩) lab9).trans x3); clear hSw; go_simp) hp0 ?_
  simp only [Act.put, List.setIfInBounds_toArray]
  (try dsimp only [List.set_cons_zero, List.set_cons_succ])
  refine zt 7 62 (.agg #[.int .u64 0, .int .u64 0, .int .u64 0, .int .u64 0]) rfl rfl (fun w hSw => by (have qq := (d12.belowAll hSw).cell); clear hSw; go_simp) hp0 ?_
  simp only [Act.put, List.setIfInBounds_toArray]
  (try dsimp only [List.set_cons_zero, List.set_cons_succ])
  refine wpZ_one (i := 6) (by kernel_rfl) rfl (fun K hK => ?_)
  go_simp
  refine Calls.mono (HSB.out wD (HG.out.below (hbw9.trans ((hp0).mono hbw9.size)))) ?_
  rintro e wK1 ⟨rfl, hbK1⟩
  have hpK1 : Below w9.heap.size w9 wK1 := bStep hp0 hbK1
  clear hbK1
  go_wp2_with fail
  refine hK.out _ _ (fun _ => hpK1) ?_
  clear hK K
  refine zt 8 63 (.bool bD) rfl rfl (fun w hSw => by have hq := HE1.out w; clear hSw; go_simp) hpK1 ?_
  simp only [Act.put, List.setIfInBounds_toArray]
  (try dsimp only [List.set_cons_zero, List.set_cons_succ])
  refine zt 9 15 (.bool bD) rfl rfl (fun w hSw => by go_simp) hpK1 ?_
  simp only [Act.put, List.setIfInBounds_toArray]
  (try dsimp only [List.set_cons_zero, List.set_cons_succ])
  refine wpZ_done (by kernel_rfl) ?_ _
  have hbwA := hbw9.trans (hpK1.mono hbw9.size)
  have f6 := d6.belowAll hpK1; have f12 := d12.belowAll hpK1; have f13 := d13.belowAll hpK1; have f14 := d14.belowAll hpK1
  clear d6 d9 d12 d13 d14 hbw9 x0 x1 x2 x3 HSB
  obtain ⟨wA, ewA⟩ : ∃ z, z = wK1 := ⟨_, rfl⟩
  rw [← ewA] at hbwA f6 f12 f13 f14 ⊢
  clear ewA hpK1
  go_upto_region 11 with fail
  obtain ⟨n1, en1⟩ : ∃ z, z = n - 1 := ⟨_, rfl⟩
  have hn1 : (n : Int) - 1 = (n1 : Int) := by omega
  have hw1 : IntKind.i64.wrap (n1 : Int) = (n1 : Int) := wrap_i64_nat n1 (by omega)
  have HFF := HF.out
  rw [← en1] at HFF
  cases bD
  · by_cases hp : a < n1
    · have hpi : (a : Int) < (n1 : Int) := by omega
      rw [decide_eq_true hp] at HFF
      cases bT
      · obtain rfl : bE = false := by revert HFF; cases bE <;> decide
        clear HFF HF en1
        refine wp_region_Z (fun w' => Below wA.heap.size wA w') 99 (by kernel_rfl) ?_
        obtain ⟨wD, hD⟩ : ∃ z : World, z = wA.drew := ⟨_, rfl⟩
        rw [← hD]
        have hp0 : Below wA.heap.size wA wD := by rw [hD]; exact (Below.refl _ _).drew
        clear hD
        refine zt 0 64 (.agg #[.int .u64 ((limb 0 (X) : Nat) : Int), .int .u64 ((limb 1 (X) : Nat) : Int), .int .u64 ((limb 2 (X) : Nat) : Int), .int .u64 ((limb 3 (X) : Nat) : Int)]) rfl rfl (fun w hSw => by (have qq := (f13.belowAll hSw).cell); clear hSw; go_simp) hp0 ?_
        simp only [Act.put, List.setIfInBounds_toArray]
        (try dsimp only [List.set_cons_zero, List.set_cons_succ])
        refine zt 1 65 (.agg #[.int .u64 ((limb 0 (Y) : Nat) : Int), .int .u64 ((limb 1 (Y) : Nat) : Int), .int .u64 ((limb 2 (Y) : Nat) : Int), .int .u64 ((limb 3 (Y) : Nat) : Int)]) rfl rfl (fun w hSw => by (have qq := (f14.belowAll hSw).cell); clear hSw; go_simp) hp0 ?_
        simp only [Act.put, List.setIfInBounds_toArray]
        (try dsimp only [List.set_cons_zero, List.set_cons_succ])
        refine zt 2 66 (.bool false) rfl rfl (fun w hSw => by have hq := HE3.out w; clear hSw; go_simp) hp0 ?_
        simp only [Act.put, List.setIfInBounds_toArray]
        (try dsimp only [List.set_cons_zero, List.set_cons_succ])
        refine zt 3 67 (.bool false) rfl rfl (fun w hSw => by go_simp) hp0 ?_
        simp only [Act.put, List.setIfInBounds_toArray]
        (try dsimp only [List.set_cons_zero, List.set_cons_succ])
        refine zt 4 68 (.bool false) rfl rfl (fun w hSw => by go_simp) hp0 ?_
        simp only [Act.put, List.setIfInBounds_toArray]
        (try dsimp only [List.set_cons_zero, List.set_cons_succ])
        refine zt 5 69 (.int .i64 (a : Int)) rfl rfl (fun w hSw => by go_simp) hp0 ?_
        simp only [Act.put, List.setIfInBounds_toArray]
        (try dsimp only [List.set_cons_zero, List.set_cons_succ])
        refine zt 6 70 (.slice (some ⟨ab, ao, none⟩) n cn) rfl rfl (fun w hSw => by go_simp) hp0 ?_
        simp only [Act.put, List.setIfInBounds_toArray]
        (try dsimp only [List.set_cons_zero, List.set_cons_succ])
        refine zt 7 71 (.int .i64 (n : Int)) rfl rfl (fun w hSw => by go_simp) hp0 ?_
        simp only [Act.put, List.setIfInBounds_toArray]
        (try dsimp only [List.set_cons_zero, List.set_cons_succ])
        refine zt 8 72 (.int .i64 (n1 : Int)) rfl rfl (fun w hSw => by go_simp) hp0 ?_
        simp only [Act.put, List.setIfInBounds_toArray]
        (try dsimp only [List.set_cons_zero, List.set_cons_succ])
        refine zt 9 73 (.bool true) rfl rfl (fun w hSw => by go_simp) hp0 ?_
        simp only [Act.put, List.setIfInBounds_toArray]
        (try dsimp only [List.set_cons_zero, List.set_cons_succ])
        refine zt 10 74 (.bool true) rfl rfl (fun w hSw => by go_simp) hp0 ?_
        simp only [Act.put, List.setIfInBounds_toArray]
        (try dsimp only [List.set_cons_zero, List.set_cons_succ])
        refine zt 11 75 (.int .i64 (s : Int)) rfl rfl (fun w hSw => by go_simp) hp0 ?_
        simp only [Act.put, List.setIfInBounds_toArray]
        (try dsimp only [List.set_cons_zero, List.set_cons_succ])
        refine zt 12 76 (.agg #[.int .u64 ((limb 0 (th) : Nat) : Int), .int .u64 ((limb 1 (th) : Nat) : Int), .int .u64 ((limb 2 (th) : Nat) : Int), .int .u64 ((limb 3 (th) : Nat) : Int)]) rfl rfl (fun w hSw => by (have qq := (f6.belowAll hSw).cell); clear hSw; go_simp) hp0 ?_
        simp only [Act.put, List.setIfInBounds_toArray]
        (try dsimp only [List.set_cons_zero, List.set_cons_succ])
        refine zt 13 77 (.agg #[.int .u64 0, .int .u64 0, .int .u64 0, .int .u64 0]) rfl rfl (fun w hSw => by (have qq := (f12.belowAll hSw).cell); clear hSw; go_simp) hp0 ?_
        simp only [Act.put, List.setIfInBounds_toArray]
        (try dsimp only [List.set_cons_zero, List.set_cons_succ])
        refine zt 15 79 (.agg #[.int .u64 0, .int .u64 0, .int .u64 0, .int .u64 0]) rfl rfl (fun w hSw => by (have qq := (f12.belowAll hSw).cell); clear hSw; go_simp) hp0 ?_
        simp only [Act.put, List.setIfInBounds_toArray]
        (try dsimp only [List.set_cons_zero, List.set_cons_succ])
        refine wpZ_one (i := 14) (by kernel_rfl) rfl (fun K hK => ?_)
        rw [if_pos (show Region.wanted _ _ = true from rfl)]
        go_simp
        refine Calls.mono (HAD.out wD (HG.out.below (hbwA.trans ((hp0).mono hbwA.size)))) ?_
        rintro e wK1 ⟨rfl, hbK1⟩
        have hpK1 : Below wA.heap.size wA wK1 := bStep hp0 hbK1
        clear hbK1
        go_wp2_with fail
        refine hK.out _ _ (fun _ => hpK1) ?_
        clear hK K
        refine zt 16 80 (.bool false) rfl rfl (fun w hSw => by have hq := HE2.out w; clear hSw; go_simp) hpK1 ?_
        simp only [Act.put, List.setIfInBounds_toArray]
        (try dsimp only [List.set_cons_zero, List.set_cons_succ])
        refine zt 17 81 (.bool false) rfl rfl (fun w hSw => by go_simp) hpK1 ?_
        simp only [Act.put, List.setIfInBounds_toArray]
        (try dsimp only [List.set_cons_zero, List.set_cons_succ])
        refine zt 18 82 (.bool false) rfl rfl (fun w hSw => by go_simp) hpK1 ?_
        simp only [Act.put, List.setIfInBounds_toArray]
        (try dsimp only [List.set_cons_zero, List.set_cons_succ])
        refine zt 19 83 (.bool true) rfl rfl (fun w hSw => by go_simp) hpK1 ?_
        simp only [Act.put, List.setIfInBounds_toArray]
        (try dsimp only [List.set_cons_zero, List.set_cons_succ])
        refine zt 20 10 (.bool true) rfl rfl (fun w hSw => by go_simp) hpK1 ?_
        simp only [Act.put, List.setIfInBounds_toArray]
        (try dsimp only [List.set_cons_zero, List.set_cons_succ])
        refine wpZ_done (by kernel_rfl) ?_ _
        go_wp2
        go_ret
        exact ⟨rfl, hbwA.trans ((hpK1).mono hbwA.size)⟩
      · obtain rfl : bE = true := by revert HFF; cases bE <;> decide
        clear HFF HF en1
        refine wp_region_Z (fun w' => Below wA.heap.size wA w') 99 (by kernel_rfl) ?_
        obtain ⟨wD, hD⟩ : ∃ z : World, z = wA.drew := ⟨_, rfl⟩
        rw [← hD]
        have hp0 : Below wA.heap.size wA wD := by rw [hD]; exact (Below.refl _ _).drew
        clear hD
        refine zt 0 64 (.agg #[.int .u64 ((limb 0 (X) : Nat) : Int), .int .u64 ((limb 1 (X) : Nat) : Int), .int .u64 ((limb 2 (X) : Nat) : Int), .int .u64 ((limb 3 (X) : Nat) : Int)]) rfl rfl (fun w hSw => by (have qq := (f13.belowAll hSw).cell); clear hSw; go_simp) hp0 ?_
        simp only [Act.put, List.setIfInBounds_toArray]
        (try dsimp only [List.set_cons_zero, List.set_cons_succ])
        refine zt 1 65 (.agg #[.int .u64 ((limb 0 (Y) : Nat) : Int), .int .u64 ((limb 1 (Y) : Nat) : Int), .int .u64 ((limb 2 (Y) : Nat) : Int), .int .u64 ((limb 3 (Y) : Nat) : Int)]) rfl rfl (fun w hSw => by (have qq := (f14.belowAll hSw).cell); clear hSw; go_simp) hp0 ?_
        simp only [Act.put, List.setIfInBounds_toArray]
        (try dsimp only [List.set_cons_zero, List.set_cons_succ])
        refine zt 2 66 (.bool true) rfl rfl (fun w hSw => by have hq := HE3.out w; clear hSw; go_simp) hp0 ?_
        simp only [Act.put, List.setIfInBounds_toArray]
        (try dsimp only [List.set_cons_zero, List.set_cons_succ])
        refine zt 3 67 (.bool false) rfl rfl (fun w hSw => by go_simp) hp0 ?_
        simp only [Act.put, List.setIfInBounds_toArray]
        (try dsimp only [List.set_cons_zero, List.set_cons_succ])
        refine zt 4 68 (.bool false) rfl rfl (fun w hSw => by go_simp) hp0 ?_
        simp only [Act.put, List.setIfInBounds_toArray]
        (try dsimp only [List.set_cons_zero, List.set_cons_succ])
        refine zt 5 69 (.int .i64 (a : Int)) rfl rfl (fun w hSw => by go_simp) hp0 ?_
        simp only [Act.put, List.setIfInBounds_toArray]
        (try dsimp only [List.set_cons_zero, List.set_cons_succ])
        refine zt 6 70 (.slice (some ⟨ab, ao, none⟩) n cn) rfl rfl (fun w hSw => by go_simp) hp0 ?_
        simp only [Act.put, List.setIfInBounds_toArray]
        (try dsimp only [List.set_cons_zero, List.set_cons_succ])
        refine zt 7 71 (.int .i64 (n : Int)) rfl rfl (fun w hSw => by go_simp) hp0 ?_
        simp only [Act.put, List.setIfInBounds_toArray]
        (try dsimp only [List.set_cons_zero, List.set_cons_succ])
        refine zt 8 72 (.int .i64 (n1 : Int)) rfl rfl (fun w hSw => by go_simp) hp0 ?_
        simp only [Act.put, List.setIfInBounds_toArray]
        (try dsimp only [List.set_cons_zero, List.set_cons_succ])
        refine zt 9 73 (.bool true) rfl rfl (fun w hSw => by go_simp) hp0 ?_
        simp only [Act.put, List.setIfInBounds_toArray]
        (try dsimp only [List.set_cons_zero, List.set_cons_succ])
        refine zt 10 74 (.bool true) rfl rfl (fun w hSw => by go_simp) hp0 ?_
        simp only [Act.put, List.setIfInBounds_toArray]
        (try dsimp only [List.set_cons_zero, List.set_cons_succ])
        refine zt 11 75 (.int .i64 (s : Int)) rfl rfl (fun w hSw => by go_simp) hp0 ?_
        simp only [Act.put, List.setIfInBounds_toArray]
        (try dsimp only [List.set_cons_zero, List.set_cons_succ])
        refine zt 12 76 (.agg #[.int .u64 ((limb 0 (th) : Nat) : Int), .int .u64 ((limb 1 (th) : Nat) : Int), .int .u64 ((limb 2 (th) : Nat) : Int), .int .u64 ((limb 3 (th) : Nat) : Int)]) rfl rfl (fun w hSw => by (have qq := (f6.belowAll hSw).cell); clear hSw; go_simp) hp0 ?_
        simp only [Act.put, List.setIfInBounds_toArray]
        (try dsimp only [List.set_cons_zero, List.set_cons_succ])
        refine zt 13 77 (.agg #[.int .u64 0, .int .u64 0, .int .u64 0, .int .u64 0]) rfl rfl (fun w hSw => by (have qq := (f12.belowAll hSw).cell); clear hSw; go_simp) hp0 ?_
        simp only [Act.put, List.setIfInBounds_toArray]
        (try dsimp only [List.set_cons_zero, List.set_cons_succ])
        refine zt 15 79 (.agg #[.int .u64 0, .int .u64 0, .int .u64 0, .int .u64 0]) rfl rfl (fun w hSw => by (have qq := (f12.belowAll hSw).cell); clear hSw; go_simp) hp0 ?_
        simp only [Act.put, List.setIfInBounds_toArray]
        (try dsimp only [List.set_cons_zero, List.set_cons_succ])
        refine wpZ_one (i := 14) (by kernel_rfl) rfl (fun K hK => ?_)
        rw [if_pos (show Region.wanted _ _ = true from rfl)]
        go_simp
        refine Calls.mono (HAD.out wD (HG.out.below (hbwA.trans ((hp0).mono hbwA.size)))) ?_
        rintro e wK1 ⟨rfl, hbK1⟩
        have hpK1 : Below wA.heap.size wA wK1 := bStep hp0 hbK1
        clear hbK1
        go_wp2_with fail
        refine hK.out _ _ (fun _ => hpK1) ?_
        clear hK K
        refine zt 16 80 (.bool true) rfl rfl (fun w hSw => by have hq := HE2.out w; clear hSw; go_simp) hpK1 ?_
        simp only [Act.put, List.setIfInBounds_toArray]
        (try dsimp only [List.set_cons_zero, List.set_cons_succ])
        refine zt 17 81 (.bool true) rfl rfl (fun w hSw => by go_simp) hpK1 ?_
        simp only [Act.put, List.setIfInBounds_toArray]
        (try dsimp only [List.set_cons_zero, List.set_cons_succ])
        refine zt 18 82 (.bool true) rfl rfl (fun w hSw => by go_simp) hpK1 ?_
        simp only [Act.put, List.setIfInBounds_toArray]
        (try dsimp only [List.set_cons_zero, List.set_cons_succ])
        refine zt 19 83 (.bool true) rfl rfl (fun w hSw => by go_simp) hpK1 ?_
        simp only [Act.put, List.setIfInBounds_toArray]
        (try dsimp only [List.set_cons_zero, List.set_cons_succ])
        refine zt 20 10 (.bool true) rfl rfl (fun w hSw => by go_simp) hpK1 ?_
        simp only [Act.put, List.setIfInBounds_toArray]
        (try dsimp only [List.set_cons_zero, List.set_cons_succ])
        refine wpZ_done (by kernel_rfl) ?_ _
        go_wp2
        go_ret
        exact ⟨rfl, hbwA.trans ((hpK1).mono hbwA.size)⟩
    · have hpi : ¬ (a : Int) < (n1 : Int) := by omega
      rw [decide_eq_false hp] at HFF
      obtain rfl : bE = false := by revert HFF; cases bE <;> cases bT <;> decide
      clear HFF HF en1
      refine wp_region_Z (fun w' => Below wA.heap.size wA w') 99 (by kernel_rfl) ?_
      obtain ⟨wD, hD⟩ : ∃ z : World, z = wA.drew := ⟨_, rfl⟩
      rw [← hD]
      have hp0 : Below wA.heap.size wA wD := by rw [hD]; exact (Below.refl _ _).drew
      clear hD
      refine zt 0 64 (.agg #[.int .u64 ((limb 0 (X) : Nat) : Int), .int .u64 ((limb 1 (X) : Nat) : Int), .int .u64 ((limb 2 (X) : Nat) : Int), .int .u64 ((limb 3 (X) : Nat) : Int)]) rfl rfl (fun w hSw => by (have qq := (f13.belowAll hSw).cell); clear hSw; go_simp) hp0 ?_
      simp only [Act.put, List.setIfInBounds_toArray]
      (try dsimp only [List.set_cons_zero, List.set_cons_succ])
      refine zt 1 65 (.agg #[.int .u64 ((limb 0 (Y) : Nat) : Int), .int .u64 ((limb 1 (Y) : Nat) : Int), .int .u64 ((limb 2 (Y) : Nat) : Int), .int .u64 ((limb 3 (Y) : Nat) : Int)]) rfl rfl (fun w hSw => by (have qq := (f14.belowAll hSw).cell); clear hSw; go_simp) hp0 ?_
      simp only [Act.put, List.setIfInBounds_toArray]
      (try dsimp only [List.set_cons_zero, List.set_cons_succ])
      refine zt 2 66 (.bool false) rfl rfl (fun w hSw => by have hq := HE3.out w; clear hSw; go_simp) hp0 ?_
      simp only [Act.put, List.setIfInBounds_toArray]
      (try dsimp only [List.set_cons_zero, List.set_cons_succ])
      refine zt 3 67 (.bool false) rfl rfl (fun w hSw => by go_simp) hp0 ?_
      simp only [Act.put, List.setIfInBounds_toArray]
      (try dsimp only [List.set_cons_zero, List.set_cons_succ])
      refine zt 4 68 (.bool false) rfl rfl (fun w hSw => by go_simp) hp0 ?_
      simp only [Act.put, List.setIfInBounds_toArray]
      (try dsimp only [List.set_cons_zero, List.set_cons_succ])
      refine zt 5 69 (.int .i64 (a : Int)) rfl rfl (fun w hSw => by go_simp) hp0 ?_
      simp only [Act.put, List.setIfInBounds_toArray]
      (try dsimp only [List.set_cons_zero, List.set_cons_succ])
      refine zt 6 70 (.slice (some ⟨ab, ao, none⟩) n cn) rfl rfl (fun w hSw => by go_simp) hp0 ?_
      simp only [Act.put, List.setIfInBounds_toArray]
      (try dsimp only [List.set_cons_zero, List.set_cons_succ])
      refine zt 7 71 (.int .i64 (n : Int)) rfl rfl (fun w hSw => by go_simp) hp0 ?_
      simp only [Act.put, List.setIfInBounds_toArray]
      (try dsimp only [List.set_cons_zero, List.set_cons_succ])
      refine zt 8 72 (.int .i64 (n1 : Int)) rfl rfl (fun w hSw => by go_simp) hp0 ?_
      simp only [Act.put, List.setIfInBounds_toArray]
      (try dsimp only [List.set_cons_zero, List.set_cons_succ])
      refine zt 9 73 (.bool false) rfl rfl (fun w hSw => by go_simp) hp0 ?_
      simp only [Act.put, List.setIfInBounds_toArray]
      (try dsimp only [List.set_cons_zero, List.set_cons_succ])
      refine zt 10 74 (.bool false) rfl rfl (fun w hSw => by go_simp) hp0 ?_
      simp only [Act.put, List.setIfInBounds_toArray]
      (try dsimp only [List.set_cons_zero, List.set_cons_succ])
      refine zu 11 75 rfl rfl hp0 ?_
      simp only [Act.put, List.setIfInBounds_toArray]
      (try dsimp only [List.set_cons_zero, List.set_cons_succ])
      refine zu 12 76 rfl rfl hp0 ?_
      simp only [Act.put, List.setIfInBounds_toArray]
      (try dsimp only [List.set_cons_zero, List.set_cons_succ])
      refine zu 13 77 rfl rfl hp0 ?_
      simp only [Act.put, List.setIfInBounds_toArray]
      (try dsimp only [List.set_cons_zero, List.set_cons_succ])
      refine zu 14 78 rfl rfl hp0 ?_
      simp only [Act.put, List.setIfInBounds_toArray]
      (try dsimp only [List.set_cons_zero, List.set_cons_succ])
      refine zu 15 79 rfl rfl hp0 ?_
      simp only [Act.put, List.setIfInBounds_toArray]
      (try dsimp only [List.set_cons_zero, List.set_cons_succ])
      refine zu 16 80 rfl rfl hp0 ?_
      simp only [Act.put, List.setIfInBounds_toArray]
      (try dsimp only [List.set_cons_zero, List.set_cons_succ])
      refine zt 17 81 (.bool false) rfl rfl (fun w hSw => by go_simp) hp0 ?_
      simp only [Act.put, List.setIfInBounds_toArray]
      (try dsimp only [List.set_cons_zero, List.set_cons_succ])
      refine zt 18 82 (.bool false) rfl rfl (fun w hSw => by go_simp) hp0 ?_
      simp only [Act.put, List.setIfInBounds_toArray]
      (try dsimp only [List.set_cons_zero, List.set_cons_succ])
      refine zt 19 83 (.bool true) rfl rfl (fun w hSw => by go_simp) hp0 ?_
      simp only [Act.put, List.setIfInBounds_toArray]
      (try dsimp only [List.set_cons_zero, List.set_cons_succ])
      refine zt 20 10 (.bool true) rfl rfl (fun w hSw => by go_simp) hp0 ?_
      simp only [Act.put, List.setIfInBounds_toArray]
      (try dsimp only [List.set_cons_zero, List.set_cons_succ])
      refine wpZ_done (by kernel_rfl) ?_ _
      go_wp2
      go_ret
      exact ⟨rfl, hbwA.trans ((hp0).mono hbwA.size)⟩
  · obtain rfl : bE = true := by revert HFF; cases bE <;> cases bT <;> simp
    clear HFF HF en1
    refine wp_region_Z (fun w' => Below wA.heap.size wA w') 99 (by kernel_rfl) ?_
    obtain ⟨wD, hD⟩ : ∃ z : World, z = wA.drew := ⟨_, rfl⟩
    rw [← hD]
    have hp0 : Below wA.heap.size wA wD := by rw [hD]; exact (Below.refl _ _).drew
    clear hD
    refine zt 0 64 (.agg #[.int .u64 ((limb 0 (X) : Nat) : Int), .int .u64 ((limb 1 (X) : Nat) : Int), .int .u64 ((limb 2 (X) : Nat) : Int), .int .u64 ((limb 3 (X) : Nat) : Int)]) rfl rfl (fun w hSw => by (have qq := (f13.belowAll hSw).cell); clear hSw; go_simp) hp0 ?_
    simp only [Act.put, List.setIfInBounds_toArray]
    (try dsimp only [List.set_cons_zero, List.set_cons_succ])
    refine zt 1 65 (.agg #[.int .u64 ((limb 0 (Y) : Nat) : Int), .int .u64 ((limb 1 (Y) : Nat) : Int), .int .u64 ((limb 2 (Y) : Nat) : Int), .int .u64 ((limb 3 (Y) : Nat) : Int)]) rfl rfl (fun w hSw => by (have qq := (f14.belowAll hSw).cell); clear hSw; go_simp) hp0 ?_
    simp only [Act.put, List.setIfInBounds_toArray]
    (try dsimp only [List.set_cons_zero, List.set_cons_succ])
    refine zt 2 66 (.bool true) rfl rfl (fun w hSw => by have hq := HE3.out w; clear hSw; go_simp) hp0 ?_
    simp only [Act.put, List.setIfInBounds_toArray]
    (try dsimp only [List.set_cons_zero, List.set_cons_succ])
    refine zt 3 67 (.bool true) rfl rfl (fun w hSw => by go_simp) hp0 ?_
    simp only [Act.put, List.setIfInBounds_toArray]
    (try dsimp only [List.set_cons_zero, List.set_cons_succ])
    refine zt 4 68 (.bool true) rfl rfl (fun w hSw => by go_simp) hp0 ?_
    simp only [Act.put, List.setIfInBounds_toArray]
    (try dsimp only [List.set_cons_zero, List.set_cons_succ])
    refine zu 5 69 rfl rfl hp0 ?_
    simp only [Act.put, List.setIfInBounds_toArray]
    (try dsimp only [List.set_cons_zero, List.set_cons_succ])
    refine zu 6 70 rfl rfl hp0 ?_
    simp only [Act.put, List.setIfInBounds_toArray]
    (try dsimp only [List.set_cons_zero, List.set_cons_succ])
    refine zu 7 71 rfl rfl hp0 ?_
    simp only [Act.put, List.setIfInBounds_toArray]
    (try dsimp only [List.set_cons_zero, List.set_cons_succ])
    refine zu 8 72 rfl rfl hp0 ?_
    simp only [Act.put, List.setIfInBounds_toArray]
    (try dsimp only [List.set_cons_zero, List.set_cons_succ])
    refine zu 9 73 rfl rfl hp0 ?_
    simp only [Act.put, List.setIfInBounds_toArray]
    (try dsimp only [List.set_cons_zero, List.set_cons_succ])
    refine zu 10 74 rfl rfl hp0 ?_
    simp only [Act.put, List.setIfInBounds_toArray]
    (try dsimp only [List.set_cons_zero, List.set_cons_succ])
    refine zu 11 75 rfl rfl hp0 ?_
    simp only [Act.put, List.setIfInBounds_toArray]
    (try dsimp only [List.set_cons_zero, List.set_cons_succ])
    refine zu 12 76 rfl rfl hp0 ?_
    simp only [Act.put, List.setIfInBounds_toArray]
    (try dsimp only [List.set_cons_zero, List.set_cons_succ])
    refine zu 13 77 rfl rfl hp0 ?_
    simp only [Act.put, List.setIfInBounds_toArray]
    (try dsimp only [List.set_cons_zero, List.set_cons_succ])
    refine zu 14 78 rfl rfl hp0 ?_
    simp only [Act.put, List.setIfInBounds_toArray]
    (try dsimp only [List.set_cons_zero, List.set_cons_succ])
    refine zu 15 79 rfl rfl hp0 ?_
    simp only [Act.put, List.setIfInBounds_toArray]
    (try dsimp only [List.set_cons_zero, List.set_cons_succ])
    refine zu 16 80 rfl rfl hp0 ?_
    simp only [Act.put, List.setIfInBounds_toArray]
    (try dsimp only [List.set_cons_zero, List.set_cons_succ])
    refine zu 17 81 rfl rfl hp0 ?_
    simp only [Act.put, List.setIfInBounds_toArray]
    (try dsimp only [List.set_cons_zero, List.set_cons_succ])
    refine zt 18 82 (.bool true) rfl rfl (fun w hSw => by go_simp) hp0 ?_
    simp only [Act.put, List.setIfInBounds_toArray]
    (try dsimp only [List.set_cons_zero, List.set_cons_succ])
    refine zt 19 83 (.bool true) rfl rfl (fun w hSw => by go_simp) hp0 ?_
    simp only [Act.put, List.setIfInBounds_toArray]
    (try dsimp only [List.set_cons_zero, List.set_cons_succ])
    refine zt 20 10 (.bool true) rfl rfl (fun w hSw => by go_simp) hp0 ?_
    simp only [Act.put, List.setIfInBounds_toArray]
    (try dsimp only [List.set_cons_zero, List.set_cons_succ])
    refine wpZ_done (by kernel_rfl) ?_ _
    go_wp2
    go_ret
    exact ⟨rfl, hbwA.trans ((hp0).mono hbwA.size)⟩
end Go.Proofs.YtobeeoelfmfpdaaDoor
