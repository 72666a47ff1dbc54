/- lookup.match. -/
import Derived.Test.YtobeeoelfmfpdaaDoorXLU7
namespace Go.Proofs.YtobeeoelfmfpdaaDoor
open Go.RowKit
theorem Kept.cellE {g b : Nat} {w w' : World} (h : Kept g w w') (hne : b ≠ g) (hl : b < w.heap.size) (o : Nat) : w'.cell? ⟨b, o, none⟩ = w.cell? ⟨b, o, none⟩ := by simp [World.cell?, h.block b hl hne]
set_option maxHeartbeats 1000000 in
set_option maxRecDepth 20000 in
/-- lookup.match. -/
theorem match_any (A G n N : Nat) (f : Nat → Nat) (t : List Nat) (hn : n ≤ 1000000) (hf : ∀ i, i < n → f i < 115792089237316195423570985008687907853269984665640564039457584007913129639936) (htM : ∀ v, v ∈ t → v < 115792089237316195423570985008687907853269984665640564039457584007913129639936) (ht : t.length = nf (fl n f) n) (w : World) (ha : BlkE w A n f) (hg : RowL w G N t) :
    Calls Tryd.prog 29 #[.slice (some ⟨A, 0, none⟩) n n, .slice (some ⟨G, 0, none⟩) t.length N] w fun e w' => (∃ H, e = .returned (.slice (some ⟨H, 0, none⟩) n n) ∧ w.heap.size ≤ H ∧ BlkE w' H n (mtF (fl n f) t)) ∧ Below w.heap.size w w' := by
  obtain ⟨i0, hi, hz0, hz1, hz2⟩ := elemInfo
  have HI := (show Hid _ from hi); have HZ := (show Hid _ from And.intro hz0 (And.intro hz1 hz2)); clear hi hz0 hz1 hz2
  have HF : Hid (∀ i, i < n → f i < 115792089237316195423570985008687907853269984665640564039457584007913129639936) := hf
  have HTM : Hid (∀ v, v ∈ t → v < 115792089237316195423570985008687907853269984665640564039457584007913129639936) := htM
  have HA : Hid (BlkE w A n f) := ha
  have HG : Hid (RowL w G N t) := hg
  have hAl := ha.lt
  have hGl := hg.lt
  have HIF : Hid (∀ i, i < n → ∀ w, BlkE w A n f → Calls Tryd.prog 51 #[.slice (some ⟨A, 0, none⟩) n n, .int .i64 (i : Int)] w fun e w' => e = .returned (.bool (isF (fl n f) i)) ∧ Below w.heap.size w w') := fun i hi w hb => (isFirst_any n n i _ f hi hn hf w (hb.es (by unfold maxLen; omega))).mono (by
    rintro e w' ⟨rfl, d, rfl⟩
    exact ⟨rfl, Below.drewN2 _ _⟩)
  obtain ⟨m, em⟩ : ∃ z, z = t.length := ⟨_, rfl⟩
  have HM : Hid (t.length = m ∧ nf (fl n f) n = m ∧ m ≤ N) := ⟨em.symm, by rw [em, ht], by rw [em]; exact hg.1⟩
  rw [← em]
  clear hf htM ha hg em ht
  go_enter Tryd.func29, Tryd.ntmps29
  go_wp2_with (first
    | (at_make; refine wpList_make_full _ rfl _ _ 25 rfl w.heap.size 24 i0 (.agg #[.int .u64 0, .int .u64 0, .int .u64 0, .int .u64 0]) 4 Tryd.underlying25 HI.out HZ.out.1 HZ.out.2.1 .i64 .i64 n n n rfl rfl rfl rfl ?c1 ?c2 (Nat.le_refl _) ?_)
    | go_in)
  case c1 => rw [HZ.out.2.2]; omega
  case c2 => unfold maxLen; omega
  intro w2 hown hgrow
  obtain ⟨H, eH⟩ : ∃ H, H = w.heap.size := ⟨_, rfl⟩
  rw [← eH] at hown ⊢
  have bo2 : BlkE w2 H n (fun _ => 0) := (own_blkE (f := fun _ => 0) hown (fun i hi j hj => by rw [made_zero n (i * 4 + j) (by omega), limb_zero]; rfl)).1
  have hbw2 : Below w.heap.size w w2 := (Below.refl _ w).grown hgrow (Nat.le_refl _) (fun j hj => by cases hj)
  have lH : w.heap.size ≤ H := by omega
  have hGH : G ≠ H := by omega
  have hAH : A ≠ H := by omega
  clear hown hgrow eH
  go_wp2
  go_loopw [1, 13] (fun tv iv wr => ∃ (j q m1 c1 : Nat) (oA : Option Addr), iv = .int .i64 (j : Int) ∧ tv = .slice oA m1 c1 ∧ j ≤ n ∧ Hid (q = nf (fl n f) j ∧ m1 = m - q ∧ c1 = N - q ∧ (0 < m1 → oA = some ⟨G, q * 4, none⟩)) ∧ Below w.heap.size w wr ∧ BlkE wr H n (fun i => if i < j then mtF (fl n f) t i else 0)) (fun _ iv _ => n - (intOf iv).toNat)
  case atStart => exact ⟨0, 0, m, N, some ⟨G, 0, none⟩, rfl, rfl, Nat.zero_le _, ⟨rfl, rfl, rfl, fun _ => rfl⟩, hbw2, bo2.congr (fun i _ => by rw [if_neg (by omega)])⟩
  case round =>
    obtain ⟨j, q, m1, c1, oA, rfl, rfl, hj, hq, hbr, bo⟩ := hrel
    clear bo2 hbw2
    by_cases hlt : j < n
    · have hji : (j : Int) < (n : Int) := by omega
      have bA := HA.out.below hbr hAl
      have c0 := bA.cell j hlt 0 (by decide); have c1' := bA.cell j hlt 1 (by decide); have c2 := bA.cell j hlt 2 (by decide); have c3 := bA.cell j hlt 3 (by decide)
      rw [Nat.add_zero] at c0
      have HAT : Hid ((fl n f).getD j 0 = f j) := fl_get hlt
      obtain ⟨x, ex⟩ : ∃ x, x = f j := ⟨_, rfl⟩
      rw [← ex] at c0 c1' c2 c3 HAT
      have HI := HIF.out j hlt
      obtain ⟨b, eb⟩ : ∃ b, b = isF (fl n f) j := ⟨_, rfl⟩
      rw [← eb] at HI
      have HIJ : Hid (∀ w, BlkE w A n f → _) := HI
      have HB : Hid (isF (fl n f) j = b) := eb.symm
      clear ex eb HI
      go_wp2_with fail
      obtain ⟨w3, hw3⟩ : ∃ z : World, z = wr.alloc (.cells #[.int .u64 ((limb 0 (x) : Nat) : Int), .int .u64 ((limb 1 (x) : Nat) : Int), .int .u64 ((limb 2 (x) : Nat) : Int), .int .u64 ((limb 3 (x) : Nat) : Int)] 24) := ⟨_, rfl⟩
      obtain ⟨N7, e7⟩ : ∃ z, z = wr.heap.size := ⟨_, rfl⟩
      have l7 : w.heap.size ≤ N7 := by rw [e7]; exact hbr.size
      have h7H : N7 ≠ H := by have := bo.lt; omega
      have b7 : Blk w3 24 N7 (fun i => limb i x) := by rw [hw3]; exact Blk.newAt _ _ _ (fun i => limb i x) e7
      have hb3 : Below wr.heap.size wr w3 := by rw [hw3]; exact bAlloc (Below.refl _ _) _
      have bA3 := bA.belowAll hb3
      have bo3 := bo.belowAll hb3
      have hbw3 := bStep hbr hb3
      rw [← hw3]
      try rw [← e7]
      clear hw3 e7 bA bo hbr hb3 c0 c1' c2 c3
      refine (HIJ.out w3 bA3).mono ?_
      rintro e w4 ⟨rfl, hb4⟩
      have b74 := b7.belowAll hb4
      have bo4 := bo3.belowAll hb4
      have hbw4 := bStep hbw3 hb4
      clear bA3 bo3 hbw3 b7 hb4 HIJ
      have o0 := bo4.cell j hlt 0 (by decide); have o1 := bo4.cell j hlt 1 (by decide); have o2 := bo4.cell j hlt 2 (by decide); have o3 := bo4.cell j hlt 3 (by decide)
      rw [Nat.add_zero] at o0
      have fo := bo4.frozen
      cases b
      · have hqj : Hid (q = nf (fl n f) j) := hq.out.1
        have hqn : nf (fl n f) (j + 1) = q + 1 := by rw [nf_other HB.out, hqj.out]
        have hqm : q < m := by have := nf_mono (fl n f) (j + 1) n (by omega); have := HM.out.2.1; omega
        have hoA := hq.out.2.2.2 (by have := hq.out.2.1; omega)
        subst hoA
        have hm1 : (1 : Int) ≤ (m1 : Int) := by have := hq.out.2.1; omega
        have hm0 : (0 : Int) < (m1 : Int) := by omega
        have hmz : ¬ m1 = 0 := by omega
        have hmc : (m1 : Int) ≤ (c1 : Int) := by have := hq.out.2.1; have := hq.out.2.2.1; have := HM.out.2.2; omega
        obtain ⟨_, g, hgb, hgv⟩ := HG.out
        have hqt : q < t.length := by rw [HM.out.1]; exact hqm
        have hgb4 := hgb.below hbw4 hGl
        have lG4 := hgb4.lt
        have g0 := hgb4.cell q (by have := HM.out.2.2; omega) 0 (by decide); have g1 := hgb4.cell q (by have := HM.out.2.2; omega) 1 (by decide); have g2 := hgb4.cell q (by have := HM.out.2.2; omega) 2 (by decide); have g3 := hgb4.cell q (by have := HM.out.2.2; omega) 3 (by decide)
        rw [Nat.add_zero] at g0
        rw [hgv q hqt] at g0 g1 g2 g3
        have HY0 : Hid (mtF (fl n f) t j = t.getD q 0) := by
          show _ = _
          rw [mtF_other HB.out, ← hqj.out]
        obtain ⟨y, ey⟩ : ∃ y, y = t.getD q 0 := ⟨_, rfl⟩
        rw [← ey] at g0 g1 g2 g3 HY0
        obtain ⟨oN, eN⟩ : ∃ z, z = (if c1 = 1 then some (⟨G, q * 4, none⟩ : Addr) else some ⟨G, q * 4 + 4, none⟩) := ⟨_, rfl⟩
        have HON : Hid ((if c1 = 1 then some (⟨G, q * 4, none⟩ : Addr) else some ⟨G, q * 4 + 4, none⟩) = oN) := eN.symm
        have HNX : Hid (q + 1 = nf (fl n f) (j + 1) ∧ m1 - 1 = m - (q + 1) ∧ c1 - 1 = N - (q + 1) ∧ (0 < m1 - 1 → oN = some ⟨G, (q + 1) * 4, none⟩)) := by
          have e1 := hq.out.2.1; have e2 := hq.out.2.2.1; have e3 := HM.out.2.2
          refine ⟨hqn.symm, by omega, by omega, fun hp => ?_⟩
          rw [eN, if_neg (by omega), show (q + 1) * 4 = q * 4 + 4 by omega]
        clear hqj hqn hqm hgb hgv hqt hgb4 ey eN b74 hq
        go_upto_region 7 with fail
        obtain ⟨wD, hD⟩ : ∃ z : World, z = w4.drew := ⟨_, rfl⟩
        have boD : BlkE wD H n (fun i => if i < j then mtF (fl n f) t i else 0) := by rw [hD]; exact bo4.drew
        have hp0 : Kept H w4 wD := by rw [hD]; exact Kept.ofBelow H (Below.refl _ _).drew
        have hbwD : Below w.heap.size w wD := by rw [hD]; exact hbw4.drew
        refine wp_region_Z (fun w' => Kept H w4 w') 99 (by kernel_rfl) ?_
        rw [← hD]
        clear hD bo4 o0 o1 o2 o3 fo
        refine zt 0 25 (.slice (some ⟨H, 0, none⟩) n n) rfl rfl (fun w hSw => by clear hSw; go_simp) hp0 ?_
        simp only [Act.put, List.setIfInBounds_toArray]
        (try dsimp only [List.set_cons_zero, List.set_cons_succ])
        refine zt 1 26 (.int .i64 (j : Int)) rfl rfl (fun w hSw => by clear hSw; go_simp) hp0 ?_
        simp only [Act.put, List.setIfInBounds_toArray]
        (try dsimp only [List.set_cons_zero, List.set_cons_succ])
        refine zt 2 27 (.slice (some ⟨G, q * 4, none⟩) m1 c1) rfl rfl (fun w hSw => by clear hSw; go_simp) hp0 ?_
        simp only [Act.put, List.setIfInBounds_toArray]
        (try dsimp only [List.set_cons_zero, List.set_cons_succ])
        refine zt 3 28 (.pointer (some ⟨G, q * 4, none⟩)) rfl rfl (fun w hSw => by clear hSw; go_simp) hp0 ?_
        simp only [Act.put, List.setIfInBounds_toArray]
        (try dsimp only [List.set_cons_zero, List.set_cons_succ])
        refine zt 4 29 (.agg #[.int .u64 ((limb 0 (y) : Nat) : Int), .int .u64 ((limb 1 (y) : Nat) : Int), .int .u64 ((limb 2 (y) : Nat) : Int), .int .u64 ((limb 3 (y) : Nat) : Int)]) rfl rfl (fun w hSw => by (have d0 := (hSw.cellE hGH lG4 (q * 4)).trans g0; have d1 := (hSw.cellE hGH lG4 (q * 4 + 1)).trans g1; have d2 := (hSw.cellE hGH lG4 (q * 4 + 2)).trans g2; have d3 := (hSw.cellE hGH lG4 (q * 4 + 3)).trans g3); clear hSw; go_simp) hp0 ?_
        simp only [Act.put, List.setIfInBounds_toArray]
        (try dsimp only [List.set_cons_zero, List.set_cons_succ])
        refine zt 5 30 (.slice (some ⟨G, q * 4, none⟩) m1 c1) rfl rfl (fun w hSw => by clear hSw; go_simp) hp0 ?_
        simp only [Act.put, List.setIfInBounds_toArray]
        (try dsimp only [List.set_cons_zero, List.set_cons_succ])
        refine zt 6 31 (.slice oN (m1 - 1) (c1 - 1)) rfl rfl (fun w hSw => by (have qA := HON.out); clear hSw; go_simp) hp0 ?_
        simp only [Act.put, List.setIfInBounds_toArray]
        (try dsimp only [List.set_cons_zero, List.set_cons_succ])
        refine zt 7 32 (.pointer (some ⟨H, j * 4, none⟩)) rfl rfl (fun w hSw => by clear hSw; go_simp) hp0 ?_
        simp only [Act.put, List.setIfInBounds_toArray]
        (try dsimp only [List.set_cons_zero, List.set_cons_succ])
        have o0 := boD.cell j hlt 0 (by decide); have o1 := boD.cell j hlt 1 (by decide); have o2 := boD.cell j hlt 2 (by decide); have o3 := boD.cell j hlt 3 (by decide)
        rw [Nat.add_zero] at o0
        have fo := boD.frozen
        obtain ⟨w5, hw5, bo5, hk5⟩ := boD.put hlt y
        have hbr5 := bKept hbwD lH hk5
        have hp1 := hp0.trans hk5
        have bo6 : BlkE w5 H n (fun i => if i < j + 1 then mtF (fl n f) t i else 0) := bo5.congr (fun i hi => by
          by_cases c : i = j
          · rw [if_pos c, if_pos (by omega), c]; exact HY0.out
          · rw [if_neg c]
            by_cases d : i < j
            · rw [if_pos d, if_pos (by omega)]
            · rw [if_neg d, if_neg (by omega)])
        clear bo5 hk5 boD hbwD hbw4 hp0 g0 g1 g2 g3
        refine wpZ_one (i := 8) (by kernel_rfl) rfl (fun K hK => ?_)
        go_simp
        refine hK.out _ _ (fun _ => hp1) ?_
        clear hK K o0 o1 o2 o3 fo hw5
        refine zt 9 1 (.slice oN (m1 - 1) (c1 - 1)) rfl rfl (fun w hSw => by clear hSw; go_simp) hp1 ?_
        simp only [Act.put, List.setIfInBounds_toArray]
        (try dsimp only [List.set_cons_zero, List.set_cons_succ])
        refine wpZ_done (by kernel_rfl) ?_ _
        clear hp1
        go_wp2
        go_roundw
        case measure => simp [intOf]; omega
        case rel => exact ⟨j + 1, q + 1, m1 - 1, c1 - 1, oN, by go_num, rfl, by omega, HNX, hbr5, bo6⟩
      · have HNX : Hid (q = nf (fl n f) (j + 1) ∧ m1 = m - q ∧ c1 = N - q ∧ (0 < m1 → oA = some ⟨G, q * 4, none⟩)) := by
          have e := hq.out
          refine ⟨?_, e.2⟩
          rw [nf_first HB.out]; exact e.1
        have HY0 : Hid (mtF (fl n f) t j = x) := by
          show _ = _
          rw [mtF_first HB.out, HAT.out]
        have s0 := b74.cell 0 (by decide); have s1 := b74.cell 1 (by decide); have s2 := b74.cell 2 (by decide); have s3 := b74.cell 3 (by decide)
        obtain ⟨w5, hw5, bo5, hk5⟩ := bo4.put hlt x
        have hbr5 := bKept hbw4 lH hk5
        have bo6 : BlkE w5 H n (fun i => if i < j + 1 then mtF (fl n f) t i else 0) := bo5.congr (fun i hi => by
          by_cases c : i = j
          · rw [if_pos c, if_pos (by omega), c]; exact HY0.out
          · rw [if_neg c]
            by_cases d : i < j
            · rw [if_pos d, if_pos (by omega)]
            · rw [if_neg d, if_neg (by omega)])
        clear bo4 bo5 hk5 hbw4 b74 hq
        go_wp2
        go_roundw
        case measure => simp [intOf]; omega
        case rel => exact ⟨j + 1, q, m1, c1, oA, by go_num, rfl, by omega, HNX, hbr5, bo6⟩
    · have hji : ¬ (j : Int) < (n : Int) := by omega
      obtain rfl : j = n := by omega
      have bo1 : BlkE wr H j (mtF (fl j f) t) := bo.congr (fun i hi => by rw [if_pos hi])
      clear bo
      go_wp2
      go_ret
      exact ⟨⟨H, rfl, lH, bo1⟩, hbr⟩
end Go.Proofs.YtobeeoelfmfpdaaDoor
