/- lookup.match. -/
import Derived.Test.YtfdddpndjmookaaGreatDoorMU1
import Derived.Test.YtfdddpndjmookaaGreatDoorBE
namespace Go.Proofs.YtfdddpndjmookaaGreatDoor
open Go.RowKit

theorem Kept.cellE {g b : Nat} {w w' : World} (h : Kept g w w') (hne : b ≠ g) (hl : b < w.heap.size) (o : Nat) : w'.cell? ⟨b, o, none⟩ = w.cell? ⟨b, o, none⟩ := by simp [World.cell?, h.block b hl hne]
set_option maxHeartbeats 1000000 in
set_option maxRecDepth 20000 in
/-- lookup.match. -/
theorem match_any (A G n N : Nat) (f : Nat → Nat) (t : List Nat) (hn : n ≤ 1000000) (hf : ∀ i, i < n → f i < 115792089237316195423570985008687907853269984665640564039457584007913129639936) (htM : ∀ v, v ∈ t → v < 115792089237316195423570985008687907853269984665640564039457584007913129639936) (ht : t.length = nf (fl n f) n) (w : World) (ha : BlkE w A n f) (hg : RowL w G N t) :
    Calls Tryz.prog 18 #[.slice (some ⟨A, 0, none⟩) n n, .slice (some ⟨G, 0, none⟩) t.length N] w fun e w' => (∃ H, e = .returned (.slice (some ⟨H, 0, none⟩) n n) ∧ w.heap.size ≤ H ∧ BlkE w' H n (mtF (fl n f) t)) ∧ Below w.heap.size w w' := by
  obtain ⟨i0, hi, hz0, hz1, hz2⟩ := elemInfo
  have HI := (show Hid _ from hi); have HZ := (show Hid _ from And.intro hz0 (And.intro hz1 hz2)); clear hi hz0 hz1 hz2
  have HF : Hid (∀ i, i < n → f i < 115792089237316195423570985008687907853269984665640564039457584007913129639936) := hf
  have HTM : Hid (∀ v, v ∈ t → v < 115792089237316195423570985008687907853269984665640564039457584007913129639936) := htM
  have HA : Hid (BlkE w A n f) := ha
  have HG : Hid (RowL w G N t) := hg
  have hAl := ha.lt
  have hGl := hg.lt
  have HIF : Hid (∀ i, i < n → ∀ w, BlkE w A n f → Calls Tryz.prog 38 #[.slice (some ⟨A, 0, none⟩) n n, .int .i64 (i : Int)] w fun e w' => e = .returned (.bool (isF (fl n f) i)) ∧ Below w.heap.size w w') := fun i hi w hb => (isFirst_any n n i _ f hi hn hf w (hb.es (by unfold maxLen; omega))).mono (by
    rintro e w' ⟨rfl, d, rfl⟩
    exact ⟨rfl, Below.drewN2 _ _⟩)
  obtain ⟨m, em⟩ : ∃ z, z = t.length := ⟨_, rfl⟩
  have HM : Hid (t.length = m ∧ nf (fl n f) n = m ∧ m ≤ N) := ⟨em.symm, by rw [em, ht], by rw [em]; exact hg.1⟩
  rw [← em]
  clear hf htM ha hg em ht
  go_enter Tryz.func18, Tryz.ntmps18
  go_wp2_with (first
    | (at_make; refine wpList_make_full _ rfl _ _ 22 rfl w.heap.size 25 i0 (.agg #[.int .u64 0, .int .u64 0, .int .u64 0, .int .u64 0]) 4 Tryz.underlying22 HI.out HZ.out.1 HZ.out.2.1 .i64 .i64 n n n rfl rfl rfl rfl ?c1 ?c2 (Nat.le_refl _) ?_)
    | go_in)
  case c1 => rw [HZ.out.2.2]; omega
  case c2 => unfold maxLen; omega
  intro w2 hown hgrow
  obtain ⟨H, eH⟩ : ∃ H, H = w.heap.size := ⟨_, rfl⟩
  rw [← eH] at hown ⊢
  have bo2 : BlkE w2 H n (fun _ => 0) := (own_blkE (f := fun _ => 0) hown (fun i hi j hj => by rw [made_zero n (i * 4 + j) (by omega), limb_zero]; rfl)).1
  have hbw2 : Below w.heap.size w w2 := (Below.refl _ w).grown hgrow (Nat.le_refl _) (fun j hj => by cases hj)
  have lH : w.heap.size ≤ H := by omega
  have hGH : G ≠ H := by omega
  have hAH : A ≠ H := by omega
  clear hown hgrow eH
  go_wp2
  go_loopw [1, 13] (fun tv iv wr => ∃ (j q m1 c1 : Nat) (oA : Option Addr), iv = .int .i64 (j : Int) ∧ tv = .slice oA m1 c1 ∧ j ≤ n ∧ Hid (q = nf (fl n f) j ∧ m1 = m - q ∧ c1 = N - q ∧ (0 < m1 → oA = some ⟨G, q * 4, none⟩)) ∧ Below w.heap.size w wr ∧ BlkE wr H n (fun i => if i < j then mtF (fl n f) t i else 0)) (fun _ iv _ => n - (intOf iv).toNat)
  case atStart => exact ⟨0, 0, m, N, some ⟨G, 0, none⟩, rfl, rfl, Nat.zero_le _, ⟨rfl, rfl, rfl, fun _ => rfl⟩, hbw2, bo2.congr (fun i _ => by rw [if_neg (by omega)])⟩
  case round =>
    obtain ⟨j, q, m1, c1, oA, rfl, rfl, hj, hq, hbr, bo⟩ := hrel
    clear bo2 hbw2
    by_cases hlt : j < n
    · have hji : (j : Int) < (n : Int) := by omega
      have bA := HA.out.below hbr hAl
      have c0 := bA.cell j hlt 0 (by decide); have c1' := bA.cell j hlt 1 (by decide); have c2 := bA.cell j hlt 2 (by decide); have c3 := bA.cell j hlt 3 (by decide)
      rw [Nat.add_zero] at c0
      have HAT : Hid ((fl n f).getD j 0 = f j) := fl_get hlt
      obtain ⟨x, ex⟩ : ∃ x, x = f j := ⟨_, rfl⟩
      rw [← ex] at c0 c1' c2 c3 HAT
      have HI := HIF.out j hlt
      obtain ⟨b, eb⟩ : ∃ b, b = isF (fl n f) j := ⟨_, rfl⟩
      rw [← eb] at HI
      have HIJ : Hid (∀ w, BlkE w A n f → _) := HI
      have HB : Hid (isF (fl n f) j = b) := eb.symm
      clear ex eb HI
      go_wp2_with fail
      obtain ⟨w3, hw3⟩ : ∃ z : World, z = wr.alloc (.cells #[.int .u64 ((limb 0 (x) : Nat) : Int), .int .u64 ((limb 1 (x) : Nat) : Int), .int .u64 ((limb 2 (x) : Nat) : Int), .int .u64 ((limb 3 (x) : Nat) : Int)] 25) := ⟨_, rfl⟩
      obtain ⟨N7, e7⟩ : ∃ z, z = wr.heap.size := ⟨_, rfl⟩
      have l7 : w.heap.size ≤ N7 := by rw [e7]; exact hbr.size
      have h7H : N7 ≠ H := by have := bo.lt; omega
      have b7 : Blk w3 25 N7 (fun i => limb i x) := by rw [hw3]; exact Blk.newAt _ _ _ (fun i => limb i x) e7
      have hb3 : Below wr.heap.size wr w3 := by rw [hw3]; exact bAlloc (Below.refl _ _) _
      have bA3 := bA.belowAll hb3
      have bo3 := bo.belowAll hb3
      have hbw3 := bStep hbr hb3
      rw [← hw3]
      try rw [← e7]
      clear hw3 e7 bA bo hbr hb3 c0 c1' c2 c3
      refine (HIJ.out w3 bA3).mono ?_
      rintro e w4 ⟨rfl, hb4⟩
      have b74 := b7.belowAll hb4
      have bo4 := bo3.belowAll hb4
      have hbw4 := bStep hbw3 hb4
      clear bA3 bo3 hbw3 b7 hb4 HIJ
      have o0 := bo4.cell j hlt 0 (by decide); have o1 := bo4.cell j hlt 1 (by decide); have o2 := bo4.cell j hlt 2 (by decide); have o3 := bo4.cell j hlt 3 (by decide)
      rw [Nat.add_zero] at o0
      have fo := bo4.frozen
      cases b
      · have hqj : Hid (q = nf (fl n f) j) := hq.out.1
        have hqn : nf (fl n f) (j + 1) = q + 1 := by rw [nf_other HB.out, hqj.out]
        have hqm : q < m := by have := nf_mono (fl n f) (j + 1) n (by omega); have := HM.out.2.1; omega
        have hoA := hq.out.2.2.2 (by have := hq.out.2.1; omega)
        subst hoA
        have hm1 : (1 : Int) ≤ (m1 : Int) := by have := hq.out.2.1; omega
        have hm0 : (0 : Int) < (m1 : Int) := by omega
        have hmz : ¬ m1 = 0 := by omega
        have hmc : (m1 : Int) ≤ (c1 : Int) := by have := hq.out.2.1; have := hq.out.2.2.1; have := HM.out.2.2; omega
        obtain ⟨_, g, hgb, hgv⟩ := HG.out
        have hqt : q < t.length := by rw [HM.out.1]; exact hqm
        have hgb4 := hgb.below hbw4 hGl
        have lG4 := hgb4.lt
        have g0 := hgb4.cell q (by have := HM.out.2.2; omega) 0 (by decide); have g1 := hgb4.cell q (by have := HM.out.2.2; omega) 1 (by decide); have g2 := hgb4.cell q (by have := HM.out.2.2; omega) 2 (by decide); have g3 := hgb4.cell q (by have := HM.out.2.2; omega) 3 (by decide)
        rw [Nat.add_zero] at g0
        rw [hgv q hqt] at g0 g1 g2 g3
        have HY0 : Hid (mtF (fl n f) t j = t.getD q 0) := by
          show _ = _
          rw [mtF_other HB.out, ← hqj.out]
        obtain ⟨y, ey⟩ : ∃ y, y = t.getD q 0 := ⟨_, rfl⟩
        rw [← ey] at g0 g1 g2 g3 HY0
        obtain ⟨oN, eN⟩ : ∃ z, z = (if c1 = 1 then some (⟨G, q * 4, none⟩ : Addr) else some ⟨G, q * 4 + 4, none⟩) := ⟨_, rfl⟩
        have HON : Hid ((if c1 = 1 then some (⟨G, q * 4, none⟩ : Addr) else some ⟨G, q * 4 + 4, none⟩) = oN) := eN.symm
        have HNX : Hid (q + 1 = nf (fl n f) (j + 1) ∧ m1 - 1 = m - (q + 1) ∧ c1 - 1 = N - (q + 1) ∧ (0 < m1 - 1 → oN = some ⟨G, (q + 1) * 4, none⟩)) := by
          have e1 := hq.out.2.1; have e2 := hq.out.2.2.1; have e3 := HM.out.2.2
          refine ⟨hqn.symm, by omega, by omega, fun hp => ?_⟩
          rw [eN, if_neg (by omega), show (q + 1) * 4 = q * 4 + 4 by omega]
        clear hqj hqn hqm hgb hgv hqt hgb4 ey eN b74 hq
        go_upto_region 7 with fail
        obtain ⟨wD, hD⟩ : ∃ z : World, z = w4.drew := ⟨_, rfl⟩
        have boD : BlkE wD H n (fun i => if i < j then mtF (fl n f) t i else 0) := by rw [hD]; exact bo4.drew
        have hp0 : Kept H w4 wD := by rw [hD]; exact Kept.ofBelow H (Below.refl _ _).drew
        have hbwD : Below w.heap.size w wD := by rw [hD]; exact hbw4.drew
        refine wp_region_Z (fun w' => Kept H w4 w') 99 (by kernel_rfl) ?_
        rw [← hD]
        clear hD bo4 o0 o1 o2 o3 fo
        refine zt 0 25 (.slice (some ⟨H, 0, none⟩) n n) rfl rfl (fun w hSw => by clear hSw; go_simp) hp0 ?_
        simp only [Act.put, List.setIfInBounds_toArray]
        (try dsimp only [List.set_cons_zero, List.set_cons_succ])
        refine zt 1 26 (.int .i64 (j : Int)) rfl rfl (fun w hSw => by clear hSw; go_simp) hp0 ?_
        simp only [Act.put, List.setIfInBounds_toArray]
        (try dsimp only [List.set_cons_zero, List.set_cons_succ])
        refine zt 2 27 (.slice (some ⟨G, q * 4, none⟩) m1 c1) rfl rfl (fun w hSw => by clear hSw; go_simp) hp0 ?_
        simp only [Act.put, List.setIfInBounds_toArray]
        (try dsimp only [List.set_cons_zero, List.set_cons_succ])
        refine zt 3 28 (.pointer (some ⟨G, q * 4, none⟩)) rfl rfl (fun w hSw => by clear hSw; go_simp) hp0 ?_
        simp only [Act.put, List.setIfInBounds_toArray]
        (try dsimp only [List.set_cons_zero, List.set_cons_succ])
        refine zt 4 29 (.agg #[.int .u64 ((limb 0 (y) : Nat) : Int), .int .u64 ((limb 1 (y) : Nat) : Int), .int .u64 ((limb 2 (y) : Nat) : Int), .int .u64 ((limb 3 (y) : Nat) : Int)]) rfl rfl (fun w hSw => by (have d0 := (hSw.cellE hGH lG4 (q * 4)).trans g0; have d1 := (hSw.cellE hGH lG4 (q * 4 + 1)).trans g1; have d2 := (hSw.cellE hGH lG4 (q * 4 + 2)).trans g2; have d3 := (hSw.cellE hGH lG4 (q * 4 + 3)).trans g3); clear hSw; go_simp) hp0 ?_
        simp only [Act.put, List.setIfInBounds_toArray]
        (try dsimp only [List.set_cons_zero, List.set_cons_succ])
        refine zt 5 30 (.slice (some ⟨G, q * 4, none⟩) m1 c1) rfl rfl (fun w hSw => by clear hSw; go_simp) hp0 ?_
        simp only [Act.put, List.setIfInBounds_toArray]
        (try dsimp only [List.set_cons_zero, List.set_cons_succ])
        refine zt 6 31 (.slice oN (m1 - 1) (c1 - 1)) rfl rfl (fun w hSw => by (have qA := HON.out); clear hSw; go_simp) hp0 ?_
        simp only [Act.put, List.setIfInBounds_toArray]
        (try dsimp only [List.set_cons_zero, List.set_cons_succ])
        refine zt 7 32 (.pointer (some ⟨H, j * 4, none⟩)) rfl rfl (fun w hSw => by clear hSw; go_simp) hp0 ?_
        simp only [Act.put, List.setIfInBounds_toArray]
        (try dsimp only [List.set_cons_zero, List.set_cons_succ])
        have o0 := boD.cell j hlt 0 (by decide); have o1 := boD.cell j hlt 1 (by decide); have o2 := boD.cell j hlt 2 (by decide); have o3 := boD.cell j hlt 3 (by decide)
        rw [Nat.add_zero] at o0
        have fo := boD.frozen
        obtain ⟨w5, hw5, bo5, hk5⟩ := boD.put hlt y
        have hbr5 := bKept hbwD lH hk5
        have hp1 := hp0.trans hk5
        have bo6 : BlkE w5 H n (fun i => if i < j + 1 then mtF (fl n f) t i else 0) := bo5.congr (fun i hi => by
          by_cases c : i = j
          · rw [if_pos c, if_pos (by omega), c]; exact HY0.out
          · rw [if_neg c]
            by_cases d : i < j
            · rw [if_pos d, if_pos (by omega)]
            · rw [if_neg d, if_neg (by omega)])
        clear bo5 hk5 boD hbwD hbw4 hp0 g0 g1 g2 g3
        refine wpZ_one (i := 8) (by kernel_rfl) rfl (fun K hK => ?_)
        go_simp
        refine hK.out _ _ (fun _ => hp1) ?_
        clear hK K o0 o1 o2 o3 fo hw5
        refine zt 9 1 (.slice oN (m1 - 1) (c1 - 1)) rfl rfl (fun w hSw => by clear hSw; go_simp) hp1 ?_
        simp only [Act.put, List.setIfInBounds_toArray]
        (try dsimp only [List.set_cons_zero, List.set_cons_succ])
        refine wpZ_done (by kernel_rfl) ?_ _
        clear hp1
        go_wp2
        go_roundw
        case measure => simp [intOf]; omega
        case rel => exact ⟨j + 1, q + 1, m1 - 1, c1 - 1, oN, by go_num, rfl, by omega, HNX, hbr5, bo6⟩
      · have HNX : Hid (q = nf (fl n f) (j + 1) ∧ m1 = m - q ∧ c1 = N - q ∧ (0 < m1 → oA = some ⟨G, q * 4, none⟩)) := by
          have e := hq.out
          refine ⟨?_, e.2⟩
          rw [nf_first HB.out]; exact e.1
        have HY0 : Hid (mtF (fl n f) t j = x) := by
          show _ = _
          rw [mtF_first HB.out, HAT.out]
        have s0 := b74.cell 0 (by decide); have s1 := b74.cell 1 (by decide); have s2 := b74.cell 2 (by decide); have s3 := b74.cell 3 (by decide)
        obtain ⟨w5, hw5, bo5, hk5⟩ := bo4.put hlt x
        have hbr5 := bKept hbw4 lH hk5
        have bo6 : BlkE w5 H n (fun i => if i < j + 1 then mtF (fl n f) t i else 0) := bo5.congr (fun i hi => by
          by_cases c : i = j
          · rw [if_pos c, if_pos (by omega), c]; exact HY0.out
          · rw [if_neg c]
            by_cases d : i < j
            · rw [if_pos d, if_pos (by omega)]
            · rw [if_neg d, if_neg (by omega)])
        clear bo4 bo5 hk5 hbw4 b74 hq
        go_wp2
        go_roundw
        case measure => simp [intOf]; omega
        case rel => exact ⟨j + 1, q, m1, c1, oA, by go_num, rfl, by omega, HNX, hbr5, bo6⟩
    · have hji : ¬ (j : Int) < (n : Int) := by omega
      obtain rfl : j = n := by omega
      have bo1 : BlkE wr H j (mtF (fl j f) t) := bo.congr (fun i hi => by rw [if_pos hi])
      clear bo
      go_wp2
      go_ret
      exact ⟨⟨H, rfl, lH, bo1⟩, hbr⟩
end Go.Proofs.YtfdddpndjmookaaGreatDoor

/- lookup.Permute. -/
namespace Go.Proofs.YtfdddpndjmookaaGreatDoor
open Go.RowKit

/-- What Permute answers where the lists are as long as each other: a the inputs in order, r what is left of the tables. -/
def PrmE (a : List Nat) (r : Option (List Nat)) (n base : Nat) (e : Ending) (w' : World) : Prop :=
  (r = none ∧ e = .returned (.tuple #[.slice none 0 0, .slice none 0 0, .int .i64 200])) ∨ ∃ (t : List Nat) (A H : Nat), r = some t ∧ e = .returned (.tuple #[.slice (some ⟨A, 0, none⟩) n n, .slice (some ⟨H, 0, none⟩) n n, .int .i64 0]) ∧ base ≤ A ∧ base ≤ H ∧ A ≠ H ∧ BlkE w' A n (fun i => a.getD i 0) ∧ BlkE w' H n (mtF a t)
set_option maxHeartbeats 2000000 in
theorem prm_out (si : Int) (hs : si < 0 ∨ 4 ≤ si) (u v : Value) (w : World) :
    Calls Tryz.prog 5 #[.int .i64 si, u, v] w fun e w' => e = .returned (.tuple #[.slice none 0 0, .slice none 0 0, .int .i64 20]) ∧ Below w.heap.size w w' := by
  have HM := fun w => fModulus_out si hs w
  clear hs
  go_enter Tryz.func5, Tryz.ntmps5
  go_wp2_with fail
  refine (HM w).mono ?_
  rintro e w1 ⟨rfl, hb⟩
  go_wp2
  refine bodyPost_ret (v := .tuple #[.slice none 0 0, .slice none 0 0, .int .i64 20]) (by simp [results, Tryz.results5, go_sem]) rfl ⟨rfl, ?_⟩
  exact bAlloc hb _
set_option maxHeartbeats 2000000 in
theorem prm_len (s n m cn cm : Nat) (oa ob : Option Addr) (hs : s < 4) (hn : n ≠ m ∨ 64 < n) (w : World) (hg : Glob w) :
    Calls Tryz.prog 5 #[.int .i64 (s : Int), .slice oa n cn, .slice ob m cm] w fun e w' => e = .returned (.tuple #[.slice none 0 0, .slice none 0 0, .int .i64 50]) ∧ Below w.heap.size w w' := by
  have HM : Hid (∀ w, Glob w → _) := fun w hg => fModulus_any s hs w hg
  have HG : Hid (Glob w) := hg
  clear hs hg
  obtain ⟨M, eM⟩ : ∃ z, z = modN s := ⟨_, rfl⟩
  rw [← eM] at HM
  clear eM
  by_cases h : m = n
  · subst h
    have h64 : 64 < m := by omega
    have h64i : (64 : Int) < (m : Int) := by omega
    clear hn
    go_enter Tryz.func5, Tryz.ntmps5
    go_wp2_with fail
    refine (HM.out w HG.out).mono ?_
    rintro e w1 ⟨rfl, hb⟩
    clear HM HG
    go_wp2
    refine bodyPost_ret (v := .tuple #[.slice none 0 0, .slice none 0 0, .int .i64 50]) (by simp [results, Tryz.results5, go_sem]) rfl ⟨rfl, ?_⟩
    exact bAlloc hb _
  · have hi : ¬ (m : Int) = (n : Int) := by omega
    clear hn
    go_enter Tryz.func5, Tryz.ntmps5
    go_wp2_with fail
    refine (HM.out w HG.out).mono ?_
    rintro e w1 ⟨rfl, hb⟩
    clear HM HG
    go_wp2
    refine bodyPost_ret (v := .tuple #[.slice none 0 0, .slice none 0 0, .int .i64 50]) (by simp [results, Tryz.results5, go_sem]) rfl ⟨rfl, ?_⟩
    exact bAlloc hb _
theorem fl_rsg (n : Nat) (f : Nat → Nat) : fl n (fun i => (rsg (fl n f)).getD i 0) = rsg (fl n f) := by
  have h := fl_self (rsg (fl n f))
  rwa [rsg_len, fl_len] at h
theorem rsg_M {n : Nat} {f : Nat → Nat} (hf : ∀ i, i < n → f i < 115792089237316195423570985008687907853269984665640564039457584007913129639936) : ∀ v, v ∈ rsg (fl n f) → v < 115792089237316195423570985008687907853269984665640564039457584007913129639936 := fun v hv => by
  obtain ⟨i, hi, e⟩ := fl_mem.1 ((rsg_perm _).mem_iff.1 hv)
  rw [← e]; exact hf i hi
theorem rsg_getM {n : Nat} {f : Nat → Nat} (hf : ∀ i, i < n → f i < 115792089237316195423570985008687907853269984665640564039457584007913129639936) (i : Nat) (hi : i < n) : (rsg (fl n f)).getD i 0 < 115792089237316195423570985008687907853269984665640564039457584007913129639936 := rsg_M hf _ (getD_mem (by rw [rsg_len, fl_len]; exact hi))
set_option maxHeartbeats 2000000 in
/-- lookup.Permute of lists that are as long as each other. -/
theorem prm_in (s n cn cm : Nat) (oa ob : Option Addr) (f g : Nat → Nat) (hs : s < 4) (hn : n ≤ 64) (hf : ∀ i, i < n → f i < 115792089237316195423570985008687907853269984665640564039457584007913129639936) (hgm : ∀ i, i < n → g i < 115792089237316195423570985008687907853269984665640564039457584007913129639936) (w : World) (hg : Glob w) (hv : Es w (.slice oa n cn) n f) (hu : Es w (.slice ob n cm) n g) :
    Calls Tryz.prog 5 #[.int .i64 (s : Int), .slice oa n cn, .slice ob n cm] w fun e w' => PrmE (rsg (fl n fun i => addP s (f i) 0)) (wo (rsg (fl n fun i => addP s (f i) 0)) (rsg (fl n fun i => addP s (g i) 0)) n) n w.heap.size e w' ∧ Below w.heap.size w w' := by
  have HM : Hid (∀ w, Glob w → _) := fun w hg => fModulus_any s hs w hg
  have HR : Hid (∀ w, Glob w → Es w (.slice oa n cn) n f → _) := fun w hg hv => rising_any s n cn oa f hs (by omega) hf w hg hv
  have HS : Hid (∀ w, Glob w → Es w (.slice ob n cm) n g → _) := fun w hg hv => rising_any s n cm ob g hs (by omega) hgm w hg hv
  have ha0 : ∀ i, addP s (f i) 0 < 115792089237316195423570985008687907853269984665640564039457584007913129639936 := fun i => addP_M s (f i) 0
  have hb0 : ∀ i, addP s (g i) 0 < 115792089237316195423570985008687907853269984665640564039457584007913129639936 := fun i => addP_M s (g i) 0
  have hla : (rsg (fl n fun i => addP s (f i) 0)).length = n := by rw [rsg_len, fl_len]
  have hlb : (rsg (fl n fun i => addP s (g i) 0)).length = n := by rw [rsg_len, fl_len]
  have hma : ∀ i, i < n → (rsg (fl n fun i => addP s (f i) 0)).getD i 0 < 115792089237316195423570985008687907853269984665640564039457584007913129639936 := rsg_getM (fun i _ => ha0 i)
  have hmb : ∀ v, v ∈ rsg (fl n fun i => addP s (g i) 0) → v < 115792089237316195423570985008687907853269984665640564039457584007913129639936 := rsg_M (fun i _ => hb0 i)
  have hfa : fl n (fun i => (rsg (fl n fun i => addP s (f i) 0)).getD i 0) = rsg (fl n fun i => addP s (f i) 0) := fl_rsg _ _
  obtain ⟨a, ea⟩ : ∃ a, a = rsg (fl n fun i => addP s (f i) 0) := ⟨_, rfl⟩
  obtain ⟨b, eb⟩ : ∃ b, b = rsg (fl n fun i => addP s (g i) 0) := ⟨_, rfl⟩
  rw [← ea] at HR hla hma hfa ⊢
  rw [← eb] at HS hlb hmb ⊢
  have HW : Hid (∀ A G w, A ≠ G → BlkE w A n (fun i => a.getD i 0) → RowL w G n b → Calls Tryz.prog 17 #[.slice (some ⟨G, 0, none⟩) n n, .slice (some ⟨A, 0, none⟩) n n] w fun e w' => WoE (wo a b n) G n e w' ∧ Kept G w w') := fun A G w hne h1 h2 => by
    have h := without_any A G n n (fun i => a.getD i 0) b (by omega) (by omega) hne hma hmb w h1 h2
    rw [hfa, hlb] at h
    exact h
  have HMT : Hid (∀ A G (t : List Nat) w, wo a b n = some t → BlkE w A n (fun i => a.getD i 0) → RowL w G n t → Calls Tryz.prog 18 #[.slice (some ⟨A, 0, none⟩) n n, .slice (some ⟨G, 0, none⟩) t.length n] w fun e w' => (∃ H, e = .returned (.slice (some ⟨H, 0, none⟩) n n) ∧ w.heap.size ≤ H ∧ BlkE w' H n (mtF a t)) ∧ Below w.heap.size w w') := fun A G t w ht h1 h2 => by
    have hl := wo_len n ht
    have h := match_any A G n n (fun i => a.getD i 0) t (by omega) hma (fun v hv => hmb v (wo_mem n ht v hv)) (by rw [hfa]; omega) w h1 h2
    rw [hfa] at h
    exact h
  have HB0 : Hid (b.length = n) := hlb
  have HE1 : Hid (∀ w', wo a b n = none → PrmE a (wo a b n) n w.heap.size (.returned (.tuple #[.slice none 0 0, .slice none 0 0, .int .i64 200])) w') := fun w' h => Or.inl ⟨h, rfl⟩
  have HE2 : Hid (∀ (t : List Nat) (A H : Nat) w', wo a b n = some t → w.heap.size ≤ A → w.heap.size ≤ H → A ≠ H → BlkE w' A n (fun i => a.getD i 0) → BlkE w' H n (mtF a t) → PrmE a (wo a b n) n w.heap.size (.returned (.tuple #[.slice (some ⟨A, 0, none⟩) n n, .slice (some ⟨H, 0, none⟩) n n, .int .i64 0])) w') := fun t A H w' h1 h2 h3 h4 h5 h6 => Or.inr ⟨t, A, H, h1, rfl, h2, h3, h4, h5, h6⟩
  have HG : Hid (Glob w) := hg
  have HV : Hid (Es w (.slice oa n cn) n f) := hv
  have HU : Hid (Es w (.slice ob n cm) n g) := hu
  have hn64 : ¬ (64 : Int) < (n : Int) := by omega
  have hn64' : ¬ 64 < n := by omega
  obtain ⟨M, eM⟩ : ∃ z, z = modN s := ⟨_, rfl⟩
  rw [← eM] at HM
  clear eM hs hf hgm hg hv hu ha0 hb0 hla hlb hma hmb hfa ea eb
  go_enter Tryz.func5, Tryz.ntmps5
  go_wp2_with fail
  refine (HM.out w HG.out).mono ?_
  rintro e w1 ⟨rfl, hb1⟩
  obtain ⟨w2, hw2⟩ : ∃ z : World, z = w1.alloc (.cells #[.int .u64 ((limb 0 (M) : Nat) : Int), .int .u64 ((limb 1 (M) : Nat) : Int), .int .u64 ((limb 2 (M) : Nat) : Int), .int .u64 ((limb 3 (M) : Nat) : Int)] 25) := ⟨_, rfl⟩
  have hb2 : Below w.heap.size w w2 := by rw [hw2]; exact bAlloc hb1 _
  clear HM hb1
  go_wp2_with (rw [← hw2]; fail)
  try rw [← hw2]
  clear hw2
  refine (HR.out w2 (HG.out.below hb2) (HV.out.below hb2)).mono ?_
  rintro e w3 ⟨⟨A, rfl, lA, bA⟩, hb3⟩
  have hbw3 := bStep hb2 hb3
  have lwA : w.heap.size ≤ A := Nat.le_trans hb2.size lA
  have lA3 := bA.lt
  clear HR hb2 hb3 lA
  go_wp2_with fail
  refine (HS.out w3 (HG.out.below hbw3) (HU.out.below hbw3)).mono ?_
  rintro e w4 ⟨⟨G, rfl, lG, bG⟩, hb4⟩
  have hbw4 := bStep hbw3 hb4
  have bA4 := bA.belowAll hb4
  have hAG : A ≠ G := by omega
  have lwG : w.heap.size ≤ G := Nat.le_trans hbw3.size lG
  have rG : RowL w4 G n b := ⟨by rw [HB0.out]; exact Nat.le_refl _, _, bG, fun i _ => rfl⟩
  clear HS bA bG hb4 hbw3
  go_wp2_with fail
  refine (HW.out A G w4 hAG bA4 rG).mono ?_
  rintro e w5 ⟨he, hk5⟩
  have bA5 := bA4.kept hAG hk5
  have hbw5 := bKept hbw4 lwG hk5
  clear HW bA4 rG hk5 hbw4
  rcases he with ⟨hw, rfl⟩ | ⟨t, hw, rfl, rG5⟩
  · have HN : Hid (wo a b n = none) := hw
    clear hw
    go_wp2
    refine bodyPost_ret (v := .tuple #[.slice none 0 0, .slice none 0 0, .int .i64 200]) (by simp [results, Tryz.results5, go_sem]) rfl ⟨?_, hbw5⟩
    exact HE1.out _ HN.out
  · have HN : Hid (wo a b n = some t) := hw
    clear hw
    have HMX : Hid (∀ w, BlkE w A n (fun i => a.getD i 0) → RowL w G n t → _) := fun w h1 h2 => HMT.out A G t w HN.out h1 h2
    obtain ⟨m, em⟩ : ∃ z, z = t.length := ⟨_, rfl⟩
    rw [← em] at HMX
    rw [← em]
    clear em HMT HE1
    go_wp2_with fail
    refine (HMX.out w5 bA5 rG5).mono ?_
    rintro e w6 ⟨⟨H, rfl, lH, bH⟩, hb6⟩
    have bA6 := bA5.belowAll hb6
    have hbw6 := bStep hbw5 hb6
    have hAH : A ≠ H := by have := bA5.lt; omega
    have lwH : w.heap.size ≤ H := Nat.le_trans hbw5.size lH
    clear bA5 rG5 hb6 hbw5 HMX
    go_wp2
    refine bodyPost_ret (v := .tuple #[.slice (some ⟨A, 0, none⟩) n n, .slice (some ⟨H, 0, none⟩) n n, .int .i64 0]) (by simp [results, Tryz.results5, go_sem]) rfl ⟨?_, hbw6⟩
    exact HE2.out t A H _ HN.out lwA lwH hAH bA6 bH
end Go.Proofs.YtfdddpndjmookaaGreatDoor

/- lookup.Compress. -/
namespace Go.Proofs.YtfdddpndjmookaaGreatDoor
open Go.RowKit

/-- The first k values as one. -/
def cps (ad mu : Nat → Nat → Nat) (th : Nat) (f : Nat → Nat) : Nat → Nat
  | 0 => 0
  | k + 1 => ad (mu (cps ad mu th f k) th) (f k)
set_option maxHeartbeats 4000000 in
set_option maxRecDepth 20000 in
/-- lookup.Compress. -/
theorem cps_any {si : Int} {el : Nat → Nat} {ad mu : Nat → Nat → Nat} (hF : Fld si el ad mu) (n cn th : Nat) (oa : Option Addr) (f : Nat → Nat) (hn : n ≤ 1000000) (hth : th < 115792089237316195423570985008687907853269984665640564039457584007913129639936) (hf : ∀ i, i < n → f i < 115792089237316195423570985008687907853269984665640564039457584007913129639936) (w : World) (hg : Glob w) (hv : Es w (.slice oa n cn) n f) :
    Calls Tryz.prog 14 #[.int .i64 si, .agg #[.int .u64 ((limb 0 (th) : Nat) : Int), .int .u64 ((limb 1 (th) : Nat) : Int), .int .u64 ((limb 2 (th) : Nat) : Int), .int .u64 ((limb 3 (th) : Nat) : Int)], .slice oa n cn] w fun e w' => e = .returned (.agg #[.int .u64 ((limb 0 (cps ad mu th f n) : Nat) : Int), .int .u64 ((limb 1 (cps ad mu th f n) : Nat) : Int), .int .u64 ((limb 2 (cps ad mu th f n) : Nat) : Int), .int .u64 ((limb 3 (cps ad mu th f n) : Nat) : Int)]) ∧ Below w.heap.size w w' := by
  have HADD : Hid (∀ a b, a < 115792089237316195423570985008687907853269984665640564039457584007913129639936 → b < 115792089237316195423570985008687907853269984665640564039457584007913129639936 → ∀ w, Glob w → Calls Tryz.prog 33 #[.int .i64 si, .agg #[.int .u64 ((limb 0 (a) : Nat) : Int), .int .u64 ((limb 1 (a) : Nat) : Int), .int .u64 ((limb 2 (a) : Nat) : Int), .int .u64 ((limb 3 (a) : Nat) : Int)], .agg #[.int .u64 ((limb 0 (b) : Nat) : Int), .int .u64 ((limb 1 (b) : Nat) : Int), .int .u64 ((limb 2 (b) : Nat) : Int), .int .u64 ((limb 3 (b) : Nat) : Int)]] w fun e w' => e = .returned (.agg #[.int .u64 ((limb 0 (ad a b) : Nat) : Int), .int .u64 ((limb 1 (ad a b) : Nat) : Int), .int .u64 ((limb 2 (ad a b) : Nat) : Int), .int .u64 ((limb 3 (ad a b) : Nat) : Int)]) ∧ Below w.heap.size w w') := hF.2.2.2.2.1
  have HMUL : Hid (∀ a b, a < 115792089237316195423570985008687907853269984665640564039457584007913129639936 → b < 115792089237316195423570985008687907853269984665640564039457584007913129639936 → ∀ w, Glob w → Calls Tryz.prog 31 #[.int .i64 si, .agg #[.int .u64 ((limb 0 (a) : Nat) : Int), .int .u64 ((limb 1 (a) : Nat) : Int), .int .u64 ((limb 2 (a) : Nat) : Int), .int .u64 ((limb 3 (a) : Nat) : Int)], .agg #[.int .u64 ((limb 0 (b) : Nat) : Int), .int .u64 ((limb 1 (b) : Nat) : Int), .int .u64 ((limb 2 (b) : Nat) : Int), .int .u64 ((limb 3 (b) : Nat) : Int)]] w fun e w' => e = .returned (.agg #[.int .u64 ((limb 0 (mu a b) : Nat) : Int), .int .u64 ((limb 1 (mu a b) : Nat) : Int), .int .u64 ((limb 2 (mu a b) : Nat) : Int), .int .u64 ((limb 3 (mu a b) : Nat) : Int)]) ∧ Below w.heap.size w w') := hF.2.2.2.2.2
  have HMM : Hid (∀ a b, mu a b < 115792089237316195423570985008687907853269984665640564039457584007913129639936) := hF.2.2.1
  have HCM : Hid (∀ i, cps ad mu th f i < 115792089237316195423570985008687907853269984665640564039457584007913129639936) := fun i => by
    cases i with
    | zero => exact M_pos
    | succ i => exact hF.2.1 _ _
  have HTH : Hid (th < 115792089237316195423570985008687907853269984665640564039457584007913129639936) := hth
  have HG : Hid (Glob w) := hg
  have HV : Hid (Es w (.slice oa n cn) n f) := hv
  have HFM : Hid (∀ i, i < n → f i < 115792089237316195423570985008687907853269984665640564039457584007913129639936) := hf
  clear hF hg hv hf hth
  go_enter Tryz.func14, Tryz.ntmps14
  go_upto_region 2 with fail
  have hs1 : (w.alloc (.cells #[.int .u64 ((limb 0 (th) : Nat) : Int), .int .u64 ((limb 1 (th) : Nat) : Int), .int .u64 ((limb 2 (th) : Nat) : Int), .int .u64 ((limb 3 (th) : Nat) : Int)] 25)).heap.size = w.heap.size + 1 := Array.size_push ..
  have hs2 : ((w.alloc (.cells #[.int .u64 ((limb 0 (th) : Nat) : Int), .int .u64 ((limb 1 (th) : Nat) : Int), .int .u64 ((limb 2 (th) : Nat) : Int), .int .u64 ((limb 3 (th) : Nat) : Int)] 25)).alloc (.cells #[.int .u64 0, .int .u64 0, .int .u64 0, .int .u64 0] 25)).heap.size = w.heap.size + 1 + 1 := by rw [← hs1]; exact Array.size_push ..
  obtain ⟨w2, hw2⟩ : ∃ z : World, z = ((w.alloc (.cells #[.int .u64 ((limb 0 (th) : Nat) : Int), .int .u64 ((limb 1 (th) : Nat) : Int), .int .u64 ((limb 2 (th) : Nat) : Int), .int .u64 ((limb 3 (th) : Nat) : Int)] 25)).alloc (.cells #[.int .u64 0, .int .u64 0, .int .u64 0, .int .u64 0] 25)).alloc (.cells #[.int .u64 0, .int .u64 0, .int .u64 0, .int .u64 0] 25) := ⟨_, rfl⟩
  obtain ⟨N4, e4⟩ : ∃ z, z = w.heap.size := ⟨_, rfl⟩
  obtain ⟨N6, e6⟩ : ∃ z, z = N4 + 1 := ⟨_, rfl⟩
  obtain ⟨N7, e7⟩ : ∃ z, z = N6 + 1 := ⟨_, rfl⟩
  have b4 : Blk w2 25 N4 (fun i => limb i th) := by rw [hw2]; exact ((Blk.newAt _ _ _ (fun i => limb i th) e4).alloc _).alloc _
  have b6 : Blk w2 25 N6 (fun _ => 0) := by rw [hw2]; exact (Blk.newAt _ _ _ (fun _ => 0) (by rw [e6, e4, hs1])).alloc _
  have b7 : Blk w2 25 N7 (fun i => limb i (cps ad mu th f 0)) := by
    rw [hw2]
    exact (Blk.newAt _ _ _ (fun _ => 0) (by rw [e7, e6, e4, hs2])).congr (fun i _ => limb_zero i)
  have hb2 : Below w.heap.size w w2 := by rw [hw2]; exact bAlloc (bAlloc (bAlloc (Below.refl _ _) _) _) _
  rw [← hw2]
  try rw [← e4]
  try rw [← e6]
  try rw [← e7]
  have n47 : N4 ≠ N7 := by omega
  have n67 : N6 ≠ N7 := by omega
  have l6 : w.heap.size ≤ N6 := by omega
  have l7 : w.heap.size ≤ N7 := by omega
  clear hw2 hs1 hs2 e4 e6 e7
  go_wp2
  go_loopw [12] (fun iv wr => ∃ j : Nat, iv = .int .i64 (j : Int) ∧ j ≤ n ∧ Below w.heap.size w wr ∧ Blk wr 25 N4 (fun i => limb i th) ∧ Blk wr 25 N6 (fun _ => 0) ∧ Blk wr 25 N7 (fun i => limb i (cps ad mu th f j))) (fun iv _ => n - (intOf iv).toNat)
  case atStart => exact ⟨0, rfl, Nat.zero_le _, hb2, b4, b6, b7⟩
  case round =>
    obtain ⟨j, rfl, hj, hbr, p4, p6, p7⟩ := hrel
    clear b4 b6 b7 hb2
    by_cases hlt : j < n
    · have hji : (j : Int) < (n : Int) := by omega
      rcases HV.out.open with ⟨_, h0, _⟩ | ⟨ab, ao, rfl, _, _, lab, hc⟩
      · omega
      have hxm : Hid (f j < 115792089237316195423570985008687907853269984665640564039457584007913129639936) := HFM.out j hlt
      have c0 := (hbr.cell (p := ⟨ab, ao + j * 4 + 0, none⟩) lab).trans (hc j (by omega) 0 (by decide)); have c1 := (hbr.cell (p := ⟨ab, ao + j * 4 + 1, none⟩) lab).trans (hc j (by omega) 1 (by decide)); have c2 := (hbr.cell (p := ⟨ab, ao + j * 4 + 2, none⟩) lab).trans (hc j (by omega) 2 (by decide)); have c3 := (hbr.cell (p := ⟨ab, ao + j * 4 + 3, none⟩) lab).trans (hc j (by omega) 3 (by decide))
      rw [Nat.add_zero] at c0
      clear hc
      have hvm : Hid (cps ad mu th f j < 115792089237316195423570985008687907853269984665640564039457584007913129639936) := HCM.out j
      have HRC : Hid (cps ad mu th f (j + 1) = ad (mu (cps ad mu th f j) th) (f j)) := rfl
      obtain ⟨x, ex⟩ : ∃ x, x = f j := ⟨_, rfl⟩
      rw [← ex] at c0 c1 c2 c3 hxm HRC
      obtain ⟨v, ev⟩ : ∃ v, v = cps ad mu th f j := ⟨_, rfl⟩
      rw [← ev] at p7 hvm HRC
      have hM := HMUL.out v th hvm.out HTH.out
      have hmm := HMM.out v th
      obtain ⟨m, em⟩ : ∃ m, m = mu v th := ⟨_, rfl⟩
      rw [← em] at hM hmm HRC
      have hA := HADD.out m x hmm hxm.out
      obtain ⟨y, ey⟩ : ∃ y, y = ad m x := ⟨_, rfl⟩
      rw [← ey] at hA HRC
      have HMU : Hid (∀ w, Glob w → Calls Tryz.prog 31 #[.int .i64 si, .agg #[.int .u64 ((limb 0 (v) : Nat) : Int), .int .u64 ((limb 1 (v) : Nat) : Int), .int .u64 ((limb 2 (v) : Nat) : Int), .int .u64 ((limb 3 (v) : Nat) : Int)], .agg #[.int .u64 ((limb 0 (th) : Nat) : Int), .int .u64 ((limb 1 (th) : Nat) : Int), .int .u64 ((limb 2 (th) : Nat) : Int), .int .u64 ((limb 3 (th) : Nat) : Int)]] w fun e w' => e = .returned (.agg #[.int .u64 ((limb 0 (m) : Nat) : Int), .int .u64 ((limb 1 (m) : Nat) : Int), .int .u64 ((limb 2 (m) : Nat) : Int), .int .u64 ((limb 3 (m) : Nat) : Int)]) ∧ Below w.heap.size w w') := hM
      have HAD : Hid (∀ w, Glob w → Calls Tryz.prog 33 #[.int .i64 si, .agg #[.int .u64 ((limb 0 (m) : Nat) : Int), .int .u64 ((limb 1 (m) : Nat) : Int), .int .u64 ((limb 2 (m) : Nat) : Int), .int .u64 ((limb 3 (m) : Nat) : Int)], .agg #[.int .u64 ((limb 0 (x) : Nat) : Int), .int .u64 ((limb 1 (x) : Nat) : Int), .int .u64 ((limb 2 (x) : Nat) : Int), .int .u64 ((limb 3 (x) : Nat) : Int)]] w fun e w' => e = .returned (.agg #[.int .u64 ((limb 0 (y) : Nat) : Int), .int .u64 ((limb 1 (y) : Nat) : Int), .int .u64 ((limb 2 (y) : Nat) : Int), .int .u64 ((limb 3 (y) : Nat) : Int)]) ∧ Below w.heap.size w w') := hA
      have HY : Hid (y = cps ad mu th f (j + 1)) := HRC.out.symm
      clear ex ev ey em hM hA hmm HRC
      go_upto_region 5 with fail
      obtain ⟨w3, hw3⟩ : ∃ z : World, z = wr.alloc (.cells #[.int .u64 ((limb 0 (x) : Nat) : Int), .int .u64 ((limb 1 (x) : Nat) : Int), .int .u64 ((limb 2 (x) : Nat) : Int), .int .u64 ((limb 3 (x) : Nat) : Int)] 25) := ⟨_, rfl⟩
      obtain ⟨N9, e9⟩ : ∃ z, z = wr.heap.size := ⟨_, rfl⟩
      have b9 : Blk w3 25 N9 (fun i => limb i x) := by rw [hw3]; exact Blk.newAt _ _ _ (fun i => limb i x) e9
      have hbA : Below wr.heap.size wr w3 := by rw [hw3]; exact bAlloc (Below.refl _ _) _
      have hb3 := bStep hbr hbA
      have q4 := p4.belowAll hbA; have q6 := p6.belowAll hbA; have q7 := p7.belowAll hbA
      rw [← hw3]
      try rw [← e9]
      clear hw3 e9 hbA hbr p4 p6 p7 c0 c1 c2 c3
      have HG3 : Glob w3 := HG.out.below hb3
      refine wp_region_Z (fun w' => Below w3.heap.size w3 w') 7 (by kernel_rfl) ?_
      obtain ⟨wD, hD⟩ : ∃ x : World, x = w3.drew := ⟨_, rfl⟩
      rw [← hD]
      have hp0_0 : Below w3.heap.size w3 wD := by rw [hD]; exact (Below.refl _ _).drew
      have hlow0 : Below w3.heap.size w3 wD := by rw [hD]; exact (Below.refl _ _).drew
      clear hD
      refine wpZ_take (i := 0) (v := .int .i64 si) 16 rfl rfl (by kernel_rfl) (by kernel_rfl) (by kernel_rfl) (Or.inl (by kernel_rfl)) (fun _ _ _ h => h) (Or.inl ⟨by rfl, fun w hSw => by go_simp⟩) hp0_0 ?_
      simp only [Act.put, List.setIfInBounds_toArray]
      dsimp only [List.set_cons_zero, List.set_cons_succ]
      refine wpZ_take (i := 1) (v := .int .i64 si) 17 rfl rfl (by kernel_rfl) (by kernel_rfl) (by kernel_rfl) (Or.inl (by kernel_rfl)) (fun _ _ _ h => h) (Or.inl ⟨by rfl, fun w hSw => by go_simp⟩) hp0_0 ?_
      simp only [Act.put, List.setIfInBounds_toArray]
      dsimp only [List.set_cons_zero, List.set_cons_succ]
      refine wpZ_take (i := 2) (v := .agg #[.int .u64 ((limb 0 (v) : Nat) : Int), .int .u64 ((limb 1 (v) : Nat) : Int), .int .u64 ((limb 2 (v) : Nat) : Int), .int .u64 ((limb 3 (v) : Nat) : Int)]) 18 rfl rfl (by kernel_rfl) (by kernel_rfl) (by kernel_rfl) (Or.inl (by kernel_rfl)) (fun _ _ _ h => h) (Or.inl ⟨by rfl, fun w hSw => by (have qq := (q7.belowAll hSw).cell; clear hSw; go_simp)⟩) hp0_0 ?_
      simp only [Act.put, List.setIfInBounds_toArray]
      dsimp only [List.set_cons_zero, List.set_cons_succ]
      refine wpZ_take (i := 3) (v := .agg #[.int .u64 ((limb 0 (th) : Nat) : Int), .int .u64 ((limb 1 (th) : Nat) : Int), .int .u64 ((limb 2 (th) : Nat) : Int), .int .u64 ((limb 3 (th) : Nat) : Int)]) 19 rfl rfl (by kernel_rfl) (by kernel_rfl) (by kernel_rfl) (Or.inl (by kernel_rfl)) (fun _ _ _ h => h) (Or.inl ⟨by rfl, fun w hSw => by (have qq := (q4.belowAll hSw).cell; clear hSw; go_simp)⟩) hp0_0 ?_
      simp only [Act.put, List.setIfInBounds_toArray]
      dsimp only [List.set_cons_zero, List.set_cons_succ]
      refine wpZ_take (i := 5) (v := .agg #[.int .u64 ((limb 0 (x) : Nat) : Int), .int .u64 ((limb 1 (x) : Nat) : Int), .int .u64 ((limb 2 (x) : Nat) : Int), .int .u64 ((limb 3 (x) : Nat) : Int)]) 21 rfl rfl (by kernel_rfl) (by kernel_rfl) (by kernel_rfl) (Or.inl (by kernel_rfl)) (fun _ _ _ h => h) (Or.inl ⟨by rfl, fun w hSw => by (have qq := (b9.belowAll hSw).cell; clear hSw; go_simp)⟩) hp0_0 ?_
      simp only [Act.put, List.setIfInBounds_toArray]
      dsimp only [List.set_cons_zero, List.set_cons_succ]
      refine wpZ_one (i := 4) (by kernel_rfl) rfl (fun K hK => ?_)
      go_simp
      refine (HMU.out wD (HG3.below hlow0)).mono ?_
      rintro e wT1 ⟨rfl, hbT1⟩
      have hlowT1 := bStep hlow0 hbT1
      go_wp2_with fail
      refine hK.out _ _ (fun _ => hlowT1) ?_
      clear hK K hbT1
      refine wpZ_one (i := 6) (by kernel_rfl) rfl (fun K hK => ?_)
      go_simp
      refine (HAD.out wT1 (HG3.below hlowT1)).mono ?_
      rintro e wT2 ⟨rfl, hbT2⟩
      have hlowT2 := bStep hlowT1 hbT2
      go_wp2_with fail
      refine hK.out _ _ (fun _ => hlowT2) ?_
      clear hK K hbT2
      refine wpZ_one (i := 7) (by kernel_rfl) rfl (fun K hK => ?_)
      have bS := q7.belowAll hlowT2
      have cS := bS.cell; have fS := bS.frozen
      obtain ⟨w5, hw5, s7, hk5⟩ := bS.put4 y
      go_simp
      refine hK.out _ _ (fun h => absurd rfl h) ?_
      clear hK K
      refine wpZ_done (by kernel_rfl) ?_ _
      have hbw5 := bKept (bStep hb3 hlowT2) l7 hk5
      have t4 := (q4.belowAll hlowT2).kept n47 hk5; have t6 := (q6.belowAll hlowT2).kept n67 hk5
      rw [HY.out] at s7
      clear bS cS fS hk5 q4 q6 q7 b9 hb3 hlowT2
      go_wp2
      go_roundw
      case measure => simp [intOf]; omega
      case rel => exact ⟨j + 1, by go_num, by omega, hbw5, t4, t6, s7⟩
    · have hji : ¬ (j : Int) < (n : Int) := by omega
      obtain rfl : j = n := by omega
      obtain ⟨y, ey⟩ : ∃ y, y = cps ad mu th f j := ⟨_, rfl⟩
      rw [← ey] at p7
      have HEY : Hid (y = cps ad mu th f j) := ey
      clear ey
      have c7 := p7.cell; have c6 := p6.cell; have f6 := p6.frozen
      obtain ⟨w4, hw4, s6, hk4⟩ := p6.put4 y
      have hb4 := bKept hbr l6 hk4
      have cs := s6.cell
      clear hk4 hbr p4 p6 p7
      go_wp2
      refine bodyPost_ret (v := .agg #[.int .u64 ((limb 0 (y) : Nat) : Int), .int .u64 ((limb 1 (y) : Nat) : Int), .int .u64 ((limb 2 (y) : Nat) : Int), .int .u64 ((limb 3 (y) : Nat) : Int)]) (by simp [results, Tryz.results14, go_sem, cs]) rfl ?_
      exact ⟨by rw [HEY.out], hb4⟩
end Go.Proofs.YtfdddpndjmookaaGreatDoor

/- sigillaw17.alive. -/
namespace Go.Proofs.YtfdddpndjmookaaGreatDoor
open Go.RowKit

theorem limb_few (a : Nat) (ha : a < 18446744073709551616) : limb 0 a = a ∧ limb 1 a = 0 ∧ limb 2 a = 0 ∧ limb 3 a = 0 := by
  unfold limb
  refine ⟨?_, ?_, ?_, ?_⟩ <;> omega
theorem three_Es (w : World) (a b c : Nat) (ha : a < 18446744073709551616) (hb : b < 18446744073709551616) (hc : c < 18446744073709551616) : Es (w.alloc (.cells #[.int .u64 (a : Int), .int .u64 0, .int .u64 0, .int .u64 0, .int .u64 (b : Int), .int .u64 0, .int .u64 0, .int .u64 0, .int .u64 (c : Int), .int .u64 0, .int .u64 0, .int .u64 0] 25)) (.slice (some ⟨w.heap.size, 0, none⟩) 3 3) 3 (fun i => if i = 0 then a else if i = 1 then b else c) := by
  obtain ⟨a0, a1, a2, a3⟩ := limb_few a ha
  obtain ⟨b0, b1, b2, b3⟩ := limb_few b hb
  obtain ⟨c0, c1, c2, c3⟩ := limb_few c hc
  refine Or.inr ⟨w.heap.size, 0, 3, rfl, Nat.le_refl _, by unfold maxLen; decide, by rw [show (w.alloc _).heap.size = w.heap.size + 1 from Array.size_push ..]; omega, fun i hi j hj => ?_⟩
  have h := new_blockE w (.cells #[.int .u64 (a : Int), .int .u64 0, .int .u64 0, .int .u64 0, .int .u64 (b : Int), .int .u64 0, .int .u64 0, .int .u64 0, .int .u64 (c : Int), .int .u64 0, .int .u64 0, .int .u64 0] 25)
  have hi2 : i = 0 ∨ i = 1 ∨ i = 2 := by omega
  have hj4 : j = 0 ∨ j = 1 ∨ j = 2 ∨ j = 3 := by omega
  rcases hi2 with rfl | rfl | rfl <;> rcases hj4 with rfl | rfl | rfl | rfl
  · show _ = some (Value.int .u64 ((limb 0 a : Nat) : Int)); rw [a0]; simp only [World.cell?, h]; rfl
  · show _ = some (Value.int .u64 ((limb 1 a : Nat) : Int)); rw [a1]; simp only [World.cell?, h]; rfl
  · show _ = some (Value.int .u64 ((limb 2 a : Nat) : Int)); rw [a2]; simp only [World.cell?, h]; rfl
  · show _ = some (Value.int .u64 ((limb 3 a : Nat) : Int)); rw [a3]; simp only [World.cell?, h]; rfl
  · show _ = some (Value.int .u64 ((limb 0 b : Nat) : Int)); rw [b0]; simp only [World.cell?, h]; rfl
  · show _ = some (Value.int .u64 ((limb 1 b : Nat) : Int)); rw [b1]; simp only [World.cell?, h]; rfl
  · show _ = some (Value.int .u64 ((limb 2 b : Nat) : Int)); rw [b2]; simp only [World.cell?, h]; rfl
  · show _ = some (Value.int .u64 ((limb 3 b : Nat) : Int)); rw [b3]; simp only [World.cell?, h]; rfl
  · show _ = some (Value.int .u64 ((limb 0 c : Nat) : Int)); rw [c0]; simp only [World.cell?, h]; rfl
  · show _ = some (Value.int .u64 ((limb 1 c : Nat) : Int)); rw [c1]; simp only [World.cell?, h]; rfl
  · show _ = some (Value.int .u64 ((limb 2 c : Nat) : Int)); rw [c2]; simp only [World.cell?, h]; rfl
  · show _ = some (Value.int .u64 ((limb 3 c : Nat) : Int)); rw [c3]; simp only [World.cell?, h]; rfl
theorem l3 (a b c : Nat) : ∀ i, i < 3 → [a, b, c].getD i 0 = (if i = 0 then a else if i = 1 then b else c) := by
  intro i hi
  have h : i = 0 ∨ i = 1 ∨ i = 2 := by omega
  rcases h with rfl | rfl | rfl <;> rfl
theorem lu_a : rsg (fl 3 fun i => addP 0 ((fun i => if i = 0 then 3 else if i = 1 then 1 else 3) i) 0) = [1, 3, 3] := by decide
theorem lu_b : rsg (fl 3 fun i => addP 0 ((fun i => if i = 0 then 1 else if i = 1 then 2 else 3) i) 0) = [1, 2, 3] := by decide
theorem lu_w : wo [1, 3, 3] [1, 2, 3] 3 = some [2] := by decide
theorem lu_m : ∀ i, i < 3 → mtF [1, 3, 3] [2] i = (if i = 0 then 1 else if i = 1 then 3 else 2) := by decide
theorem lu_c : cps (addP 0) (mulP 0) 10 (fun i => if i = 0 then 1 else if i = 1 then 2 else 3) 3 = 123 := by decide
theorem E10 : (.agg #[.int .u64 ((limb 0 (10) : Nat) : Int), .int .u64 ((limb 1 (10) : Nat) : Int), .int .u64 ((limb 2 (10) : Nat) : Int), .int .u64 ((limb 3 (10) : Nat) : Int)] : Value) = .agg #[.int .u64 10, .int .u64 0, .int .u64 0, .int .u64 0] := by
  obtain ⟨a0, a1, a2, a3⟩ := limb_few 10 (by decide)
  rw [a0, a1, a2, a3]; rfl
theorem E123 : (.agg #[.int .u64 ((limb 0 (123) : Nat) : Int), .int .u64 ((limb 1 (123) : Nat) : Int), .int .u64 ((limb 2 (123) : Nat) : Int), .int .u64 ((limb 3 (123) : Nat) : Int)] : Value) = .agg #[.int .u64 123, .int .u64 0, .int .u64 0, .int .u64 0] := by
  obtain ⟨a0, a1, a2, a3⟩ := limb_few 123 (by decide)
  rw [a0, a1, a2, a3]; rfl
theorem live_p (w : World) (hg : Glob w) (oa ob : Option Addr) (hv : Es w (.slice oa 3 3) 3 (fun i => if i = 0 then 3 else if i = 1 then 1 else 3)) (hu : Es w (.slice ob 3 3) 3 (fun i => if i = 0 then 1 else if i = 1 then 2 else 3)) :
    Calls Tryz.prog 5 #[.int .i64 0, .slice oa 3 3, .slice ob 3 3] w fun e w' => (∃ A H, e = .returned (.tuple #[.slice (some ⟨A, 0, none⟩) 3 3, .slice (some ⟨H, 0, none⟩) 3 3, .int .i64 0]) ∧ BlkE w' A 3 (fun i => if i = 0 then 1 else if i = 1 then 3 else 3) ∧ BlkE w' H 3 (fun i => if i = 0 then 1 else if i = 1 then 3 else 2)) ∧ Below w.heap.size w w' := by
  have h := prm_in 0 3 3 3 oa ob (fun i => if i = 0 then 3 else if i = 1 then 1 else 3) (fun i => if i = 0 then 1 else if i = 1 then 2 else 3) (by decide) (by decide) (fun i _ => by split; decide; split <;> decide) (fun i _ => by split; decide; split <;> decide) w hg hv hu
  rw [lu_a, lu_b, lu_w] at h
  refine h.mono ?_
  rintro e w' ⟨hp, hb⟩
  refine ⟨?_, hb⟩
  rcases hp with ⟨h0, _⟩ | ⟨t, A, H, ht, rfl, _, _, _, bA, bH⟩
  · cases h0
  · cases ht
    exact ⟨A, H, rfl, bA.congr (fun i hi => (l3 1 3 3 i hi).symm), bH.congr (fun i hi => (lu_m i hi).symm)⟩
set_option maxHeartbeats 4000000 in
set_option maxRecDepth 20000 in
theorem alive17_any (w : World) (hg : Glob w) : Calls Tryz.prog 4 #[] w fun e w' => e = .returned (.bool true) ∧ Below w.heap.size w w' := by
  have HG : Hid (Glob w) := hg
  have HP : Hid (∀ w, Glob w → ∀ oa ob, Es w (.slice oa 3 3) 3 (fun i => if i = 0 then 3 else if i = 1 then 1 else 3) → Es w (.slice ob 3 3) 3 (fun i => if i = 0 then 1 else if i = 1 then 2 else 3) → _) := fun w hg oa ob hv hu => live_p w hg oa ob hv hu
  have HC : Hid (∀ w, Glob w → ∀ oa, Es w (.slice oa 3 3) 3 (fun i => if i = 0 then 1 else if i = 1 then 2 else 3) → Calls Tryz.prog 14 #[.int .i64 0, .agg #[.int .u64 10, .int .u64 0, .int .u64 0, .int .u64 0], .slice oa 3 3] w fun e w' => e = .returned (.agg #[.int .u64 123, .int .u64 0, .int .u64 0, .int .u64 0]) ∧ Below w.heap.size w w') := fun w hg oa hv => by
    have h := cps_any (fld_in 0 (by decide)) 3 3 10 oa (fun i => if i = 0 then 1 else if i = 1 then 2 else 3) (by decide) (by decide) (fun i _ => by split; decide; split <;> decide) w hg hv
    rw [lu_c, E10, E123] at h
    exact h
  have HQ : Hid (∀ w : World, (binOp .eql 25 (.agg #[.int .u64 123, .int .u64 0, .int .u64 0, .int .u64 0]) (.agg #[.int .u64 123, .int .u64 0, .int .u64 0, .int .u64 0])).run Tryz.prog w = .ok (.bool true) w) := fun w => by
    have h := eqlE 123 123 (by decide) (by decide) w
    rw [E123] at h
    exact h
  have H1 : Hid (∀ w : World, _) := fun w => three_Es w 3 1 3 (by decide) (by decide) (by decide)
  have H2 : Hid (∀ w : World, _) := fun w => three_Es w 1 2 3 (by decide) (by decide) (by decide)
  have H3 : Hid (∀ w : World, _) := fun w => three_Es w 1 3 3 (by decide) (by decide) (by decide)
  have H4 : Hid (∀ w : World, _) := fun w => three_Es w 1 3 2 (by decide) (by decide) (by decide)
  have HS3 : Hid (∀ A w, BlkE w A 3 (fun i => if i = 0 then 1 else if i = 1 then 3 else 3) → Es w _ 3 (fun i => if i = 0 then 1 else if i = 1 then 3 else 3)) := fun A w h => h.es (by decide)
  have HS4 : Hid (∀ A w, BlkE w A 3 (fun i => if i = 0 then 1 else if i = 1 then 3 else 2) → Es w _ 3 (fun i => if i = 0 then 1 else if i = 1 then 3 else 2)) := fun A w h => h.es (by decide)
  have hs1 : (w.alloc (.cells #[.int .u64 3, .int .u64 0, .int .u64 0, .int .u64 0, .int .u64 1, .int .u64 0, .int .u64 0, .int .u64 0, .int .u64 3, .int .u64 0, .int .u64 0, .int .u64 0] 25)).heap.size = w.heap.size + 1 := Array.size_push ..
  obtain ⟨w0, hw0⟩ : ∃ z : World, z = (w.alloc (.cells #[.int .u64 3, .int .u64 0, .int .u64 0, .int .u64 0, .int .u64 1, .int .u64 0, .int .u64 0, .int .u64 0, .int .u64 3, .int .u64 0, .int .u64 0, .int .u64 0] 25)).alloc (.cells #[.int .u64 1, .int .u64 0, .int .u64 0, .int .u64 0, .int .u64 2, .int .u64 0, .int .u64 0, .int .u64 0, .int .u64 3, .int .u64 0, .int .u64 0, .int .u64 0] 25) := ⟨_, rfl⟩
  have hb0 : Below w.heap.size w w0 := by rw [hw0]; exact bAlloc (bAlloc (Below.refl _ _) _) _
  have e1 : Es w0 (.slice (some ⟨w.heap.size, 0, none⟩) 3 3) 3 (fun i => if i = 0 then 3 else if i = 1 then 1 else 3) := by rw [hw0]; exact (H1.out w).below (bAlloc (Below.refl _ _) _)
  have e2 : Es w0 (.slice (some ⟨w.heap.size + 1, 0, none⟩) 3 3) 3 (fun i => if i = 0 then 1 else if i = 1 then 2 else 3) := by rw [hw0, ← hs1]; exact H2.out _
  have HPC := HP.out w0 (HG.out.below hb0) _ _ e1 e2
  clear hg hs1 e1 e2 HP H1
  go_enter Tryz.func4, Tryz.ntmps4
  go_wp2_with (rw [← hw0]; fail)
  try rw [← hw0]
  clear hw0
  refine HPC.mono ?_
  rintro e w1 ⟨⟨A, H, rfl, bA, bH⟩, hb1⟩
  have hbw1 := bStep hb0 hb1
  clear HPC hb0 hb1
  obtain ⟨w2, hw2⟩ : ∃ z : World, z = w1.alloc (.cells #[.int .u64 1, .int .u64 0, .int .u64 0, .int .u64 0, .int .u64 3, .int .u64 0, .int .u64 0, .int .u64 0, .int .u64 3, .int .u64 0, .int .u64 0, .int .u64 0] 25) := ⟨_, rfl⟩
  have e3 : Es w2 (.slice (some ⟨w1.heap.size, 0, none⟩) 3 3) 3 (fun i => if i = 0 then 1 else if i = 1 then 3 else 3) := by rw [hw2]; exact H3.out w1
  have hbx2 : Below w1.heap.size w1 w2 := by rw [hw2]; exact bAlloc (Below.refl _ _) _
  have bA2 := bA.belowAll hbx2
  have bH2 := bH.belowAll hbx2
  have hbw2 := bStep hbw1 hbx2
  clear bA bH hbw1 hbx2 H3
  have HSC := sameE_self _ _ 3 (fun i => if i = 0 then 1 else if i = 1 then 3 else 3) (by decide) (fun i _ => by split; decide; split <;> decide) w2 (HS3.out A w2 bA2) e3
  clear e3 bA2
  go_wp2_with (rw [← hw2]; fail)
  try rw [← hw2]
  clear hw2
  refine HSC.mono ?_
  rintro e w3 ⟨rfl, hb3⟩
  have hbw3 := bStep hbw2 hb3
  have bH3 := bH2.belowAll hb3
  clear hbw2 hb3 bH2 HSC
  obtain ⟨w4, hw4⟩ : ∃ z : World, z = w3.alloc (.cells #[.int .u64 1, .int .u64 0, .int .u64 0, .int .u64 0, .int .u64 3, .int .u64 0, .int .u64 0, .int .u64 0, .int .u64 2, .int .u64 0, .int .u64 0, .int .u64 0] 25) := ⟨_, rfl⟩
  have e4 : Es w4 (.slice (some ⟨w3.heap.size, 0, none⟩) 3 3) 3 (fun i => if i = 0 then 1 else if i = 1 then 3 else 2) := by rw [hw4]; exact H4.out w3
  have hbx4 : Below w3.heap.size w3 w4 := by rw [hw4]; exact bAlloc (Below.refl _ _) _
  have hbw4 := bStep hbw3 hbx4
  have HSD := sameE_self _ _ 3 (fun i => if i = 0 then 1 else if i = 1 then 3 else 2) (by decide) (fun i _ => by split; decide; split <;> decide) w4 (HS4.out H w4 (bH3.belowAll hbx4)) e4
  clear e4 bH3 hbw3 hbx4 H4
  go_wp2_with (rw [← hw4]; fail)
  try rw [← hw4]
  clear hw4
  refine HSD.mono ?_
  rintro e w5 ⟨rfl, hb5⟩
  have hbw5 := bStep hbw4 hb5
  clear hbw4 hb5 HSD
  obtain ⟨w6, hw6⟩ : ∃ z : World, z = w5.alloc (.cells #[.int .u64 1, .int .u64 0, .int .u64 0, .int .u64 0, .int .u64 2, .int .u64 0, .int .u64 0, .int .u64 0, .int .u64 3, .int .u64 0, .int .u64 0, .int .u64 0] 25) := ⟨_, rfl⟩
  have e6 : Es w6 (.slice (some ⟨w5.heap.size, 0, none⟩) 3 3) 3 (fun i => if i = 0 then 1 else if i = 1 then 2 else 3) := by rw [hw6]; exact H2.out w5
  have hbw6 : Below w.heap.size w w6 := by rw [hw6]; exact bAlloc hbw5 _
  have HCC := HC.out w6 (HG.out.below hbw6) _ e6
  clear e6 hbw5 H2 HC
  go_wp2_with (rw [← hw6]; fail)
  try rw [← hw6]
  clear hw6
  refine HCC.mono ?_
  rintro e w7 ⟨rfl, hb7⟩
  have hbw7 := bStep hbw6 hb7
  have hq := HQ.out
  clear hbw6 hb7 HCC
  go_wp2
  go_ret
  exact ⟨rfl, hbw7⟩
end Go.Proofs.YtfdddpndjmookaaGreatDoor

/- The sorted and the matched lists, as lists in another order. -/
namespace Go.Proofs.YtfdddpndjmookaaGreatDoor
open Go.RowKit

/-- The first ones of their values among the first places. -/
def fsl (a : List Nat) : Nat → List Nat
  | 0 => []
  | j + 1 => fsl a j ++ (if isF a j = true then [a.getD j 0] else [])
theorem fsl_first {a : List Nat} {j : Nat} (h : isF a j = true) : fsl a (j + 1) = fsl a j ++ [a.getD j 0] := by
  show fsl a j ++ (if isF a j = true then _ else _) = _
  rw [if_pos h]
theorem fsl_other {a : List Nat} {j : Nat} (h : isF a j = false) : fsl a (j + 1) = fsl a j := by
  show fsl a j ++ (if isF a j = true then _ else _) = _
  rw [if_neg (by rw [h]; decide), List.append_nil]
theorem fsl_mem {a : List Nat} {v : Nat} : ∀ j, v ∈ fsl a j → ∃ k, k < j ∧ a.getD k 0 = v
  | 0, h => by cases h
  | j + 1, h => by
    cases hf : isF a j
    · rw [fsl_other hf] at h
      obtain ⟨k, hk, e⟩ := fsl_mem j h
      exact ⟨k, by omega, e⟩
    · rw [fsl_first hf] at h
      rcases List.mem_append.1 h with h | h
      · obtain ⟨k, hk, e⟩ := fsl_mem j h
        exact ⟨k, by omega, e⟩
      · exact ⟨j, by omega, (List.mem_singleton.1 h).symm⟩
theorem wo_perm {a t : List Nat} : ∀ (j : Nat) {l : List Nat}, wo a t j = some l → t.Perm (fsl a j ++ l)
  | 0, l, h => by cases h; exact List.Perm.refl _
  | j + 1, l, h => by
    obtain ⟨m, hm, h1⟩ := Option.bind_eq_some_iff.1 h
    have ih := wo_perm j hm
    cases hf : isF a j
    · rw [if_neg (by rw [hf]; decide)] at h1
      cases h1
      rw [fsl_other hf]; exact ih
    · rw [if_pos hf] at h1
      by_cases hi : a.getD j 0 ∈ m
      · rw [if_pos hi] at h1
        cases h1
        rw [fsl_first hf, List.append_assoc]
        exact ih.trans ((List.perm_cons_erase hi).append_left _)
      · rw [if_neg hi] at h1; cases h1
theorem mt_perm (a t : List Nat) : ∀ j, nf a j ≤ t.length → (fl j (mtF a t)).Perm (fsl a j ++ t.take (nf a j))
  | 0, _ => by show (fl 0 _).Perm ([] ++ t.take 0); rw [List.take_zero]; exact List.Perm.refl _
  | j + 1, h => by
    have hm := nf_mono a j (j + 1) (by omega)
    have ih := mt_perm a t j (by omega)
    rw [fl_succ]
    cases hf : isF a j
    · rw [fsl_other hf, nf_other hf, mtF_other hf]
      rw [nf_other hf] at h
      have e : t.take (nf a j + 1) = t.take (nf a j) ++ [t.getD (nf a j) 0] := by
        rw [List.take_add_one, List.getD_eq_getElem?_getD, List.getElem?_eq_getElem (by omega)]
        rfl
      rw [e, ← List.append_assoc]
      exact ih.append_right _
    · rw [fsl_first hf, nf_first hf, mtF_first hf]
      refine (ih.append_right _).trans ?_
      rw [List.append_assoc, List.append_assoc]
      exact (List.perm_append_comm).append_left _
/-- Matched are the tables. -/
theorem mt_all {a t0 t : List Nat} (hl : a.length = t0.length) (h : wo a t0 a.length = some t) : (fl a.length (mtF a t)).Perm t0 := by
  have h1 := wo_len _ h
  have h2 : t.length = nf a a.length := by omega
  have h3 := mt_perm a t a.length (by omega)
  rw [← h2, List.take_length] at h3
  exact h3.trans (wo_perm _ h).symm
/-- Each sorted one is the matched one beside it, or the sorted one ahead. -/
theorem mt_beside {a t : List Nat} {i : Nat} (h : mtF a t i ≠ a.getD i 0) : i ≠ 0 ∧ a.getD i 0 = a.getD (i - 1) 0 := by
  cases hf : isF a i
  · unfold isF at hf
    simp only [Bool.or_eq_false_iff, Bool.not_eq_eq_eq_not, Bool.not_false, decide_eq_false_iff_not, decide_eq_true_eq] at hf
    exact hf
  · exact absurd (mtF_first hf) h
end Go.Proofs.YtfdddpndjmookaaGreatDoor

