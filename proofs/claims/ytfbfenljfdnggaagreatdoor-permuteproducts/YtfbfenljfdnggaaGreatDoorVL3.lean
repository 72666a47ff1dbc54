/- What field.Invert does. -/
import Derived.Test.YtfbfenljfdnggaaGreatDoorVWL
namespace Go.Proofs.YtfbfenljfdnggaaGreatDoor
open Go.RowKit
theorem made_zero (n t : Nat) (ht : t < n * 4) : (madeCells #[.int .u64 0, .int .u64 0, .int .u64 0, .int .u64 0] (n * 4)).toList[t]? = some (.int .u64 0) := by
  rw [Array.getElem?_toList]
  unfold madeCells
  rw [Array.getElem?_map, Array.getElem?_range, if_pos ht]
  have h4 : t % 4 = 0 ∨ t % 4 = 1 ∨ t % 4 = 2 ∨ t % 4 = 3 := by omega
  show some _ = _
  dsimp only
  rcases h4 with h | h | h | h
  all_goals (rw [show (#[Value.int .u64 0, .int .u64 0, .int .u64 0, .int .u64 0] : Array Value).size = 4 from rfl, h]; rfl)
set_option maxHeartbeats 16000000 in
set_option maxRecDepth 20000 in
theorem fInvert_walk (s n c ab ao : Nat) (f : Nat → Nat) (hs : s < 4) (hn : n ≤ 1000) (hf : ∀ i, i < n → f i < 115792089237316195423570985008687907853269984665640564039457584007913129639936) (w : World) (hg : Glob w) (hv : ab < w.heap.size) (hc : ∀ i, i < n → ∀ j, j < 4 → w.cell? ⟨ab, ao + i * 4 + j, none⟩ = some (.int .u64 ((limb j (f i) : Nat) : Int))) :
    Calls Tryz.prog 99 #[.int .i64 (s : Int), .slice (some ⟨ab, ao, none⟩) n c] w fun e w' => ((pre (modN s) f n = 0 ∧ e = .returned (.tuple #[.slice none 0 0, .int .i64 10])) ∨ (pre (modN s) f n ≠ 0 ∧ ∃ g, e = .returned (.tuple #[.slice (some ⟨g, 0, none⟩) n n, .int .i64 0]) ∧ w.heap.size ≤ g ∧ BlkE w' g n (fun i => invU (modN s) (f i)))) ∧ Below w.heap.size w w' := by
  obtain ⟨i0, hi, hz0, hz1, hz2⟩ := elemInfo
  have HI := (show Hid _ from hi); have HZ := (show Hid _ from And.intro hz0 (And.intro hz1 hz2)); clear hi hz0 hz1 hz2
  have hgl := (modN_good s).lt
  have hod := modN_odd s
  have hpr := modN_prime s
  have hgm := modN_good s
  have HM := fun w hg => modulus_any s hs w hg
  obtain ⟨m, em⟩ : ∃ m, m = modN s := ⟨_, rfl⟩
  rw [← em] at hgl hod hpr hgm HM ⊢
  clear em hs
  obtain ⟨h0, hm2, hm⟩ := hgl
  have EA := fun a ha w => element_any m a h0 hm ha w
  have PR := fun x y hx hy w => product_any m x y hgm hx hy w
  have IV := fun x hx hgc w hg => inverse_any m x hm2 hod.2 hod.1 hx hgc w hg
  have HEA : Hid (∀ (a : Nat) (ha : _) (w : World), _) := EA
  have HPR : Hid (∀ (x y : Nat) (hx : _) (hy : _) (w : World), _) := PR
  have HIV : Hid (∀ (x : Nat) (hx : _) (hgc : _) (w : World) (hg : _), _) := IV
  have HP := (show Hid _ from hpr)
  have HPL : Hid (∀ k, pre m f k < m) := pre_lt m f hod.2
  have HC := (show Hid _ from hc); have HF := (show Hid _ from hf); have HGL : Hid (Glob w) := hg
  have HMM : Hid (m < 115792089237316195423570985008687907853269984665640564039457584007913129639936) := hm
  have h1m := hod.2
  clear hpr hc hf EA PR IV hod hgm hm2 h0
  go_enter Tryz.func99, Tryz.ntmps99
  go_wp2_with fail
  refine (HM _ hg).mono ?_
  rintro e w1 ⟨rfl, hb1⟩
  obtain ⟨N6, e6⟩ : ∃ N6, N6 = w1.heap.size := ⟨_, rfl⟩
  obtain ⟨w2, hw2⟩ : ∃ w2 : World, w2 = w1.alloc (.cells #[.int .u64 ((limb 0 (m) : Nat) : Int), .int .u64 ((limb 1 (m) : Nat) : Int), .int .u64 ((limb 2 (m) : Nat) : Int), .int .u64 ((limb 3 (m) : Nat) : Int)] 154) := ⟨_, rfl⟩
  have bm2 : Blk w2 154 N6 (fun i => limb i m) := by rw [hw2]; exact Blk.newAt _ _ _ (fun i => limb i m) e6
  have hbw2 : Below w.heap.size w w2 := by rw [hw2]; exact bAlloc hb1 _
  have l6 : w.heap.size ≤ N6 := by rw [e6]; exact hb1.size
  go_upto_region 4 with fail
  rw [← hw2, ← e6]
  clear hw2 e6 hb1 HM hg
  have lw2 := hbw2.size
  go_wp2_with (first
    | (at_make; refine wpList_make_full _ rfl _ _ 26 rfl w2.heap.size 25 i0 (.agg #[.int .u64 0, .int .u64 0, .int .u64 0, .int .u64 0]) 4 Tryz.underlying26 HI.out HZ.out.1 HZ.out.2.1 .i64 .i64 n n n rfl rfl rfl rfl ?c1 ?c2 (Nat.le_refl _) ?_)
    | go_in)
  case c1 => rw [HZ.out.2.2]; omega
  case c2 => unfold maxLen; omega
  intro w3 hown hgrow
  obtain ⟨G, eG⟩ : ∃ G, G = w2.heap.size := ⟨_, rfl⟩
  rw [← eG] at hown ⊢
  have bo3 : BlkE w3 G n (fun _ => 0) := (own_blkE (f := fun _ => 0) hown (fun i hi j hj => by rw [made_zero n (i * 4 + j) (by omega), limb_zero]; rfl)).1
  have hbe : Below w2.heap.size w2 w3 := (Below.refl _ w2).grown hgrow (Nat.le_refl _) (fun j hj => by cases hj)
  have bm3 := bm2.belowAll hbe
  have hbw3 := bStep hbw2 hbe
  have lG6 : N6 < G := by rw [eG]; exact bm2.lt
  have lGw : w.heap.size ≤ G := by omega
  clear hown hgrow hbe bm2 hbw2 eG lw2
  have cg := (HGL.out.below hbw3).2.2
  obtain ⟨N9, e9⟩ : ∃ N9, N9 = w3.heap.size := ⟨_, rfl⟩
  obtain ⟨w4, hw4⟩ : ∃ w4 : World, w4 = w3.alloc (.cells #[.int .u64 ((limb 0 (1) : Nat) : Int), .int .u64 ((limb 1 (1) : Nat) : Int), .int .u64 ((limb 2 (1) : Nat) : Int), .int .u64 ((limb 3 (1) : Nat) : Int)] 154) := ⟨_, rfl⟩
  have bm4 : Blk w4 154 N6 (fun i => limb i m) := by rw [hw4]; exact bm3.alloc _
  have bo4 : BlkE w4 G n (fun _ => 0) := by rw [hw4]; exact bo3.alloc _
  have ba4 : Blk w4 154 N9 (fun i => limb i 1) := by rw [hw4]; exact Blk.newAt _ _ _ (fun i => limb i 1) e9
  have hbw4 : Below w.heap.size w w4 := by rw [hw4]; exact bAlloc hbw3 _
  have l9 : G < N9 := by rw [e9]; exact bo3.lt
  go_upto_region 6 with fail
  rw [← hw4, ← e9]
  clear hw4 e9 bm3 bo3 hbw3 cg
  go_wp2
  go_loopw [27] (fun iv wr => ∃ k : Nat, iv = .int .i64 (k : Int) ∧ k ≤ n ∧ Below w.heap.size w wr ∧ Blk wr 154 N6 (fun i => limb i m) ∧ BlkE wr G n (fun i => if i < k then pre m f i else 0) ∧ Blk wr 154 N9 (fun i => limb i (pre m f k))) (fun iv _ => n - (intOf iv).toNat)
  case atStart => exact ⟨0, rfl, Nat.zero_le _, hbw4, bm4, bo4.congr (fun i _ => by rw [if_neg (by omega)]), ba4⟩
  case round =>
    obtain ⟨k, rfl, hk, hbr, bm, bo, ba⟩ := hrel
    clear bm4 bo4 ba4 hbw4
    by_cases hlt : k < n
    · have hki : (k : Int) < (n : Int) := by omega
      have fk := HF.out k hlt
      have lp := HPL.out k
      have mM := HMM.out
      have EA := HEA.out (f k) fk
      have PR := HPR.out (pre m f k) (f k % m) lp (Nat.mod_lt _ (by omega))
      have TE := fun w => toElem_any (pre m f k) w
      have c0 : wr.cell? ⟨ab, ao + k * 4, none⟩ = some (.int .u64 ((limb 0 (f k) : Nat) : Int)) := by rw [hbr.cell (p := ⟨ab, ao + k * 4, none⟩) hv]; exact HC.out k hlt 0 (by decide)
      have c1 : wr.cell? ⟨ab, ao + k * 4 + 1, none⟩ = some (.int .u64 ((limb 1 (f k) : Nat) : Int)) := by rw [hbr.cell (p := ⟨ab, ao + k * 4 + 1, none⟩) hv]; exact HC.out k hlt 1 (by decide)
      have c2 : wr.cell? ⟨ab, ao + k * 4 + 2, none⟩ = some (.int .u64 ((limb 2 (f k) : Nat) : Int)) := by rw [hbr.cell (p := ⟨ab, ao + k * 4 + 2, none⟩) hv]; exact HC.out k hlt 2 (by decide)
      have c3 : wr.cell? ⟨ab, ao + k * 4 + 3, none⟩ = some (.int .u64 ((limb 3 (f k) : Nat) : Int)) := by rw [hbr.cell (p := ⟨ab, ao + k * 4 + 3, none⟩) hv]; exact HC.out k hlt 3 (by decide)
      have e1 : pre m f (k + 1) = pre m f k * (f k % m) % m := rfl
      obtain ⟨p1, ep1⟩ : ∃ p1, p1 = pre m f (k + 1) := ⟨_, rfl⟩
      rw [← e1, ← ep1] at PR
      obtain ⟨p, ep⟩ : ∃ p, p = pre m f k := ⟨_, rfl⟩
      obtain ⟨y, ey⟩ : ∃ y, y = f k % m := ⟨_, rfl⟩
      obtain ⟨x, ex⟩ : ∃ x, x = f k := ⟨_, rfl⟩
      rw [← ey] at EA PR
      rw [← ep] at TE PR ba
      rw [← ex] at EA c0 c1 c2 c3
      have EP1 := (show Hid _ from ep1); have EP := (show Hid _ from ep)
      clear ep1 ep ey ex e1 fk lp
      obtain ⟨N11, e11⟩ : ∃ N11, N11 = wr.heap.size := ⟨_, rfl⟩
      obtain ⟨w5, hw5⟩ : ∃ w5 : World, w5 = wr.alloc (.cells #[.int .u64 ((limb 0 (x) : Nat) : Int), .int .u64 ((limb 1 (x) : Nat) : Int), .int .u64 ((limb 2 (x) : Nat) : Int), .int .u64 ((limb 3 (x) : Nat) : Int)] 25) := ⟨_, rfl⟩
      have bm5 : Blk w5 154 N6 (fun i => limb i m) := by rw [hw5]; exact bm.alloc _
      have bo5 : BlkE w5 G n (fun i => if i < k then pre m f i else 0) := by rw [hw5]; exact bo.alloc _
      have ba5 : Blk w5 154 N9 (fun i => limb i p) := by rw [hw5]; exact ba.alloc _
      have bx5 : Blk w5 25 N11 (fun i => limb i x) := by rw [hw5]; exact Blk.newAt _ _ _ (fun i => limb i x) e11
      have hbw5 : Below w.heap.size w w5 := by rw [hw5]; exact bAlloc hbr _
      have l11 : N9 < N11 := by rw [e11]; exact ba.lt
      go_upto_region 9 with fail
      rw [← hw5, ← e11]
      clear hw5 e11 bm bo ba hbr c0 c1 c2 c3
      have ca := ba5.cell
      go_wp2_with fail
      refine (TE _).mono ?_
      rintro e w6 ⟨rfl, hb6⟩
      have bm6 := bm5.belowAll hb6; have bo6 := bo5.belowAll hb6; have ba6 := ba5.belowAll hb6; have bx6 := bx5.belowAll hb6
      have hbw6 := bStep hbw5 hb6
      clear bm5 bo5 ba5 bx5 hbw5 hb6 TE ca
      have o0 := bo6.cell k hlt 0 (by decide); have o1 := bo6.cell k hlt 1 (by decide); have o2 := bo6.cell k hlt 2 (by decide); have o3 := bo6.cell k hlt 3 (by decide)
      have fo := bo6.frozen
      rw [Nat.add_zero] at o0
      go_upto_region 10 with fail
      obtain ⟨w7, hw7⟩ : ∃ w7 : World, w7 = (((w6.setCell ⟨G, k * 4, none⟩ (.int .u64 ((limb 0 p : Nat) : Int))).setCell ⟨G, k * 4 + 1, none⟩ (.int .u64 ((limb 1 p : Nat) : Int))).setCell ⟨G, k * 4 + 2, none⟩ (.int .u64 ((limb 2 p : Nat) : Int))).setCell ⟨G, k * 4 + 3, none⟩ (.int .u64 ((limb 3 p : Nat) : Int)) := ⟨_, rfl⟩
      have bo7 : BlkE w7 G n (fun i => if i < k + 1 then pre m f i else 0) := by
        rw [hw7]
        refine (bo6.setE k hlt p).congr (fun i hi => ?_)
        by_cases h : i = k
        · subst h; rw [if_pos (by omega), if_pos rfl, EP.out]
        · rw [if_neg h]
          by_cases h2 : i < k
          · rw [if_pos (by omega), if_pos h2]
          · rw [if_neg (by omega), if_neg h2]
      have bm7 : Blk w7 154 N6 (fun i => limb i m) := by rw [hw7]; exact (((bm6.other (by dsimp only; omega) _).other (by dsimp only; omega) _).other (by dsimp only; omega) _).other (by dsimp only; omega) _
      have ba7 : Blk w7 154 N9 (fun i => limb i p) := by rw [hw7]; exact (((ba6.other (by dsimp only; omega) _).other (by dsimp only; omega) _).other (by dsimp only; omega) _).other (by dsimp only; omega) _
      have bx7 : Blk w7 25 N11 (fun i => limb i x) := by rw [hw7]; exact (((bx6.other (by dsimp only; omega) _).other (by dsimp only; omega) _).other (by dsimp only; omega) _).other (by dsimp only; omega) _
      have hbw7 : Below w.heap.size w w7 := by rw [hw7]; exact (((hbw6.setCell (by dsimp only; omega) _).setCell (by dsimp only; omega) _).setCell (by dsimp only; omega) _).setCell (by dsimp only; omega) _
      rw [← hw7]
      clear hw7 bm6 bo6 ba6 bx6 hbw6 o0 o1 o2 o3 fo
      rw [EP1.out] at PR
      have cm := bm7.cell; have ca := ba7.cell; have cx := bx7.cell
      go_wp2_with fail
      go_region_with (first | (go_at_call 89; with_reducible refine (EA _).mono ?_; rintro e wA ⟨rfl, hbA⟩; have bmA := bm7.drew.belowAll hbA; have cmA := bmA.cell; have baA := ba7.drew.belowAll hbA; have caA := baA.cell; clear bmA baA) | (go_at_call 121; with_reducible refine (PR _).mono ?_; rintro e wB ⟨rfl, hbB⟩; have baB := (ba7.drew.belowAll hbA).belowAll hbB; have caB := baB.cell; have faB := baB.frozen; clear baB) | fail)
      all_goals
        go_wp2
        go_roundw
        case measure => simp [intOf]; omega
        case rel => exact ⟨k + 1, by go_num, by omega, bSet4 (bStep (bStep hbw7.drew hbA) hbB) (by omega) _ _ _ _, ((bm7.drew.belowAll hbA).belowAll hbB).other4 (by omega) _ _ _ _, ((bo7.drew.belowAll hbA).belowAll hbB).other4 (by omega) _ _ _ _, ((ba7.drew.belowAll hbA).belowAll hbB).set4 (fun i => limb i (pre m f (k + 1)))⟩
    · have hki : ¬ (k : Int) < (n : Int) := by omega
      have hkn : k = n := by omega
      subst hkn
      clear hlt
      have mM := HMM.out
      have lp := HPL.out k
      have hq := fun w => eqlS0 (pre m f k) (by omega) w
      have ca := ba.cell
      by_cases hz : pre m f k = 0
      · rw [show decide (pre m f k = 0) = true from by simp [hz]] at hq
        have HZZ := (show Hid _ from hz)
        clear hz
        obtain ⟨p, ep⟩ : ∃ p, p = pre m f k := ⟨_, rfl⟩
        rw [← ep] at hq ca
        have EP := (show Hid _ from ep)
        clear ep lp
        go_wp2
        go_ret2
        exact ⟨Or.inl ⟨HZZ.out, rfl⟩, hbr⟩
      · rw [show decide (pre m f k = 0) = false from by simp [hz]] at hq
        have hgcd := prime_gcd m (pre m f k) HP.out hz lp
        have IV := HIV.out (pre m f k) lp hgcd
        have HZZ := (show Hid _ from hz)
        clear hz hgcd
        obtain ⟨p, ep⟩ : ∃ p, p = pre m f k := ⟨_, rfl⟩
        rw [← ep] at hq ca IV
        have EP := (show Hid _ from ep)
        have cm := bm.cell
        have hgr := HGL.out.below hbr
        clear ep lp
        go_wp2_with fail
        refine (IV _ hgr).mono ?_
        rintro e w5 ⟨q, lq, hqq, rfl, hb5⟩
        have bm5 := bm.belowAll hb5; have bo5 := bo.belowAll hb5
        have hbw5 := bStep hbr hb5
        have l5 : G < w5.heap.size := bo5.lt
        clear bm bo ba hbr hb5 ca cm hq IV hgr
        obtain ⟨N12, e12⟩ : ∃ N12, N12 = w5.heap.size := ⟨_, rfl⟩
        obtain ⟨w6, hw6⟩ : ∃ w6 : World, w6 = w5.alloc (.cells #[.int .u64 ((limb 0 (q) : Nat) : Int), .int .u64 ((limb 1 (q) : Nat) : Int), .int .u64 ((limb 2 (q) : Nat) : Int), .int .u64 ((limb 3 (q) : Nat) : Int)] 154) := ⟨_, rfl⟩
        have bm6 : Blk w6 154 N6 (fun i => limb i m) := by rw [hw6]; exact bm5.alloc _
        have bo6 : BlkE w6 G k (fun i => if i < k then pre m f i else 0) := by rw [hw6]; exact bo5.alloc _
        have br6 : Blk w6 154 N12 (fun i => limb i q) := by rw [hw6]; exact Blk.newAt _ _ _ (fun i => limb i q) e12
        have hbw6 : Below w.heap.size w w6 := by rw [hw6]; exact bAlloc hbw5 _
        have l12 : G < N12 := by rw [e12]; exact l5
        go_upto_region 15 with fail
        rw [← hw6, ← e12]
        clear hw6 e12 bm5 bo5 hbw5 l5
        have HQ : Hid (q * pre m f k % m = 1) := by show _ = _; rw [← EP.out]; exact hqq
        obtain ⟨n, en⟩ : ∃ n, n = k := ⟨_, rfl⟩
        have HK : Hid (n = k) := en
        have bo7 : BlkE w6 G k (fun i => if i < k then pre m f i else invU m (f i)) := bo6.congr (fun i hi => by rw [if_pos hi, if_pos hi])
        clear hqq bo6 en EP
        go_wp2
        go_loopw [13] (fun iv wr => ∃ j r : Nat, iv = .int .i64 ((j : Int) - 1) ∧ j ≤ k ∧ r < m ∧ Hid (r * pre m f j % m = 1) ∧ Below w.heap.size w wr ∧ Blk wr 154 N6 (fun i => limb i m) ∧ BlkE wr G k (fun i => if i < j then pre m f i else invU m (f i)) ∧ Blk wr 154 N12 (fun i => limb i r)) (fun iv _ => (intOf iv + 1).toNat)
        case atStart => exact ⟨k, q, by first | rfl | (congr 1), Nat.le_refl _, lq, HQ, hbw6, bm6, bo7, br6⟩
        case round =>
          obtain ⟨j, r, rfl, hj, lr, HR, hbr, bm, bo, br⟩ := hrel
          clear bm6 bo7 br6 hbw6 HQ lq
          by_cases hlt : 0 < j
          · obtain ⟨t, rfl⟩ : ∃ t, j = t + 1 := ⟨j - 1, by omega⟩
            have htk : t < k := by omega
            obtain ⟨iv, eiv⟩ : ∃ iv : Int, iv = ((t + 1 : Nat) : Int) - 1 := ⟨_, rfl⟩
            rw [← eiv]
            have g0 : 0 ≤ iv := by omega
            have g1 : iv < (k : Int) := by omega
            have g2 : iv.toNat = t := by omega
            have HIV2 := (show Hid _ from eiv)
            clear eiv
            have hbs := back_step t HP.out HR.out
            have fk := HF.out t htk
            have lp := HPL.out t
            have NO := fun w => numberOf_any (pre m f t) w
            have PR1 := HPR.out r (pre m f t) lr lp
            rw [hbs.1] at PR1
            have TE := fun w => toElem_any (invU m (f t)) w
            have EA := HEA.out (f t) fk
            have PR2 := HPR.out r (f t % m) lr (Nat.mod_lt _ (by omega))
            have lr2 : r * (f t % m) % m < m := Nat.mod_lt _ (by omega)
            have HB2 : Hid (r * (f t % m) % m * pre m f t % m = 1) := hbs.2
            obtain ⟨r2, er2⟩ : ∃ r2, r2 = r * (f t % m) % m := ⟨_, rfl⟩
            rw [← er2] at PR2 lr2 HB2
            have HL2 : Hid (r2 < m) := lr2
            obtain ⟨u, eu⟩ : ∃ u, u = invU m (f t) := ⟨_, rfl⟩
            rw [← eu] at PR1 TE
            have EU := (show Hid _ from eu)
            obtain ⟨y, ey⟩ : ∃ y, y = f t % m := ⟨_, rfl⟩
            rw [← ey] at EA PR2
            have c0 := HC.out t htk 0 (by decide); have c1 := HC.out t htk 1 (by decide); have c2 := HC.out t htk 2 (by decide); have c3 := HC.out t htk 3 (by decide)
            rw [Nat.add_zero] at c0
            obtain ⟨x, ex⟩ : ∃ x, x = f t := ⟨_, rfl⟩
            rw [← ex] at c0 c1 c2 c3 EA
            have CX : Hid (w.cell? ⟨ab, ao + t * 4, none⟩ = some (.int .u64 ((limb 0 x : Nat) : Int)) ∧ w.cell? ⟨ab, ao + t * 4 + 1, none⟩ = some (.int .u64 ((limb 1 x : Nat) : Int)) ∧ w.cell? ⟨ab, ao + t * 4 + 2, none⟩ = some (.int .u64 ((limb 2 x : Nat) : Int)) ∧ w.cell? ⟨ab, ao + t * 4 + 3, none⟩ = some (.int .u64 ((limb 3 x : Nat) : Int))) := ⟨c0, c1, c2, c3⟩
            have co := bo.cell t htk
            simp only [if_pos (show t < t + 1 by omega)] at co
            obtain ⟨p, ep⟩ : ∃ p, p = pre m f t := ⟨_, rfl⟩
            rw [← ep] at NO PR1 co
            clear c0 c1 c2 c3 er2 eu ey ex ep hbs fk lp lr2 HR lr
            go_upto_region 18 with fail
            go_cut [] (fun wx => Below w.heap.size w wx ∧ Blk wx 154 N6 (fun i => limb i m) ∧ BlkE wx G k (fun i => if i < t then pre m f i else invU m (f i)) ∧ Blk wx 154 N12 (fun i => limb i r))
            case first =>
              have cm := bm.cell; have cr := br.cell
              have o0 := co 0 (by decide); have o1 := co 1 (by decide); have o2 := co 2 (by decide); have o3 := co 3 (by decide)
              rw [Nat.add_zero] at o0
              go_wp2_with fail
              go_region_with (first | (go_at_call 124; with_reducible refine (NO _).mono ?_; rintro e wA ⟨rfl, hbA⟩; have bmA := bm.drew.belowAll hbA; have cmA := bmA.cell; have brA := br.drew.belowAll hbA; have crA := brA.cell; clear bmA brA) | (go_at_call 121; with_reducible refine (PR1 _).mono ?_; rintro e wB ⟨rfl, hbB⟩) | (go_at_call 84; with_reducible refine (TE _).mono ?_; rintro e wC ⟨rfl, hbC⟩; have boC := ((bo.drew.belowAll hbA).belowAll hbB).belowAll hbC; have p0 := boC.cell t htk 0 (by decide); have p1 := boC.cell t htk 1 (by decide); have p2 := boC.cell t htk 2 (by decide); have p3 := boC.cell t htk 3 (by decide); rw [Nat.add_zero] at p0; have fo := boC.frozen; clear boC) | fail)
              all_goals (go_wp2_with fail; go_meet)
              all_goals (
                have hbwC := bStep (bStep (bStep hbr.drew hbA) hbB) hbC
                have bmC := ((bm.drew.belowAll hbA).belowAll hbB).belowAll hbC; have brC := ((br.drew.belowAll hbA).belowAll hbB).belowAll hbC; have boC := ((bo.drew.belowAll hbA).belowAll hbB).belowAll hbC
                refine ⟨(((hbwC.setCell (by dsimp only; omega) _).setCell (by dsimp only; omega) _).setCell (by dsimp only; omega) _).setCell (by dsimp only; omega) _, (((bmC.other (by dsimp only; omega) _).other (by dsimp only; omega) _).other (by dsimp only; omega) _).other (by dsimp only; omega) _, (boC.setE t htk u).congr (fun i hi => ?_), (((brC.other (by dsimp only; omega) _).other (by dsimp only; omega) _).other (by dsimp only; omega) _).other (by dsimp only; omega) _⟩
                by_cases h : i = t
                · subst h; rw [if_neg (by omega), if_pos rfl, EU.out]
                · rw [if_neg h]
                  by_cases h2 : i < t
                  · rw [if_pos h2, if_pos (by omega)]
                  · rw [if_neg h2, if_neg (by omega)])
            case rest =>
              clear bm bo br hbr co NO PR1 TE
              obtain ⟨hbw8, bm8, bo8, br8⟩ := hcut
              obtain ⟨w8, rfl⟩ : ∃ w8, w8 = wc := ⟨_, rfl⟩
              have c0 : w8.cell? ⟨ab, ao + t * 4, none⟩ = some (.int .u64 ((limb 0 x : Nat) : Int)) := by rw [hbw8.cell (p := ⟨ab, ao + t * 4, none⟩) hv]; exact CX.out.1
              have c1 : w8.cell? ⟨ab, ao + t * 4 + 1, none⟩ = some (.int .u64 ((limb 1 x : Nat) : Int)) := by rw [hbw8.cell (p := ⟨ab, ao + t * 4 + 1, none⟩) hv]; exact CX.out.2.1
              have c2 : w8.cell? ⟨ab, ao + t * 4 + 2, none⟩ = some (.int .u64 ((limb 2 x : Nat) : Int)) := by rw [hbw8.cell (p := ⟨ab, ao + t * 4 + 2, none⟩) hv]; exact CX.out.2.2.1
              have c3 : w8.cell? ⟨ab, ao + t * 4 + 3, none⟩ = some (.int .u64 ((limb 3 x : Nat) : Int)) := by rw [hbw8.cell (p := ⟨ab, ao + t * 4 + 3, none⟩) hv]; exact CX.out.2.2.2
              have cm := bm8.cell; have cr := br8.cell
              go_wp2_with fail
              go_region_with (first | (go_at_call 89; with_reducible refine (EA _).mono ?_; rintro e wA ⟨rfl, hbA⟩; have bmA := bm8.drew.belowAll hbA; have cmA := bmA.cell; have brA := br8.drew.belowAll hbA; have crA := brA.cell; clear bmA brA) | (go_at_call 121; with_reducible refine (PR2 _).mono ?_; rintro e wB ⟨rfl, hbB⟩; have brB := (br8.drew.belowAll hbA).belowAll hbB; have crB := brB.cell; have frB := brB.frozen; clear brB) | fail)
              all_goals
                go_wp2
                go_roundw
                case measure => first | (simp [intOf]; done) | (simp [intOf]; omega) | (rw [HIV2.out]; simp [intOf]; omega)
                case rel => exact ⟨t, r2, by first | rfl | (rw [HIV2.out]; congr 1; omega), by omega, HL2.out, HB2, bSet4 (bStep (bStep hbw8.drew hbA) hbB) (by omega) _ _ _ _, ((bm8.drew.belowAll hbA).belowAll hbB).other4 (by omega) _ _ _ _, ((bo8.drew.belowAll hbA).belowAll hbB).other4 (by omega) _ _ _ _, ((br8.drew.belowAll hbA).belowAll hbB).set4 (fun i => limb i r2)⟩
          · have hj0 : j = 0 := by omega
            subst hj0
            have g0 : ¬ (0 : Int) ≤ ((0 : Nat) : Int) - 1 := by decide
            have boF := bo.congr (g := fun i => invU m (f i)) (fun i _ => by rw [if_neg (by omega)])
            clear hlt bo
            go_wp2
            go_ret2
            exact ⟨Or.inr ⟨HZZ.out, G, rfl, lGw, boF⟩, hbr⟩
end Go.Proofs.YtfbfenljfdnggaaGreatDoor
