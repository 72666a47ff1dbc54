import Derived.Test.YtdeijnlbencfdaaGreatDoorWXJ
import Derived.Test.YtdeijnlbencfdaaGreatDoorWK9
import Derived.Test.YtdeijnlbencfdaaGreatDoorWXF
namespace Go.Proofs.YtdeijnlbencfdaaGreatDoor
open Go.RowKit
theorem Pt.set9 {w : World} {b x y : Nat} {i : Bool} (h : Pt w b x y i) (u v : Nat) (j : Bool) : Pt (((((((((w.setCell ⟨b, 0, none⟩ (.int .u64 (limb 0 u))).setCell ⟨b, 1, none⟩ (.int .u64 (limb 1 u))).setCell ⟨b, 2, none⟩ (.int .u64 (limb 2 u))).setCell ⟨b, 3, none⟩ (.int .u64 (limb 3 u))).setCell ⟨b, 4, none⟩ (.int .u64 (limb 0 v))).setCell ⟨b, 5, none⟩ (.int .u64 (limb 1 v))).setCell ⟨b, 6, none⟩ (.int .u64 (limb 2 v))).setCell ⟨b, 7, none⟩ (.int .u64 (limb 3 v))).setCell ⟨b, 8, none⟩ (.bool j)) b u v j := by
 unfold Pt at h ⊢
 have h1 := heap_setCell_same _ b 0 _ _ (.int .u64 (limb 0 u)) h
 have h2 := heap_setCell_same _ b 1 _ _ (.int .u64 (limb 1 u)) h1
 have h3 := heap_setCell_same _ b 2 _ _ (.int .u64 (limb 2 u)) h2
 have h4 := heap_setCell_same _ b 3 _ _ (.int .u64 (limb 3 u)) h3
 have h5 := heap_setCell_same _ b 4 _ _ (.int .u64 (limb 0 v)) h4
 have h6 := heap_setCell_same _ b 5 _ _ (.int .u64 (limb 1 v)) h5
 have h7 := heap_setCell_same _ b 6 _ _ (.int .u64 (limb 2 v)) h6
 have h8 := heap_setCell_same _ b 7 _ _ (.int .u64 (limb 3 v)) h7
 have h9 := heap_setCell_same _ b 8 _ _ (.bool j) h8
 simpa using h9
theorem Pt.other9 {w : World} {b r x y : Nat} {i : Bool} (h : Pt w b x y i) (hr : b ≠ r) (v0 v1 v2 v3 v4 v5 v6 v7 v8 : Value) : Pt (((((((((w.setCell ⟨r, 0, none⟩ v0).setCell ⟨r, 1, none⟩ v1).setCell ⟨r, 2, none⟩ v2).setCell ⟨r, 3, none⟩ v3).setCell ⟨r, 4, none⟩ v4).setCell ⟨r, 5, none⟩ v5).setCell ⟨r, 6, none⟩ v6).setCell ⟨r, 7, none⟩ v7).setCell ⟨r, 8, none⟩ v8) b x y i := by
 unfold Pt at h ⊢
 rw [Below.heap_setCell _ _ _ b hr, Below.heap_setCell _ _ _ b hr, Below.heap_setCell _ _ _ b hr, Below.heap_setCell _ _ _ b hr, Below.heap_setCell _ _ _ b hr, Below.heap_setCell _ _ _ b hr, Below.heap_setCell _ _ _ b hr, Below.heap_setCell _ _ _ b hr, Below.heap_setCell _ _ _ b hr]
 exact h
theorem Blk.other9 {w : World} {t : TypeId} {b r : Nat} {f : Nat → Nat} (h : Blk w t b f) (hr : b ≠ r) (v0 v1 v2 v3 v4 v5 v6 v7 v8 : Value) : Blk (((((((((w.setCell ⟨r, 0, none⟩ v0).setCell ⟨r, 1, none⟩ v1).setCell ⟨r, 2, none⟩ v2).setCell ⟨r, 3, none⟩ v3).setCell ⟨r, 4, none⟩ v4).setCell ⟨r, 5, none⟩ v5).setCell ⟨r, 6, none⟩ v6).setCell ⟨r, 7, none⟩ v7).setCell ⟨r, 8, none⟩ v8) t b f :=
 (((((((((h.other hr _).other hr _).other hr _).other hr _).other hr _).other hr _).other hr _).other hr _).other hr _)
theorem Pt.oth4 {w : World} {b x y r : Nat} {i : Bool} (h : Pt w b x y i) (hr : b ≠ r) (v0 v1 v2 v3 : Value) : Pt ((((w.setCell ⟨r, 0, none⟩ v0).setCell ⟨r, 1, none⟩ v1).setCell ⟨r, 2, none⟩ v2).setCell ⟨r, 3, none⟩ v3) b x y i :=
 (((h.other hr v0).other hr v1).other hr v2).other hr v3
theorem bit_high (u k j : Nat) (h : u < 2 ^ k) (hj : k ≤ j) : bitN u j = 0 := by
 unfold bitN
 rw [Nat.div_eq_of_lt (Nat.lt_of_lt_of_le h (Nat.pow_le_pow_right (by decide) hj))]
theorem mulUp_zero (c x y : Nat) (i : Bool) (u k : Nat) (h : u < 2 ^ k) : ∀ j, j + k ≤ 256 → mulUp c x y i u j = (0, 0, true)
 | 0, _ => rfl
 | j + 1, hj => by
  show stepPt c x y i (decide (bitN u (255 - j) = 1)) (mulUp c x y i u j) = _
  rw [mulUp_zero c x y i u k h j (by omega), bit_high u k (255 - j) h (by omega), decide_eq_false (by decide)]
  rfl
theorem mulUp_step (c x y : Nat) (i : Bool) (u j : Nat) (hj : j < 256) : mulUp c x y i u (256 - j) = stepPt c x y i (decide (bitN u j = 1)) (mulUp c x y i u (256 - (j + 1))) := by
 rw [show 256 - j = (256 - (j + 1)) + 1 from by omega]
 show stepPt c x y i (decide (bitN u (255 - (256 - (j + 1))) = 1)) _ = _
 rw [show 255 - (256 - (j + 1)) = j from by omega]
set_option maxHeartbeats 8000000 in
set_option maxRecDepth 20000 in
theorem rmul_on (c k x y : Nat) (i : Bool) (hc : c < 4) (hk : k < 115792089237316195423570985008687907853269984665640564039457584007913129639936) (hx : x < 115792089237316195423570985008687907853269984665640564039457584007913129639936) (hy : y < 115792089237316195423570985008687907853269984665640564039457584007913129639936) (hon : onC c x y i) (w : World) :
  Calls Tryz.prog 125 #[.int .i64 (c : Int), .agg #[.int .u64 (limb 0 k), .int .u64 (limb 1 k), .int .u64 (limb 2 k), .int .u64 (limb 3 k)], .agg #[.int .u64 (limb 0 x), .int .u64 (limb 1 x), .int .u64 (limb 2 x), .int .u64 (limb 3 x), .int .u64 (limb 0 y), .int .u64 (limb 1 y), .int .u64 (limb 2 y), .int .u64 (limb 3 y), .bool i]] w fun e w' => e = .returned (.agg #[.int .u64 ((limb 0 ((mulUp c x y i (k % modN (xc c)) 256).1) : Nat) : Int), .int .u64 ((limb 1 ((mulUp c x y i (k % modN (xc c)) 256).1) : Nat) : Int), .int .u64 ((limb 2 ((mulUp c x y i (k % modN (xc c)) 256).1) : Nat) : Int), .int .u64 ((limb 3 ((mulUp c x y i (k % modN (xc c)) 256).1) : Nat) : Int), .int .u64 ((limb 0 ((mulUp c x y i (k % modN (xc c)) 256).2.1) : Nat) : Int), .int .u64 ((limb 1 ((mulUp c x y i (k % modN (xc c)) 256).2.1) : Nat) : Int), .int .u64 ((limb 2 ((mulUp c x y i (k % modN (xc c)) 256).2.1) : Nat) : Int), .int .u64 ((limb 3 ((mulUp c x y i (k % modN (xc c)) 256).2.1) : Nat) : Int), .bool (mulUp c x y i (k % modN (xc c)) 256).2.2]) ∧ Below w.heap.size w w' := by
 have HON : Hid (∀ w, _) := fun w => ron_in c x y i hc hx hy w
 rw [decide_eq_true hon] at HON
 have HIN : Hid (∀ w, _) := rInfinity_any
 have HOF : Hid (∀ w, _) := fun w => ref2Of_any (xc c) k (xc_lt hc) hk w
 have X01 := xor_c c hc
 have hu0 : k % modN (xc c) < 115792089237316195423570985008687907853269984665640564039457584007913129639936 := Nat.lt_of_le_of_lt (Nat.mod_le _ _) hk
 obtain ⟨u, eu⟩ : ∃ u, u = k % modN (xc c) := ⟨_, rfl⟩
 rw [← eu] at HOF hu0 ⊢
 obtain ⟨d, ed⟩ : ∃ d, d = xc c := ⟨_, rfl⟩
 rw [← ed] at HOF X01
 have HUP : Hid (∀ j, onC c (mulUp c x y i u j).1 (mulUp c x y i u j).2.1 (mulUp c x y i u j).2.2) := mulUp_on u hon
 have HZ : Hid (∀ k, u < 2 ^ k → k ≤ 256 → mulUp c x y i u (256 - k) = (0, 0, true)) := fun k h hk => mulUp_zero c x y i u k h (256 - k) (by omega)
 have HS : Hid (∀ (X Y U V : Nat) (I J : Bool), X < 115792089237316195423570985008687907853269984665640564039457584007913129639936 → Y < 115792089237316195423570985008687907853269984665640564039457584007913129639936 → U < 115792089237316195423570985008687907853269984665640564039457584007913129639936 → V < 115792089237316195423570985008687907853269984665640564039457584007913129639936 → ∀ w, _) := fun X Y U V I J h1 h2 h3 h4 w => rsumP_in c X Y U V I J hc h1 h2 h3 h4 w
 have HXY : Hid (x < 115792089237316195423570985008687907853269984665640564039457584007913129639936 ∧ y < 115792089237316195423570985008687907853269984665640564039457584007913129639936) := ⟨hx, hy⟩
 have HST : Hid (∀ j, j < 256 → mulUp c x y i u (256 - j) = stepPt c x y i (decide (bitN u j = 1)) (mulUp c x y i u (256 - (j + 1)))) := fun j hj => mulUp_step c x y i u j hj
 have HL : Hid (∀ (Q : Nat × Nat × Bool), onC c Q.1 Q.2.1 Q.2.2 → Q.1 < 115792089237316195423570985008687907853269984665640564039457584007913129639936 ∧ Q.2.1 < 115792089237316195423570985008687907853269984665640564039457584007913129639936) := fun Q h => ⟨lt_M c _ (on_lt h).1, lt_M c _ (on_lt h).2⟩
 have HDB : Hid (∀ (Q : Nat × Nat × Bool), onC c Q.1 Q.2.1 Q.2.2 → onC c (dblPt c Q).1 (dblPt c Q).2.1 (dblPt c Q).2.2) := fun Q h => dbl_on h
 clear eu ed hc hk hx hy hon
 go_enter Tryz.func125, Tryz.ntmps125
 go_upto_region 1 with fail
 obtain ⟨w0, hw0⟩ : ∃ w0 : World, w0 = ((w.alloc (.cells #[.int .u64 (limb 0 k), .int .u64 (limb 1 k), .int .u64 (limb 2 k), .int .u64 (limb 3 k)] 25)).alloc (.cells #[.int .u64 (limb 0 x), .int .u64 (limb 1 x), .int .u64 (limb 2 x), .int .u64 (limb 3 x), .int .u64 (limb 0 y), .int .u64 (limb 1 y), .int .u64 (limb 2 y), .int .u64 (limb 3 y), .bool i] 27)).alloc (.cells #[.int .u64 0, .int .u64 0, .int .u64 0, .int .u64 0, .int .u64 0, .int .u64 0, .int .u64 0, .int .u64 0, .bool false] 27) := ⟨_, rfl⟩
 have bk0 : Blk w0 25 w.heap.size (fun i => limb i k) := by rw [hw0]; exact ((Blk.newAt _ _ _ (fun i => limb i k) rfl).alloc _).alloc _
 have bp0 : Pt w0 (w.heap.size + 1) x y i := by rw [hw0]; exact (Pt.newAt _ _ _ _ _ (by simp)).alloc _
 have br0 : Pt w0 (w.heap.size + 1 + 1) 0 0 false := by rw [hw0]; exact Pt.zeroAt _ _ (by simp)
 have hbw0 : Below w.heap.size w w0 := by rw [hw0]; exact bAlloc (bAlloc ((Below.refl _ _).alloc (Nat.le_refl _) _) _) _
 rw [← hw0]
 clear hw0
 go_wp2_with fail
 refine (HIN.out _).mono ?_
 rintro e w1 ⟨rfl, hb1⟩
 have bk2 := (bk0.belowAll hb1).alloc (.cells #[.int .u64 (limb 0 0), .int .u64 (limb 1 0), .int .u64 (limb 2 0), .int .u64 (limb 3 0), .int .u64 (limb 0 0), .int .u64 (limb 1 0), .int .u64 (limb 2 0), .int .u64 (limb 3 0), .bool true] 27); have bp2 := (bp0.belowAll hb1).alloc (.cells #[.int .u64 (limb 0 0), .int .u64 (limb 1 0), .int .u64 (limb 2 0), .int .u64 (limb 3 0), .int .u64 (limb 0 0), .int .u64 (limb 1 0), .int .u64 (limb 2 0), .int .u64 (limb 3 0), .bool true] 27); have br2 := (br0.belowAll hb1).alloc (.cells #[.int .u64 (limb 0 0), .int .u64 (limb 1 0), .int .u64 (limb 2 0), .int .u64 (limb 3 0), .int .u64 (limb 0 0), .int .u64 (limb 1 0), .int .u64 (limb 2 0), .int .u64 (limb 3 0), .bool true] 27)
 have bo2 : Pt (w1.alloc (.cells #[.int .u64 (limb 0 0), .int .u64 (limb 1 0), .int .u64 (limb 2 0), .int .u64 (limb 3 0), .int .u64 (limb 0 0), .int .u64 (limb 1 0), .int .u64 (limb 2 0), .int .u64 (limb 3 0), .bool true] 27)) w1.heap.size 0 0 true := Pt.newAt _ _ _ _ _ rfl
 have lN7 : w.heap.size + 1 + 1 < w1.heap.size := (br0.belowAll hb1).lt
 have hbw2 := bAlloc (bStep hbw0 hb1) (.cells #[.int .u64 (limb 0 0), .int .u64 (limb 1 0), .int .u64 (limb 2 0), .int .u64 (limb 3 0), .int .u64 (limb 0 0), .int .u64 (limb 1 0), .int .u64 (limb 2 0), .int .u64 (limb 3 0), .bool true] 27)
 clear bk0 bp0 br0 hbw0 hb1 HIN
 go_upto_region 2 with fail
 obtain ⟨w2, hw2⟩ : ∃ z : World, z = w1.alloc (.cells #[.int .u64 (limb 0 0), .int .u64 (limb 1 0), .int .u64 (limb 2 0), .int .u64 (limb 3 0), .int .u64 (limb 0 0), .int .u64 (limb 1 0), .int .u64 (limb 2 0), .int .u64 (limb 3 0), .bool true] 27) := ⟨_, rfl⟩
 obtain ⟨N7, hN7⟩ : ∃ N, N = w1.heap.size := ⟨_, rfl⟩
 rw [← hw2] at bk2 bp2 br2 bo2 hbw2 ⊢
 rw [← hN7] at bo2 lN7 ⊢
 clear hw2 hN7
 obtain ⟨p0, p1, p2, p3, p4, p5, p6, p7, p8, pf⟩ := bp2.cells
 go_wp2_with fail
 refine (HON.out _).mono ?_
 rintro e w3 ⟨rfl, hb3⟩
 clear p0 p1 p2 p3 p4 p5 p6 p7 p8 pf HON
 have bk3 := bk2.belowAll hb3; have bp3 := bp2.belowAll hb3; have br3 := br2.belowAll hb3; have bo3 := bo2.belowAll hb3
 have hbw3 := bStep hbw2 hb3
 clear bk2 bp2 br2 bo2 hbw2 hb3
 have ck := bk3.cell
 go_wp2_with fail
 refine (HOF.out _).mono ?_
 rintro e w4 ⟨rfl, hb4⟩
 clear ck HOF X01
 have bk4 := bk3.belowAll hb4; have bp4 := bp3.belowAll hb4; have br4 := br3.belowAll hb4; have bo4 := bo3.belowAll hb4
 have hbw4 := bStep hbw3 hb4
 clear bk3 bp3 br3 bo3 hbw3 hb4
 have ck := bk4.cell; have fk := bk4.frozen
 go_upto_block 0 with fail
 obtain ⟨w5, hw5⟩ : ∃ z : World, z = (((w4.setCell ⟨w.heap.size, 0, none⟩ (.int .u64 (limb 0 u))).setCell ⟨w.heap.size, 1, none⟩ (.int .u64 (limb 1 u))).setCell ⟨w.heap.size, 2, none⟩ (.int .u64 (limb 2 u))).setCell ⟨w.heap.size, 3, none⟩ (.int .u64 (limb 3 u)) := ⟨_, rfl⟩
 have bk5 : Blk w5 25 w.heap.size (fun i => limb i u) := by rw [hw5]; exact bk4.set4 (fun i => limb i u)
 have bp5 : Pt w5 (w.heap.size + 1) x y i := by rw [hw5]; exact bp4.oth4 (by omega) _ _ _ _
 have br5 : Pt w5 (w.heap.size + 1 + 1) 0 0 false := by rw [hw5]; exact br4.oth4 (by omega) _ _ _ _
 have bo5 : Pt w5 N7 0 0 true := by rw [hw5]; exact bo4.oth4 (by omega) _ _ _ _
 have hbw5 : Below w.heap.size w w5 := by rw [hw5]; exact bSet4 hbw4 (Nat.le_refl _) _ _ _ _
 rw [← hw5]
 clear hw5 bk4 bp4 br4 bo4 hbw4 ck fk
 go_cut [8] (fun iv wx => ∃ k : Nat, iv = .int .i64 ((k : Int) - 1) ∧ k ≤ 256 ∧ Hid (u < 2 ^ k) ∧ wx = w5)
 case first =>
  go_wp2_with fail
  go_loop [8] (fun iv => ∃ k : Nat, iv = .int .i64 ((k : Int) - 1) ∧ k ≤ 256 ∧ Hid (u < 2 ^ k)) (fun iv => (intOf iv + 1).toNat)
  case atStart => exact ⟨256, rfl, by decide, hu0⟩
  case round =>
   obtain ⟨k', rfl, hk, hek⟩ := hrel
   by_cases hk0 : k' = 0
   ·subst hk0
    go_wp2_with fail
    go_meet
    exact ⟨0, rfl, by decide, hek, rfl⟩
   ·obtain ⟨j, rfl⟩ : ∃ j, k' = j + 1 := ⟨k' - 1, by omega⟩
    obtain ⟨i', ei⟩ : ∃ i' : Int, i' = ((j + 1 : Nat) : Int) - 1 := ⟨_, rfl⟩
    rw [← ei]
    have hi0 : 0 ≤ i' := by omega
    have hq : i' / 64 = ((j / 64 : Nat) : Int) := by omega
    have hr : i' % 64 = ((j % 64 : Nat) : Int) := by omega
    have hiN : Hid (i' - 1 = (j : Int) - 1) := by show _ = _; omega
    have hiE : Hid (i' = ((j + 1 : Nat) : Int) - 1) := ei
    have him : Hid ((intOf (.int .i64 i') + 1).toNat = j + 1) := by show (i' + 1).toNat = j + 1; omega
    have q4 : j / 64 < 4 := by omega
    have hj : j + 1 ≤ 256 := by omega
    clear ei hk hk0
    have cq := bk5.cell (j / 64) q4
    have hA := and_one (limb (j / 64) u) (j % 64) (limb_lt _ _)
    rw [bit_at] at hA
    have hwr : IntKind.u64.wrap ((j % 64 : Nat) : Int) = ((j % 64 : Nat) : Int) := by rw [IntKind.wrap_u64]; omega
    have r6 : j % 64 < 64 := Nat.mod_lt _ (by decide)
    obtain ⟨q, eq⟩ : ∃ q, q = j / 64 := ⟨_, rfl⟩
    obtain ⟨r, er⟩ : ∃ r, r = j % 64 := ⟨_, rfl⟩
    rw [← eq] at cq hA hq q4
    rw [← er] at hA hwr hr r6
    obtain ⟨X, eX⟩ : ∃ X : Int, X = ((limb q u : Nat) : Int) := ⟨_, rfl⟩
    rw [← eX] at cq hA
    clear eq er eX
    rcases bitN_01 u j with hbit | hbit
    ·have HLs : Hid (u < 2 ^ j) := top_less u j hek.out hbit
     rw [hbit] at hA
     clear hbit hek
     go_wp2
     go_round
     case measure => rw [him.out]; simp [intOf]; have := hiN.out; omega
     case rel => exact ⟨j, by rw [hiN.out], by omega, HLs⟩
    ·rw [hbit] at hA
     clear hbit
     go_wp2_with fail
     go_meet
     exact ⟨j + 1, by rw [hiE.out], by omega, hek, rfl⟩
 case rest =>
  obtain ⟨k0, rfl, hk0', hek, rfl⟩ := hcut
  have HQ0 : Hid (mulUp c x y i u (256 - k0) = (0, 0, true)) := HZ.out k0 hek.out hk0'
  clear HZ hek
  go_wp2
  go_loopw [9] (fun iv wr => ∃ (k QX QY : Nat) (QI : Bool), iv = .int .i64 ((k : Int) - 1) ∧ k ≤ 256 ∧ Hid (mulUp c x y i u (256 - k) = (QX, QY, QI)) ∧ Below w.heap.size w wr ∧ Blk wr 25 w.heap.size (fun i => limb i u) ∧ Pt wr (w.heap.size + 1) x y i ∧ Pt wr (w.heap.size + 1 + 1) 0 0 false ∧ Pt wr N7 QX QY QI) (fun iv _ => (intOf iv + 1).toNat)
  case atStart => exact ⟨k0, 0, 0, true, rfl, hk0', HQ0, hbw5, bk5, bp5, br5, bo5⟩
  case round =>
   obtain ⟨k', QX, QY, QI, rfl, hk, HQ, hbr, bk, bp, br, bo⟩ := hrel
   clear bk5 bp5 br5 bo5 hbw5 HQ0 hk0' hu0
   by_cases hk0 : k' = 0
   ·subst hk0
    have HV : Hid (QX = (mulUp c x y i u 256).1 ∧ QY = (mulUp c x y i u 256).2.1 ∧ QI = (mulUp c x y i u 256).2.2) := by
     have h := HQ.out
     rw [Nat.sub_zero] at h
     show _ ∧ _
     rw [h]
     exact ⟨rfl, rfl, rfl⟩
    clear HQ
    obtain ⟨p0, p1, p2, p3, p4, p5, p6, p7, p8, pf⟩ := bo.cells
    obtain ⟨r0, r1, r2, r3, r4, r5, r6, r7, r8, rf⟩ := br.cells
    go_wp2
    refine bodyPost_ret (v := .agg #[.int .u64 (limb 0 QX), .int .u64 (limb 1 QX), .int .u64 (limb 2 QX), .int .u64 (limb 3 QX), .int .u64 (limb 0 QY), .int .u64 (limb 1 QY), .int .u64 (limb 2 QY), .int .u64 (limb 3 QY), .bool QI]) (by simp [results, Tryz.results125, go_sem, r0, r1, r2, r3, r4, r5, r6, r7, r8]) rfl ⟨by rw [HV.out.1, HV.out.2.1, HV.out.2.2], ?_⟩
    exact bSet9 hbr (by omega) _ _ _ _ _ _ _ _ _
   ·obtain ⟨j, rfl⟩ : ∃ j, k' = j + 1 := ⟨k' - 1, by omega⟩
    obtain ⟨i', ei⟩ : ∃ i' : Int, i' = ((j + 1 : Nat) : Int) - 1 := ⟨_, rfl⟩
    rw [← ei]
    have honQ := HUP.out (256 - (j + 1))
    rw [HQ.out] at honQ
    have hstep := HST.out j (by omega)
    rw [HQ.out] at hstep
    have lQ := HL.out (QX, QY, QI) honQ
    have honD := HDB.out (QX, QY, QI) honQ
    have lD := HL.out _ honD
    have M1 : Hid (∀ w, _) := fun w => HS.out QX QY QX QY QI QI lQ.1 lQ.2 lQ.1 lQ.2 w
    have ED : Hid (dblPt c (QX, QY, QI) = sumPt c QX QY QI QX QY QI) := rfl
    have M2 : Hid (∀ w, _) := fun w => HS.out (dblPt c (QX, QY, QI)).1 (dblPt c (QX, QY, QI)).2.1 x y (dblPt c (QX, QY, QI)).2.2 i lD.1 lD.2 HXY.out.1 HXY.out.2 w
    rw [← ED.out] at M1
    have HS1 : Hid (¬ bitN u j = 1 → mulUp c x y i u (256 - j) = dblPt c (QX, QY, QI)) := fun h => by rw [hstep, decide_eq_false h]; rfl
    have HS2 : Hid (bitN u j = 1 → mulUp c x y i u (256 - j) = sumPt c (dblPt c (QX, QY, QI)).1 (dblPt c (QX, QY, QI)).2.1 (dblPt c (QX, QY, QI)).2.2 x y i) := fun h => by rw [hstep, decide_eq_true h]; rfl
    obtain ⟨DD, eDD⟩ : ∃ z, z = dblPt c (QX, QY, QI) := ⟨_, rfl⟩
    rw [← eDD] at M1 M2 HS1 HS2
    obtain ⟨DX, DY, DI⟩ := DD
    obtain ⟨SS, eSS⟩ : ∃ z, z = sumPt c DX DY DI x y i := ⟨_, rfl⟩
    have M2' : Hid (∀ w, Calls Tryz.prog 138 #[.int .i64 (c : Int), .agg #[.int .u64 (limb 0 DX), .int .u64 (limb 1 DX), .int .u64 (limb 2 DX), .int .u64 (limb 3 DX), .int .u64 (limb 0 DY), .int .u64 (limb 1 DY), .int .u64 (limb 2 DY), .int .u64 (limb 3 DY), .bool DI], .agg #[.int .u64 (limb 0 x), .int .u64 (limb 1 x), .int .u64 (limb 2 x), .int .u64 (limb 3 x), .int .u64 (limb 0 y), .int .u64 (limb 1 y), .int .u64 (limb 2 y), .int .u64 (limb 3 y), .bool i]] w fun e w' => e = .returned (.agg #[.int .u64 (limb 0 (SS.1)), .int .u64 (limb 1 (SS.1)), .int .u64 (limb 2 (SS.1)), .int .u64 (limb 3 (SS.1)), .int .u64 (limb 0 (SS.2.1)), .int .u64 (limb 1 (SS.2.1)), .int .u64 (limb 2 (SS.2.1)), .int .u64 (limb 3 (SS.2.1)), .bool SS.2.2]) ∧ Below w.heap.size w w') := by rw [eSS]; exact M2
    have M1' : Hid (∀ w, Calls Tryz.prog 138 #[.int .i64 (c : Int), .agg #[.int .u64 (limb 0 QX), .int .u64 (limb 1 QX), .int .u64 (limb 2 QX), .int .u64 (limb 3 QX), .int .u64 (limb 0 QY), .int .u64 (limb 1 QY), .int .u64 (limb 2 QY), .int .u64 (limb 3 QY), .bool QI], .agg #[.int .u64 (limb 0 QX), .int .u64 (limb 1 QX), .int .u64 (limb 2 QX), .int .u64 (limb 3 QX), .int .u64 (limb 0 QY), .int .u64 (limb 1 QY), .int .u64 (limb 2 QY), .int .u64 (limb 3 QY), .bool QI]] w fun e w' => e = .returned (.agg #[.int .u64 (limb 0 DX), .int .u64 (limb 1 DX), .int .u64 (limb 2 DX), .int .u64 (limb 3 DX), .int .u64 (limb 0 DY), .int .u64 (limb 1 DY), .int .u64 (limb 2 DY), .int .u64 (limb 3 DY), .bool DI]) ∧ Below w.heap.size w w') := M1
    have HS2' : Hid (bitN u j = 1 → mulUp c x y i u (256 - j) = SS) := fun h => by rw [eSS]; exact HS2.out h
    obtain ⟨SX, SY, SI⟩ := SS
    have M2'' : Hid (∀ w, Calls Tryz.prog 138 #[.int .i64 (c : Int), .agg #[.int .u64 (limb 0 DX), .int .u64 (limb 1 DX), .int .u64 (limb 2 DX), .int .u64 (limb 3 DX), .int .u64 (limb 0 DY), .int .u64 (limb 1 DY), .int .u64 (limb 2 DY), .int .u64 (limb 3 DY), .bool DI], .agg #[.int .u64 (limb 0 x), .int .u64 (limb 1 x), .int .u64 (limb 2 x), .int .u64 (limb 3 x), .int .u64 (limb 0 y), .int .u64 (limb 1 y), .int .u64 (limb 2 y), .int .u64 (limb 3 y), .bool i]] w fun e w' => e = .returned (.agg #[.int .u64 (limb 0 SX), .int .u64 (limb 1 SX), .int .u64 (limb 2 SX), .int .u64 (limb 3 SX), .int .u64 (limb 0 SY), .int .u64 (limb 1 SY), .int .u64 (limb 2 SY), .int .u64 (limb 3 SY), .bool SI]) ∧ Below w.heap.size w w') := M2'
    clear eSS eDD M2 M2' M1 HS2 ED honQ hstep lQ honD lD HQ
    have hi0 : 0 ≤ i' := by omega
    have hq : i' / 64 = ((j / 64 : Nat) : Int) := by omega
    have hr : i' % 64 = ((j % 64 : Nat) : Int) := by omega
    have hiN : Hid (i' - 1 = (j : Int) - 1) := by show _ = _; omega
    have him : Hid ((intOf (.int .i64 i') + 1).toNat = j + 1) := by show (i' + 1).toNat = j + 1; omega
    have q4 : j / 64 < 4 := by omega
    have hj : j + 1 ≤ 256 := by omega
    clear ei hk hk0
    have hA := and_one (limb (j / 64) u) (j % 64) (limb_lt _ _)
    rw [bit_at] at hA
    have hwr : IntKind.u64.wrap ((j % 64 : Nat) : Int) = ((j % 64 : Nat) : Int) := by rw [IntKind.wrap_u64]; omega
    have r6 : j % 64 < 64 := Nat.mod_lt _ (by decide)
    obtain ⟨q, eq⟩ : ∃ q, q = j / 64 := ⟨_, rfl⟩
    obtain ⟨r, er⟩ : ∃ r, r = j % 64 := ⟨_, rfl⟩
    rw [← eq] at hA hq q4
    rw [← er] at hA hwr hr r6
    obtain ⟨X, eX⟩ : ∃ X : Int, X = ((limb q u : Nat) : Int) := ⟨_, rfl⟩
    rw [← eX] at hA
    have EX := (show Hid _ from eX)
    clear eq er eX
    obtain ⟨p0, p1, p2, p3, p4, p5, p6, p7, p8, pf⟩ := bo.cells
    go_wp2_with fail
    refine (M1'.out _).mono ?_
    rintro e w6 ⟨rfl, hb6⟩
    clear p0 p1 p2 p3 p4 p5 p6 p7 p8 pf M1'
    have bk6 := bk.belowAll hb6; have bp6 := bp.belowAll hb6; have br6 := br.belowAll hb6; have bo6 := bo.belowAll hb6
    have hbw6 := bStep hbr hb6
    clear bk bp br bo hbr hb6
    obtain ⟨p0, p1, p2, p3, p4, p5, p6, p7, p8, pf⟩ := bo6.cells
    go_upto_region 12 with fail
    clear p0 p1 p2 p3 p4 p5 p6 p7 p8 pf
    obtain ⟨w7, hw7⟩ : ∃ z : World, z = (((((((((w6.setCell ⟨N7, 0, none⟩ (.int .u64 (limb 0 DX))).setCell ⟨N7, 1, none⟩ (.int .u64 (limb 1 DX))).setCell ⟨N7, 2, none⟩ (.int .u64 (limb 2 DX))).setCell ⟨N7, 3, none⟩ (.int .u64 (limb 3 DX))).setCell ⟨N7, 4, none⟩ (.int .u64 (limb 0 DY))).setCell ⟨N7, 5, none⟩ (.int .u64 (limb 1 DY))).setCell ⟨N7, 6, none⟩ (.int .u64 (limb 2 DY))).setCell ⟨N7, 7, none⟩ (.int .u64 (limb 3 DY))).setCell ⟨N7, 8, none⟩ (.bool DI)) := ⟨_, rfl⟩
    have bk7 : Blk w7 25 w.heap.size (fun i => limb i u) := by rw [hw7]; exact bk6.other9 (by omega) _ _ _ _ _ _ _ _ _ 
    have bp7 : Pt w7 (w.heap.size + 1) x y i := by rw [hw7]; exact bp6.other9 (by omega) _ _ _ _ _ _ _ _ _ 
    have br7 : Pt w7 (w.heap.size + 1 + 1) 0 0 false := by rw [hw7]; exact br6.other9 (by omega) _ _ _ _ _ _ _ _ _ 
    have bo7 : Pt w7 N7 DX DY DI := by rw [hw7]; exact bo6.set9 DX DY DI
    have hbw7 : Below w.heap.size w w7 := by rw [hw7]; exact bSet9 hbw6 (by omega) _ _ _ _ _ _ _ _ _ 
    rw [← hw7]
    clear hw7 bk6 bp6 br6 bo6 hbw6
    have cq := bk7.cell q q4
    rw [← EX.out] at cq
    rcases bitN_01 u j with hbit | hbit
    ·rw [hbit] at hA
     have EF : Hid (mulUp c x y i u (256 - j) = (DX, DY, DI)) := HS1.out (by rw [hbit]; decide)
     clear hbit HS1 HS2'
     go_wp2
     go_roundw
     case measure => rw [him.out]; simp [intOf]; have := hiN.out; omega
     case rel => exact ⟨j, DX, DY, DI, by rw [hiN.out], by omega, EF, hbw7, bk7, bp7, br7, bo7⟩
    ·rw [hbit] at hA
     have EF : Hid (mulUp c x y i u (256 - j) = (SX, SY, SI)) := HS2'.out hbit
     clear hbit HS1 HS2'
     obtain ⟨p0, p1, p2, p3, p4, p5, p6, p7, p8, pf⟩ := bo7.cells
     obtain ⟨q0, q1, q2, q3, q4, q5, q6, q7, q8, qf⟩ := bp7.cells
     go_wp2_with fail
     refine (M2''.out _).mono ?_
     rintro e w8 ⟨rfl, hb8⟩
     clear p0 p1 p2 p3 p4 p5 p6 p7 p8 pf q0 q1 q2 q3 q4 q5 q6 q7 q8 qf cq M2''
     have bk8 := bk7.belowAll hb8; have bp8 := bp7.belowAll hb8; have br8 := br7.belowAll hb8; have bo8 := bo7.belowAll hb8
     have hbw8 := bStep hbw7 hb8
     clear bk7 bp7 br7 bo7 hbw7 hb8
     obtain ⟨p0, p1, p2, p3, p4, p5, p6, p7, p8, pf⟩ := bo8.cells
     go_upto_region 10 with fail
     clear p0 p1 p2 p3 p4 p5 p6 p7 p8 pf
     obtain ⟨w9, hw9⟩ : ∃ z : World, z = (((((((((w8.setCell ⟨N7, 0, none⟩ (.int .u64 (limb 0 SX))).setCell ⟨N7, 1, none⟩ (.int .u64 (limb 1 SX))).setCell ⟨N7, 2, none⟩ (.int .u64 (limb 2 SX))).setCell ⟨N7, 3, none⟩ (.int .u64 (limb 3 SX))).setCell ⟨N7, 4, none⟩ (.int .u64 (limb 0 SY))).setCell ⟨N7, 5, none⟩ (.int .u64 (limb 1 SY))).setCell ⟨N7, 6, none⟩ (.int .u64 (limb 2 SY))).setCell ⟨N7, 7, none⟩ (.int .u64 (limb 3 SY))).setCell ⟨N7, 8, none⟩ (.bool SI)) := ⟨_, rfl⟩
     have bk9 : Blk w9 25 w.heap.size (fun i => limb i u) := by rw [hw9]; exact bk8.other9 (by omega) _ _ _ _ _ _ _ _ _ 
     have bp9 : Pt w9 (w.heap.size + 1) x y i := by rw [hw9]; exact bp8.other9 (by omega) _ _ _ _ _ _ _ _ _ 
     have br9 : Pt w9 (w.heap.size + 1 + 1) 0 0 false := by rw [hw9]; exact br8.other9 (by omega) _ _ _ _ _ _ _ _ _ 
     have bo9 : Pt w9 N7 SX SY SI := by rw [hw9]; exact bo8.set9 SX SY SI
     have hbw9 : Below w.heap.size w w9 := by rw [hw9]; exact bSet9 hbw8 (by omega) _ _ _ _ _ _ _ _ _ 
     rw [← hw9]
     clear hw9 bk8 bp8 br8 bo8 hbw8
     go_wp2
     go_roundw
     case measure => rw [him.out]; simp [intOf]; have := hiN.out; omega
     case rel => exact ⟨j, SX, SY, SI, by rw [hiN.out], by omega, EF, hbw9, bk9, bp9, br9, bo9⟩
end Go.Proofs.YtdeijnlbencfdaaGreatDoor
