/- What curve.isOdd, lift and Encode do. -/
import Derived.Test.YthkajdmcmodklaaGreatDoorJ1
import Derived.Test.YthkajdmcmodklaaGreatDoorYA
namespace Go.Proofs.YthkajdmcmodklaaGreatDoor
open Go.RowKit

theorem limb0_odd (a : Nat) : limb 0 a % 2 = a % 2 := by
  unfold limb
  rw [Nat.pow_zero, Nat.div_one]
  omega
set_option maxHeartbeats 1000000 in
theorem isOdd_any (a : Nat) (w : World) : Calls Tryz.prog 50 #[.agg #[.int .u64 ((limb 0 (a) : Nat) : Int), .int .u64 ((limb 1 (a) : Nat) : Int), .int .u64 ((limb 2 (a) : Nat) : Int), .int .u64 ((limb 3 (a) : Nat) : Int)]] w fun e w' => e = .returned (.bool (decide (a % 2 = 1))) ∧ Below w.heap.size w w' := by
  have q := limb0_odd a
  have hb : Below w.heap.size w (w.alloc (.cells #[.int .u64 ((limb 0 (a) : Nat) : Int), .int .u64 ((limb 1 (a) : Nat) : Int), .int .u64 ((limb 2 (a) : Nat) : Int), .int .u64 ((limb 3 (a) : Nat) : Int)] 24)) := (Below.refl _ _).alloc (Nat.le_refl _) _
  have ba : Blk (w.alloc (.cells #[.int .u64 ((limb 0 (a) : Nat) : Int), .int .u64 ((limb 1 (a) : Nat) : Int), .int .u64 ((limb 2 (a) : Nat) : Int), .int .u64 ((limb 3 (a) : Nat) : Int)] 24)) 24 w.heap.size (fun i => limb i a) := Blk.newAt _ _ _ (fun i => limb i a) rfl
  have ca := ba.cell
  rcases Nat.mod_two_eq_zero_or_one a with h | h
  · have e1 : ((limb 0 a : Nat) : Int) % 2 = 0 := by omega
    have e2 : ((limb 0 a : Nat) : Int).tmod 2 = 0 := by rw [Int.tmod_eq_emod_of_nonneg (by omega)]; exact e1
    rw [decide_eq_false (show ¬ a % 2 = 1 by omega)]
    clear q h
    go_enter Tryz.func50, Tryz.ntmps50
    go_wp2
    go_ret
    exact ⟨rfl, hb⟩
  · have e1 : ((limb 0 a : Nat) : Int) % 2 = 1 := by omega
    have e2 : ((limb 0 a : Nat) : Int).tmod 2 = 1 := by rw [Int.tmod_eq_emod_of_nonneg (by omega)]; exact e1
    rw [decide_eq_true h]
    clear q h
    go_enter Tryz.func50, Tryz.ntmps50
    go_wp2
    go_ret
    exact ⟨rfl, hb⟩

/-- The Y that lift takes. -/
def liftY (c x : Nat) (odd : Bool) : Nat := if odd then subP c 0 (rt c (sqY c x)) else rt c (sqY c x)
theorem liftY_lt (c x : Nat) (odd : Bool) : liftY c x odd < modN c := by
  unfold liftY
  split
  · exact Nat.mod_lt _ (modN_pos c)
  · exact rt_lt _ _

set_option maxHeartbeats 1000000 in
set_option maxRecDepth 20000 in
theorem lift_yes (c x : Nat) (odd : Bool) (hc : c < 4) (hx : x < 115792089237316195423570985008687907853269984665640564039457584007913129639936) (h : hasR c (sqY c x)) (w : World) (hg : GlobC w) : Calls Tryz.prog 46 #[.int .i64 (c : Int), .agg #[.int .u64 ((limb 0 (x) : Nat) : Int), .int .u64 ((limb 1 (x) : Nat) : Int), .int .u64 ((limb 2 (x) : Nat) : Int), .int .u64 ((limb 3 (x) : Nat) : Int)], .bool odd] w fun e w' => e = .returned (.tuple #[.agg #[.int .u64 ((limb 0 (x) : Nat) : Int), .int .u64 ((limb 1 (x) : Nat) : Int), .int .u64 ((limb 2 (x) : Nat) : Int), .int .u64 ((limb 3 (x) : Nat) : Int), .int .u64 ((limb 0 ((liftY c x odd)) : Nat) : Int), .int .u64 ((limb 1 ((liftY c x odd)) : Nat) : Int), .int .u64 ((limb 2 ((liftY c x odd)) : Nat) : Int), .int .u64 ((limb 3 ((liftY c x odd)) : Nat) : Int), .bool false], .int .i64 0]) ∧ Below w.heap.size w w' := by
  have HG0 : Hid (GlobC w) := hg
  have HQ : Hid (∀ w, GlobC w → _) := fun w hg => squareOfY_any c x hc hx w hg
  have HR : Hid (∀ w, Glob w → _) := fun w hg => sqrt_yes c (sqY c x) hc (sqY_M _ _) h w hg
  have HN : Hid (∀ w, Glob w → _) := fun w hg => fNeg_any c (rt c (sqY c x)) hc (lt_M c _ (rt_lt _ _)) w hg
  have E1 : Hid (odd = true → liftY c x odd = subP c 0 (rt c (sqY c x))) := fun h => by rw [h]; rfl
  have E2 : Hid (odd = false → liftY c x odd = rt c (sqY c x)) := fun h => by rw [h]; rfl
  obtain ⟨Y, eY⟩ : ∃ z, z = liftY c x odd := ⟨_, rfl⟩
  rw [← eY] at E1 E2 ⊢
  clear eY
  obtain ⟨r, er⟩ : ∃ z, z = rt c (sqY c x) := ⟨_, rfl⟩
  rw [← er] at HR HN E1 E2
  obtain ⟨n, en⟩ : ∃ z, z = subP c 0 r := ⟨_, rfl⟩
  rw [← en] at HN E1
  clear er en
  obtain ⟨q, eq⟩ : ∃ z, z = sqY c x := ⟨_, rfl⟩
  rw [← eq] at HQ HR
  clear eq h hg
  go_enter Tryz.func46, Tryz.ntmps46
  go_upto_region 1 with fail
  obtain ⟨w0, hw0⟩ : ∃ w0 : World, w0 = (w.alloc (.cells #[.int .u64 ((limb 0 (x) : Nat) : Int), .int .u64 ((limb 1 (x) : Nat) : Int), .int .u64 ((limb 2 (x) : Nat) : Int), .int .u64 ((limb 3 (x) : Nat) : Int)] 24)).alloc (.cells #[.int .u64 0, .int .u64 0, .int .u64 0, .int .u64 0, .int .u64 0, .int .u64 0, .int .u64 0, .int .u64 0, .bool false] 26) := ⟨_, rfl⟩
  have bx0 : Blk w0 24 w.heap.size (fun i => limb i x) := by rw [hw0]; exact (Blk.newAt _ _ _ (fun i => limb i x) rfl).alloc _
  have br0 : Pt w0 (w.heap.size + 1) 0 0 false := by rw [hw0]; exact Pt.zeroAt _ _ (by simp)
  have hbw0 : Below w.heap.size w w0 := by rw [hw0]; exact bAlloc ((Below.refl _ _).alloc (Nat.le_refl _) _) _
  have hrw : w.heap.size ≤ w.heap.size + 1 := Nat.le_succ _
  rw [← hw0]
  clear hw0
  have cx := bx0.cell
  go_wp2_with fail
  refine (HQ.out _ (HG0.out.below hbw0)).mono ?_
  rintro e w1 ⟨rfl, hb1⟩
  clear cx
  have bx1 := bx0.belowAll hb1; have br1 := br0.belowAll hb1
  have hbw1 := bStep hbw0 hb1
  clear bx0 br0 hbw0 hb1
  go_wp2_with fail
  refine (HR.out _ (HG0.out.below hbw1).1).mono ?_
  rintro e w2 ⟨rfl, hb2⟩
  have bx3 := (bx1.belowAll hb2).alloc (.cells #[.int .u64 ((limb 0 (r) : Nat) : Int), .int .u64 ((limb 1 (r) : Nat) : Int), .int .u64 ((limb 2 (r) : Nat) : Int), .int .u64 ((limb 3 (r) : Nat) : Int)] 24); have br3 := (br1.belowAll hb2).alloc (.cells #[.int .u64 ((limb 0 (r) : Nat) : Int), .int .u64 ((limb 1 (r) : Nat) : Int), .int .u64 ((limb 2 (r) : Nat) : Int), .int .u64 ((limb 3 (r) : Nat) : Int)] 24)
  have by3 : Blk (w2.alloc (.cells #[.int .u64 ((limb 0 (r) : Nat) : Int), .int .u64 ((limb 1 (r) : Nat) : Int), .int .u64 ((limb 2 (r) : Nat) : Int), .int .u64 ((limb 3 (r) : Nat) : Int)] 24)) 24 w2.heap.size (fun i => limb i r) := Blk.newAt _ _ _ (fun i => limb i r) rfl
  have hbw3 := bAlloc (bStep hbw1 hb2) (.cells #[.int .u64 ((limb 0 (r) : Nat) : Int), .int .u64 ((limb 1 (r) : Nat) : Int), .int .u64 ((limb 2 (r) : Nat) : Int), .int .u64 ((limb 3 (r) : Nat) : Int)] 24)
  have hlt : w.heap.size + 1 < w2.heap.size := (br1.belowAll hb2).lt
  clear bx1 br1 hbw1 hb2 HQ HR
  go_upto_region 2 with fail
  obtain ⟨w3, hw3⟩ : ∃ y : World, y = w2.alloc (.cells #[.int .u64 ((limb 0 (r) : Nat) : Int), .int .u64 ((limb 1 (r) : Nat) : Int), .int .u64 ((limb 2 (r) : Nat) : Int), .int .u64 ((limb 3 (r) : Nat) : Int)] 24) := ⟨_, rfl⟩
  obtain ⟨N, hN⟩ : ∃ N, N = w2.heap.size := ⟨_, rfl⟩
  rw [← hw3] at bx3 br3 by3 hbw3 ⊢
  rw [← hN] at by3 hlt ⊢
  clear hw3 hN
  cases odd with
  | false =>
    have HY : Hid (Y = r) := E2.out rfl
    clear E1 E2 HN HG0
    have cx := bx3.cell; have cy := by3.cell
    obtain ⟨r0, r1, r2, r3, r4, r5, r6, r7, r8, rf⟩ := br3.cells
    go_wp2
    refine bodyPost_ret (v := .tuple #[.agg #[.int .u64 ((limb 0 (x) : Nat) : Int), .int .u64 ((limb 1 (x) : Nat) : Int), .int .u64 ((limb 2 (x) : Nat) : Int), .int .u64 ((limb 3 (x) : Nat) : Int), .int .u64 ((limb 0 (r) : Nat) : Int), .int .u64 ((limb 1 (r) : Nat) : Int), .int .u64 ((limb 2 (r) : Nat) : Int), .int .u64 ((limb 3 (r) : Nat) : Int), .bool false], .int .i64 0]) (by simp [results, Tryz.results46, go_sem, r0, r1, r2, r3, r4, r5, r6, r7, r8]) rfl ⟨by rw [HY.out], ?_⟩
    exact bSet9 hbw3 hrw _ _ _ _ _ _ _ _ _
  | true =>
    have HY : Hid (Y = n) := E1.out rfl
    clear E1 E2
    have cy := by3.cell
    go_wp2_with fail
    refine (HN.out _ (HG0.out.below hbw3).1).mono ?_
    rintro e w4 ⟨rfl, hb4⟩
    clear cy
    have bx4 := bx3.belowAll hb4; have br4 := br3.belowAll hb4; have by4 := by3.belowAll hb4
    have hbw4 := bStep hbw3 hb4
    clear bx3 br3 by3 hbw3 hb4 HN HG0
    have cy := by4.cell; have fy := by4.frozen
    go_upto_region 6 with fail
    obtain ⟨w5, hw5⟩ : ∃ y : World, y = (((w4.setCell ⟨N, 0, none⟩ (.int .u64 ((limb 0 n : Nat) : Int))).setCell ⟨N, 1, none⟩ (.int .u64 ((limb 1 n : Nat) : Int))).setCell ⟨N, 2, none⟩ (.int .u64 ((limb 2 n : Nat) : Int))).setCell ⟨N, 3, none⟩ (.int .u64 ((limb 3 n : Nat) : Int)) := ⟨_, rfl⟩
    have bx5 : Blk w5 24 w.heap.size (fun i => limb i x) := by rw [hw5]; exact bx4.other4 (by omega) _ _ _ _
    have by5 : Blk w5 24 N (fun i => limb i n) := by rw [hw5]; exact by4.set4 (fun i => limb i n)
    have br5 : Pt w5 (w.heap.size + 1) 0 0 false := by rw [hw5]; exact br4.other4 (by omega) _ _ _ _
    have hbw5 : Below w.heap.size w w5 := by rw [hw5]; exact bSet4 hbw4 (by omega) _ _ _ _
    rw [← hw5]
    clear hw5 bx4 br4 by4 hbw4 cy fy
    have cx := bx5.cell; have cy := by5.cell
    obtain ⟨r0, r1, r2, r3, r4, r5, r6, r7, r8, rf⟩ := br5.cells
    go_wp2
    refine bodyPost_ret (v := .tuple #[.agg #[.int .u64 ((limb 0 (x) : Nat) : Int), .int .u64 ((limb 1 (x) : Nat) : Int), .int .u64 ((limb 2 (x) : Nat) : Int), .int .u64 ((limb 3 (x) : Nat) : Int), .int .u64 ((limb 0 (n) : Nat) : Int), .int .u64 ((limb 1 (n) : Nat) : Int), .int .u64 ((limb 2 (n) : Nat) : Int), .int .u64 ((limb 3 (n) : Nat) : Int), .bool false], .int .i64 0]) (by simp [results, Tryz.results46, go_sem, r0, r1, r2, r3, r4, r5, r6, r7, r8]) rfl ⟨by rw [HY.out], ?_⟩
    exact bSet9 hbw5 hrw _ _ _ _ _ _ _ _ _

set_option maxHeartbeats 1000000 in
set_option maxRecDepth 20000 in
theorem lift_no (c x : Nat) (odd : Bool) (hc : c < 4) (hx : x < 115792089237316195423570985008687907853269984665640564039457584007913129639936) (h : ¬ hasR c (sqY c x)) (w : World) (hg : GlobC w) : Calls Tryz.prog 46 #[.int .i64 (c : Int), .agg #[.int .u64 ((limb 0 (x) : Nat) : Int), .int .u64 ((limb 1 (x) : Nat) : Int), .int .u64 ((limb 2 (x) : Nat) : Int), .int .u64 ((limb 3 (x) : Nat) : Int)], .bool odd] w fun e w' => e = .returned (.tuple #[.agg #[.int .u64 ((limb 0 (0) : Nat) : Int), .int .u64 ((limb 1 (0) : Nat) : Int), .int .u64 ((limb 2 (0) : Nat) : Int), .int .u64 ((limb 3 (0) : Nat) : Int), .int .u64 ((limb 0 (0) : Nat) : Int), .int .u64 ((limb 1 (0) : Nat) : Int), .int .u64 ((limb 2 (0) : Nat) : Int), .int .u64 ((limb 3 (0) : Nat) : Int), .bool false], .int .i64 41]) ∧ Below w.heap.size w w' := by
  have HG0 : Hid (GlobC w) := hg
  have HQ : Hid (∀ w, GlobC w → _) := fun w hg => squareOfY_any c x hc hx w hg
  have HR : Hid (∀ w, Glob w → _) := fun w hg => sqrt_no c (sqY c x) hc (sqY_M _ _) h w hg
  clear HR
  obtain ⟨r, er⟩ : ∃ z : Nat, z = 0 := ⟨_, rfl⟩
  have HR : Hid (∀ w, Glob w → Calls Tryz.prog 84 #[.int .i64 (c : Int), .agg #[.int .u64 ((limb 0 (sqY c x) : Nat) : Int), .int .u64 ((limb 1 (sqY c x) : Nat) : Int), .int .u64 ((limb 2 (sqY c x) : Nat) : Int), .int .u64 ((limb 3 (sqY c x) : Nat) : Int)]] w fun e w' => e = .returned (.tuple #[.agg #[.int .u64 ((limb 0 (r) : Nat) : Int), .int .u64 ((limb 1 (r) : Nat) : Int), .int .u64 ((limb 2 (r) : Nat) : Int), .int .u64 ((limb 3 (r) : Nat) : Int)], .int .i64 22]) ∧ Below w.heap.size w w') := fun w hg => by rw [er]; exact sqrt_no c (sqY c x) hc (sqY_M _ _) h w hg
  clear er
  obtain ⟨q, eq⟩ : ∃ z, z = sqY c x := ⟨_, rfl⟩
  rw [← eq] at HQ HR
  clear eq h hg
  have hzp : (.agg #[.int .u64 ((limb 0 (0) : Nat) : Int), .int .u64 ((limb 1 (0) : Nat) : Int), .int .u64 ((limb 2 (0) : Nat) : Int), .int .u64 ((limb 3 (0) : Nat) : Int), .int .u64 ((limb 0 (0) : Nat) : Int), .int .u64 ((limb 1 (0) : Nat) : Int), .int .u64 ((limb 2 (0) : Nat) : Int), .int .u64 ((limb 3 (0) : Nat) : Int), .bool false] : Value) = .agg #[.int .u64 0, .int .u64 0, .int .u64 0, .int .u64 0, .int .u64 0, .int .u64 0, .int .u64 0, .int .u64 0, .bool false] := by rw [limb_zero, limb_zero, limb_zero, limb_zero]; rfl
  rw [hzp]
  clear hzp
  go_enter Tryz.func46, Tryz.ntmps46
  go_upto_region 1 with fail
  obtain ⟨w0, hw0⟩ : ∃ w0 : World, w0 = (w.alloc (.cells #[.int .u64 ((limb 0 (x) : Nat) : Int), .int .u64 ((limb 1 (x) : Nat) : Int), .int .u64 ((limb 2 (x) : Nat) : Int), .int .u64 ((limb 3 (x) : Nat) : Int)] 24)).alloc (.cells #[.int .u64 0, .int .u64 0, .int .u64 0, .int .u64 0, .int .u64 0, .int .u64 0, .int .u64 0, .int .u64 0, .bool false] 26) := ⟨_, rfl⟩
  have bx0 : Blk w0 24 w.heap.size (fun i => limb i x) := by rw [hw0]; exact (Blk.newAt _ _ _ (fun i => limb i x) rfl).alloc _
  have br0 : Pt w0 (w.heap.size + 1) 0 0 false := by rw [hw0]; exact Pt.zeroAt _ _ (by simp)
  have hbw0 : Below w.heap.size w w0 := by rw [hw0]; exact bAlloc ((Below.refl _ _).alloc (Nat.le_refl _) _) _
  have hrw : w.heap.size ≤ w.heap.size + 1 := Nat.le_succ _
  rw [← hw0]
  clear hw0
  have cx := bx0.cell
  go_wp2_with fail
  refine (HQ.out _ (HG0.out.below hbw0)).mono ?_
  rintro e w1 ⟨rfl, hb1⟩
  clear cx
  have bx1 := bx0.belowAll hb1; have br1 := br0.belowAll hb1
  have hbw1 := bStep hbw0 hb1
  clear bx0 br0 hbw0 hb1
  go_wp2_with fail
  refine (HR.out _ (HG0.out.below hbw1).1).mono ?_
  rintro e w2 ⟨rfl, hb2⟩
  have bx3 := (bx1.belowAll hb2).alloc (.cells #[.int .u64 ((limb 0 (r) : Nat) : Int), .int .u64 ((limb 1 (r) : Nat) : Int), .int .u64 ((limb 2 (r) : Nat) : Int), .int .u64 ((limb 3 (r) : Nat) : Int)] 24); have br3 := (br1.belowAll hb2).alloc (.cells #[.int .u64 ((limb 0 (r) : Nat) : Int), .int .u64 ((limb 1 (r) : Nat) : Int), .int .u64 ((limb 2 (r) : Nat) : Int), .int .u64 ((limb 3 (r) : Nat) : Int)] 24)
  have by3 : Blk (w2.alloc (.cells #[.int .u64 ((limb 0 (r) : Nat) : Int), .int .u64 ((limb 1 (r) : Nat) : Int), .int .u64 ((limb 2 (r) : Nat) : Int), .int .u64 ((limb 3 (r) : Nat) : Int)] 24)) 24 w2.heap.size (fun i => limb i r) := Blk.newAt _ _ _ (fun i => limb i r) rfl
  have hbw3 := bAlloc (bStep hbw1 hb2) (.cells #[.int .u64 ((limb 0 (r) : Nat) : Int), .int .u64 ((limb 1 (r) : Nat) : Int), .int .u64 ((limb 2 (r) : Nat) : Int), .int .u64 ((limb 3 (r) : Nat) : Int)] 24)
  have hlt : w.heap.size + 1 < w2.heap.size := (br1.belowAll hb2).lt
  clear bx1 br1 hbw1 hb2 HQ HR
  go_upto_region 2 with fail
  obtain ⟨w3, hw3⟩ : ∃ y : World, y = w2.alloc (.cells #[.int .u64 ((limb 0 (r) : Nat) : Int), .int .u64 ((limb 1 (r) : Nat) : Int), .int .u64 ((limb 2 (r) : Nat) : Int), .int .u64 ((limb 3 (r) : Nat) : Int)] 24) := ⟨_, rfl⟩
  obtain ⟨N, hN⟩ : ∃ N, N = w2.heap.size := ⟨_, rfl⟩
  rw [← hw3] at bx3 br3 by3 hbw3 ⊢
  rw [← hN] at by3 hlt ⊢
  clear hw3 hN
  clear HG0
  obtain ⟨r0, r1, r2, r3, r4, r5, r6, r7, r8, rf⟩ := br3.cells
  go_wp2
  refine bodyPost_ret (v := .tuple #[.agg #[.int .u64 0, .int .u64 0, .int .u64 0, .int .u64 0, .int .u64 0, .int .u64 0, .int .u64 0, .int .u64 0, .bool false], .int .i64 41]) (by simp [results, Tryz.results46, go_sem, r0, r1, r2, r3, r4, r5, r6, r7, r8]) rfl ⟨rfl, ?_⟩
  exact bSet9 hbw3 hrw _ _ _ _ _ _ _ _ _

end Go.Proofs.YthkajdmcmodklaaGreatDoor
