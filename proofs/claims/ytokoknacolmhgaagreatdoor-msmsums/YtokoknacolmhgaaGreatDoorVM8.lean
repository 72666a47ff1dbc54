import Derived.Test.YtokoknacolmhgaaGreatDoorVM7
set_option maxHeartbeats 4000000
namespace Go.Proofs.YtokoknacolmhgaaGreatDoor
open Go.RowKit
set_option maxRecDepth 20000 in
theorem ctimes_any (c k x y : Nat) (i : Bool) (hc : c < 4) (hon : onC c x y i) (w : World) (hg : GlobC w) :
  Calls Tryz.prog 48 #[.int .i64 (c : Int), .agg #[.int .u64 (limb 0 k), .int .u64 (limb 1 k), .int .u64 (limb 2 k), .int .u64 (limb 3 k)], .agg #[.int .u64 (limb 0 x), .int .u64 (limb 1 x), .int .u64 (limb 2 x), .int .u64 (limb 3 x), .int .u64 (limb 0 y), .int .u64 (limb 1 y), .int .u64 (limb 2 y), .int .u64 (limb 3 y), .bool i]] w fun e w' => e = .returned (.agg #[.int .u64 (limb 0 ((mulUp c x y i k 256).1)), .int .u64 (limb 1 ((mulUp c x y i k 256).1)), .int .u64 (limb 2 ((mulUp c x y i k 256).1)), .int .u64 (limb 3 ((mulUp c x y i k 256).1)), .int .u64 (limb 0 ((mulUp c x y i k 256).2.1)), .int .u64 (limb 1 ((mulUp c x y i k 256).2.1)), .int .u64 (limb 2 ((mulUp c x y i k 256).2.1)), .int .u64 (limb 3 ((mulUp c x y i k 256).2.1)), .bool (mulUp c x y i k 256).2.2]) ∧ Below w.heap.size w w' := by
 have HG0 : Hid (GlobC w) := hg
 have HO : Hid (∀ w, _) := fun w => jof_any x y i w
 have hJ1 := ofJ_ok hon
 have HT : Hid (∀ X Y Z, X < modN c → Y < modN c → Z < modN c → ∀ w, Glob w → _) := fun X Y Z h1 h2 h3 w hg => twice_any c X Y Z hc (lt_M c _ h1) (lt_M c _ h2) (lt_M c _ h3) w hg
 have HP : Hid (∀ X Y Z, X < modN c → Y < modN c → Z < modN c → ∀ w, Glob w → _) := fun X Y Z h1 h2 h3 w hg => plus_any c X Y Z (ofJ x y i).1 (ofJ x y i).2.1 (ofJ x y i).2.2 hc (lt_M c _ h1) (lt_M c _ h2) (lt_M c _ h3) (lt_M c _ hJ1.1) (lt_M c _ hJ1.2.1) (lt_M c _ hJ1.2.2.1) w hg
 have HB : Hid (∀ (i : Int), 0 ≤ i → i < 256 → ∀ w, _) := fun i h0 h1 w => bit_any k i h0 h1 w
 have HN : Hid (∀ X Y Z, JR c X Y Z (mulUp c x y i k 256).1 (mulUp c x y i k 256).2.1 (mulUp c x y i k 256).2.2 → ∀ w, GlobC w → _) := fun X Y Z h w hg => plain_any c X Y Z (mulUp c x y i k 256).1 (mulUp c x y i k 256).2.1 (mulUp c x y i k 256).2.2 hc (mulUp_on k hon 256) h w hg
 have HJ0 : Hid (JR c 0 0 0 (mulUp c x y i k 0).1 (mulUp c x y i k 0).2.1 (mulUp c x y i k 0).2.2) := ⟨modN_pos c, modN_pos c, modN_pos c, Or.inl ⟨rfl, rfl⟩⟩
 have HST : Hid (∀ j X Y Z, JR c X Y Z (mulUp c x y i k j).1 (mulUp c x y i k j).2.1 (mulUp c x y i k j).2.2 → ¬ bitN k (255 - j) = 1 → JR c (tw c X Y Z).1 (tw c X Y Z).2.1 (tw c X Y Z).2.2 (mulUp c x y i k (j + 1)).1 (mulUp c x y i k (j + 1)).2.1 (mulUp c x y i k (j + 1)).2.2) := fun j X Y Z h hb => by
  have := tw_ok (mulUp_on k hon j) h
  show JR c _ _ _ (stepPt c x y i (decide (bitN k (255 - j) = 1)) (mulUp c x y i k j)).1 (stepPt c x y i (decide (bitN k (255 - j) = 1)) (mulUp c x y i k j)).2.1 (stepPt c x y i (decide (bitN k (255 - j) = 1)) (mulUp c x y i k j)).2.2
  rw [decide_eq_false hb]
  exact this
 have HSP : Hid (∀ j X Y Z, JR c X Y Z (mulUp c x y i k j).1 (mulUp c x y i k j).2.1 (mulUp c x y i k j).2.2 → bitN k (255 - j) = 1 → ∀ X1 Y1 Z1, X1 = (tw c X Y Z).1 → Y1 = (tw c X Y Z).2.1 → Z1 = (tw c X Y Z).2.2 → JR c (pl c X1 Y1 Z1 (ofJ x y i).1 (ofJ x y i).2.1 (ofJ x y i).2.2).1 (pl c X1 Y1 Z1 (ofJ x y i).1 (ofJ x y i).2.1 (ofJ x y i).2.2).2.1 (pl c X1 Y1 Z1 (ofJ x y i).1 (ofJ x y i).2.1 (ofJ x y i).2.2).2.2 (mulUp c x y i k (j + 1)).1 (mulUp c x y i k (j + 1)).2.1 (mulUp c x y i k (j + 1)).2.2) := fun j X Y Z h hb X1 Y1 Z1 e1 e2 e3 => by
  have h1 := tw_ok (mulUp_on k hon j) h
  subst e1 e2 e3
  have := pl_ok (dbl_on (mulUp_on k hon j)) hon h1 hJ1
  show JR c _ _ _ (stepPt c x y i (decide (bitN k (255 - j) = 1)) (mulUp c x y i k j)).1 (stepPt c x y i (decide (bitN k (255 - j) = 1)) (mulUp c x y i k j)).2.1 (stepPt c x y i (decide (bitN k (255 - j) = 1)) (mulUp c x y i k j)).2.2
  rw [decide_eq_true hb]
  exact this
 have HTL : Hid (∀ j X Y Z, JR c X Y Z (mulUp c x y i k j).1 (mulUp c x y i k j).2.1 (mulUp c x y i k j).2.2 → (tw c X Y Z).1 < modN c ∧ (tw c X Y Z).2.1 < modN c ∧ (tw c X Y Z).2.2 < modN c) := fun j X Y Z h => by
  have h1 := tw_ok (mulUp_on k hon j) h
  exact ⟨h1.1, h1.2.1, h1.2.2.1⟩
 obtain ⟨MX, eMX⟩ : ∃ z, z = (mulUp c x y i k 256).1 := ⟨_, rfl⟩
 obtain ⟨MY, eMY⟩ : ∃ z, z = (mulUp c x y i k 256).2.1 := ⟨_, rfl⟩
 obtain ⟨MI, eMI⟩ : ∃ z, z = (mulUp c x y i k 256).2.2 := ⟨_, rfl⟩
 have HEM : Hid (MX = (mulUp c x y i k 256).1 ∧ MY = (mulUp c x y i k 256).2.1 ∧ MI = (mulUp c x y i k 256).2.2) := ⟨eMX, eMY, eMI⟩
 rw [← eMX, ← eMY, ← eMI] at HN ⊢
 clear eMX eMY eMI
 obtain ⟨U, eU⟩ : ∃ z, z = (ofJ x y i).1 := ⟨_, rfl⟩
 obtain ⟨V, eV⟩ : ∃ z, z = (ofJ x y i).2.1 := ⟨_, rfl⟩
 obtain ⟨T, eT⟩ : ∃ z, z = (ofJ x y i).2.2 := ⟨_, rfl⟩
 rw [← eU, ← eV, ← eT] at HO HP HSP
 clear hg hon hJ1 eU eV eT
 go_enter Tryz.func48, Tryz.ntmps48
 go_upto_region 1 with fail
 obtain ⟨w0, hw0⟩ : ∃ w0 : World, w0 = ((w.alloc (.cells #[.int .u64 (limb 0 k), .int .u64 (limb 1 k), .int .u64 (limb 2 k), .int .u64 (limb 3 k)] 28)).alloc (.cells #[.int .u64 (limb 0 x), .int .u64 (limb 1 x), .int .u64 (limb 2 x), .int .u64 (limb 3 x), .int .u64 (limb 0 y), .int .u64 (limb 1 y), .int .u64 (limb 2 y), .int .u64 (limb 3 y), .bool i] 30)).alloc (.cells #[.int .u64 0, .int .u64 0, .int .u64 0, .int .u64 0, .int .u64 0, .int .u64 0, .int .u64 0, .int .u64 0, .bool false] 30) := ⟨_, rfl⟩
 have bk0 : Blk w0 28 w.heap.size (fun i => limb i k) := by rw [hw0]; exact ((Blk.newAt _ _ _ (fun i => limb i k) rfl).alloc _).alloc _
 have bp0 : Pt w0 (w.heap.size + 1) x y i := by rw [hw0]; exact (Pt.newAt _ _ _ _ _ (by simp)).alloc _
 have br0 : Pt w0 (w.heap.size + 1 + 1) 0 0 false := by rw [hw0]; exact Pt.zeroAt _ _ (by simp)
 have hs0 : w0.heap.size = w.heap.size + 1 + 1 + 1 := by rw [hw0]; simp
 have hbw0 : Below w.heap.size w w0 := by rw [hw0]; exact bAlloc (bAlloc ((Below.refl _ _).alloc (Nat.le_refl _) _) _) _
 rw [← hw0]
 have HS0 := (show Hid _ from hs0)
 clear hw0 hs0
 have b71 := Jt.zeroAt w0 _ rfl
 have bk1 := bk0.alloc (.cells #[.int .u64 0, .int .u64 0, .int .u64 0, .int .u64 0, .int .u64 0, .int .u64 0, .int .u64 0, .int .u64 0, .int .u64 0, .int .u64 0, .int .u64 0, .int .u64 0] 76); have bp1 := bp0.alloc (.cells #[.int .u64 0, .int .u64 0, .int .u64 0, .int .u64 0, .int .u64 0, .int .u64 0, .int .u64 0, .int .u64 0, .int .u64 0, .int .u64 0, .int .u64 0, .int .u64 0] 76); have br1 := br0.alloc (.cells #[.int .u64 0, .int .u64 0, .int .u64 0, .int .u64 0, .int .u64 0, .int .u64 0, .int .u64 0, .int .u64 0, .int .u64 0, .int .u64 0, .int .u64 0, .int .u64 0] 76)
 have hbw1 := bAlloc hbw0 (.cells #[.int .u64 0, .int .u64 0, .int .u64 0, .int .u64 0, .int .u64 0, .int .u64 0, .int .u64 0, .int .u64 0, .int .u64 0, .int .u64 0, .int .u64 0, .int .u64 0] 76)
 go_upto_region 2 with fail
 obtain ⟨N7, hN7⟩ : ∃ N, N = w0.heap.size := ⟨_, rfl⟩
 obtain ⟨w1, hw1⟩ : ∃ WW : World, WW = w0.alloc (.cells #[.int .u64 0, .int .u64 0, .int .u64 0, .int .u64 0, .int .u64 0, .int .u64 0, .int .u64 0, .int .u64 0, .int .u64 0, .int .u64 0, .int .u64 0, .int .u64 0] 76) := ⟨_, rfl⟩
 rw [← hw1] at b71 bk1 bp1 br1 hbw1 ⊢
 rw [← hN7] at b71 ⊢
 have lN7 : w.heap.size + 1 + 1 < N7 := by have := HS0.out; omega
 clear hw1 hN7 bk0 bp0 br0 hbw0 HS0
 obtain ⟨p0, p1, p2, p3, p4, p5, p6, p7, p8, pf⟩ := bp1.cells
 go_wp2_with fail
 refine (HO.out _).mono ?_
 rintro e w2 ⟨rfl, hb2⟩
 clear p0 p1 p2 p3 p4 p5 p6 p7 p8 pf bp1 HO
 have b73 := (b71.belowAll hb2).alloc (.cells #[.int .u64 (limb 0 U), .int .u64 (limb 1 U), .int .u64 (limb 2 U), .int .u64 (limb 3 U), .int .u64 (limb 0 V), .int .u64 (limb 1 V), .int .u64 (limb 2 V), .int .u64 (limb 3 V), .int .u64 (limb 0 T), .int .u64 (limb 1 T), .int .u64 (limb 2 T), .int .u64 (limb 3 T)] 76); have bk3 := (bk1.belowAll hb2).alloc (.cells #[.int .u64 (limb 0 U), .int .u64 (limb 1 U), .int .u64 (limb 2 U), .int .u64 (limb 3 U), .int .u64 (limb 0 V), .int .u64 (limb 1 V), .int .u64 (limb 2 V), .int .u64 (limb 3 V), .int .u64 (limb 0 T), .int .u64 (limb 1 T), .int .u64 (limb 2 T), .int .u64 (limb 3 T)] 76); have br3 := (br1.belowAll hb2).alloc (.cells #[.int .u64 (limb 0 U), .int .u64 (limb 1 U), .int .u64 (limb 2 U), .int .u64 (limb 3 U), .int .u64 (limb 0 V), .int .u64 (limb 1 V), .int .u64 (limb 2 V), .int .u64 (limb 3 V), .int .u64 (limb 0 T), .int .u64 (limb 1 T), .int .u64 (limb 2 T), .int .u64 (limb 3 T)] 76)
 have b83 : Jt (w2.alloc (.cells #[.int .u64 (limb 0 U), .int .u64 (limb 1 U), .int .u64 (limb 2 U), .int .u64 (limb 3 U), .int .u64 (limb 0 V), .int .u64 (limb 1 V), .int .u64 (limb 2 V), .int .u64 (limb 3 V), .int .u64 (limb 0 T), .int .u64 (limb 1 T), .int .u64 (limb 2 T), .int .u64 (limb 3 T)] 76)) w2.heap.size U V T := Jt.newAt _ _ _ _ _ rfl
 have lN8 := (b71.belowAll hb2).lt
 have hbw3 := bAlloc (bStep hbw1 hb2) (.cells #[.int .u64 (limb 0 U), .int .u64 (limb 1 U), .int .u64 (limb 2 U), .int .u64 (limb 3 U), .int .u64 (limb 0 V), .int .u64 (limb 1 V), .int .u64 (limb 2 V), .int .u64 (limb 3 V), .int .u64 (limb 0 T), .int .u64 (limb 1 T), .int .u64 (limb 2 T), .int .u64 (limb 3 T)] 76)
 go_upto_region 3 with fail
 obtain ⟨N8, hN8⟩ : ∃ N, N = w2.heap.size := ⟨_, rfl⟩
 obtain ⟨w3, hw3⟩ : ∃ WW : World, WW = w2.alloc (.cells #[.int .u64 (limb 0 U), .int .u64 (limb 1 U), .int .u64 (limb 2 U), .int .u64 (limb 3 U), .int .u64 (limb 0 V), .int .u64 (limb 1 V), .int .u64 (limb 2 V), .int .u64 (limb 3 V), .int .u64 (limb 0 T), .int .u64 (limb 1 T), .int .u64 (limb 2 T), .int .u64 (limb 3 T)] 76) := ⟨_, rfl⟩
 rw [← hw3] at b73 bk3 br3 b83 hbw3 ⊢
 rw [← hN8] at b83 lN8 ⊢
 clear hw3 hN8 b71 bk1 br1 hbw1 hb2
 go_wp2
 go_loopw [12] (fun iv wr => ∃ (j X Y Z : Nat), iv = .int .i64 (j : Int) ∧ j ≤ 256 ∧ Hid (JR c X Y Z (mulUp c x y i k j).1 (mulUp c x y i k j).2.1 (mulUp c x y i k j).2.2) ∧ Below w.heap.size w wr ∧ Jt wr N7 X Y Z ∧ Blk wr 28 w.heap.size (fun i => limb i k) ∧ Pt wr (w.heap.size + 1 + 1) 0 0 false ∧ Jt wr N8 U V T) (fun iv _ => 256 - (intOf iv).toNat)
 case atStart => exact ⟨0, 0, 0, 0, rfl, by decide, HJ0.out, hbw3, b73, bk3, br3, b83⟩
 case round =>
  obtain ⟨j, X, Y, Z, rfl, hj, HX, hbr, b7, bk, br, b8⟩ := hrel
  clear b73 bk3 br3 b83 hbw3 HJ0
  by_cases hlt : j < 256
  ·have hki : (j : Int) < 256 := by omega
   have HT1 := (show Hid _ from HT.out X Y Z HX.out.1 HX.out.2.1 HX.out.2.2.1)
   obtain ⟨X1, e1⟩ : ∃ z, z = (tw c X Y Z).1 := ⟨_, rfl⟩
   obtain ⟨Y1, e2⟩ : ∃ z, z = (tw c X Y Z).2.1 := ⟨_, rfl⟩
   obtain ⟨Z1, e3⟩ : ∃ z, z = (tw c X Y Z).2.2 := ⟨_, rfl⟩
   have HTL1 := (show Hid _ from HTL.out j X Y Z HX.out)
   have HE1 : Hid (X1 = (tw c X Y Z).1 ∧ Y1 = (tw c X Y Z).2.1 ∧ Z1 = (tw c X Y Z).2.2) := ⟨e1, e2, e3⟩
   rw [← e1, ← e2, ← e3] at HT1 HTL1
   clear e1 e2 e3
   have HGr : Hid (Glob wr) := (HG0.out.below hbr).1
   obtain ⟨q0, q1, q2, q3, q4, q5, q6, q7, q8, q9, q10, q11, qf⟩ := b7.cells
   go_wp2_with fail
   refine (HT1.out _ HGr.out).mono ?_
   rintro e w4 ⟨rfl, hb4⟩
   clear q0 q1 q2 q3 q4 q5 q6 q7 q8 q9 q10 q11 qf HGr HT1
   have b74 := b7.belowAll hb4; have bk4 := bk.belowAll hb4; have br4 := br.belowAll hb4; have b84 := b8.belowAll hb4
   have hbw4 := bStep hbr hb4
   clear b7 bk br b8 hbr hb4
   obtain ⟨q0, q1, q2, q3, q4, q5, q6, q7, q8, q9, q10, q11, qf⟩ := b74.cells
   go_upto_region 7 with fail
   clear q0 q1 q2 q3 q4 q5 q6 q7 q8 q9 q10 q11 qf
   obtain ⟨w5, hw5⟩ : ∃ WW : World, WW = ((((((((((((w4.setCell ⟨N7, 0, none⟩ (.int .u64 (limb 0 X1))).setCell ⟨N7, 1, none⟩ (.int .u64 (limb 1 X1))).setCell ⟨N7, 2, none⟩ (.int .u64 (limb 2 X1))).setCell ⟨N7, 3, none⟩ (.int .u64 (limb 3 X1))).setCell ⟨N7, 4, none⟩ (.int .u64 (limb 0 Y1))).setCell ⟨N7, 5, none⟩ (.int .u64 (limb 1 Y1))).setCell ⟨N7, 6, none⟩ (.int .u64 (limb 2 Y1))).setCell ⟨N7, 7, none⟩ (.int .u64 (limb 3 Y1))).setCell ⟨N7, 8, none⟩ (.int .u64 (limb 0 Z1))).setCell ⟨N7, 9, none⟩ (.int .u64 (limb 1 Z1))).setCell ⟨N7, 10, none⟩ (.int .u64 (limb 2 Z1))).setCell ⟨N7, 11, none⟩ (.int .u64 (limb 3 Z1))) := ⟨_, rfl⟩
   have b75 : Jt w5 N7 X1 Y1 Z1 := by rw [hw5]; exact b74.set12 X1 Y1 Z1
   have bk5 : Blk w5 28 w.heap.size (fun i => limb i k) := by rw [hw5]; exact bk4.other12 (by omega) _ _ _ _ _ _ _ _ _ _ _ _ 
   have br5 : Pt w5 (w.heap.size + 1 + 1) 0 0 false := by rw [hw5]; exact br4.other12 (by omega) _ _ _ _ _ _ _ _ _ _ _ _ 
   have b85 : Jt w5 N8 U V T := by rw [hw5]; exact b84.other12 (by omega) _ _ _ _ _ _ _ _ _ _ _ _ 
   have hbw5 : Below w.heap.size w w5 := by rw [hw5]; exact bSet12 hbw4 (by omega) _ _ _ _ _ _ _ _ _ _ _ _ 
   rw [← hw5]
   clear hw5 b74 bk4 br4 b84 hbw4
   have ck := bk5.cell
   have hsub : (255 : Int) - (j : Int) = ((255 - j : Nat) : Int) := by omega
   have HBi := HB.out ((255 - j : Nat) : Int) (by omega) (by omega)
   rw [Int.toNat_natCast] at HBi
   obtain ⟨d, ed⟩ : ∃ d, d = 255 - j := ⟨_, rfl⟩
   rw [← ed] at hsub HBi
   have hd : d ≤ 255 := by omega
   have HD := (show Hid _ from ed)
   have HBB := (show Hid _ from HBi)
   clear HBi ed
   by_cases hd0 : bitN k d = 1
   ·rw [decide_eq_true hd0] at HBB
    have HJ2 : Hid (JR c (pl c X1 Y1 Z1 U V T).1 (pl c X1 Y1 Z1 U V T).2.1 (pl c X1 Y1 Z1 U V T).2.2 (mulUp c x y i k (j + 1)).1 (mulUp c x y i k (j + 1)).2.1 (mulUp c x y i k (j + 1)).2.2) := HSP.out j X Y Z HX.out (by rw [← HD.out]; exact hd0) X1 Y1 Z1 HE1.out.1 HE1.out.2.1 HE1.out.2.2
    have HP1 := (show Hid _ from HP.out X1 Y1 Z1 HTL1.out.1 HTL1.out.2.1 HTL1.out.2.2)
    obtain ⟨X2, e4⟩ : ∃ z, z = (pl c X1 Y1 Z1 U V T).1 := ⟨_, rfl⟩
    obtain ⟨Y2, e5⟩ : ∃ z, z = (pl c X1 Y1 Z1 U V T).2.1 := ⟨_, rfl⟩
    obtain ⟨Z2, e6⟩ : ∃ z, z = (pl c X1 Y1 Z1 U V T).2.2 := ⟨_, rfl⟩
    rw [← e4, ← e5, ← e6] at HJ2 HP1
    clear e4 e5 e6 hd0 HD HE1 HTL1 HX
    go_wp2_with fail
    refine (HBB.out _).mono ?_
    rintro e w6 ⟨rfl, hb6⟩
    clear ck
    have b76 := b75.belowAll hb6; have bk6 := bk5.belowAll hb6; have br6 := br5.belowAll hb6; have b86 := b85.belowAll hb6
    have hbw6 := bStep hbw5 hb6
    clear b75 bk5 br5 b85 hbw5 hb6
    have HG6 : Hid (Glob w6) := (HG0.out.below hbw6).1
    obtain ⟨q0, q1, q2, q3, q4, q5, q6, q7, q8, q9, q10, q11, qf⟩ := b76.cells
    obtain ⟨s0, s1, s2, s3, s4, s5, s6, s7, s8, s9, s10, s11, sf⟩ := b86.cells
    go_wp2_with fail
    refine (HP1.out _ HG6.out).mono ?_
    rintro e w7 ⟨rfl, hb7⟩
    clear q0 q1 q2 q3 q4 q5 q6 q7 q8 q9 q10 q11 qf s0 s1 s2 s3 s4 s5 s6 s7 s8 s9 s10 s11 sf HG6 HP1
    obtain ⟨q0, q1, q2, q3, q4, q5, q6, q7, q8, q9, q10, q11, qf⟩ := (b76.belowAll hb7).cells
    go_upto_region 9 with fail
    clear q0 q1 q2 q3 q4 q5 q6 q7 q8 q9 q10 q11 qf
    obtain ⟨w8, hw8⟩ : ∃ WW : World, WW = ((((((((((((w7.setCell ⟨N7, 0, none⟩ (.int .u64 (limb 0 X2))).setCell ⟨N7, 1, none⟩ (.int .u64 (limb 1 X2))).setCell ⟨N7, 2, none⟩ (.int .u64 (limb 2 X2))).setCell ⟨N7, 3, none⟩ (.int .u64 (limb 3 X2))).setCell ⟨N7, 4, none⟩ (.int .u64 (limb 0 Y2))).setCell ⟨N7, 5, none⟩ (.int .u64 (limb 1 Y2))).setCell ⟨N7, 6, none⟩ (.int .u64 (limb 2 Y2))).setCell ⟨N7, 7, none⟩ (.int .u64 (limb 3 Y2))).setCell ⟨N7, 8, none⟩ (.int .u64 (limb 0 Z2))).setCell ⟨N7, 9, none⟩ (.int .u64 (limb 1 Z2))).setCell ⟨N7, 10, none⟩ (.int .u64 (limb 2 Z2))).setCell ⟨N7, 11, none⟩ (.int .u64 (limb 3 Z2))) := ⟨_, rfl⟩
    have b78 : Jt w8 N7 X2 Y2 Z2 := by rw [hw8]; exact (b76.belowAll hb7).set12 X2 Y2 Z2
    have bk8 : Blk w8 28 w.heap.size (fun i => limb i k) := by rw [hw8]; exact (bk6.belowAll hb7).other12 (by omega) _ _ _ _ _ _ _ _ _ _ _ _ 
    have br8 : Pt w8 (w.heap.size + 1 + 1) 0 0 false := by rw [hw8]; exact (br6.belowAll hb7).other12 (by omega) _ _ _ _ _ _ _ _ _ _ _ _ 
    have b88 : Jt w8 N8 U V T := by rw [hw8]; exact (b86.belowAll hb7).other12 (by omega) _ _ _ _ _ _ _ _ _ _ _ _ 
    have hbw8 : Below w.heap.size w w8 := by rw [hw8]; exact bSet12 (bStep hbw6 hb7) (by omega) _ _ _ _ _ _ _ _ _ _ _ _ 
    rw [← hw8]
    clear hw8 b76 bk6 br6 b86 hbw6 hb7
    go_wp2
    go_roundw
    case measure => simp [intOf]; omega
    case rel => exact ⟨j + 1, X2, Y2, Z2, by go_num, by omega, HJ2, hbw8, b78, bk8, br8, b88⟩
   ·rw [decide_eq_false hd0] at HBB
    have HJ1 : Hid (JR c (tw c X Y Z).1 (tw c X Y Z).2.1 (tw c X Y Z).2.2 (mulUp c x y i k (j + 1)).1 (mulUp c x y i k (j + 1)).2.1 (mulUp c x y i k (j + 1)).2.2) := HST.out j X Y Z HX.out (by rw [← HD.out]; exact hd0)
    rw [← HE1.out.1, ← HE1.out.2.1, ← HE1.out.2.2] at HJ1
    clear hd0 HD HX HE1 HTL1
    go_wp2_with fail
    refine (HBB.out _).mono ?_
    rintro e w6 ⟨rfl, hb6⟩
    clear ck
    have b76 := b75.belowAll hb6; have bk6 := bk5.belowAll hb6; have br6 := br5.belowAll hb6; have b86 := b85.belowAll hb6
    have hbw6 := bStep hbw5 hb6
    clear b75 bk5 br5 b85 hbw5 hb6
    go_wp2
    go_roundw
    case measure => simp [intOf]; omega
    case rel => exact ⟨j + 1, X1, Y1, Z1, by go_num, by omega, HJ1, hbw6, b76, bk6, br6, b86⟩
  ·have hki : ¬ (j : Int) < 256 := by omega
   have HGr : Hid (GlobC wr) := HG0.out.below hbr
   have hj2 : j = 256 := by omega
   rw [hj2] at HX
   have HN1 := (show Hid _ from HN.out X Y Z (by rw [HEM.out.1, HEM.out.2.1, HEM.out.2.2]; exact HX.out))
   clear HX hlt hj2 HEM
   obtain ⟨q0, q1, q2, q3, q4, q5, q6, q7, q8, q9, q10, q11, qf⟩ := b7.cells
   go_wp2_with fail
   refine (HN1.out _ HGr.out).mono ?_
   rintro e w5 ⟨rfl, hb5⟩
   clear q0 q1 q2 q3 q4 q5 q6 q7 q8 q9 q10 q11 qf
   obtain ⟨r0, r1, r2, r3, r4, r5, r6, r7, r8, rf⟩ := (br.belowAll hb5).cells
   go_wp2
   (try simp only [Exit.inBlock, Exit.then])
   refine bodyPost_ret (v := .agg #[.int .u64 (limb 0 MX), .int .u64 (limb 1 MX), .int .u64 (limb 2 MX), .int .u64 (limb 3 MX), .int .u64 (limb 0 MY), .int .u64 (limb 1 MY), .int .u64 (limb 2 MY), .int .u64 (limb 3 MY), .bool MI]) (by simp [results, Tryz.results48, go_sem, r0, r1, r2, r3, r4, r5, r6, r7, r8]) rfl ⟨rfl, ?_⟩
   exact bSet9 (bStep hbr hb5) (by omega) _ _ _ _ _ _ _ _ _
def xc (c : Nat) : Nat := if c % 2 = 0 then c + 1 else c - 1
theorem xc_lt {c : Nat} (h : c < 4) : xc c < 4 := by unfold xc; split <;> omega
theorem xor_c (c : Nat) (h : c < 4) : bits BinOp.xor IntKind.i64 (c : Int) 1 = ((xc c : Nat) : Int) := by
 have : c = 0 ∨ c = 1 ∨ c = 2 ∨ c = 3 := by omega
 rcases this with rfl | rfl | rfl | rfl <;> decide
set_option maxRecDepth 20000 in
theorem mul_on (c k x y : Nat) (i : Bool) (hc : c < 4) (hk : k < 115792089237316195423570985008687907853269984665640564039457584007913129639936) (hx : x < 115792089237316195423570985008687907853269984665640564039457584007913129639936) (hy : y < 115792089237316195423570985008687907853269984665640564039457584007913129639936) (hon : onC c x y i) (w : World) (hg : GlobC w) :
  Calls Tryz.prog 25 #[.int .i64 (c : Int), .agg #[.int .u64 (limb 0 k), .int .u64 (limb 1 k), .int .u64 (limb 2 k), .int .u64 (limb 3 k)], .agg #[.int .u64 (limb 0 x), .int .u64 (limb 1 x), .int .u64 (limb 2 x), .int .u64 (limb 3 x), .int .u64 (limb 0 y), .int .u64 (limb 1 y), .int .u64 (limb 2 y), .int .u64 (limb 3 y), .bool i]] w fun e w' => e = .returned (.agg #[.int .u64 ((limb 0 ((mulUp c x y i (k % modN (xc c)) 256).1) : Nat) : Int), .int .u64 ((limb 1 ((mulUp c x y i (k % modN (xc c)) 256).1) : Nat) : Int), .int .u64 ((limb 2 ((mulUp c x y i (k % modN (xc c)) 256).1) : Nat) : Int), .int .u64 ((limb 3 ((mulUp c x y i (k % modN (xc c)) 256).1) : Nat) : Int), .int .u64 ((limb 0 ((mulUp c x y i (k % modN (xc c)) 256).2.1) : Nat) : Int), .int .u64 ((limb 1 ((mulUp c x y i (k % modN (xc c)) 256).2.1) : Nat) : Int), .int .u64 ((limb 2 ((mulUp c x y i (k % modN (xc c)) 256).2.1) : Nat) : Int), .int .u64 ((limb 3 ((mulUp c x y i (k % modN (xc c)) 256).2.1) : Nat) : Int), .bool (mulUp c x y i (k % modN (xc c)) 256).2.2]) ∧ Below w.heap.size w w' := by
 have HG0 : Hid (GlobC w) := hg
 have HON : Hid (∀ w, GlobC w → _) := fun w hg => on_in c x y i hc hx hy w hg
 rw [decide_eq_true hon] at HON
 have HM : Hid (∀ w, Glob w → _) := fun w hg => fModulus_any (xc c) (xc_lt hc) w hg
 have HR : Hid (∀ w, _) := fun w => rem_low k (modN (xc c)) hk (modN_good (xc c)).lt.2.2 (by have := modN_pos (xc c); omega) w
 have HT : Hid (∀ w, GlobC w → _) := fun w hg => ctimes_any c (k % modN (xc c)) x y i hc hon w hg
 have X01 := xor_c c hc
 obtain ⟨MX, eMX⟩ : ∃ z, z = (mulUp c x y i (k % modN (xc c)) 256).1 := ⟨_, rfl⟩
 obtain ⟨MY, eMY⟩ : ∃ z, z = (mulUp c x y i (k % modN (xc c)) 256).2.1 := ⟨_, rfl⟩
 obtain ⟨MI, eMI⟩ : ∃ z, z = (mulUp c x y i (k % modN (xc c)) 256).2.2 := ⟨_, rfl⟩
 rw [← eMX, ← eMY, ← eMI] at HT ⊢
 obtain ⟨m, em⟩ : ∃ m, m = modN (xc c) := ⟨_, rfl⟩
 rw [← em] at HM HR HT
 obtain ⟨u, eu⟩ : ∃ u, u = k % m := ⟨_, rfl⟩
 rw [← eu] at HR HT
 obtain ⟨d, ed⟩ : ∃ d, d = xc c := ⟨_, rfl⟩
 rw [← ed] at HM X01
 clear eMX eMY eMI em eu ed hg hc hk hx hy hon
 go_enter Tryz.func25, Tryz.ntmps25
 go_upto_region 1 with fail
 obtain ⟨w0, hw0⟩ : ∃ w0 : World, w0 = ((w.alloc (.cells #[.int .u64 (limb 0 k), .int .u64 (limb 1 k), .int .u64 (limb 2 k), .int .u64 (limb 3 k)] 28)).alloc (.cells #[.int .u64 (limb 0 x), .int .u64 (limb 1 x), .int .u64 (limb 2 x), .int .u64 (limb 3 x), .int .u64 (limb 0 y), .int .u64 (limb 1 y), .int .u64 (limb 2 y), .int .u64 (limb 3 y), .bool i] 30)).alloc (.cells #[.int .u64 0, .int .u64 0, .int .u64 0, .int .u64 0, .int .u64 0, .int .u64 0, .int .u64 0, .int .u64 0, .bool false] 30) := ⟨_, rfl⟩
 have bk0 : Blk w0 28 w.heap.size (fun i => limb i k) := by rw [hw0]; exact ((Blk.newAt _ _ _ (fun i => limb i k) rfl).alloc _).alloc _
 have bp0 : Pt w0 (w.heap.size + 1) x y i := by rw [hw0]; exact (Pt.newAt _ _ _ _ _ (by simp)).alloc _
 have br0 : Pt w0 (w.heap.size + 1 + 1) 0 0 false := by rw [hw0]; exact Pt.zeroAt _ _ (by simp)
 have hbw0 : Below w.heap.size w w0 := by rw [hw0]; exact bAlloc (bAlloc ((Below.refl _ _).alloc (Nat.le_refl _) _) _) _
 have HGa : Hid (GlobC w0) := HG0.out.below hbw0
 rw [← hw0]
 clear hw0
 obtain ⟨p0, p1, p2, p3, p4, p5, p6, p7, p8, pf⟩ := bp0.cells
 go_wp2_with fail
 refine (HON.out _ HGa.out).mono ?_
 rintro e w1 ⟨rfl, hb1⟩
 clear p0 p1 p2 p3 p4 p5 p6 p7 p8 pf HON
 have bk1 := bk0.belowAll hb1; have bp1 := bp0.belowAll hb1; have br1 := br0.belowAll hb1
 have hbw1 := bStep hbw0 hb1
 have HG1 : Hid (GlobC w1) := HG0.out.below hbw1
 clear bk0 bp0 br0 hbw0 hb1 HGa
 go_wp2_with fail
 refine (HM.out _ HG1.out.1).mono ?_
 rintro e w2 ⟨rfl, hb2⟩
 have bk3 := (bk1.belowAll hb2).alloc (.cells #[.int .u64 (limb 0 m), .int .u64 (limb 1 m), .int .u64 (limb 2 m), .int .u64 (limb 3 m)] 28); have bp3 := (bp1.belowAll hb2).alloc (.cells #[.int .u64 (limb 0 m), .int .u64 (limb 1 m), .int .u64 (limb 2 m), .int .u64 (limb 3 m)] 28); have br3 := (br1.belowAll hb2).alloc (.cells #[.int .u64 (limb 0 m), .int .u64 (limb 1 m), .int .u64 (limb 2 m), .int .u64 (limb 3 m)] 28)
 have bm3 : Blk (w2.alloc (.cells #[.int .u64 (limb 0 m), .int .u64 (limb 1 m), .int .u64 (limb 2 m), .int .u64 (limb 3 m)] 28)) 28 w2.heap.size (fun i => limb i m) := Blk.newAt _ _ _ (fun i => limb i m) rfl
 have hbw3 := bAlloc (bStep hbw1 hb2) (.cells #[.int .u64 (limb 0 m), .int .u64 (limb 1 m), .int .u64 (limb 2 m), .int .u64 (limb 3 m)] 28)
 clear bk1 bp1 br1 hbw1 hb2 HG1 HM X01
 go_upto_region 4 with fail
 obtain ⟨w3, hw3⟩ : ∃ WW : World, WW = w2.alloc (.cells #[.int .u64 (limb 0 m), .int .u64 (limb 1 m), .int .u64 (limb 2 m), .int .u64 (limb 3 m)] 28) := ⟨_, rfl⟩
 obtain ⟨N7, hN7⟩ : ∃ N, N = w2.heap.size := ⟨_, rfl⟩
 rw [← hw3] at bk3 bp3 br3 bm3 hbw3 ⊢
 rw [← hN7] at bm3 ⊢
 clear hw3 hN7
 have ck := bk3.cell; have cm := bm3.cell
 go_wp2_with fail
 refine (HR.out _).mono ?_
 rintro e w4 ⟨rfl, hb4⟩
 clear ck cm
 have bp5 := (bp3.belowAll hb4).alloc (.cells #[.int .u64 (limb 0 u), .int .u64 (limb 1 u), .int .u64 (limb 2 u), .int .u64 (limb 3 u)] 28); have br5 := (br3.belowAll hb4).alloc (.cells #[.int .u64 (limb 0 u), .int .u64 (limb 1 u), .int .u64 (limb 2 u), .int .u64 (limb 3 u)] 28)
 have bu5 : Blk (w4.alloc (.cells #[.int .u64 (limb 0 u), .int .u64 (limb 1 u), .int .u64 (limb 2 u), .int .u64 (limb 3 u)] 28)) 28 w4.heap.size (fun i => limb i u) := Blk.newAt _ _ _ (fun i => limb i u) rfl
 have hbw5 := bAlloc (bStep hbw3 hb4) (.cells #[.int .u64 (limb 0 u), .int .u64 (limb 1 u), .int .u64 (limb 2 u), .int .u64 (limb 3 u)] 28)
 clear bk3 bp3 br3 bm3 hbw3 hb4 HR
 go_upto_region 5 with fail
 obtain ⟨w5, hw5⟩ : ∃ WW : World, WW = w4.alloc (.cells #[.int .u64 (limb 0 u), .int .u64 (limb 1 u), .int .u64 (limb 2 u), .int .u64 (limb 3 u)] 28) := ⟨_, rfl⟩
 obtain ⟨N9, hN9⟩ : ∃ N, N = w4.heap.size := ⟨_, rfl⟩
 rw [← hw5] at bp5 br5 bu5 hbw5 ⊢
 rw [← hN9] at bu5 ⊢
 clear hw5 hN9
 have HG5 : Hid (GlobC w5) := HG0.out.below hbw5
 have cu := bu5.cell
 obtain ⟨p0, p1, p2, p3, p4, p5, p6, p7, p8, pf⟩ := bp5.cells
 go_wp2_with fail
 refine (HT.out _ HG5.out).mono ?_
 rintro e w6 ⟨rfl, hb6⟩
 clear p0 p1 p2 p3 p4 p5 p6 p7 p8 pf cu
 obtain ⟨r0, r1, r2, r3, r4, r5, r6, r7, r8, rf⟩ := (br5.belowAll hb6).cells
 go_wp2
 refine bodyPost_ret (v := .agg #[.int .u64 (limb 0 MX), .int .u64 (limb 1 MX), .int .u64 (limb 2 MX), .int .u64 (limb 3 MX), .int .u64 (limb 0 MY), .int .u64 (limb 1 MY), .int .u64 (limb 2 MY), .int .u64 (limb 3 MY), .bool MI]) (by simp [results, Tryz.results25, go_sem, r0, r1, r2, r3, r4, r5, r6, r7, r8]) rfl ⟨rfl, ?_⟩
 exact bSet9 (bStep hbw5 hb6) (by omega) _ _ _ _ _ _ _ _ _
end Go.Proofs.YtokoknacolmhgaaGreatDoor
