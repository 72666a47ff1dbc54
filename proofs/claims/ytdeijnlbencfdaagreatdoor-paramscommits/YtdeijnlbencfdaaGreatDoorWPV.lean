import Derived.Test.YtdeijnlbencfdaaGreatDoorWSE
import Derived.Test.YtdeijnlbencfdaaGreatDoorWM9
set_option maxHeartbeats 4000000
namespace Go.Proofs.YtdeijnlbencfdaaGreatDoor
open Go.RowKit
theorem onT_lt {c x y : Nat} {i : Bool} (h : onC c x y i) : x < 115792089237316195423570985008687907853269984665640564039457584007913129639936 ∧ y < 115792089237316195423570985008687907853269984665640564039457584007913129639936 := ⟨lt_M c _ (on_lt h).1, lt_M c _ (on_lt h).2⟩
theorem raddT (c x y u v : Nat) (i j : Bool) (hc : c < 4) (h1 : onC c x y i) (h2 : onC c u v j) (w : World) :
  Calls Tryz.prog 124 #[.int .i64 (c : Int), .agg #[.int .u64 (limb 0 x), .int .u64 (limb 1 x), .int .u64 (limb 2 x), .int .u64 (limb 3 x), .int .u64 (limb 0 y), .int .u64 (limb 1 y), .int .u64 (limb 2 y), .int .u64 (limb 3 y), .bool i], .agg #[.int .u64 (limb 0 u), .int .u64 (limb 1 u), .int .u64 (limb 2 u), .int .u64 (limb 3 u), .int .u64 (limb 0 v), .int .u64 (limb 1 v), .int .u64 (limb 2 v), .int .u64 (limb 3 v), .bool j]] w fun e w' => (∃ a b k, e = .returned (.agg #[.int .u64 (limb 0 a), .int .u64 (limb 1 a), .int .u64 (limb 2 a), .int .u64 (limb 3 a), .int .u64 (limb 0 b), .int .u64 (limb 1 b), .int .u64 (limb 2 b), .int .u64 (limb 3 b), .bool k]) ∧ (a, b, k) = ad c (x, y, i) (u, v, j)) ∧ Below w.heap.size w w' := by
 refine (radd_in c x y u v i j hc (onT_lt h1).1 (onT_lt h1).2 (onT_lt h2).1 (onT_lt h2).2 w).mono ?_
 rintro e w' ⟨rfl, hb⟩
 refine ⟨⟨_, _, _, rfl, ?_⟩, hb⟩
 unfold raddPt ad
 rw [if_neg (fun h => by rcases h with h | h; exact h h1; exact h h2)]
theorem rmulT (c k x y : Nat) (i : Bool) (hc : c < 4) (hk : k < 115792089237316195423570985008687907853269984665640564039457584007913129639936) (h : onC c x y i) (w : World) :
  Calls Tryz.prog 125 #[.int .i64 (c : Int), .agg #[.int .u64 (limb 0 k), .int .u64 (limb 1 k), .int .u64 (limb 2 k), .int .u64 (limb 3 k)], .agg #[.int .u64 (limb 0 x), .int .u64 (limb 1 x), .int .u64 (limb 2 x), .int .u64 (limb 3 x), .int .u64 (limb 0 y), .int .u64 (limb 1 y), .int .u64 (limb 2 y), .int .u64 (limb 3 y), .bool i]] w fun e w' => (∃ a b j, e = .returned (.agg #[.int .u64 (limb 0 a), .int .u64 (limb 1 a), .int .u64 (limb 2 a), .int .u64 (limb 3 a), .int .u64 (limb 0 b), .int .u64 (limb 1 b), .int .u64 (limb 2 b), .int .u64 (limb 3 b), .bool j]) ∧ (a, b, j) = sm c (x, y, i) (k % modN (xc c))) ∧ Below w.heap.size w w' := by
 refine (rmul_on c k x y i hc hk (onT_lt h).1 (onT_lt h).2 h w).mono ?_
 rintro e w' ⟨rfl, hb⟩
 refine ⟨⟨_, _, _, rfl, ?_⟩, hb⟩
 rw [mulUp_all h _ (Nat.lt_trans (Nat.mod_lt _ (modN_pos _)) (modN_lt _))]
theorem pk9 {w0 w : World} {m A R x y u v : Nat} {i j : Bool} (h : Pt w A x y i) (hR : Pt w R u v j) (hne : R ≠ A) (hb : Below m w0 w) (hS : m ≤ A) (X Y : Nat) (I : Bool) :
  ∃ w' : World, (((((((((w.setCell ⟨A, 0, none⟩ (.int .u64 (limb 0 X))).setCell ⟨A, 1, none⟩ (.int .u64 (limb 1 X))).setCell ⟨A, 2, none⟩ (.int .u64 (limb 2 X))).setCell ⟨A, 3, none⟩ (.int .u64 (limb 3 X))).setCell ⟨A, 4, none⟩ (.int .u64 (limb 0 Y))).setCell ⟨A, 5, none⟩ (.int .u64 (limb 1 Y))).setCell ⟨A, 6, none⟩ (.int .u64 (limb 2 Y))).setCell ⟨A, 7, none⟩ (.int .u64 (limb 3 Y))).setCell ⟨A, 8, none⟩ (.bool I)) = w' ∧ Pt w' A X Y I ∧ Pt w' R u v j ∧ Below m w0 w' := by
 refine ⟨_, rfl, h.set9 X Y I, hR.other9 hne _ _ _ _ _ _ _ _ _, ?_⟩
 repeat (first | with_reducible exact hb | with_reducible refine Below.setCell ?_ hS _)
theorem cells_keep {w : World} {ab o K X Y : Nat} {I : Bool} (h : ab < w.heap.size) (h0 : w.cell? ⟨ab, o, none⟩ = some (.int .u64 (limb 0 K))) (h1 : w.cell? ⟨ab, o + 1, none⟩ = some (.int .u64 (limb 1 K))) (h2 : w.cell? ⟨ab, o + 2, none⟩ = some (.int .u64 (limb 2 K))) (h3 : w.cell? ⟨ab, o + 3, none⟩ = some (.int .u64 (limb 3 K))) (h4 : w.cell? ⟨ab, o + 4, none⟩ = some (.int .u64 (limb 0 X))) (h5 : w.cell? ⟨ab, o + 5, none⟩ = some (.int .u64 (limb 1 X))) (h6 : w.cell? ⟨ab, o + 6, none⟩ = some (.int .u64 (limb 2 X))) (h7 : w.cell? ⟨ab, o + 7, none⟩ = some (.int .u64 (limb 3 X))) (h8 : w.cell? ⟨ab, o + 8, none⟩ = some (.int .u64 (limb 0 Y))) (h9 : w.cell? ⟨ab, o + 9, none⟩ = some (.int .u64 (limb 1 Y))) (h10 : w.cell? ⟨ab, o + 10, none⟩ = some (.int .u64 (limb 2 Y))) (h11 : w.cell? ⟨ab, o + 11, none⟩ = some (.int .u64 (limb 3 Y))) (h12 : w.cell? ⟨ab, o + 12, none⟩ = some (.bool I)) :
  ∀ w' : World, Below w.heap.size w w' → w'.cell? ⟨ab, o, none⟩ = some (.int .u64 (limb 0 K)) ∧ w'.cell? ⟨ab, o + 1, none⟩ = some (.int .u64 (limb 1 K)) ∧ w'.cell? ⟨ab, o + 2, none⟩ = some (.int .u64 (limb 2 K)) ∧ w'.cell? ⟨ab, o + 3, none⟩ = some (.int .u64 (limb 3 K)) ∧ w'.cell? ⟨ab, o + 4, none⟩ = some (.int .u64 (limb 0 X)) ∧ w'.cell? ⟨ab, o + 5, none⟩ = some (.int .u64 (limb 1 X)) ∧ w'.cell? ⟨ab, o + 6, none⟩ = some (.int .u64 (limb 2 X)) ∧ w'.cell? ⟨ab, o + 7, none⟩ = some (.int .u64 (limb 3 X)) ∧ w'.cell? ⟨ab, o + 8, none⟩ = some (.int .u64 (limb 0 Y)) ∧ w'.cell? ⟨ab, o + 9, none⟩ = some (.int .u64 (limb 1 Y)) ∧ w'.cell? ⟨ab, o + 10, none⟩ = some (.int .u64 (limb 2 Y)) ∧ w'.cell? ⟨ab, o + 11, none⟩ = some (.int .u64 (limb 3 Y)) ∧ w'.cell? ⟨ab, o + 12, none⟩ = some (.bool I) :=
 fun _ hb => ⟨(hb.cell (p := ⟨ab, o, none⟩) h).trans h0, (hb.cell (p := ⟨ab, o + 1, none⟩) h).trans h1, (hb.cell (p := ⟨ab, o + 2, none⟩) h).trans h2, (hb.cell (p := ⟨ab, o + 3, none⟩) h).trans h3, (hb.cell (p := ⟨ab, o + 4, none⟩) h).trans h4, (hb.cell (p := ⟨ab, o + 5, none⟩) h).trans h5, (hb.cell (p := ⟨ab, o + 6, none⟩) h).trans h6, (hb.cell (p := ⟨ab, o + 7, none⟩) h).trans h7, (hb.cell (p := ⟨ab, o + 8, none⟩) h).trans h8, (hb.cell (p := ⟨ab, o + 9, none⟩) h).trans h9, (hb.cell (p := ⟨ab, o + 10, none⟩) h).trans h10, (hb.cell (p := ⟨ab, o + 11, none⟩) h).trans h11, (hb.cell (p := ⟨ab, o + 12, none⟩) h).trans h12⟩
set_option maxRecDepth 20000 in
theorem rsum_in (c n cn : Nat) (oa : Option Addr) (T : Nat → Nat × Nat × Nat × Bool) (hc : c < 4) (hn : n ≤ 100000) (hT : ∀ i, i < n → (T i).1 < 115792089237316195423570985008687907853269984665640564039457584007913129639936 ∧ (T i).2.1 < 115792089237316195423570985008687907853269984665640564039457584007913129639936 ∧ (T i).2.2.1 < 115792089237316195423570985008687907853269984665640564039457584007913129639936) (w : World) (hv : Rs w (.slice oa n cn) 13 n (fun i => tC (T i))) :
  Calls Tryz.prog 93 #[.int .i64 (c : Int), .slice oa n cn] w fun e w' => SumE c n T e ∧ Below w.heap.size w w' := by
 have h1 : ¬ (c : Int) < 0 := by omega
 have h2 : ¬ (3 : Int) < (c : Int) := by omega
 have hni : ¬ (100000 : Int) < (n : Int) := by omega
 have HV : Hid (Rs w (.slice oa n cn) 13 n (fun i => tC (T i))) := hv
 have HT := (show Hid _ from hT)
 have HON : Hid (∀ (x y : Nat) (i : Bool), x < 115792089237316195423570985008687907853269984665640564039457584007913129639936 → y < 115792089237316195423570985008687907853269984665640564039457584007913129639936 → ∀ w, Calls Tryz.prog 24 #[.int .i64 (c : Int), .agg #[.int .u64 (limb 0 x), .int .u64 (limb 1 x), .int .u64 (limb 2 x), .int .u64 (limb 3 x), .int .u64 (limb 0 y), .int .u64 (limb 1 y), .int .u64 (limb 2 y), .int .u64 (limb 3 y), .bool i]] w fun e w' => e = .returned (.bool (decide (onC c x y i))) ∧ Below w.heap.size w w') := fun x y i hx hy w => ron_in c x y i hc hx hy w
 have HAD : Hid (∀ (x y u v : Nat) (i j : Bool), onC c x y i → onC c u v j → ∀ w, Calls Tryz.prog 124 #[.int .i64 (c : Int), .agg #[.int .u64 (limb 0 x), .int .u64 (limb 1 x), .int .u64 (limb 2 x), .int .u64 (limb 3 x), .int .u64 (limb 0 y), .int .u64 (limb 1 y), .int .u64 (limb 2 y), .int .u64 (limb 3 y), .bool i], .agg #[.int .u64 (limb 0 u), .int .u64 (limb 1 u), .int .u64 (limb 2 u), .int .u64 (limb 3 u), .int .u64 (limb 0 v), .int .u64 (limb 1 v), .int .u64 (limb 2 v), .int .u64 (limb 3 v), .bool j]] w fun e w' => (∃ a b k, e = .returned (.agg #[.int .u64 (limb 0 a), .int .u64 (limb 1 a), .int .u64 (limb 2 a), .int .u64 (limb 3 a), .int .u64 (limb 0 b), .int .u64 (limb 1 b), .int .u64 (limb 2 b), .int .u64 (limb 3 b), .bool k]) ∧ (a, b, k) = ad c (x, y, i) (u, v, j)) ∧ Below w.heap.size w w') := fun x y u v i j h1 h2 w => raddT c x y u v i j hc h1 h2 w
 have HMU : Hid (∀ (k x y : Nat) (i : Bool), k < 115792089237316195423570985008687907853269984665640564039457584007913129639936 → onC c x y i → ∀ w, Calls Tryz.prog 125 #[.int .i64 (c : Int), .agg #[.int .u64 (limb 0 k), .int .u64 (limb 1 k), .int .u64 (limb 2 k), .int .u64 (limb 3 k)], .agg #[.int .u64 (limb 0 x), .int .u64 (limb 1 x), .int .u64 (limb 2 x), .int .u64 (limb 3 x), .int .u64 (limb 0 y), .int .u64 (limb 1 y), .int .u64 (limb 2 y), .int .u64 (limb 3 y), .bool i]] w fun e w' => (∃ a b j, e = .returned (.agg #[.int .u64 (limb 0 a), .int .u64 (limb 1 a), .int .u64 (limb 2 a), .int .u64 (limb 3 a), .int .u64 (limb 0 b), .int .u64 (limb 1 b), .int .u64 (limb 2 b), .int .u64 (limb 3 b), .bool j]) ∧ (a, b, j) = sm c (x, y, i) (k % modN (xc c))) ∧ Below w.heap.size w w') := fun k x y i h1 h2 w => rmulT c k x y i hc h1 h2 w
 clear hc hv hT
 go_enter Tryz.func93, Tryz.ntmps93
 go_upto_region 1 with fail
 obtain ⟨R, eR⟩ : ∃ R, R = w.heap.size := ⟨_, rfl⟩
 obtain ⟨w0, hw0⟩ : ∃ w0 : World, w0 = w.alloc (.cells #[.int .u64 0, .int .u64 0, .int .u64 0, .int .u64 0, .int .u64 0, .int .u64 0, .int .u64 0, .int .u64 0, .bool false] 27) := ⟨_, rfl⟩
 have bR0 : Pt w0 R 0 0 false := by rw [hw0, eR]; exact Pt.zeroAt _ _ rfl
 have hb0 : Below w.heap.size w w0 := by rw [hw0]; exact (Below.refl _ _).alloc (Nat.le_refl _) _
 have lR : w.heap.size ≤ R := by omega
 rw [← hw0]
 rw [← eR]
 clear hw0 eR
 go_wp2_with fail
 refine (rInfinity_any _).mono ?_
 rintro e w1 ⟨rfl, hb1⟩
 have bR1 := bR0.belowAll hb1; have hbw1 := bStep hb0 hb1
 clear bR0 hb0 hb1
 go_upto_region 6 with fail
 obtain ⟨N, eN⟩ : ∃ N, N = w1.heap.size := ⟨_, rfl⟩
 obtain ⟨w2, hw2⟩ : ∃ w2 : World, w2 = w1.alloc (.cells #[.int .u64 (limb 0 0), .int .u64 (limb 1 0), .int .u64 (limb 2 0), .int .u64 (limb 3 0), .int .u64 (limb 0 0), .int .u64 (limb 1 0), .int .u64 (limb 2 0), .int .u64 (limb 3 0), .bool true] 27) := ⟨_, rfl⟩
 have bN2 : Pt w2 N 0 0 true := by rw [hw2, eN]; exact Pt.newAt _ _ _ _ _ rfl
 have bR2 : Pt w2 R 0 0 false := by rw [hw2]; exact bR1.alloc _
 have hbw2 : Below w.heap.size w w2 := by rw [hw2]; exact bAlloc hbw1 _
 have lN : w.heap.size ≤ N := by have := hbw1.size; omega
 have hRN : R ≠ N := by have := bR1.lt; omega
 rw [← hw2]
 rw [← eN]
 have HL : Hid (w.heap.size ≤ R ∧ w.heap.size ≤ N ∧ R ≠ N) := ⟨lR, lN, hRN⟩
 clear hw2 eN bR1 hbw1 lR lN hRN
 go_wp2
 go_loopw [7] (fun iv wr => ∃ k : Nat, iv = .int .i64 (k : Int) ∧ k ≤ n ∧ Hid (∀ i, i < k → onT c (T i).2) ∧ Below w.heap.size w wr ∧ Pt wr N 0 0 true ∧ Pt wr R 0 0 false) (fun iv _ => n - (intOf iv).toNat)
 case atStart => exact ⟨0, rfl, by omega, fun i hi => by omega, hbw2, bN2, bR2⟩
 case round =>
  obtain ⟨k, rfl, hk, HK, hbr, bN, bR⟩ := hrel
  clear bN2 bR2 hbw2
  by_cases hlt : k < n
  ·have hki : (k : Int) < (n : Int) := by omega
   obtain ⟨ab, ao, rfl, lab, hcell⟩ := HV.out.at hlt
   have hTE : ∃ KK X Y I, T k = (KK, X, Y, I) := ⟨_, _, _, _, rfl⟩
   obtain ⟨KK, X, Y, I, hE⟩ := hTE
   have HXY : Hid ((T k).1 < 115792089237316195423570985008687907853269984665640564039457584007913129639936 ∧ (T k).2.1 < 115792089237316195423570985008687907853269984665640564039457584007913129639936 ∧ (T k).2.2.1 < 115792089237316195423570985008687907853269984665640564039457584007913129639936) := HT.out k hlt
   have ca : ∀ j, j < 13 → wr.cell? ⟨ab, ao + k * 13 + j, none⟩ = some (tC (T k) j) := fun j hj => by rw [hbr.cell (p := ⟨ab, ao + k * 13 + j, none⟩) lab]; exact hcell j hj
   rw [hE] at ca HXY
   have HE := (show Hid _ from hE)
   clear hE hcell
   obtain ⟨t0, t1, t2, t3, t4, t5, t6, t7, t8, t9, t10, t11, t12⟩ := tC_cells KK X Y I
   have a0 := ca 0 (by decide)
   rw [t0] at a0
   have a1 := ca 1 (by decide)
   rw [t1] at a1
   have a2 := ca 2 (by decide)
   rw [t2] at a2
   have a3 := ca 3 (by decide)
   rw [t3] at a3
   have a4 := ca 4 (by decide)
   rw [t4] at a4
   have a5 := ca 5 (by decide)
   rw [t5] at a5
   have a6 := ca 6 (by decide)
   rw [t6] at a6
   have a7 := ca 7 (by decide)
   rw [t7] at a7
   have a8 := ca 8 (by decide)
   rw [t8] at a8
   have a9 := ca 9 (by decide)
   rw [t9] at a9
   have a10 := ca 10 (by decide)
   rw [t10] at a10
   have a11 := ca 11 (by decide)
   rw [t11] at a11
   have a12 := ca 12 (by decide)
   rw [t12] at a12
   clear ca t0 t1 t2 t3 t4 t5 t6 t7 t8 t9 t10 t11 t12
   rw [Nat.add_zero] at a0
   by_cases hon : onC c X Y I
   ·have HO1 := HON.out X Y I HXY.out.2.1 HXY.out.2.2 wr
    rw [decide_eq_true hon] at HO1
    have HOC : Hid (onC c X Y I) := hon
    clear hon
    go_wp2_with fail
    refine HO1.mono ?_
    rintro e w6 ⟨rfl, hb6⟩
    have hbw6 := bStep hbr hb6; have bN6 := bN.belowAll hb6; have bR6 := bR.belowAll hb6
    clear a0 a1 a2 a3 a4 a5 a6 a7 a8 a9 a10 a11 a12 hbr hb6 HO1 bN bR
    go_wp2
    go_roundw
    case measure => simp [intOf]; omega
    case rel =>
     refine ⟨k + 1, by go_num, by omega, fun i hi => ?_, hbw6, bN6, bR6⟩
     rcases Nat.lt_or_ge i k with h | h
     ·exact HK.out i h
     ·rw [show i = k from by omega, HE.out]; exact HOC.out
   ·have HO1 := HON.out X Y I HXY.out.2.1 HXY.out.2.2 wr
    rw [decide_eq_false hon] at HO1
    have HOC : Hid (¬ onC c X Y I) := hon
    have HLT : Hid (k < n) := hlt
    clear hon
    go_wp2_with fail
    refine HO1.mono ?_
    rintro e w6 ⟨rfl, hb6⟩
    have hbw6 := bStep hbr hb6; have bR6 := bR.belowAll hb6
    clear a0 a1 a2 a3 a4 a5 a6 a7 a8 a9 a10 a11 a12 hbr hb6 HO1 bN bR
    obtain ⟨r0, r1, r2, r3, r4, r5, r6, r7, r8, rf⟩ := bR6.cells
    go_wp2
    refine bodyPost_ret (v := .tuple #[.agg #[.int .u64 0, .int .u64 0, .int .u64 0, .int .u64 0, .int .u64 0, .int .u64 0, .int .u64 0, .int .u64 0, .bool false], .int .i64 41]) (by simp [results, Tryz.results93, go_sem, r0, r1, r2, r3, r4, r5, r6, r7, r8]) rfl ⟨⟨0, 0, false, 41, by rw [zeroPt], Or.inr ⟨rfl, fun h => HOC.out ?_, rfl⟩⟩, ?_⟩
    ·have := h k HLT.out
     rw [HE.out] at this
     exact this
    ·exact bSet9 hbw6 HL.out.1 _ _ _ _ _ _ _ _ _
  ·have hki : ¬ (k : Int) < (n : Int) := by omega
   have hkn : k = n := by omega
   have HA : Hid (∀ i, i < n → onT c (T i).2) := by rw [← hkn]; exact HK.out
   clear HK hkn hlt hk
   go_wp2
   go_loopw [8] (fun iv wr => ∃ (k x y : Nat) (i : Bool), iv = .int .i64 (k : Int) ∧ k ≤ n ∧ Hid ((x, y, i) = tot c (fun i => (T i).1 % modN (xc c)) (fun i => (T i).2) k) ∧ Below w.heap.size w wr ∧ Pt wr N x y i ∧ Pt wr R 0 0 false) (fun iv _ => n - (intOf iv).toNat)
   case atStart => exact ⟨0, 0, 0, true, rfl, by omega, rfl, hbr, bN, bR⟩
   case round =>
    clear hbr bN bR
    obtain ⟨k, sx, sy, si, rfl, hk, HS, hbr, bN, bR⟩ := hrel
    by_cases hlt : k < n
    ·have hki2 : (k : Int) < (n : Int) := by omega
     have HOC : Hid (onT c (T k).2) := HA.out k hlt
     have HSO : Hid (onC c sx sy si) := by
      have : onT c (sx, sy, si) := by rw [HS.out]; exact tot_on _ (fun i hi => HA.out i (by omega))
      exact this
     obtain ⟨ab, ao, rfl, lab, hcell⟩ := HV.out.at hlt
     have hTE : ∃ KK X Y I, T k = (KK, X, Y, I) := ⟨_, _, _, _, rfl⟩
     obtain ⟨KK, X, Y, I, hE⟩ := hTE
     have HXY : Hid ((T k).1 < 115792089237316195423570985008687907853269984665640564039457584007913129639936 ∧ (T k).2.1 < 115792089237316195423570985008687907853269984665640564039457584007913129639936 ∧ (T k).2.2.1 < 115792089237316195423570985008687907853269984665640564039457584007913129639936) := HT.out k hlt
     have ca : ∀ j, j < 13 → wr.cell? ⟨ab, ao + k * 13 + j, none⟩ = some (tC (T k) j) := fun j hj => by rw [hbr.cell (p := ⟨ab, ao + k * 13 + j, none⟩) lab]; exact hcell j hj
     rw [hE] at ca HXY
     have HE := (show Hid _ from hE)
     clear hE hcell
     obtain ⟨t0, t1, t2, t3, t4, t5, t6, t7, t8, t9, t10, t11, t12⟩ := tC_cells KK X Y I
     have a0 := ca 0 (by decide)
     rw [t0] at a0
     have a1 := ca 1 (by decide)
     rw [t1] at a1
     have a2 := ca 2 (by decide)
     rw [t2] at a2
     have a3 := ca 3 (by decide)
     rw [t3] at a3
     have a4 := ca 4 (by decide)
     rw [t4] at a4
     have a5 := ca 5 (by decide)
     rw [t5] at a5
     have a6 := ca 6 (by decide)
     rw [t6] at a6
     have a7 := ca 7 (by decide)
     rw [t7] at a7
     have a8 := ca 8 (by decide)
     rw [t8] at a8
     have a9 := ca 9 (by decide)
     rw [t9] at a9
     have a10 := ca 10 (by decide)
     rw [t10] at a10
     have a11 := ca 11 (by decide)
     rw [t11] at a11
     have a12 := ca 12 (by decide)
     rw [t12] at a12
     clear ca t0 t1 t2 t3 t4 t5 t6 t7 t8 t9 t10 t11 t12
     rw [Nat.add_zero] at a0
     rw [HE.out] at HOC
     have lab2 : ab < wr.heap.size := Nat.lt_of_lt_of_le lab hbr.size
     have HCELL : Hid _ := cells_keep lab2 a0 a1 a2 a3 a4 a5 a6 a7 a8 a9 a10 a11 a12
     clear a0 a1 a2 a3 a4 a5 a6 a7 a8 a9 a10 a11 a12
     have HC : Hid (∀ w', Below wr.heap.size wr w' → w'.cell? ⟨ab, ao + k * 13, none⟩ = some (.int .u64 (limb 0 KK)) ∧ w'.cell? ⟨ab, ao + k * 13 + 1, none⟩ = some (.int .u64 (limb 1 KK)) ∧ w'.cell? ⟨ab, ao + k * 13 + 2, none⟩ = some (.int .u64 (limb 2 KK)) ∧ w'.cell? ⟨ab, ao + k * 13 + 3, none⟩ = some (.int .u64 (limb 3 KK)) ∧ w'.cell? ⟨ab, ao + k * 13 + 4, none⟩ = some (.int .u64 (limb 0 X)) ∧ w'.cell? ⟨ab, ao + k * 13 + 5, none⟩ = some (.int .u64 (limb 1 X)) ∧ w'.cell? ⟨ab, ao + k * 13 + 6, none⟩ = some (.int .u64 (limb 2 X)) ∧ w'.cell? ⟨ab, ao + k * 13 + 7, none⟩ = some (.int .u64 (limb 3 X)) ∧ w'.cell? ⟨ab, ao + k * 13 + 8, none⟩ = some (.int .u64 (limb 0 Y)) ∧ w'.cell? ⟨ab, ao + k * 13 + 9, none⟩ = some (.int .u64 (limb 1 Y)) ∧ w'.cell? ⟨ab, ao + k * 13 + 10, none⟩ = some (.int .u64 (limb 2 Y)) ∧ w'.cell? ⟨ab, ao + k * 13 + 11, none⟩ = some (.int .u64 (limb 3 Y)) ∧ w'.cell? ⟨ab, ao + k * 13 + 12, none⟩ = some (.bool I)) := HCELL
     go_upto_region 14 with fail
     have HS0 : Hid (Below wr.heap.size wr wr.drew) := (Below.refl _ _).drew
     refine wp_region_Z (fun w' => Below wr.heap.size wr w') 15 (by kernel_rfl) ?_
     refine zs 0 42 (.int .i64 (c : Int)) HS0.out ?_
     refine zT 1 43 (.agg #[.int .u64 (limb 0 sx), .int .u64 (limb 1 sx), .int .u64 (limb 2 sx), .int .u64 (limb 3 sx), .int .u64 (limb 0 sy), .int .u64 (limb 1 sy), .int .u64 (limb 2 sy), .int .u64 (limb 3 sy), .bool si]) rfl rfl (fun w hSw => by (obtain ⟨q0, q1, q2, q3, q4, q5, q6, q7, q8, qf⟩ := (bN.belowAll hSw).cells; clear hSw; go_simp)) HS0.out ?_
     refine zs 2 44 (.int .i64 (c : Int)) HS0.out ?_
     refine zs 3 45 (.slice (some ⟨ab, ao, none⟩) n cn) HS0.out ?_
     refine zs 4 46 (.int .i64 (k : Int)) HS0.out ?_
     refine zs 5 47 (.pointer (some ⟨ab, ao + k * 13, none⟩)) HS0.out ?_
     refine zs 6 48 (.pointer (some ⟨ab, ao + k * 13, none⟩)) HS0.out ?_
     refine zT 7 49 (.agg #[.int .u64 (limb 0 KK), .int .u64 (limb 1 KK), .int .u64 (limb 2 KK), .int .u64 (limb 3 KK)]) rfl rfl (fun w hSw => by (obtain ⟨a0, a1, a2, a3, a4, a5, a6, a7, a8, a9, a10, a11, a12⟩ := HC.out _ hSw; clear hSw; go_simp)) HS0.out ?_
     refine zs 8 50 (.slice (some ⟨ab, ao, none⟩) n cn) HS0.out ?_
     refine zs 9 51 (.int .i64 (k : Int)) HS0.out ?_
     refine zs 10 52 (.pointer (some ⟨ab, ao + k * 13, none⟩)) HS0.out ?_
     refine zs 11 53 (.pointer (some ⟨ab, ao + k * 13 + 4, none⟩)) HS0.out ?_
     refine zT 12 54 (.agg #[.int .u64 (limb 0 X), .int .u64 (limb 1 X), .int .u64 (limb 2 X), .int .u64 (limb 3 X), .int .u64 (limb 0 Y), .int .u64 (limb 1 Y), .int .u64 (limb 2 Y), .int .u64 (limb 3 Y), .bool I]) rfl rfl (fun w hSw => by (obtain ⟨a0, a1, a2, a3, a4, a5, a6, a7, a8, a9, a10, a11, a12⟩ := HC.out _ hSw; clear hSw; go_simp)) HS0.out ?_
     refine zo 13 rfl (fun K hK => ?_)
     go_simp
     refine (HMU.out KK X Y I HXY.out.1 HOC.out wr.drew).mono ?_
     rintro e wK1 ⟨⟨A1, B1, C1, rfl, HQ1'⟩, hbK1⟩
     have hSK1 := bStep HS0.out hbK1
     have HQ1 : Hid ((A1, B1, C1) = sm c (X, Y, I) (KK % modN (xc c))) := HQ1'
     clear HQ1'
     have HO1 : Hid (onC c A1 B1 C1) := by
      have : onT c (A1, B1, C1) := by rw [HQ1.out]; exact sm_on HOC.out _
      exact this
     go_wp2_with fail
     refine hK.out _ _ (fun _ => hSK1) ?_
     clear hK K
     refine zo 14 rfl (fun K hK => ?_)
     go_simp
     refine (HAD.out sx sy A1 B1 si C1 HSO.out HO1.out wK1).mono ?_
     rintro e wK2 ⟨⟨A2, B2, C2, rfl, HQ2'⟩, hbK2⟩
     have hSK2 := bStep hSK1 hbK2
     have HQ2 : Hid ((A2, B2, C2) = ad c (sx, sy, si) (A1, B1, C1)) := HQ2'
     clear HQ2'
     go_wp2_with fail
     refine hK.out _ _ (fun _ => hSK2) ?_
     clear hK K
     refine zo 15 rfl (fun K hK => ?_)
     have bNA := bN.belowAll (hSK2); have bRA := bR.belowAll (hSK2); have hbA := bStep hbr (hSK2)
     obtain ⟨g0, g1, g2, g3, g4, g5, g6, g7, g8, gf⟩ := bNA.cells
     go_simp
     refine hK.out _ _ (fun h => absurd rfl h) ?_
     clear hK K
     refine zd ?_ _
     obtain ⟨w9, hw9, bN9, bR9, hb9⟩ := pk9 bNA bRA HL.out.2.2 hbA HL.out.2.1 A2 B2 C2
     rw [hw9]
     clear hw9 bNA bRA hbA
     go_wp2
     go_roundw
     case measure => simp [intOf]; omega
     case rel =>
      refine ⟨k + 1, A2, B2, C2, by go_num, by omega, ?_, hb9, bN9, bR9⟩
      show (A2, B2, C2) = ad c (tot c (fun i => (T i).1 % modN (xc c)) (fun i => (T i).2) k) (sm c (T k).2 ((T k).1 % modN (xc c)))
      rw [HE.out, ← HS.out, HQ2.out, HQ1.out]
    ·have hki2 : ¬ (k : Int) < (n : Int) := by omega
     have hkn : k = n := by omega
     rw [hkn] at HS
     clear hkn hlt hk
     obtain ⟨q0, q1, q2, q3, q4, q5, q6, q7, q8, qf⟩ := bN.cells
     obtain ⟨r0, r1, r2, r3, r4, r5, r6, r7, r8, rf⟩ := bR.cells
     go_wp2
     refine bodyPost_ret (v := .tuple #[.agg #[.int .u64 (limb 0 sx), .int .u64 (limb 1 sx), .int .u64 (limb 2 sx), .int .u64 (limb 3 sx), .int .u64 (limb 0 sy), .int .u64 (limb 1 sy), .int .u64 (limb 2 sy), .int .u64 (limb 3 sy), .bool si], .int .i64 0]) (by simp [results, Tryz.results93, go_sem, r0, r1, r2, r3, r4, r5, r6, r7, r8]) rfl ⟨⟨sx, sy, si, 0, rfl, Or.inl ⟨rfl, HA.out, HS.out⟩⟩, ?_⟩
     exact bSet9 hbr HL.out.1 _ _ _ _ _ _ _ _ _
end Go.Proofs.YtdeijnlbencfdaaGreatDoor
namespace Go.Proofs.YtdeijnlbencfdaaGreatDoor
open Go.RowKit
set_option maxRecDepth 20000 in
theorem rvalue_any (c n : Nat) (x : Value) (T : Nat → Nat × Nat × Nat × Bool) (hc : c < 4) (hn : n ≤ 100000) (hT : ∀ i, i < n → (T i).1 < 115792089237316195423570985008687907853269984665640564039457584007913129639936 ∧ (T i).2.1 < 115792089237316195423570985008687907853269984665640564039457584007913129639936 ∧ (T i).2.2.1 < 115792089237316195423570985008687907853269984665640564039457584007913129639936) (hP : ∀ i, i < n → onT c (T i).2) (w : World) (hv : Rs w x 13 n (fun i => tC (T i))) :
  Calls Tryz.prog 51 #[.int .i64 (c : Int), x] w fun e w' => (∃ a b k, e = .returned (.agg #[.int .u64 (limb 0 a), .int .u64 (limb 1 a), .int .u64 (limb 2 a), .int .u64 (limb 3 a), .int .u64 (limb 0 b), .int .u64 (limb 1 b), .int .u64 (limb 2 b), .int .u64 (limb 3 b), .bool k]) ∧ (a, b, k) = tot c (fun i => (T i).1 % modN (xc c)) (fun i => (T i).2) n) ∧ Below w.heap.size w w' := by
 have HSU : Hid (∀ w', Below w.heap.size w w' → Calls Tryz.prog 93 #[.int .i64 (c : Int), x] w' fun e w'' => e = .returned (.tuple #[.agg #[.int .u64 ((limb 0 ((tot c (fun i => (T i).1 % modN (xc c)) (fun i => (T i).2) n).1) : Nat) : Int), .int .u64 ((limb 1 ((tot c (fun i => (T i).1 % modN (xc c)) (fun i => (T i).2) n).1) : Nat) : Int), .int .u64 ((limb 2 ((tot c (fun i => (T i).1 % modN (xc c)) (fun i => (T i).2) n).1) : Nat) : Int), .int .u64 ((limb 3 ((tot c (fun i => (T i).1 % modN (xc c)) (fun i => (T i).2) n).1) : Nat) : Int), .int .u64 ((limb 0 ((tot c (fun i => (T i).1 % modN (xc c)) (fun i => (T i).2) n).2.1) : Nat) : Int), .int .u64 ((limb 1 ((tot c (fun i => (T i).1 % modN (xc c)) (fun i => (T i).2) n).2.1) : Nat) : Int), .int .u64 ((limb 2 ((tot c (fun i => (T i).1 % modN (xc c)) (fun i => (T i).2) n).2.1) : Nat) : Int), .int .u64 ((limb 3 ((tot c (fun i => (T i).1 % modN (xc c)) (fun i => (T i).2) n).2.1) : Nat) : Int), .bool (tot c (fun i => (T i).1 % modN (xc c)) (fun i => (T i).2) n).2.2], .int .i64 0]) ∧ Below w'.heap.size w' w'') := fun w' hb => by
  obtain ⟨oa, cn, rfl⟩ := hv.shape
  refine (rsum_in c n cn oa T hc hn hT w' (hv.below hb)).mono ?_
  rintro e w'' ⟨⟨a, b, k, E, rfl, hh | hh⟩, hb2⟩
  ·obtain ⟨rfl, _, hq⟩ := hh
   rw [← hq]
   exact ⟨rfl, hb2⟩
  ·exact absurd hP hh.2.1
 obtain ⟨qx, ex⟩ : ∃ z, z = (tot c (fun i => (T i).1 % modN (xc c)) (fun i => (T i).2) n).1 := ⟨_, rfl⟩
 obtain ⟨qy, ey⟩ : ∃ z, z = (tot c (fun i => (T i).1 % modN (xc c)) (fun i => (T i).2) n).2.1 := ⟨_, rfl⟩
 obtain ⟨qi, ei⟩ : ∃ z, z = (tot c (fun i => (T i).1 % modN (xc c)) (fun i => (T i).2) n).2.2 := ⟨_, rfl⟩
 have HQ : Hid ((qx, qy, qi) = tot c (fun i => (T i).1 % modN (xc c)) (fun i => (T i).2) n) := by rw [ex, ey, ei]; rfl
 rw [← ex, ← ey, ← ei] at HSU
 clear ex ey ei hc hn hT hP hv
 go_enter Tryz.func51, Tryz.ntmps51
 go_upto_region 1 with fail
 obtain ⟨R, eR⟩ : ∃ R, R = w.heap.size := ⟨_, rfl⟩
 obtain ⟨w0, hw0⟩ : ∃ w0 : World, w0 = w.alloc (.cells #[.int .u64 0, .int .u64 0, .int .u64 0, .int .u64 0, .int .u64 0, .int .u64 0, .int .u64 0, .int .u64 0, .bool false] 27) := ⟨_, rfl⟩
 have bR0 : Pt w0 R 0 0 false := by rw [hw0, eR]; exact Pt.zeroAt _ _ rfl
 have hb0 : Below w.heap.size w w0 := by rw [hw0]; exact (Below.refl _ _).alloc (Nat.le_refl _) _
 have lR : w.heap.size ≤ R := by omega
 rw [← hw0]
 rw [← eR]
 clear hw0 eR
 go_wp2_with fail
 refine (HSU.out _ hb0).mono ?_
 rintro e w1 ⟨rfl, hb1⟩
 have bR2 := (bR0.belowAll hb1).alloc (.cells #[.int .u64 (limb 0 qx), .int .u64 (limb 1 qx), .int .u64 (limb 2 qx), .int .u64 (limb 3 qx), .int .u64 (limb 0 qy), .int .u64 (limb 1 qy), .int .u64 (limb 2 qy), .int .u64 (limb 3 qy), .bool qi] 27)
 have bq2 : Pt (w1.alloc (.cells #[.int .u64 (limb 0 qx), .int .u64 (limb 1 qx), .int .u64 (limb 2 qx), .int .u64 (limb 3 qx), .int .u64 (limb 0 qy), .int .u64 (limb 1 qy), .int .u64 (limb 2 qy), .int .u64 (limb 3 qy), .bool qi] 27)) w1.heap.size qx qy qi := Pt.newAt _ _ _ _ _ rfl
 have hbw2 := bAlloc (bStep hb0 hb1) (.cells #[.int .u64 (limb 0 qx), .int .u64 (limb 1 qx), .int .u64 (limb 2 qx), .int .u64 (limb 3 qx), .int .u64 (limb 0 qy), .int .u64 (limb 1 qy), .int .u64 (limb 2 qy), .int .u64 (limb 3 qy), .bool qi] 27)
 clear bR0 hb0 hb1 HSU
 go_upto_region 2 with fail
 obtain ⟨w2, hw2⟩ : ∃ WW : World, WW = w1.alloc (.cells #[.int .u64 (limb 0 qx), .int .u64 (limb 1 qx), .int .u64 (limb 2 qx), .int .u64 (limb 3 qx), .int .u64 (limb 0 qy), .int .u64 (limb 1 qy), .int .u64 (limb 2 qy), .int .u64 (limb 3 qy), .bool qi] 27) := ⟨_, rfl⟩
 obtain ⟨N5, hN5⟩ : ∃ N, N = w1.heap.size := ⟨_, rfl⟩
 rw [← hw2] at bR2 bq2 hbw2 ⊢
 rw [← hN5] at bq2 ⊢
 clear hw2 hN5
 obtain ⟨q0, q1, q2, q3, q4, q5, q6, q7, q8, qf⟩ := bq2.cells
 obtain ⟨r0, r1, r2, r3, r4, r5, r6, r7, r8, rf⟩ := bR2.cells
 go_wp2
 refine bodyPost_ret (v := .agg #[.int .u64 (limb 0 qx), .int .u64 (limb 1 qx), .int .u64 (limb 2 qx), .int .u64 (limb 3 qx), .int .u64 (limb 0 qy), .int .u64 (limb 1 qy), .int .u64 (limb 2 qy), .int .u64 (limb 3 qy), .bool qi]) (by simp [results, Tryz.results51, go_sem, r0, r1, r2, r3, r4, r5, r6, r7, r8]) rfl ⟨⟨qx, qy, qi, rfl, HQ.out⟩, ?_⟩
 exact bSet9 hbw2 lR _ _ _ _ _ _ _ _ _
end Go.Proofs.YtdeijnlbencfdaaGreatDoor
