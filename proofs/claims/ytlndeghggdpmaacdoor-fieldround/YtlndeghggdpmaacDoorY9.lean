/- FieldRound: the walk. -/
import Derived.Test.YtlndeghggdpmaacDoorY7
import Derived.Test.YtlndeghggdpmaacDoorY6
import Derived.Test.YtlndeghggdpmaacDoorY8
namespace Go.Proofs.YtlndeghggdpmaacDoor
open Go.RowKit

set_option maxHeartbeats 16000000 in
set_option maxRecDepth 20000 in
theorem round_gen (s k e2 : Int) (a x y n : Nat) (vb : Value) (fe fb fy : Nat → Nat) (hs0 : ¬ s < 0) (hs3 : ¬ 3 < s) (hx : x < 115792089237316195423570985008687907853269984665640564039457584007913129639936)
    (EN : ∀ w, Glob w → Calls Tryd.prog 13 #[.int .i64 s, .agg #[.int .u64 ((limb 0 (a) : Nat) : Int), .int .u64 ((limb 1 (a) : Nat) : Int), .int .u64 ((limb 2 (a) : Nat) : Int), .int .u64 ((limb 3 (a) : Nat) : Int)]] w fun e w' => ∃ g, e = .returned (.slice (some ⟨g, 0, none⟩) 32 32) ∧ BlkB w' 5 g 32 fe ∧ Below w.heap.size w w')
    (DE : ∀ w g, Glob w → BlkB w 5 g 32 fe → Calls Tryd.prog 10 #[.int .i64 s, .slice (some ⟨g, 0, none⟩) 32 32] w fun e w' => e = .returned (.tuple #[.agg #[.int .u64 ((limb 0 (x) : Nat) : Int), .int .u64 ((limb 1 (x) : Nat) : Int), .int .u64 ((limb 2 (x) : Nat) : Int), .int .u64 ((limb 3 (x) : Nat) : Int)], .int .i64 0]) ∧ Below w.heap.size w w')
    (AZ : ∀ w, Glob w → Calls Tryd.prog 17 #[.int .i64 s, .agg #[.int .u64 ((limb 0 (a) : Nat) : Int), .int .u64 ((limb 1 (a) : Nat) : Int), .int .u64 ((limb 2 (a) : Nat) : Int), .int .u64 ((limb 3 (a) : Nat) : Int)], .agg #[.int .u64 0, .int .u64 0, .int .u64 0, .int .u64 0]] w fun e w' => e = .returned (.agg #[.int .u64 ((limb 0 (x) : Nat) : Int), .int .u64 ((limb 1 (x) : Nat) : Int), .int .u64 ((limb 2 (x) : Nat) : Int), .int .u64 ((limb 3 (x) : Nat) : Int)]) ∧ Below w.heap.size w w')
    (CP : ∀ w, Bs w vb n fb → Calls Tryd.prog 23 #[vb] w fun e w' => ∃ v', e = .returned v' ∧ Bs w' v' n fb ∧ Below w.heap.size w w')
    (D2 : ∀ w v, Glob w → Bs w v n fb → Calls Tryd.prog 10 #[.int .i64 s, v] w fun e w' => e = .returned (.tuple #[.agg #[.int .u64 ((limb 0 (y) : Nat) : Int), .int .u64 ((limb 1 (y) : Nat) : Int), .int .u64 ((limb 2 (y) : Nat) : Int), .int .u64 ((limb 3 (y) : Nat) : Int)], .int .i64 e2]) ∧ Below w.heap.size w w')
    (EY : ∀ w, Glob w → Calls Tryd.prog 13 #[.int .i64 s, .agg #[.int .u64 ((limb 0 (y) : Nat) : Int), .int .u64 ((limb 1 (y) : Nat) : Int), .int .u64 ((limb 2 (y) : Nat) : Int), .int .u64 ((limb 3 (y) : Nat) : Int)]] w fun e w' => ∃ g, e = .returned (.slice (some ⟨g, 0, none⟩) 32 32) ∧ BlkB w' 5 g 32 fy ∧ Below w.heap.size w w')
    (H2 : e2 = 21 ∨ e2 = 0 ∧ ∀ w g, BlkB w 5 g 32 fy → Bs w vb n fb → Calls Tryd.prog 12 #[.slice (some ⟨g, 0, none⟩) 32 32, vb] w fun e w' => e = .returned (.bool true) ∧ Below w.heap.size w w')
    (H3 : (∀ w, Glob w → Calls Tryd.prog 24 #[.int .i64 s, .int .i64 k] w fun e w' => e = .returned (.tuple #[.agg #[.int .u64 0, .int .u64 0, .int .u64 0, .int .u64 0], .int .i64 60]) ∧ Below w.heap.size w w') ∨ ∃ (K : Nat) (sq : Nat → Nat), k = (K : Int) ∧ K < 64 ∧ (∀ j, sq j < 115792089237316195423570985008687907853269984665640564039457584007913129639936) ∧ (∀ j, j < K → sq j ≠ 1) ∧ sq K = 1 ∧ (∀ w, Glob w → Calls Tryd.prog 24 #[.int .i64 s, .int .i64 k] w fun e w' => e = .returned (.tuple #[.agg #[.int .u64 ((limb 0 (sq 0) : Nat) : Int), .int .u64 ((limb 1 (sq 0) : Nat) : Int), .int .u64 ((limb 2 (sq 0) : Nat) : Int), .int .u64 ((limb 3 (sq 0) : Nat) : Int)], .int .i64 0]) ∧ Below w.heap.size w w') ∧ (∀ j w, Glob w → Calls Tryd.prog 18 #[.int .i64 s, .agg #[.int .u64 ((limb 0 (sq j) : Nat) : Int), .int .u64 ((limb 1 (sq j) : Nat) : Int), .int .u64 ((limb 2 (sq j) : Nat) : Int), .int .u64 ((limb 3 (sq j) : Nat) : Int)], .agg #[.int .u64 ((limb 0 (sq j) : Nat) : Int), .int .u64 ((limb 1 (sq j) : Nat) : Int), .int .u64 ((limb 2 (sq j) : Nat) : Int), .int .u64 ((limb 3 (sq j) : Nat) : Int)]] w fun e w' => e = .returned (.agg #[.int .u64 ((limb 0 (sq (j + 1)) : Nat) : Int), .int .u64 ((limb 1 (sq (j + 1)) : Nat) : Int), .int .u64 ((limb 2 (sq (j + 1)) : Nat) : Int), .int .u64 ((limb 3 (sq (j + 1)) : Nat) : Int)]) ∧ Below w.heap.size w w'))
    (w : World) (hg : Glob w) (hB : Bs w vb n fb) :
    Calls Tryd.prog 6 #[.int .i64 s, .agg #[.int .u64 ((limb 0 (a) : Nat) : Int), .int .u64 ((limb 1 (a) : Nat) : Int), .int .u64 ((limb 2 (a) : Nat) : Int), .int .u64 ((limb 3 (a) : Nat) : Int)], vb, .int .i64 k] w fun e w' => e = .returned (.bool true) ∧ Below w.heap.size w w' := by
  have AL := fun w hg => alive2_any w hg
  have QX := fun w => neqE x x hx hx w
  rw [show decide (x = x) = true from by simp] at QX
  have HH2 : Unit → _ := fun _ => H2
  have HH3 : Unit → _ := fun _ => H3
  have HB : Hid (Bs w vb n fb) := hB
  have HG : Hid (Glob w) := hg
  clear H2 H3 hB
  go_enter Tryd.func6, Tryd.ntmps6
  go_wp2_with fail
  obtain ⟨w0, hw0⟩ : ∃ w0 : World, w0 = w.alloc (.cells #[.int .u64 ((limb 0 (a) : Nat) : Int), .int .u64 ((limb 1 (a) : Nat) : Int), .int .u64 ((limb 2 (a) : Nat) : Int), .int .u64 ((limb 3 (a) : Nat) : Int)] 24) := ⟨_, rfl⟩
  have ba0 : Blk w0 24 w.heap.size (fun i => limb i a) := by rw [hw0]; exact Blk.newAt _ _ _ (fun i => limb i a) (by simp)
  have hbw0 : Below w.heap.size w w0 := by rw [hw0]; exact (Below.refl _ _).alloc (Nat.le_refl _) _
  rw [← hw0]
  clear hw0 hg
  refine (AL _ (HG.out.below hbw0)).mono ?_
  rintro e w1 ⟨rfl, hb1⟩
  have ba1 := ba0.belowAll hb1
  have hbw1 := bStep hbw0 hb1
  clear ba0 hbw0 hb1  AL
  have ca := ba1.cell
  go_wp2_with fail
  refine (EN _ (HG.out.below hbw1)).mono ?_
  rintro e w2 ⟨g, rfl, hc, hb2⟩
  have ba2 := ba1.belowAll hb2
  have hbw2 := bStep hbw1 hb2
  clear ba1 hbw1 hb2 ca EN
  go_wp2_with fail
  refine (DE _ g (HG.out.below hbw2) hc).mono ?_
  rintro e w3 ⟨rfl, hb3⟩
  have ba3 := ba2.belowAll hb3
  have hbw3 := bStep hbw2 hb3
  clear ba2 hbw2 hb3  DE hc
  obtain ⟨N6, eN6⟩ : ∃ N6, N6 = w3.heap.size := ⟨_, rfl⟩
  obtain ⟨w4, hw4⟩ : ∃ w4 : World, w4 = w3.alloc (.cells #[.int .u64 ((limb 0 (x) : Nat) : Int), .int .u64 ((limb 1 (x) : Nat) : Int), .int .u64 ((limb 2 (x) : Nat) : Int), .int .u64 ((limb 3 (x) : Nat) : Int)] 24) := ⟨_, rfl⟩
  have ba4 : Blk w4 24 w.heap.size (fun i => limb i a) := by rw [hw4]; exact ba3.alloc _
  have lN6 : w.heap.size < N6 := by have := ba3.lt; omega
  have bx4 : Blk w4 24 N6 (fun i => limb i x) := by rw [hw4]; exact Blk.newAt _ _ _ (fun i => limb i x) eN6
  have hbw4 : Below w.heap.size w w4 := by rw [hw4]; exact bAlloc hbw3 _
  go_upto_region 7 with fail
  rw [← hw4, ← eN6]
  clear hw4 eN6 ba3 hbw3
  go_wp2_with fail
  have hgd := (HG.out.below hbw4).drew
  go_region_held3 (fun w' => (∀ i, i < 4 → w'.cell? ⟨w.heap.size, i, none⟩ = some (.int .u64 ((limb i a : Nat) : Int))) ∧ (∀ i, i < 4 → w'.cell? ⟨N6, i, none⟩ = some (.int .u64 ((limb i x : Nat) : Int))))
    (first | with_reducible exact hold2 hbA (by with_reducible assumption) | with_reducible exact ⟨ba4.drew.cell, bx4.drew.cell⟩)
    (first | (go_at_call 17; with_reducible refine (AZ _ hgd).mono ?_; rintro e w5 ⟨rfl, hbA⟩) | fail)
  have ba5 := ba4.drew.belowAll hbA; have bx5 := bx4.drew.belowAll hbA
  have hbw5 := bStep hbw4.drew hbA
  clear ba4 bx4 hbw4 hgd hbA QX
  go_wp2_with fail
  refine (CP _ (HB.out.below hbw5)).mono ?_
  rintro e w6 ⟨v2, rfl, hv2, hb6⟩
  have ba6 := ba5.belowAll hb6; have bx6 := bx5.belowAll hb6
  have hbw6 := bStep hbw5 hb6
  clear ba5 bx5 hbw5 hb6 CP
  go_wp2_with fail
  refine (D2 _ v2 (HG.out.below hbw6) hv2).mono ?_
  rintro e w7 ⟨rfl, hb7⟩
  have ba7 := ba6.belowAll hb7; have bx7 := bx6.belowAll hb7
  have hbw7 := bStep hbw6 hb7
  clear ba6 bx6 hbw6 hb7  D2 hv2
  rcases HH2 () with rfl | ⟨rfl, SB⟩
  · clear EY
    have ct := bx7.cell; have ft := bx7.frozen
    go_upto_region 10 with fail
    obtain ⟨w8, hw8⟩ : ∃ w8 : World, w8 = (((w7.setCell ⟨N6, 0, none⟩ (.int .u64 ((limb 0 y : Nat) : Int))).setCell ⟨N6, 1, none⟩ (.int .u64 ((limb 1 y : Nat) : Int))).setCell ⟨N6, 2, none⟩ (.int .u64 ((limb 2 y : Nat) : Int))).setCell ⟨N6, 3, none⟩ (.int .u64 ((limb 3 y : Nat) : Int)) := ⟨_, rfl⟩
    have ba8 : Blk w8 24 w.heap.size (fun i => limb i a) := by rw [hw8]; exact ba7.other4 (by omega) _ _ _ _
    have bx8 : Blk w8 24 N6 (fun i => limb i y) := by rw [hw8]; exact bx7.set4 (fun i => limb i y)
    have hbw8 : Below w.heap.size w w8 := by rw [hw8]; exact bSet4 hbw7 (by omega) _ _ _ _
    rw [← hw8]
    clear hw8 ba7 bx7 hbw7 ct ft
    rcases HH3 () with RT | ⟨K, sq, rfl, hK, lsq, sq1, sqK, RT, MU⟩
    · clear HH3 HH2
      have Q60 := fun w => eql0 0 (by decide) w
      rw [show decide ((0 : Nat) = 0) = true from by decide] at Q60
      go_wp2_with fail
      refine (RT _ (HG.out.below hbw8)).mono ?_
      rintro e w9 ⟨rfl, hb9⟩
      have ba9 := ba8.belowAll hb9; have bx9 := bx8.belowAll hb9
      have hbw9 := bStep hbw8 hb9
      clear ba8 bx8 hbw8 hb9  RT
      obtain ⟨N12, eN12⟩ : ∃ N12, N12 = w9.heap.size := ⟨_, rfl⟩
      obtain ⟨w10, hw10⟩ : ∃ w10 : World, w10 = w9.alloc (.cells #[.int .u64 0, .int .u64 0, .int .u64 0, .int .u64 0] 24) := ⟨_, rfl⟩
      have ba10 : Blk w10 24 w.heap.size (fun i => limb i a) := by rw [hw10]; exact ba9.alloc _
      have bx10 : Blk w10 24 N6 (fun i => limb i y) := by rw [hw10]; exact bx9.alloc _
      have lN12 : N6 < N12 := by have := bx9.lt; omega
      have br10 : Blk w10 24 N12 (fun i => limb i 0) := by rw [hw10]; exact (Blk.newAt _ _ _ (fun _ => 0) eN12).congr (fun i _ => limbz i)
      have hbw10 : Below w.heap.size w w10 := by rw [hw10]; exact bAlloc hbw9 _
      go_upto_region 13 with fail
      rw [← hw10, ← eN12]
      clear hw10 eN12 ba9 bx9 hbw9
      have cr := br10.cell
      go_wp2
      go_ret
      exact ⟨rfl, hbw10⟩
    · clear HH3 HH2
      go_wp2_with fail
      refine (RT _ (HG.out.below hbw8)).mono ?_
      rintro e w9 ⟨rfl, hb9⟩
      have ba9 := ba8.belowAll hb9; have bx9 := bx8.belowAll hb9
      have hbw9 := bStep hbw8 hb9
      clear ba8 bx8 hbw8 hb9  RT
      obtain ⟨N12, eN12⟩ : ∃ N12, N12 = w9.heap.size := ⟨_, rfl⟩
      obtain ⟨w10, hw10⟩ : ∃ w10 : World, w10 = w9.alloc (.cells #[.int .u64 ((limb 0 ((sq 0)) : Nat) : Int), .int .u64 ((limb 1 ((sq 0)) : Nat) : Int), .int .u64 ((limb 2 ((sq 0)) : Nat) : Int), .int .u64 ((limb 3 ((sq 0)) : Nat) : Int)] 24) := ⟨_, rfl⟩
      have ba10 : Blk w10 24 w.heap.size (fun i => limb i a) := by rw [hw10]; exact ba9.alloc _
      have bx10 : Blk w10 24 N6 (fun i => limb i y) := by rw [hw10]; exact bx9.alloc _
      have lN12 : N6 < N12 := by have := bx9.lt; omega
      have br10 : Blk w10 24 N12 (fun i => limb i (sq 0)) := by rw [hw10]; exact Blk.newAt _ _ _ (fun i => limb i (sq 0)) eN12
      have hbw10 : Below w.heap.size w w10 := by rw [hw10]; exact bAlloc hbw9 _
      go_upto_region 13 with fail
      rw [← hw10, ← eN12]
      clear hw10 eN12 ba9 bx9 hbw9
      have HS1 : Hid (∀ j, j < K → sq j ≠ 1) := sq1; have HSK : Hid (sq K = 1) := sqK; have HL : Hid (∀ j, sq j < 115792089237316195423570985008687907853269984665640564039457584007913129639936) := lsq
      clear sq1 sqK lsq
      have HN : Hid (w.heap.size < N12) := by show _ < _; omega
      go_wp2
      go_loopw [13] (fun iv wr => ∃ j : Nat, iv = .int .i64 (j : Int) ∧ j ≤ K ∧ Below w.heap.size w wr ∧ Blk wr 24 N12 (fun i => limb i (sq j))) (fun iv _ => K - (intOf iv).toNat)
      case atStart => exact ⟨0, rfl, by omega, hbw10, br10⟩
      case round =>
        obtain ⟨j, rfl, hj, hbw0, br0⟩ := hrel
        clear ba10 bx10 br10 hbw10
        have lj := HL.out j; have lj1 := HL.out (j + 1)
        by_cases hlt : j < K
        · have h1 : (j : Int) < (K : Int) := by omega
          have h2 : (j : Int) < 64 := by omega
          have Q1 := fun w => eqlE (sq j) 1 lj (by decide) w
          rw [word_agg 1 (by decide), show decide (sq j = 1) = false from by simp [HS1.out j hlt], show (((1 : Nat)) : Int) = 1 from rfl] at Q1
          have HN1 := HN.out
          have cr := br0.cell
          go_wp2_with fail
          refine (MU j _ (HG.out.below hbw0)).mono ?_
          rintro e w1 ⟨rfl, hb1⟩
          have br1 := br0.belowAll hb1
          have hbw1 := bStep hbw0 hb1
          clear br0 hbw0 hb1 cr 
          clear Q1
          have ct := br1.cell; have ft := br1.frozen
          go_upto_region 17 with fail
          obtain ⟨w2, hw2⟩ : ∃ w2 : World, w2 = (((w1.setCell ⟨N12, 0, none⟩ (.int .u64 ((limb 0 (sq (j + 1)) : Nat) : Int))).setCell ⟨N12, 1, none⟩ (.int .u64 ((limb 1 (sq (j + 1)) : Nat) : Int))).setCell ⟨N12, 2, none⟩ (.int .u64 ((limb 2 (sq (j + 1)) : Nat) : Int))).setCell ⟨N12, 3, none⟩ (.int .u64 ((limb 3 (sq (j + 1)) : Nat) : Int)) := ⟨_, rfl⟩
          have br2 : Blk w2 24 N12 (fun i => limb i (sq (j + 1))) := by rw [hw2]; exact br1.set4 (fun i => limb i (sq (j + 1)))
          have hbw2 : Below w.heap.size w w2 := by rw [hw2]; exact bSet4 hbw1 (by omega) _ _ _ _
          rw [← hw2]
          clear hw2 br1 hbw1 ct ft
          go_wp2
          go_roundw
          case measure => simp [intOf]; omega
          case rel => exact ⟨j + 1, by go_num, by omega, hbw2, br2⟩
        · have h1 : ¬ (j : Int) < (K : Int) := by omega
          have hjk : j = K := by omega
          subst hjk
          rw [HSK.out] at br0
          have Q1 := fun w => eqlE 1 1 (by decide) (by decide) w
          have Q2 := Q1
          rw [word_agg 1 (by decide), show decide ((1 : Nat) = 1) = true from by decide, show (((1 : Nat)) : Int) = 1 from rfl] at Q1
          clear Q2
          have cr := (br0.congr (g := fun i => if i = 0 then 1 else 0) (fun i _ => (limb_small 1 i (by decide)).symm)).cell
          have c0 := cr 0 (by decide); have c1 := cr 1 (by decide); have c2 := cr 2 (by decide); have c3 := cr 3 (by decide)
          simp only [if_true] at c0 c1 c2 c3
          clear cr
          go_wp2
          go_ret
          exact ⟨rfl, hbw0⟩
  · 
    have ct := bx7.cell; have ft := bx7.frozen
    go_upto_region 10 with fail
    obtain ⟨w8, hw8⟩ : ∃ w8 : World, w8 = (((w7.setCell ⟨N6, 0, none⟩ (.int .u64 ((limb 0 y : Nat) : Int))).setCell ⟨N6, 1, none⟩ (.int .u64 ((limb 1 y : Nat) : Int))).setCell ⟨N6, 2, none⟩ (.int .u64 ((limb 2 y : Nat) : Int))).setCell ⟨N6, 3, none⟩ (.int .u64 ((limb 3 y : Nat) : Int)) := ⟨_, rfl⟩
    have ba8 : Blk w8 24 w.heap.size (fun i => limb i a) := by rw [hw8]; exact ba7.other4 (by omega) _ _ _ _
    have bx8 : Blk w8 24 N6 (fun i => limb i y) := by rw [hw8]; exact bx7.set4 (fun i => limb i y)
    have hbw8 : Below w.heap.size w w8 := by rw [hw8]; exact bSet4 hbw7 (by omega) _ _ _ _
    rw [← hw8]
    clear hw8 ba7 bx7 hbw7 ct ft
    have cx := bx8.cell
    go_wp2_with fail
    refine (EY _ (HG.out.below hbw8)).mono ?_
    rintro e w9 ⟨g, rfl, hc, hb9⟩
    have ba9 := ba8.belowAll hb9; have bx9 := bx8.belowAll hb9
    have hbw9 := bStep hbw8 hb9
    clear ba8 bx8 hbw8 hb9 cx EY
    go_wp2_with fail
    refine (SB _ g hc (HB.out.below hbw9)).mono ?_
    rintro e w10 ⟨rfl, hb10⟩
    have ba10 := ba9.belowAll hb10; have bx10 := bx9.belowAll hb10
    have hbw10 := bStep hbw9 hb10
    clear ba9 bx9 hbw9 hb10  SB hc
    rcases HH3 () with RT | ⟨K, sq, rfl, hK, lsq, sq1, sqK, RT, MU⟩
    · clear HH3 HH2
      have Q60 := fun w => eql0 0 (by decide) w
      rw [show decide ((0 : Nat) = 0) = true from by decide] at Q60
      go_wp2_with fail
      refine (RT _ (HG.out.below hbw10)).mono ?_
      rintro e w11 ⟨rfl, hb11⟩
      have ba11 := ba10.belowAll hb11; have bx11 := bx10.belowAll hb11
      have hbw11 := bStep hbw10 hb11
      clear ba10 bx10 hbw10 hb11  RT
      obtain ⟨N12, eN12⟩ : ∃ N12, N12 = w11.heap.size := ⟨_, rfl⟩
      obtain ⟨w12, hw12⟩ : ∃ w12 : World, w12 = w11.alloc (.cells #[.int .u64 0, .int .u64 0, .int .u64 0, .int .u64 0] 24) := ⟨_, rfl⟩
      have ba12 : Blk w12 24 w.heap.size (fun i => limb i a) := by rw [hw12]; exact ba11.alloc _
      have bx12 : Blk w12 24 N6 (fun i => limb i y) := by rw [hw12]; exact bx11.alloc _
      have lN12 : N6 < N12 := by have := bx11.lt; omega
      have br12 : Blk w12 24 N12 (fun i => limb i 0) := by rw [hw12]; exact (Blk.newAt _ _ _ (fun _ => 0) eN12).congr (fun i _ => limbz i)
      have hbw12 : Below w.heap.size w w12 := by rw [hw12]; exact bAlloc hbw11 _
      go_upto_region 13 with fail
      rw [← hw12, ← eN12]
      clear hw12 eN12 ba11 bx11 hbw11
      have cr := br12.cell
      go_wp2
      go_ret
      exact ⟨rfl, hbw12⟩
    · clear HH3 HH2
      go_wp2_with fail
      refine (RT _ (HG.out.below hbw10)).mono ?_
      rintro e w11 ⟨rfl, hb11⟩
      have ba11 := ba10.belowAll hb11; have bx11 := bx10.belowAll hb11
      have hbw11 := bStep hbw10 hb11
      clear ba10 bx10 hbw10 hb11  RT
      obtain ⟨N12, eN12⟩ : ∃ N12, N12 = w11.heap.size := ⟨_, rfl⟩
      obtain ⟨w12, hw12⟩ : ∃ w12 : World, w12 = w11.alloc (.cells #[.int .u64 ((limb 0 ((sq 0)) : Nat) : Int), .int .u64 ((limb 1 ((sq 0)) : Nat) : Int), .int .u64 ((limb 2 ((sq 0)) : Nat) : Int), .int .u64 ((limb 3 ((sq 0)) : Nat) : Int)] 24) := ⟨_, rfl⟩
      have ba12 : Blk w12 24 w.heap.size (fun i => limb i a) := by rw [hw12]; exact ba11.alloc _
      have bx12 : Blk w12 24 N6 (fun i => limb i y) := by rw [hw12]; exact bx11.alloc _
      have lN12 : N6 < N12 := by have := bx11.lt; omega
      have br12 : Blk w12 24 N12 (fun i => limb i (sq 0)) := by rw [hw12]; exact Blk.newAt _ _ _ (fun i => limb i (sq 0)) eN12
      have hbw12 : Below w.heap.size w w12 := by rw [hw12]; exact bAlloc hbw11 _
      go_upto_region 13 with fail
      rw [← hw12, ← eN12]
      clear hw12 eN12 ba11 bx11 hbw11
      have HS1 : Hid (∀ j, j < K → sq j ≠ 1) := sq1; have HSK : Hid (sq K = 1) := sqK; have HL : Hid (∀ j, sq j < 115792089237316195423570985008687907853269984665640564039457584007913129639936) := lsq
      clear sq1 sqK lsq
      have HN : Hid (w.heap.size < N12) := by show _ < _; omega
      go_wp2
      go_loopw [13] (fun iv wr => ∃ j : Nat, iv = .int .i64 (j : Int) ∧ j ≤ K ∧ Below w.heap.size w wr ∧ Blk wr 24 N12 (fun i => limb i (sq j))) (fun iv _ => K - (intOf iv).toNat)
      case atStart => exact ⟨0, rfl, by omega, hbw12, br12⟩
      case round =>
        obtain ⟨j, rfl, hj, hbw0, br0⟩ := hrel
        clear ba12 bx12 br12 hbw12
        have lj := HL.out j; have lj1 := HL.out (j + 1)
        by_cases hlt : j < K
        · have h1 : (j : Int) < (K : Int) := by omega
          have h2 : (j : Int) < 64 := by omega
          have Q1 := fun w => eqlE (sq j) 1 lj (by decide) w
          rw [word_agg 1 (by decide), show decide (sq j = 1) = false from by simp [HS1.out j hlt], show (((1 : Nat)) : Int) = 1 from rfl] at Q1
          have HN1 := HN.out
          have cr := br0.cell
          go_wp2_with fail
          refine (MU j _ (HG.out.below hbw0)).mono ?_
          rintro e w1 ⟨rfl, hb1⟩
          have br1 := br0.belowAll hb1
          have hbw1 := bStep hbw0 hb1
          clear br0 hbw0 hb1 cr 
          clear Q1
          have ct := br1.cell; have ft := br1.frozen
          go_upto_region 17 with fail
          obtain ⟨w2, hw2⟩ : ∃ w2 : World, w2 = (((w1.setCell ⟨N12, 0, none⟩ (.int .u64 ((limb 0 (sq (j + 1)) : Nat) : Int))).setCell ⟨N12, 1, none⟩ (.int .u64 ((limb 1 (sq (j + 1)) : Nat) : Int))).setCell ⟨N12, 2, none⟩ (.int .u64 ((limb 2 (sq (j + 1)) : Nat) : Int))).setCell ⟨N12, 3, none⟩ (.int .u64 ((limb 3 (sq (j + 1)) : Nat) : Int)) := ⟨_, rfl⟩
          have br2 : Blk w2 24 N12 (fun i => limb i (sq (j + 1))) := by rw [hw2]; exact br1.set4 (fun i => limb i (sq (j + 1)))
          have hbw2 : Below w.heap.size w w2 := by rw [hw2]; exact bSet4 hbw1 (by omega) _ _ _ _
          rw [← hw2]
          clear hw2 br1 hbw1 ct ft
          go_wp2
          go_roundw
          case measure => simp [intOf]; omega
          case rel => exact ⟨j + 1, by go_num, by omega, hbw2, br2⟩
        · have h1 : ¬ (j : Int) < (K : Int) := by omega
          have hjk : j = K := by omega
          subst hjk
          rw [HSK.out] at br0
          have Q1 := fun w => eqlE 1 1 (by decide) (by decide) w
          have Q2 := Q1
          rw [word_agg 1 (by decide), show decide ((1 : Nat) = 1) = true from by decide, show (((1 : Nat)) : Int) = 1 from rfl] at Q1
          clear Q2
          have cr := (br0.congr (g := fun i => if i = 0 then 1 else 0) (fun i _ => (limb_small 1 i (by decide)).symm)).cell
          have c0 := cr 0 (by decide); have c1 := cr 1 (by decide); have c2 := cr 2 (by decide); have c3 := cr 3 (by decide)
          simp only [if_true] at c0 c1 c2 c3
          clear cr
          go_wp2
          go_ret
          exact ⟨rfl, hbw0⟩

set_option maxHeartbeats 4000000 in
theorem round_out (s k : Int) (a : Nat) (vb : Value) (hs : s < 0 ∨ 4 ≤ s) (w : World) (hg : Glob w) :
    Calls Tryd.prog 6 #[.int .i64 s, .agg #[.int .u64 ((limb 0 (a) : Nat) : Int), .int .u64 ((limb 1 (a) : Nat) : Int), .int .u64 ((limb 2 (a) : Nat) : Int), .int .u64 ((limb 3 (a) : Nat) : Int)], vb, .int .i64 k] w fun e w' => e = .returned (.bool true) ∧ Below w.heap.size w w' := by
  have AL := fun w hg => alive2_any w hg
  by_cases h : s < 0
  · clear hs
    go_enter Tryd.func6, Tryd.ntmps6
    go_wp2_with fail
    refine (AL _ (hg.alloc _)).mono ?_
    rintro e w1 ⟨rfl, hb1⟩
    go_wp2
    go_ret
    exact ⟨rfl, bStep (bAlloc (Below.refl _ _) _) hb1⟩
  · have h3 : 3 < s := by omega
    clear hs
    go_enter Tryd.func6, Tryd.ntmps6
    go_wp2_with fail
    refine (AL _ (hg.alloc _)).mono ?_
    rintro e w1 ⟨rfl, hb1⟩
    go_wp2
    go_ret
    exact ⟨rfl, bStep (bAlloc (Below.refl _ _) _) hb1⟩
theorem round_walk (s : Int) (a n : Nat) (vb : Value) (fb : Nat → Nat) (k : Int) (ha : a < 115792089237316195423570985008687907853269984665640564039457584007913129639936) (w : World) (hB : Bs w vb n fb) (hfb : ∀ i, i < n → fb i < 256) (hn : n ≤ 140737488351232) (hg : Glob w) :
    Calls Tryd.prog 6 #[.int .i64 s, .agg #[.int .u64 ((limb 0 (a) : Nat) : Int), .int .u64 ((limb 1 (a) : Nat) : Int), .int .u64 ((limb 2 (a) : Nat) : Int), .int .u64 ((limb 3 (a) : Nat) : Int)], vb, .int .i64 k] w fun e w' => e = .returned (.bool true) ∧ Below w.heap.size w w' := by
  by_cases h : s < 0 ∨ 4 ≤ s
  · exact round_out s k a vb h w hg
  · obtain ⟨t, rfl⟩ := Int.eq_ofNat_of_zero_le (show 0 ≤ s by omega)
    have ht : t < 4 := by omega
    have hM := modN_lt t
    have hp := modN_pos t
    have z : (.agg #[.int .u64 ((limb 0 (0) : Nat) : Int), .int .u64 ((limb 1 (0) : Nat) : Int), .int .u64 ((limb 2 (0) : Nat) : Int), .int .u64 ((limb 3 (0) : Nat) : Int)] : Value) = .agg #[.int .u64 0, .int .u64 0, .int .u64 0, .int .u64 0] := by rw [limbz, limbz, limbz, limbz]; rfl
    have lx := Nat.mod_lt a hp
    have e256 : (256 : Nat) ^ 32 = 115792089237316195423570985008687907853269984665640564039457584007913129639936 := by decide
    have eAZ : addP t a 0 = a % modN t := by unfold addP; rw [Nat.add_zero]
    have EN : ∀ y, y < 115792089237316195423570985008687907853269984665640564039457584007913129639936 → ∀ w, Glob w → Calls Tryd.prog 13 #[.int .i64 (t : Int), .agg #[.int .u64 ((limb 0 (y) : Nat) : Int), .int .u64 ((limb 1 (y) : Nat) : Int), .int .u64 ((limb 2 (y) : Nat) : Int), .int .u64 ((limb 3 (y) : Nat) : Int)]] w fun e w' => ∃ g, e = .returned (.slice (some ⟨g, 0, none⟩) 32 32) ∧ BlkB w' 5 g 32 (encB (y % modN t)) ∧ Below w.heap.size w w' := fun y hy w hg => (fEncode_any t y ht hy w hg).mono (by rintro e w' ⟨g, he, _, h1, h2⟩; exact ⟨g, he, h1, h2⟩)
    have DE : ∀ w g, Glob w → BlkB w 5 g 32 (encB (a % modN t)) → Calls Tryd.prog 10 #[.int .i64 (t : Int), .slice (some ⟨g, 0, none⟩) 32 32] w fun e w' => e = .returned (.tuple #[.agg #[.int .u64 ((limb 0 (a % modN t) : Nat) : Int), .int .u64 ((limb 1 (a % modN t) : Nat) : Int), .int .u64 ((limb 2 (a % modN t) : Nat) : Int), .int .u64 ((limb 3 (a % modN t) : Nat) : Int)], .int .i64 0]) ∧ Below w.heap.size w w' := fun w g hg hb => (fDecode_32 t _ _ ht w hg (hb.Bs (by decide)) (fun i _ => Nat.mod_lt _ (by decide))).mono (by
      rintro e w' ⟨rfl, h2⟩
      refine ⟨?_, h2⟩
      rw [leN_enc, e256, Nat.mod_eq_of_lt (show a % modN t < 115792089237316195423570985008687907853269984665640564039457584007913129639936 by omega)]
      unfold decV
      rw [if_pos lx])
    have AZ : ∀ w, Glob w → Calls Tryd.prog 17 #[.int .i64 (t : Int), .agg #[.int .u64 ((limb 0 (a) : Nat) : Int), .int .u64 ((limb 1 (a) : Nat) : Int), .int .u64 ((limb 2 (a) : Nat) : Int), .int .u64 ((limb 3 (a) : Nat) : Int)], .agg #[.int .u64 0, .int .u64 0, .int .u64 0, .int .u64 0]] w fun e w' => e = .returned (.agg #[.int .u64 ((limb 0 (a % modN t) : Nat) : Int), .int .u64 ((limb 1 (a % modN t) : Nat) : Int), .int .u64 ((limb 2 (a % modN t) : Nat) : Int), .int .u64 ((limb 3 (a % modN t) : Nat) : Int)]) ∧ Below w.heap.size w w' := fun w hg => by
      have h := fAdd_zero t a ht ha w hg
      rw [eAZ] at h
      exact h
    have CP : ∀ w, Bs w vb n fb → Calls Tryd.prog 23 #[vb] w fun e w' => ∃ v', e = .returned v' ∧ Bs w' v' n fb ∧ Below w.heap.size w w' := fun w hb => (copy_any n vb fb hn w hb).mono (by rintro e w' ⟨v', he, h1, h2⟩; exact ⟨v', he, own_Bs h1, h2⟩)
    have H3 : (∀ w, Glob w → Calls Tryd.prog 24 #[.int .i64 (t : Int), .int .i64 k] w fun e w' => e = .returned (.tuple #[.agg #[.int .u64 0, .int .u64 0, .int .u64 0, .int .u64 0], .int .i64 60]) ∧ Below w.heap.size w w') ∨ ∃ (K : Nat) (sq : Nat → Nat), k = (K : Int) ∧ K < 64 ∧ (∀ j, sq j < 115792089237316195423570985008687907853269984665640564039457584007913129639936) ∧ (∀ j, j < K → sq j ≠ 1) ∧ sq K = 1 ∧ (∀ w, Glob w → Calls Tryd.prog 24 #[.int .i64 (t : Int), .int .i64 k] w fun e w' => e = .returned (.tuple #[.agg #[.int .u64 ((limb 0 (sq 0) : Nat) : Int), .int .u64 ((limb 1 (sq 0) : Nat) : Int), .int .u64 ((limb 2 (sq 0) : Nat) : Int), .int .u64 ((limb 3 (sq 0) : Nat) : Int)], .int .i64 0]) ∧ Below w.heap.size w w') ∧ (∀ j w, Glob w → Calls Tryd.prog 18 #[.int .i64 (t : Int), .agg #[.int .u64 ((limb 0 (sq j) : Nat) : Int), .int .u64 ((limb 1 (sq j) : Nat) : Int), .int .u64 ((limb 2 (sq j) : Nat) : Int), .int .u64 ((limb 3 (sq j) : Nat) : Int)], .agg #[.int .u64 ((limb 0 (sq j) : Nat) : Int), .int .u64 ((limb 1 (sq j) : Nat) : Int), .int .u64 ((limb 2 (sq j) : Nat) : Int), .int .u64 ((limb 3 (sq j) : Nat) : Int)]] w fun e w' => e = .returned (.agg #[.int .u64 ((limb 0 (sq (j + 1)) : Nat) : Int), .int .u64 ((limb 1 (sq (j + 1)) : Nat) : Int), .int .u64 ((limb 2 (sq (j + 1)) : Nat) : Int), .int .u64 ((limb 3 (sq (j + 1)) : Nat) : Int)]) ∧ Below w.heap.size w w') := by
      by_cases hk0 : k < 0
      · exact Or.inl (fun w hg => fRoot_lo t ht k hk0 w hg)
      · by_cases hk1 : ((adicN t : Nat) : Int) < k
        · exact Or.inl (fun w hg => fRoot_hi t ht k hk1 w hg)
        · obtain ⟨K, rfl⟩ := Int.eq_ofNat_of_zero_le (show 0 ≤ k by omega)
          have hA := adicN_le t
          have hK : K ≤ adicN t := by omega
          refine Or.inr ⟨K, fun j => sqs (modN t) (rootP t K) j, rfl, by omega, fun j => ?_, fun j hj => root_not_one t K j hK hj, root_one_at t K hK, fun w hg => ?_, fun j w hg => ?_⟩
          · have := sqs_lt (modN t) (rootP t K) j hp
            show sqs (modN t) (rootP t K) j < _
            omega
          · show Calls _ _ _ _ fun e w' => e = .returned (.tuple #[.agg #[.int .u64 ((limb 0 (sqs (modN t) (rootP t K) 0) : Nat) : Int), .int .u64 ((limb 1 (sqs (modN t) (rootP t K) 0) : Nat) : Int), .int .u64 ((limb 2 (sqs (modN t) (rootP t K) 0) : Nat) : Int), .int .u64 ((limb 3 (sqs (modN t) (rootP t K) 0) : Nat) : Int)], .int .i64 0]) ∧ Below w.heap.size w w'
            rw [sqs_zero _ _ (rootP_lt t K)]
            exact fRoot_any t K ht hK w hg
          · show Calls _ _ #[_, .agg #[.int .u64 ((limb 0 (sqs (modN t) (rootP t K) j) : Nat) : Int), .int .u64 ((limb 1 (sqs (modN t) (rootP t K) j) : Nat) : Int), .int .u64 ((limb 2 (sqs (modN t) (rootP t K) j) : Nat) : Int), .int .u64 ((limb 3 (sqs (modN t) (rootP t K) j) : Nat) : Int)], .agg #[.int .u64 ((limb 0 (sqs (modN t) (rootP t K) j) : Nat) : Int), .int .u64 ((limb 1 (sqs (modN t) (rootP t K) j) : Nat) : Int), .int .u64 ((limb 2 (sqs (modN t) (rootP t K) j) : Nat) : Int), .int .u64 ((limb 3 (sqs (modN t) (rootP t K) j) : Nat) : Int)]] _ fun e w' => e = .returned (.agg #[.int .u64 ((limb 0 (sqs (modN t) (rootP t K) (j + 1)) : Nat) : Int), .int .u64 ((limb 1 (sqs (modN t) (rootP t K) (j + 1)) : Nat) : Int), .int .u64 ((limb 2 (sqs (modN t) (rootP t K) (j + 1)) : Nat) : Int), .int .u64 ((limb 3 (sqs (modN t) (rootP t K) (j + 1)) : Nat) : Int)]) ∧ Below w.heap.size w w'
            have l := sqs_lt (modN t) (rootP t K) j hp
            have h := fMul_any t (sqs (modN t) (rootP t K) j) (sqs (modN t) (rootP t K) j) ht (by omega) (by omega) w hg
            rw [sqs_succ]
            exact h
    by_cases h32 : n = 32
    · subst h32
      have D := fun w v hg hb => fDecode_32 t v fb ht w hg hb hfb
      by_cases hlt : leN fb 32 < modN t
      · unfold decV at D
        rw [if_pos hlt] at D
        refine round_gen t k 0 a (a % modN t) (leN fb 32) 32 vb _ fb _ (by omega) (by omega) (by omega) (EN a ha) DE AZ CP D (EN _ (by omega)) (Or.inr ⟨rfl, fun w g h1 h2 => ?_⟩) H3 w hg hB
        refine (same_any _ _ 32 32 _ fb w (h1.Bs (by decide)) h2).mono ?_
        rintro e w' ⟨rfl, hb⟩
        refine ⟨?_, hb⟩
        rw [sameB_true (fun i hi => by rw [Nat.mod_eq_of_lt hlt]; exact encB_leN fb 32 hfb i hi)]
        rfl
      · unfold decV at D
        rw [if_neg hlt, ← z] at D
        exact round_gen t k 21 a (a % modN t) 0 32 vb _ fb _ (by omega) (by omega) (by omega) (EN a ha) DE AZ CP D (EN _ (by decide)) (Or.inl rfl) H3 w hg hB
    · have D := fun w v hg hb => fDecode_len t n v fb ht h32 w hg hb
      rw [← z] at D
      exact round_gen t k 21 a (a % modN t) 0 n vb _ fb _ (by omega) (by omega) (by omega) (EN a ha) DE AZ CP D (EN _ (by decide)) (Or.inl rfl) H3 w hg hB

end Go.Proofs.YtlndeghggdpmaacDoor
