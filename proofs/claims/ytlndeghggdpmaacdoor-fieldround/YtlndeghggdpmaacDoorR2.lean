/- What field.squared and field.orderLog do. -/
import Derived.Test.YtlndeghggdpmaacDoorR1
import Derived.Test.YtlndeghggdpmaacDoorN1
namespace Go.Proofs.YtlndeghggdpmaacDoor
open Go.RowKit

theorem neqS1 (X : Nat) (hX : X < 115792089237316195423570985008687907853269984665640564039457584007913129639936) (w : World) : (binOp .neq 49 (.agg #[.int .u64 ((limb 0 (X) : Nat) : Int), .int .u64 ((limb 1 (X) : Nat) : Int), .int .u64 ((limb 2 (X) : Nat) : Int), .int .u64 ((limb 3 (X) : Nat) : Int)]) (.agg #[.int .u64 ((limb 0 (1) : Nat) : Int), .int .u64 ((limb 1 (1) : Nat) : Int), .int .u64 ((limb 2 (1) : Nat) : Int), .int .u64 ((limb 3 (1) : Nat) : Int)])).run Tryd.prog w = .ok (.bool (!decide (X = 1))) w := by
  have h := eq4N X 1 hX (by decide)
  rw [run_neq_struct, eqS_in]
  simp only [Result.andThen]
  rw [← h]

theorem glob_set4 {W : World} (h : Glob W) {r : Nat} (hr : 1 < r) (v0 v1 v2 v3 : Value) : Glob ((((W.setCell ⟨r, 0, none⟩ v0).setCell ⟨r, 1, none⟩ v1).setCell ⟨r, 2, none⟩ v2).setCell ⟨r, 3, none⟩ v3) := by
  have hB : Below r W ((((W.setCell ⟨r, 0, none⟩ v0).setCell ⟨r, 1, none⟩ v1).setCell ⟨r, 2, none⟩ v2).setCell ⟨r, 3, none⟩ v3) := by
    repeat (first | exact Below.refl _ _ | refine Below.setCell ?_ (by simp) _)
  obtain ⟨h1, h2, h3⟩ := h
  refine ⟨Nat.le_trans h1 hB.size, fun s hs => ⟨fun j hj => ?_, ?_⟩, fun i hi => ?_⟩
  · rw [hB.cell (p := ⟨0, 5 * s + j, none⟩) (show 0 < r by omega)]; exact (h2 s hs).1 j hj
  · rw [hB.cell (p := ⟨0, 5 * s + 4, none⟩) (show 0 < r by omega)]; exact (h2 s hs).2
  · rw [hB.cell (p := ⟨1, i, none⟩) hr]; exact h3 i hi

set_option maxHeartbeats 4000000 in
set_option maxRecDepth 20000 in
/-- field.squared. -/
theorem squared_any (m x n : Nat) (hG : GoodMod m) (hx : x < m) (hn : n < 64) (w : World) :
    Calls Tryd.prog 69 #[.agg #[.int .u64 ((limb 0 (m) : Nat) : Int), .int .u64 ((limb 1 (m) : Nat) : Int), .int .u64 ((limb 2 (m) : Nat) : Int), .int .u64 ((limb 3 (m) : Nat) : Int)], .agg #[.int .u64 ((limb 0 (x) : Nat) : Int), .int .u64 ((limb 1 (x) : Nat) : Int), .int .u64 ((limb 2 (x) : Nat) : Int), .int .u64 ((limb 3 (x) : Nat) : Int)], .int .i64 (n : Int)] w fun r w' => r = .returned (.agg #[.int .u64 ((limb 0 (sqs m x n) : Nat) : Int), .int .u64 ((limb 1 (sqs m x n) : Nat) : Int), .int .u64 ((limb 2 (sqs m x n) : Nat) : Int), .int .u64 ((limb 3 (sqs m x n) : Nat) : Int)]) ∧ Below w.heap.size w w' := by
  have hgl := hG.lt
  have PP := fun a b (ha : a < m) (hb : b < m) w => product_any m a b hG ha hb w
  clear hG
  go_enter Tryd.func69, Tryd.ntmps69
  go_upto_region 1 with fail
  obtain ⟨w0, hw0⟩ : ∃ w0 : World, w0 = ((w.alloc (.cells #[.int .u64 ((limb 0 (m) : Nat) : Int), .int .u64 ((limb 1 (m) : Nat) : Int), .int .u64 ((limb 2 (m) : Nat) : Int), .int .u64 ((limb 3 (m) : Nat) : Int)] 49)).alloc (.cells #[.int .u64 ((limb 0 (x) : Nat) : Int), .int .u64 ((limb 1 (x) : Nat) : Int), .int .u64 ((limb 2 (x) : Nat) : Int), .int .u64 ((limb 3 (x) : Nat) : Int)] 49)).alloc (.cells #[.int .u64 0, .int .u64 0, .int .u64 0, .int .u64 0] 49) := ⟨_, rfl⟩
  have bm0 : Blk w0 49 w.heap.size (fun i => limb i m) := by rw [hw0]; exact ((Blk.newAt _ _ _ (fun i => limb i m) (by simp)).alloc _).alloc _
  have bx0 : Blk w0 49 (w.heap.size + 1) (fun i => limb i x) := by rw [hw0]; exact (Blk.newAt _ _ _ (fun i => limb i x) (by simp)).alloc _
  have br0 : Blk w0 49 (w.heap.size + 1 + 1) (fun _ => 0) := by rw [hw0]; exact Blk.newAt _ _ _ (fun _ => 0) (by simp)
  have hb0 : Below w.heap.size w w0 := by
    rw [hw0]
    repeat (first | with_reducible exact Below.refl _ _ | with_reducible refine Below.alloc ?_ (by first | omega | (simp; omega) | simp) _)
  rw [← hw0]
  clear hw0
  go_wp2
  go_loopw [8] (fun i wr => ∃ k : Nat, i = .int .i64 (k : Int) ∧ k ≤ n ∧ Below w.heap.size w wr ∧ Blk wr 49 w.heap.size (fun i => limb i m) ∧ Blk wr 49 (w.heap.size + 1) (fun i => limb i (sqs m x k)) ∧ Blk wr 49 (w.heap.size + 1 + 1) (fun _ => 0)) (fun i _ => n - (intOf i).toNat)
  case atStart =>
    refine ⟨0, rfl, by omega, hb0, bm0, ?_, br0⟩
    rw [sqs_zero m x hx]
    exact bx0
  case round =>
    obtain ⟨k, rfl, hk, hbr, bm, bx, br⟩ := hrel
    clear bm0 bx0 br0 hb0
    by_cases hlt : k < n
    · have hki : (k : Int) < (n : Int) := by omega
      have lo := sqs_lt m x k (by omega)
      have P1 := fun w => PP _ _ lo lo w
      rw [← sqs_succ] at P1
      obtain ⟨o, eo⟩ : ∃ o, o = sqs m x k := ⟨_, rfl⟩
      obtain ⟨q, eq⟩ : ∃ q, q = sqs m x (k + 1) := ⟨_, rfl⟩
      rw [← eo] at bx P1
      rw [← eq] at P1
      have EQ := (show Hid _ from eq)
      clear eo eq lo PP
      have cm := bm.cell; have cx := bx.cell
      go_wp2_with fail
      refine (P1 _).mono ?_
      rintro r w2 ⟨rfl, hb2⟩
      have bm2 := bm.belowAll hb2; have bx2 := bx.belowAll hb2; have br2 := br.belowAll hb2
      have hbw2 := bStep hbr hb2
      clear bm bx br hbr hb2 cm cx P1
      have cx := bx2.cell; have fx := bx2.frozen
      go_wp2
      go_roundw
      case measure => simp [intOf]; omega
      case rel =>
        refine ⟨k + 1, by go_num, by omega, bSet4 hbw2 (by omega) _ _ _ _, bm2.other4 (by omega) _ _ _ _, ?_, br2.other4 (by omega) _ _ _ _⟩
        rw [← EQ.out]
        exact bx2.set4 (fun i => limb i q)
    · have hkn : k = n := by omega
      subst hkn
      clear hlt PP
      obtain ⟨o, eo⟩ : ∃ o, o = sqs m x k := ⟨_, rfl⟩
      rw [← eo] at bx
      have EO := (show Hid _ from eo)
      clear eo
      have cx := bx.cell; have cr := br.cell; have fr := br.frozen
      go_wp2
      refine bodyPost_ret (v := .agg #[.int .u64 ((limb 0 (o) : Nat) : Int), .int .u64 ((limb 1 (o) : Nat) : Int), .int .u64 ((limb 2 (o) : Nat) : Int), .int .u64 ((limb 3 (o) : Nat) : Int)]) (by simp [results, Tryd.results69, go_sem, cr]) rfl ⟨by rw [EO.out], ?_⟩
      repeat (first | with_reducible exact hbr | with_reducible refine Below.setCell ?_ (by first | omega | (simp; omega) | simp) _)

set_option maxHeartbeats 4000000 in
set_option maxRecDepth 20000 in
/-- field.orderLog. -/
theorem orderLog_any (m x n : Nat) (hG : GoodMod m) (hx : x < m) (hn : n < 64) (w : World) (hg : Glob w) :
    Calls Tryd.prog 68 #[.agg #[.int .u64 ((limb 0 (m) : Nat) : Int), .int .u64 ((limb 1 (m) : Nat) : Int), .int .u64 ((limb 2 (m) : Nat) : Int), .int .u64 ((limb 3 (m) : Nat) : Int)], .agg #[.int .u64 ((limb 0 (x) : Nat) : Int), .int .u64 ((limb 1 (x) : Nat) : Int), .int .u64 ((limb 2 (x) : Nat) : Int), .int .u64 ((limb 3 (x) : Nat) : Int)], .int .i64 (n : Int)] w fun r w' => (∃ k : Nat, k ≤ n ∧ r = .returned (.int .i64 (k : Int)) ∧ (∀ j, j < k → sqs m x j ≠ 1) ∧ (k < n → sqs m x k = 1)) ∧ Below w.heap.size w w' := by
  have hgl := hG.lt
  have PP := fun a b (ha : a < m) (hb : b < m) w => product_any m a b hG ha hb w
  clear hG
  go_enter Tryd.func68, Tryd.ntmps68
  go_upto_region 1 with fail
  obtain ⟨w0, hw0⟩ : ∃ w0 : World, w0 = (w.alloc (.cells #[.int .u64 ((limb 0 (m) : Nat) : Int), .int .u64 ((limb 1 (m) : Nat) : Int), .int .u64 ((limb 2 (m) : Nat) : Int), .int .u64 ((limb 3 (m) : Nat) : Int)] 49)).alloc (.cells #[.int .u64 ((limb 0 (x) : Nat) : Int), .int .u64 ((limb 1 (x) : Nat) : Int), .int .u64 ((limb 2 (x) : Nat) : Int), .int .u64 ((limb 3 (x) : Nat) : Int)] 49) := ⟨_, rfl⟩
  have bm0 : Blk w0 49 w.heap.size (fun i => limb i m) := by rw [hw0]; exact (Blk.newAt _ _ _ (fun i => limb i m) (by simp)).alloc _
  have bx0 : Blk w0 49 (w.heap.size + 1) (fun i => limb i x) := by rw [hw0]; exact Blk.newAt _ _ _ (fun i => limb i x) (by simp)
  have hg0 : Glob w0 := by rw [hw0]; exact (hg.alloc _).alloc _
  have hb0 : Below w.heap.size w w0 := by
    rw [hw0]
    repeat (first | with_reducible exact Below.refl _ _ | with_reducible refine Below.alloc ?_ (by first | omega | (simp; omega) | simp) _)
  rw [← hw0]
  clear hw0
  have lg := hg.1
  go_wp2
  go_loopw [7] (fun i wr => ∃ k : Nat, i = .int .i64 (k : Int) ∧ k ≤ n ∧ Hid (∀ j, j < k → sqs m x j ≠ 1) ∧ Below w.heap.size w wr ∧ Glob wr ∧ Blk wr 49 w.heap.size (fun i => limb i m) ∧ Blk wr 49 (w.heap.size + 1) (fun i => limb i (sqs m x k))) (fun i _ => n - (intOf i).toNat)
  case atStart =>
    refine ⟨0, rfl, by omega, fun j hj => by omega, hb0, hg0, bm0, ?_⟩
    rw [sqs_zero m x hx]
    exact bx0
  case round =>
    obtain ⟨k, rfl, hk, hne, hbr, hgr, bm, bx⟩ := hrel
    clear bm0 bx0 hb0 hg0
    have lo := sqs_lt m x k (by omega)
    have NE := fun w => neqS1 (sqs m x k) (by omega) w
    have cx := bx.cell
    have co := hgr.2.2
    by_cases h1 : sqs m x k = 1
    · rw [show decide (sqs m x k = 1) = true from by simp [h1]] at NE
      have H1 := (show Hid _ from h1)
      clear h1
      obtain ⟨o, eo⟩ : ∃ o, o = sqs m x k := ⟨_, rfl⟩
      rw [← eo] at cx NE
      clear eo
      go_wp2
      go_ret
      exact ⟨⟨k, hk, rfl, hne.out, fun _ => H1.out⟩, hbr⟩
    · rw [show decide (sqs m x k = 1) = false from by simp [h1]] at NE
      have H1 := (show Hid _ from h1)
      clear h1
      by_cases hlt : k < n
      · have hki : (k : Int) < (n : Int) := by omega
        have P1 := fun w => PP _ _ lo lo w
        rw [← sqs_succ] at P1
        obtain ⟨o, eo⟩ : ∃ o, o = sqs m x k := ⟨_, rfl⟩
        obtain ⟨q, eq⟩ : ∃ q, q = sqs m x (k + 1) := ⟨_, rfl⟩
        rw [← eo] at cx bx NE P1
        rw [← eq] at P1
        have EQ := (show Hid _ from eq)
        clear eo eq lo PP
        have cm := bm.cell
        go_wp2_with fail
        refine (P1 _).mono ?_
        rintro r w2 ⟨rfl, hb2⟩
        have bm2 := bm.belowAll hb2; have bx2 := bx.belowAll hb2; have hg2 := hgr.below hb2
        have hbw2 := bStep hbr hb2
        clear bm bx hbr hgr hb2 cm cx co P1 NE
        have cx := bx2.cell; have fx := bx2.frozen
        go_wp2
        go_roundw
        case measure => simp [intOf]; omega
        case rel =>
          refine ⟨k + 1, by go_num, by omega, fun j hj => ?_, bSet4 hbw2 (by omega) _ _ _ _, glob_set4 hg2 (by omega) _ _ _ _, bm2.other4 (by omega) _ _ _ _, ?_⟩
          · rcases Nat.lt_or_ge j k with h | h
            · exact hne.out j h
            · rw [show j = k from by omega]; exact H1.out
          · rw [← EQ.out]
            exact bx2.set4 (fun i => limb i q)
      · have hki : ¬ (k : Int) < (n : Int) := by omega
        obtain ⟨o, eo⟩ : ∃ o, o = sqs m x k := ⟨_, rfl⟩
        rw [← eo] at cx NE
        clear eo
        go_wp2
        go_ret
        exact ⟨⟨k, hk, rfl, hne.out, fun h => absurd h hlt⟩, hbr⟩

end Go.Proofs.YtlndeghggdpmaacDoor
