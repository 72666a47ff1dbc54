/- What the second reference's Inv and Invert do. -/
import Derived.Test.YtfbfenljfdnggaaGreatDoorVWL
import Derived.Test.YtfbfenljfdnggaaGreatDoorVWN
namespace Go.Proofs.YtfbfenljfdnggaaGreatDoor
open Go.RowKit
theorem ownsRow_below {w w' : World} {base : Nat} {e : TypeId} {size : Nat} {v : Value} {n : Nat} {xs : List Value} (h : w.ownsRow base e size v n xs) (hb : Below w.heap.size w w') : w'.ownsRow base e size v n xs := by
  obtain ⟨h1, h2⟩ := h
  refine ⟨h1, ?_⟩
  rcases h2 with h2 | ⟨g, cap, cur, h3, h4, h5, h6⟩
  · exact Or.inl h2
  · refine Or.inr ⟨g, cap, cur, h3, h4, ?_, h6⟩
    have hgl : g < w.heap.size := by
      rcases Nat.lt_or_ge g w.heap.size with hl | hl
      · exact hl
      · rw [Array.getElem?_eq_none hl] at h5; cases h5
    rw [hb.block g hgl]; exact h5
set_option maxHeartbeats 8000000 in
set_option maxRecDepth 20000 in
theorem rInv_some (s a : Nat) (hs : s < 4) (ha : a < 115792089237316195423570985008687907853269984665640564039457584007913129639936) (hz : a % modN s ≠ 0) (w : World) :
    Calls Tryz.prog 73 #[.int .i64 (s : Int), .agg #[.int .u64 ((limb 0 (a) : Nat) : Int), .int .u64 ((limb 1 (a) : Nat) : Int), .int .u64 ((limb 2 (a) : Nat) : Int), .int .u64 ((limb 3 (a) : Nat) : Int)]] w fun e w' => e = .returned (.tuple #[.agg #[.int .u64 ((limb 0 (invU (modN s) a) : Nat) : Int), .int .u64 ((limb 1 (invU (modN s) a) : Nat) : Int), .int .u64 ((limb 2 (invU (modN s) a) : Nat) : Int), .int .u64 ((limb 3 (invU (modN s) a) : Nat) : Int)], .int .i64 0]) ∧ Below w.heap.size w w' := by
  have HM := fun w => ref2Modulus_any s hs w
  have OF := fun w => ref2Of_any s a hs ha w
  have hgl := (modN_good s).lt
  have lx := Nat.mod_lt a (modN_pos s)
  have QZ := fun w => eqlE (a % modN s) 0 (by omega) (by decide) w
  rw [show decide (a % modN s = 0) = false from by simp [hz]] at QZ
  have hod := modN_odd s
  have MI := fun w => ref2Minus_any (modN s) 2 hgl.2.2 (by decide) w
  rw [word_agg 2 (by decide), show sub256 (modN s) 2 = modN s - 2 from by unfold sub256; omega, show (((2 : Nat)) : Int) = 2 from rfl] at MI
  have EX := fun w => ref2Exp_any s a (modN s - 2) hs ha (by omega) w
  rw [show expP s a (modN s - 2) = invU (modN s) a from rfl] at EX
  obtain ⟨x, ex⟩ : ∃ x, x = a % modN s := ⟨_, rfl⟩
  rw [← ex] at OF QZ
  obtain ⟨q, eq⟩ : ∃ q, q = invU (modN s) a := ⟨_, rfl⟩
  rw [← eq] at EX ⊢
  obtain ⟨m2, em2⟩ : ∃ m2, m2 = modN s - 2 := ⟨_, rfl⟩
  rw [← em2] at EX MI
  obtain ⟨m, em⟩ : ∃ m, m = modN s := ⟨_, rfl⟩
  rw [← em] at HM MI
  clear ex em hgl lx hz hs ha eq em2 hod
  go_enter Tryz.func73, Tryz.ntmps73
  go_wp2_with fail
  obtain ⟨w0, hw0⟩ : ∃ w0 : World, w0 = (w.alloc (.cells #[.int .u64 ((limb 0 (a) : Nat) : Int), .int .u64 ((limb 1 (a) : Nat) : Int), .int .u64 ((limb 2 (a) : Nat) : Int), .int .u64 ((limb 3 (a) : Nat) : Int)] 25)).alloc (.cells #[.int .u64 0, .int .u64 0, .int .u64 0, .int .u64 0] 25) := ⟨_, rfl⟩
  have ba0 : Blk w0 25 w.heap.size (fun i => limb i a) := by rw [hw0]; exact (Blk.newAt _ _ _ (fun i => limb i a) (by simp)).alloc _
  have br0 : Blk w0 25 (w.heap.size + 1) (fun _ => 0) := by rw [hw0]; exact Blk.newAt _ _ _ (fun _ => 0) (by simp)
  have hb0 : Below w.heap.size w w0 := by
    rw [hw0]
    repeat (first | with_reducible exact Below.refl _ _ | with_reducible refine Below.alloc ?_ (by first | omega | (simp; omega) | simp) _)
  rw [← hw0]
  clear hw0
  refine (HM _).mono ?_
  rintro e w1 ⟨rfl, hb1⟩
  have ba1 := ba0.belowAll hb1; have br1 := br0.belowAll hb1
  have hbw1 := bStep hb0 hb1
  have lr1 := br1.lt
  clear ba0 br0 hb0 hb1 HM
  obtain ⟨N6, e6⟩ : ∃ N6, N6 = w1.heap.size := ⟨_, rfl⟩
  obtain ⟨w2, hw2⟩ : ∃ w2 : World, w2 = w1.alloc (.cells #[.int .u64 ((limb 0 (m) : Nat) : Int), .int .u64 ((limb 1 (m) : Nat) : Int), .int .u64 ((limb 2 (m) : Nat) : Int), .int .u64 ((limb 3 (m) : Nat) : Int)] 25) := ⟨_, rfl⟩
  have ba2 : Blk w2 25 w.heap.size (fun i => limb i a) := by rw [hw2]; exact ba1.alloc _
  have br2 : Blk w2 25 (w.heap.size + 1) (fun _ => 0) := by rw [hw2]; exact br1.alloc _
  have bm2 : Blk w2 25 N6 (fun i => limb i m) := by rw [hw2]; exact Blk.newAt _ _ _ (fun i => limb i m) e6
  have hbw2 : Below w.heap.size w w2 := by rw [hw2]; exact bAlloc hbw1 _
  have l6 : w.heap.size + 1 < N6 := by rw [e6]; exact lr1
  go_upto_region 2 with fail
  rw [← hw2, ← e6]
  clear hw2 e6 ba1 br1 hbw1 lr1
  obtain ⟨N8, e8⟩ : ∃ N8, N8 = w2.heap.size := ⟨_, rfl⟩
  obtain ⟨w3, hw3⟩ : ∃ w3 : World, w3 = w2.alloc (.cells #[.int .u64 0, .int .u64 0, .int .u64 0, .int .u64 0] 25) := ⟨_, rfl⟩
  have ba3 : Blk w3 25 w.heap.size (fun i => limb i a) := by rw [hw3]; exact ba2.alloc _
  have br3 : Blk w3 25 (w.heap.size + 1) (fun _ => 0) := by rw [hw3]; exact br2.alloc _
  have bm3 : Blk w3 25 N6 (fun i => limb i m) := by rw [hw3]; exact bm2.alloc _
  have bz3 : Blk w3 25 N8 (fun i => limb i 0) := by rw [hw3]; exact (Blk.newAt _ _ _ (fun _ => 0) e8).congr (fun i _ => limb_zero i)
  have hbw3 : Below w.heap.size w w3 := by rw [hw3]; exact bAlloc hbw2 _
  have l8 : N6 < N8 := by rw [e8]; exact bm2.lt
  go_upto_region 5 with fail
  rw [← hw3, ← e8]
  clear hw3 e8 ba2 br2 bm2 hbw2
  go_wp2_with fail
  go_region_held3 (fun w' => (∀ i, i < 4 → w'.cell? ⟨w.heap.size, i, none⟩ = some (.int .u64 ((limb i a : Nat) : Int))) ∧ (∀ i, i < 4 → w'.cell? ⟨N8, i, none⟩ = some (.int .u64 ((limb i 0 : Nat) : Int))))
    (first | with_reducible exact hold2 hbA (by with_reducible assumption) | with_reducible exact ⟨ba3.drew.cell, bz3.drew.cell⟩)
    (first | (go_at_call 29; with_reducible refine (OF _).mono ?_; rintro e w4 ⟨rfl, hbA⟩) | fail)
  have ba4 := ba3.drew.belowAll hbA; have br4 := br3.drew.belowAll hbA; have bm4 := bm3.drew.belowAll hbA; have bz4 := bz3.drew.belowAll hbA
  have hbw4 := bStep hbw3.drew hbA
  clear ba3 br3 bm3 bz3 hbw3 hbA OF QZ
  have ca := ba4.cell; have cm := bm4.cell
  go_wp2_with fail
  go_region_with (first | (go_at_call 68; with_reducible refine (MI _).mono ?_; rintro e wA ⟨rfl, hbA⟩; have baA := ba4.drew.belowAll hbA; have caA := baA.cell; clear baA) | (go_at_call 72; with_reducible refine (EX _).mono ?_; rintro e wB ⟨rfl, hbB⟩; have brB := (br4.drew.belowAll hbA).belowAll hbB; have crB := brB.cell; have frB := brB.frozen; clear brB) | fail)
  all_goals
    go_wp2
    refine bodyPost_ret (v := .tuple #[.agg #[.int .u64 ((limb 0 (q) : Nat) : Int), .int .u64 ((limb 1 (q) : Nat) : Int), .int .u64 ((limb 2 (q) : Nat) : Int), .int .u64 ((limb 3 (q) : Nat) : Int)], .int .i64 0]) (by simp [results, Tryz.results73, go_sem, crB]) rfl ⟨rfl, ?_⟩
    have hbwB := bStep (bStep hbw4.drew hbA) hbB
    repeat (first | with_reducible exact hbwB | with_reducible refine Below.drew ?_ | with_reducible refine Below.setCell ?_ (by first | omega | (simp; omega) | simp) _)
end Go.Proofs.YtfbfenljfdnggaaGreatDoor
