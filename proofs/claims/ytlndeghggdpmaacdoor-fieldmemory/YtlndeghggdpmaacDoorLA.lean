/- What the second reference's Inv and Invert do. -/
import Derived.Test.YtlndeghggdpmaacDoorL2
import Derived.Test.YtlndeghggdpmaacDoorHA
import Derived.ArgAppend
import Derived.Test.YtlndeghggdpmaacDoorZA
import Derived.Test.YtlndeghggdpmaacDoorZB
namespace Go.Proofs.YtlndeghggdpmaacDoor
open Go.RowKit

theorem ownsRow_below {w w' : World} {base : Nat} {e : TypeId} {size : Nat} {v : Value} {n : Nat} {xs : List Value} (h : w.ownsRow base e size v n xs) (hb : Below w.heap.size w w') : w'.ownsRow base e size v n xs := by
  obtain ⟨h1, h2⟩ := h
  refine ⟨h1, ?_⟩
  rcases h2 with h2 | ⟨g, cap, cur, h3, h4, h5, h6⟩
  · exact Or.inl h2
  · refine Or.inr ⟨g, cap, cur, h3, h4, ?_, h6⟩
    have hgl : g < w.heap.size := by
      rcases Nat.lt_or_ge g w.heap.size with hl | hl
      · exact hl
      · rw [Array.getElem?_eq_none hl] at h5; cases h5
    rw [hb.block g hgl]; exact h5

set_option maxHeartbeats 8000000 in
set_option maxRecDepth 20000 in
theorem rInv_zero (s a : Nat) (hs : s < 4) (ha : a < 115792089237316195423570985008687907853269984665640564039457584007913129639936) (hz : a % modN s = 0) (w : World) :
    Calls Tryd.prog 48 #[.int .i64 (s : Int), .agg #[.int .u64 ((limb 0 (a) : Nat) : Int), .int .u64 ((limb 1 (a) : Nat) : Int), .int .u64 ((limb 2 (a) : Nat) : Int), .int .u64 ((limb 3 (a) : Nat) : Int)]] w fun e w' => e = .returned (.tuple #[.agg #[.int .u64 0, .int .u64 0, .int .u64 0, .int .u64 0], .int .i64 10]) ∧ Below w.heap.size w w' := by
  have HM := fun w => ref2Modulus_any s hs w
  have OF := fun w => ref2Of_any s a hs ha w
  have hgl := (modN_good s).lt
  have lx := Nat.mod_lt a (modN_pos s)
  have QZ := fun w => eqlE (a % modN s) 0 (by omega) (by decide) w
  rw [show decide (a % modN s = 0) = true from by simp [hz]] at QZ
  obtain ⟨x, ex⟩ : ∃ x, x = a % modN s := ⟨_, rfl⟩
  rw [← ex] at OF QZ
  obtain ⟨m, em⟩ : ∃ m, m = modN s := ⟨_, rfl⟩
  rw [← em] at HM
  clear ex em hgl lx hz hs ha
  go_enter Tryd.func48, Tryd.ntmps48
  go_wp2_with fail
  obtain ⟨w0, hw0⟩ : ∃ w0 : World, w0 = (w.alloc (.cells #[.int .u64 ((limb 0 (a) : Nat) : Int), .int .u64 ((limb 1 (a) : Nat) : Int), .int .u64 ((limb 2 (a) : Nat) : Int), .int .u64 ((limb 3 (a) : Nat) : Int)] 24)).alloc (.cells #[.int .u64 0, .int .u64 0, .int .u64 0, .int .u64 0] 24) := ⟨_, rfl⟩
  have ba0 : Blk w0 24 w.heap.size (fun i => limb i a) := by rw [hw0]; exact (Blk.newAt _ _ _ (fun i => limb i a) (by simp)).alloc _
  have br0 : Blk w0 24 (w.heap.size + 1) (fun _ => 0) := by rw [hw0]; exact Blk.newAt _ _ _ (fun _ => 0) (by simp)
  have hb0 : Below w.heap.size w w0 := by
    rw [hw0]
    repeat (first | with_reducible exact Below.refl _ _ | with_reducible refine Below.alloc ?_ (by first | omega | (simp; omega) | simp) _)
  rw [← hw0]
  clear hw0
  refine (HM _).mono ?_
  rintro e w1 ⟨rfl, hb1⟩
  have ba1 := ba0.belowAll hb1; have br1 := br0.belowAll hb1
  have hbw1 := bStep hb0 hb1
  have lr1 := br1.lt
  clear ba0 br0 hb0 hb1 HM
  obtain ⟨N6, e6⟩ : ∃ N6, N6 = w1.heap.size := ⟨_, rfl⟩
  obtain ⟨w2, hw2⟩ : ∃ w2 : World, w2 = w1.alloc (.cells #[.int .u64 ((limb 0 (m) : Nat) : Int), .int .u64 ((limb 1 (m) : Nat) : Int), .int .u64 ((limb 2 (m) : Nat) : Int), .int .u64 ((limb 3 (m) : Nat) : Int)] 24) := ⟨_, rfl⟩
  have ba2 : Blk w2 24 w.heap.size (fun i => limb i a) := by rw [hw2]; exact ba1.alloc _
  have br2 : Blk w2 24 (w.heap.size + 1) (fun _ => 0) := by rw [hw2]; exact br1.alloc _
  have bm2 : Blk w2 24 N6 (fun i => limb i m) := by rw [hw2]; exact Blk.newAt _ _ _ (fun i => limb i m) e6
  have hbw2 : Below w.heap.size w w2 := by rw [hw2]; exact bAlloc hbw1 _
  have l6 : w.heap.size + 1 < N6 := by rw [e6]; exact lr1
  go_upto_region 2 with fail
  rw [← hw2, ← e6]
  clear hw2 e6 ba1 br1 hbw1 lr1
  obtain ⟨N8, e8⟩ : ∃ N8, N8 = w2.heap.size := ⟨_, rfl⟩
  obtain ⟨w3, hw3⟩ : ∃ w3 : World, w3 = w2.alloc (.cells #[.int .u64 0, .int .u64 0, .int .u64 0, .int .u64 0] 24) := ⟨_, rfl⟩
  have ba3 : Blk w3 24 w.heap.size (fun i => limb i a) := by rw [hw3]; exact ba2.alloc _
  have br3 : Blk w3 24 (w.heap.size + 1) (fun _ => 0) := by rw [hw3]; exact br2.alloc _
  have bm3 : Blk w3 24 N6 (fun i => limb i m) := by rw [hw3]; exact bm2.alloc _
  have bz3 : Blk w3 24 N8 (fun i => limb i 0) := by rw [hw3]; exact (Blk.newAt _ _ _ (fun _ => 0) e8).congr (fun i _ => limb_zero i)
  have hbw3 : Below w.heap.size w w3 := by rw [hw3]; exact bAlloc hbw2 _
  have l8 : N6 < N8 := by rw [e8]; exact bm2.lt
  go_upto_region 5 with fail
  rw [← hw3, ← e8]
  clear hw3 e8 ba2 br2 bm2 hbw2
  go_wp2_with fail
  go_region_held3 (fun w' => (∀ i, i < 4 → w'.cell? ⟨w.heap.size, i, none⟩ = some (.int .u64 ((limb i a : Nat) : Int))) ∧ (∀ i, i < 4 → w'.cell? ⟨N8, i, none⟩ = some (.int .u64 ((limb i 0 : Nat) : Int))))
    (first | with_reducible exact hold2 hbA (by with_reducible assumption) | with_reducible exact ⟨ba3.drew.cell, bz3.drew.cell⟩)
    (first | (go_at_call 39; with_reducible refine (OF _).mono ?_; rintro e w4 ⟨rfl, hbA⟩) | fail)
  have ba4 := ba3.drew.belowAll hbA; have br4 := br3.drew.belowAll hbA; have bm4 := bm3.drew.belowAll hbA; have bz4 := bz3.drew.belowAll hbA
  have hbw4 := bStep hbw3.drew hbA
  clear ba3 br3 bm3 bz3 hbw3 hbA OF QZ
  have cr := br4.cell; have fr := br4.frozen; have lr := br4.lt; have cz := bz4.cell
  go_wp2
  refine bodyPost_ret (v := .tuple #[.agg #[.int .u64 0, .int .u64 0, .int .u64 0, .int .u64 0], .int .i64 10]) (by simp [results, Tryd.results48, go_sem, cr, limb_zero]) rfl ⟨rfl, ?_⟩
  repeat (first | with_reducible exact hbw4 | with_reducible refine Below.setCell ?_ (by first | omega | (simp; omega) | simp) _)

set_option maxHeartbeats 8000000 in
set_option maxRecDepth 20000 in
theorem rInv_some (s a : Nat) (hs : s < 4) (ha : a < 115792089237316195423570985008687907853269984665640564039457584007913129639936) (hz : a % modN s ≠ 0) (w : World) :
    Calls Tryd.prog 48 #[.int .i64 (s : Int), .agg #[.int .u64 ((limb 0 (a) : Nat) : Int), .int .u64 ((limb 1 (a) : Nat) : Int), .int .u64 ((limb 2 (a) : Nat) : Int), .int .u64 ((limb 3 (a) : Nat) : Int)]] w fun e w' => e = .returned (.tuple #[.agg #[.int .u64 ((limb 0 (invU (modN s) a) : Nat) : Int), .int .u64 ((limb 1 (invU (modN s) a) : Nat) : Int), .int .u64 ((limb 2 (invU (modN s) a) : Nat) : Int), .int .u64 ((limb 3 (invU (modN s) a) : Nat) : Int)], .int .i64 0]) ∧ Below w.heap.size w w' := by
  have HM := fun w => ref2Modulus_any s hs w
  have OF := fun w => ref2Of_any s a hs ha w
  have hgl := (modN_good s).lt
  have lx := Nat.mod_lt a (modN_pos s)
  have QZ := fun w => eqlE (a % modN s) 0 (by omega) (by decide) w
  rw [show decide (a % modN s = 0) = false from by simp [hz]] at QZ
  have hod := modN_odd s
  have MI := fun w => ref2Minus_any (modN s) 2 hgl.2.2 (by decide) w
  rw [word_agg 2 (by decide), show sub256 (modN s) 2 = modN s - 2 from by unfold sub256; omega, show (((2 : Nat)) : Int) = 2 from rfl] at MI
  have EX := fun w => ref2Exp_any s a (modN s - 2) hs ha (by omega) w
  rw [show expP s a (modN s - 2) = invU (modN s) a from rfl] at EX
  obtain ⟨x, ex⟩ : ∃ x, x = a % modN s := ⟨_, rfl⟩
  rw [← ex] at OF QZ
  obtain ⟨q, eq⟩ : ∃ q, q = invU (modN s) a := ⟨_, rfl⟩
  rw [← eq] at EX ⊢
  obtain ⟨m2, em2⟩ : ∃ m2, m2 = modN s - 2 := ⟨_, rfl⟩
  rw [← em2] at EX MI
  obtain ⟨m, em⟩ : ∃ m, m = modN s := ⟨_, rfl⟩
  rw [← em] at HM MI
  clear ex em hgl lx hz hs ha eq em2 hod
  go_enter Tryd.func48, Tryd.ntmps48
  go_wp2_with fail
  obtain ⟨w0, hw0⟩ : ∃ w0 : World, w0 = (w.alloc (.cells #[.int .u64 ((limb 0 (a) : Nat) : Int), .int .u64 ((limb 1 (a) : Nat) : Int), .int .u64 ((limb 2 (a) : Nat) : Int), .int .u64 ((limb 3 (a) : Nat) : Int)] 24)).alloc (.cells #[.int .u64 0, .int .u64 0, .int .u64 0, .int .u64 0] 24) := ⟨_, rfl⟩
  have ba0 : Blk w0 24 w.heap.size (fun i => limb i a) := by rw [hw0]; exact (Blk.newAt _ _ _ (fun i => limb i a) (by simp)).alloc _
  have br0 : Blk w0 24 (w.heap.size + 1) (fun _ => 0) := by rw [hw0]; exact Blk.newAt _ _ _ (fun _ => 0) (by simp)
  have hb0 : Below w.heap.size w w0 := by
    rw [hw0]
    repeat (first | with_reducible exact Below.refl _ _ | with_reducible refine Below.alloc ?_ (by first | omega | (simp; omega) | simp) _)
  rw [← hw0]
  clear hw0
  refine (HM _).mono ?_
  rintro e w1 ⟨rfl, hb1⟩
  have ba1 := ba0.belowAll hb1; have br1 := br0.belowAll hb1
  have hbw1 := bStep hb0 hb1
  have lr1 := br1.lt
  clear ba0 br0 hb0 hb1 HM
  obtain ⟨N6, e6⟩ : ∃ N6, N6 = w1.heap.size := ⟨_, rfl⟩
  obtain ⟨w2, hw2⟩ : ∃ w2 : World, w2 = w1.alloc (.cells #[.int .u64 ((limb 0 (m) : Nat) : Int), .int .u64 ((limb 1 (m) : Nat) : Int), .int .u64 ((limb 2 (m) : Nat) : Int), .int .u64 ((limb 3 (m) : Nat) : Int)] 24) := ⟨_, rfl⟩
  have ba2 : Blk w2 24 w.heap.size (fun i => limb i a) := by rw [hw2]; exact ba1.alloc _
  have br2 : Blk w2 24 (w.heap.size + 1) (fun _ => 0) := by rw [hw2]; exact br1.alloc _
  have bm2 : Blk w2 24 N6 (fun i => limb i m) := by rw [hw2]; exact Blk.newAt _ _ _ (fun i => limb i m) e6
  have hbw2 : Below w.heap.size w w2 := by rw [hw2]; exact bAlloc hbw1 _
  have l6 : w.heap.size + 1 < N6 := by rw [e6]; exact lr1
  go_upto_region 2 with fail
  rw [← hw2, ← e6]
  clear hw2 e6 ba1 br1 hbw1 lr1
  obtain ⟨N8, e8⟩ : ∃ N8, N8 = w2.heap.size := ⟨_, rfl⟩
  obtain ⟨w3, hw3⟩ : ∃ w3 : World, w3 = w2.alloc (.cells #[.int .u64 0, .int .u64 0, .int .u64 0, .int .u64 0] 24) := ⟨_, rfl⟩
  have ba3 : Blk w3 24 w.heap.size (fun i => limb i a) := by rw [hw3]; exact ba2.alloc _
  have br3 : Blk w3 24 (w.heap.size + 1) (fun _ => 0) := by rw [hw3]; exact br2.alloc _
  have bm3 : Blk w3 24 N6 (fun i => limb i m) := by rw [hw3]; exact bm2.alloc _
  have bz3 : Blk w3 24 N8 (fun i => limb i 0) := by rw [hw3]; exact (Blk.newAt _ _ _ (fun _ => 0) e8).congr (fun i _ => limb_zero i)
  have hbw3 : Below w.heap.size w w3 := by rw [hw3]; exact bAlloc hbw2 _
  have l8 : N6 < N8 := by rw [e8]; exact bm2.lt
  go_upto_region 5 with fail
  rw [← hw3, ← e8]
  clear hw3 e8 ba2 br2 bm2 hbw2
  go_wp2_with fail
  go_region_held3 (fun w' => (∀ i, i < 4 → w'.cell? ⟨w.heap.size, i, none⟩ = some (.int .u64 ((limb i a : Nat) : Int))) ∧ (∀ i, i < 4 → w'.cell? ⟨N8, i, none⟩ = some (.int .u64 ((limb i 0 : Nat) : Int))))
    (first | with_reducible exact hold2 hbA (by with_reducible assumption) | with_reducible exact ⟨ba3.drew.cell, bz3.drew.cell⟩)
    (first | (go_at_call 39; with_reducible refine (OF _).mono ?_; rintro e w4 ⟨rfl, hbA⟩) | fail)
  have ba4 := ba3.drew.belowAll hbA; have br4 := br3.drew.belowAll hbA; have bm4 := bm3.drew.belowAll hbA; have bz4 := bz3.drew.belowAll hbA
  have hbw4 := bStep hbw3.drew hbA
  clear ba3 br3 bm3 bz3 hbw3 hbA OF QZ
  have ca := ba4.cell; have cm := bm4.cell
  go_wp2_with fail
  go_region_with (first | (go_at_call 51; with_reducible refine (MI _).mono ?_; rintro e wA ⟨rfl, hbA⟩; have baA := ba4.drew.belowAll hbA; have caA := baA.cell; clear baA) | (go_at_call 70; with_reducible refine (EX _).mono ?_; rintro e wB ⟨rfl, hbB⟩; have brB := (br4.drew.belowAll hbA).belowAll hbB; have crB := brB.cell; have frB := brB.frozen; clear brB) | fail)
  all_goals
    go_wp2
    refine bodyPost_ret (v := .tuple #[.agg #[.int .u64 ((limb 0 (q) : Nat) : Int), .int .u64 ((limb 1 (q) : Nat) : Int), .int .u64 ((limb 2 (q) : Nat) : Int), .int .u64 ((limb 3 (q) : Nat) : Int)], .int .i64 0]) (by simp [results, Tryd.results48, go_sem, crB]) rfl ⟨rfl, ?_⟩
    have hbwB := bStep (bStep hbw4.drew hbA) hbB
    repeat (first | with_reducible exact hbwB | with_reducible refine Below.drew ?_ | with_reducible refine Below.setCell ?_ (by first | omega | (simp; omega) | simp) _)

set_option maxHeartbeats 4000000 in
set_option maxRecDepth 20000 in
theorem rInv_out (s : Int) (a : Nat) (hs : s < 0 ∨ 4 ≤ s) (w : World) :
    Calls Tryd.prog 48 #[.int .i64 s, .agg #[.int .u64 ((limb 0 (a) : Nat) : Int), .int .u64 ((limb 1 (a) : Nat) : Int), .int .u64 ((limb 2 (a) : Nat) : Int), .int .u64 ((limb 3 (a) : Nat) : Int)]] w fun e w' => e = .returned (.tuple #[.agg #[.int .u64 0, .int .u64 0, .int .u64 0, .int .u64 0], .int .i64 20]) ∧ Below w.heap.size w w' := by
  have HM := fun w => ref2Modulus_out s hs w
  clear hs
  go_enter Tryd.func48, Tryd.ntmps48
  go_wp2_with fail
  obtain ⟨w0, hw0⟩ : ∃ w0 : World, w0 = (w.alloc (.cells #[.int .u64 ((limb 0 (a) : Nat) : Int), .int .u64 ((limb 1 (a) : Nat) : Int), .int .u64 ((limb 2 (a) : Nat) : Int), .int .u64 ((limb 3 (a) : Nat) : Int)] 24)).alloc (.cells #[.int .u64 0, .int .u64 0, .int .u64 0, .int .u64 0] 24) := ⟨_, rfl⟩
  have ba0 : Blk w0 24 w.heap.size (fun i => limb i a) := by rw [hw0]; exact (Blk.newAt _ _ _ (fun i => limb i a) (by simp)).alloc _
  have br0 : Blk w0 24 (w.heap.size + 1) (fun _ => 0) := by rw [hw0]; exact Blk.newAt _ _ _ (fun _ => 0) (by simp)
  have hb0 : Below w.heap.size w w0 := by
    rw [hw0]
    repeat (first | with_reducible exact Below.refl _ _ | with_reducible refine Below.alloc ?_ (by first | omega | (simp; omega) | simp) _)
  rw [← hw0]
  clear hw0
  refine (HM _).mono ?_
  rintro e w1 ⟨rfl, hb1⟩
  have ba1 := ba0.belowAll hb1; have br1 := br0.belowAll hb1
  have hbw1 := bStep hb0 hb1
  have lr1 := br1.lt
  clear ba0 br0 hb0 hb1 HM
  have cr := br1.cell; have fr := br1.frozen; have lr := br1.lt
  go_wp2
  refine bodyPost_ret (v := .tuple #[.agg #[.int .u64 0, .int .u64 0, .int .u64 0, .int .u64 0], .int .i64 20]) (by simp [results, Tryd.results48, go_sem, cr, cell_old, lr]) rfl ⟨rfl, ?_⟩
  have hz1 := hbw1.size
  repeat (first | with_reducible exact hbw1 | with_reducible refine Below.setCell ?_ (by first | omega | (simp; omega) | simp) _ | with_reducible refine Below.alloc ?_ (by first | omega | (simp; omega) | simp) _)

set_option maxHeartbeats 8000000 in
set_option maxRecDepth 20000 in
/-- The second reference's Invert. -/
theorem rInvert_any (s n c : Nat) (oa : Option Addr) (f : Nat → Nat) (hs : s < 4) (hn : n ≤ 1000) (hf : ∀ i, i < n → f i < 115792089237316195423570985008687907853269984665640564039457584007913129639936) (w : World) (hv : Es w (.slice oa n c) n f) :
    Calls Tryd.prog 27 #[.int .i64 (s : Int), .slice oa n c] w fun e w' => (((∃ i, i < n ∧ f i % modN s = 0) ∧ e = .returned (.tuple #[.slice none 0 0, .int .i64 10])) ∨ ((∀ i, i < n → f i % modN s ≠ 0) ∧ ∃ v, e = .returned (.tuple #[v, .int .i64 0]) ∧ w'.ownsRow w.heap.size 24 4 v n (els (fun i => invU (modN s) (f i)) n))) ∧ Below w.heap.size w w' := by
  obtain ⟨i0, hi, hz0, hz1, hz2⟩ := elemInfo
  have HI := (show Hid _ from hi); have HZ := (show Hid _ from And.intro hz0 (And.intro hz1 hz2)); clear hi hz0 hz1 hz2
  have HM := fun w => ref2Modulus_any s hs w
  have IZ := fun a ha hz w => rInv_zero s a hs ha hz w
  have IS := fun a ha hz w => rInv_some s a hs ha hz w
  have HIZ : Hid (∀ (a : Nat) (ha : _) (hz : _) (w : World), _) := IZ
  have HIS : Hid (∀ (a : Nat) (ha : _) (hz : _) (w : World), _) := IS
  have HV := (show Hid _ from hv); have HF := (show Hid _ from hf)
  obtain ⟨m, em⟩ : ∃ m, m = modN s := ⟨_, rfl⟩
  rw [← em] at HM HIZ HIS ⊢
  clear IZ IS hv hf em hs
  go_enter Tryd.func27, Tryd.ntmps27
  go_wp2_with fail
  refine (HM _).mono ?_
  rintro e w1 ⟨rfl, hb1⟩
  obtain ⟨w2, hw2⟩ : ∃ w2 : World, w2 = w1.alloc (.cells #[.int .u64 ((limb 0 (m) : Nat) : Int), .int .u64 ((limb 1 (m) : Nat) : Int), .int .u64 ((limb 2 (m) : Nat) : Int), .int .u64 ((limb 3 (m) : Nat) : Int)] 24) := ⟨_, rfl⟩
  have hbw2 : Below w.heap.size w w2 := by rw [hw2]; exact bAlloc hb1 _
  go_upto_region 2 with fail
  rw [← hw2]
  clear hw2 hb1 HM
  have hown0 : (w2.alloc (.cells #[] 24)).ownsRow w.heap.size 24 4 (.slice (some ⟨w2.heap.size, 0, none⟩) 0 0) 0 (els (fun i => invU m (f i)) 0) :=
    ⟨rfl, Or.inr ⟨w2.heap.size, 0, #[], rfl, hbw2.size, new_blockE _ _, Nat.le_refl _, by decide, rfl, rfl⟩⟩
  have HO : Hid ((w2.alloc (.cells #[] 24)).ownsRow w.heap.size 24 4 (.slice (some ⟨w2.heap.size, 0, none⟩) 0 0) 0 (els (fun i => invU m (f i)) 0)) := hown0
  clear hown0
  go_wp2
  go_loopw [8, 9] (fun out iv wr => ∃ k : Nat, iv = .int .i64 (k : Int) ∧ k ≤ n ∧ Hid (∀ i, i < k → f i % m ≠ 0) ∧ Below w.heap.size w wr ∧ wr.ownsRow w.heap.size 24 4 out k (els (fun i => invU m (f i)) k)) (fun _ iv _ => n - (intOf iv).toNat)
  case atStart => exact ⟨0, rfl, Nat.zero_le _, fun i hi => by omega, bAlloc hbw2 _, HO.out⟩
  case round =>
    obtain ⟨k, rfl, hk, hall, hbr, hown⟩ := hrel
    clear HO hbw2
    by_cases hlt : k < n
    · have hki : (k : Int) < (n : Int) := by omega
      have fk := HF.out k hlt
      obtain ⟨b, o, hoa, hbl, hcs⟩ : ∃ b o, oa = some ⟨b, o, none⟩ ∧ b < w.heap.size ∧ ∀ j, j < 4 → w.cell? ⟨b, o + k * 4 + j, none⟩ = some (.int .u64 ((limb j (f k) : Nat) : Int)) := by
        rcases HV.out with ⟨_, h⟩ | ⟨b, o, c', h, _, _, h3, h4⟩
        · omega
        · cases h
          exact ⟨b, o, rfl, h3, fun j hj => h4 k hlt j hj⟩
      subst hoa
      have c0 : wr.cell? ⟨b, o + k * 4, none⟩ = some (.int .u64 ((limb 0 (f k) : Nat) : Int)) := by rw [hbr.cell (p := ⟨b, o + k * 4, none⟩) hbl]; exact hcs 0 (by decide)
      have c1 : wr.cell? ⟨b, o + k * 4 + 1, none⟩ = some (.int .u64 ((limb 1 (f k) : Nat) : Int)) := by rw [hbr.cell (p := ⟨b, o + k * 4 + 1, none⟩) hbl]; exact hcs 1 (by decide)
      have c2 : wr.cell? ⟨b, o + k * 4 + 2, none⟩ = some (.int .u64 ((limb 2 (f k) : Nat) : Int)) := by rw [hbr.cell (p := ⟨b, o + k * 4 + 2, none⟩) hbl]; exact hcs 2 (by decide)
      have c3 : wr.cell? ⟨b, o + k * 4 + 3, none⟩ = some (.int .u64 ((limb 3 (f k) : Nat) : Int)) := by rw [hbr.cell (p := ⟨b, o + k * 4 + 3, none⟩) hbl]; exact hcs 3 (by decide)
      have IZ := HIZ.out (f k) fk; have IS := HIS.out (f k) fk
      by_cases hz : f k % m = 0
      · have IZa := IZ hz
        have HE : Hid (∃ i, i < n ∧ f i % m = 0) := ⟨k, hlt, hz⟩
        obtain ⟨x, ex⟩ : ∃ x, x = f k := ⟨_, rfl⟩
        rw [← ex] at c0 c1 c2 c3 IZa
        clear IZ IS hz ex hcs
        go_wp2_with fail
        refine (IZa _).mono ?_
        rintro e w3 ⟨rfl, hb3⟩
        have hbw3 := bStep hbr hb3
        go_wp2
        go_ret2
        refine ⟨Or.inl ⟨HE.out, rfl⟩, ?_⟩
        repeat (first | with_reducible exact hbw3 | with_reducible exact bAlloc hbw3 _)
      · have ISa := IS hz
        have HNZ : Hid (f k % m ≠ 0) := hz
        obtain ⟨x, ex⟩ : ∃ x, x = f k := ⟨_, rfl⟩
        rw [← ex] at c0 c1 c2 c3 ISa
        obtain ⟨q, eq⟩ : ∃ q, q = invU m x := ⟨_, rfl⟩
        rw [← eq] at ISa
        have EQ : Hid (q = invU m (f k)) := by show _ = _; rw [eq, ex]
        clear IZ IS hz ex eq hcs
        go_wp2_with fail
        refine (ISa _).mono ?_
        rintro e w3 ⟨rfl, hb3⟩
        have hbw3 := bStep hbr hb3
        have hown3 := ownsRow_below hown hb3
        clear hown hbr hb3 c0 c1 c2 c3 ISa
        obtain ⟨N10, e10⟩ : ∃ N10, N10 = w3.heap.size := ⟨_, rfl⟩
        obtain ⟨w4, hw4⟩ : ∃ w4 : World, w4 = w3.alloc (.cells #[.int .u64 ((limb 0 (q) : Nat) : Int), .int .u64 ((limb 1 (q) : Nat) : Int), .int .u64 ((limb 2 (q) : Nat) : Int), .int .u64 ((limb 3 (q) : Nat) : Int)] 24) := ⟨_, rfl⟩
        have bq4 : Blk w4 24 N10 (fun i => limb i q) := by rw [hw4]; exact Blk.newAt _ _ _ (fun i => limb i q) e10
        have hown4 := ownsRow_below hown3 ((Below.refl _ w3).alloc (Nat.le_refl _) (.cells #[.int .u64 ((limb 0 (q) : Nat) : Int), .int .u64 ((limb 1 (q) : Nat) : Int), .int .u64 ((limb 2 (q) : Nat) : Int), .int .u64 ((limb 3 (q) : Nat) : Int)] 24))
        rw [← hw4] at hown4
        have hbw4 : Below w.heap.size w w4 := by rw [hw4]; exact bAlloc hbw3 _
        have hsz := hbw4.size
        go_upto_region 9 with fail
        rw [← hw4, ← e10]
        clear hw4 e10 hown3 hbw3
        have cq := bq4.cell
        go_wp2_with (first
          | (at_builtin; refine wpList_append_own _ rfl _ _ 41 rfl w.heap.size 24 i0 (.agg #[.int .u64 0, .int .u64 0, .int .u64 0, .int .u64 0]) 4 32 Tryd.underlying41 HI.out HZ.out.1 HZ.out.2.1 HZ.out.2.2 rfl (by decide) _ _ _ rfl (hown4.alloc _) ⟨w4.heap.size, 0, none⟩ 1 1 [.int .u64 ((limb 0 q : Nat) : Int), .int .u64 ((limb 1 q : Nat) : Int), .int .u64 ((limb 2 q : Nat) : Int), .int .u64 ((limb 3 q : Nat) : Int)] rfl rfl ?c1 ?c2 ?c3 ?c4 ?c5 ?_)
          | go_in)
        case c1 =>
          intro j u hj
          match j, hj with
          | 0, hj => simp at hj; subst hj; simp [Addr.add]
          | 1, hj => simp at hj; subst hj; simp [Addr.add]
          | 2, hj => simp at hj; subst hj; simp [Addr.add]
          | 3, hj => simp at hj; subst hj; simp [Addr.add]
          | j + 4, hj => simp at hj
        case c2 => intro u hu; simp at hu; rcases hu with rfl | rfl | rfl | rfl <;> rfl
        case c3 => unfold maxLen; omega
        case c4 => omega
        case c5 => simp; omega
        intro v' w5 hown' hgrow _
        go_wp2
        go_roundw
        case measure => simp [intOf]; omega
        case rel =>
          have hB : Below w.heap.size w4 w5 := ((Below.refl _ w4).alloc hsz _).grown hgrow (by simp; omega) (fun j hj => own_block_geE hown4 hj)
          refine ⟨k + 1, by go_num, by omega, fun i hi => ?_, hbw4.trans hB, ?_⟩
          · rcases Nat.lt_or_ge i k with h | h
            · exact hall.out i h
            · rw [show i = k from by omega]; exact HNZ.out
          · rw [els_succ, ← EQ.out]
            exact hown'
    · have hki : ¬ (k : Int) < (n : Int) := by omega
      have hkn : k = n := by omega
      subst hkn
      go_wp2
      go_ret2
      exact ⟨Or.inr ⟨hall.out, _, rfl, hown⟩, hbr⟩

set_option maxHeartbeats 2000000 in
theorem rInvert_out (s : Int) (v : Value) (hs : s < 0 ∨ 4 ≤ s) (w : World) :
    Calls Tryd.prog 27 #[.int .i64 s, v] w fun e w' => e = .returned (.tuple #[.slice none 0 0, .int .i64 20]) ∧ Below w.heap.size w w' := by
  have HM := fun w => ref2Modulus_out s hs w
  clear hs
  go_enter Tryd.func27, Tryd.ntmps27
  go_wp2_with fail
  refine (HM _).mono ?_
  rintro e w1 ⟨rfl, hb1⟩
  go_wp2
  go_ret2
  exact ⟨rfl, bAlloc hb1 _⟩
set_option maxHeartbeats 2000000 in
theorem fInvert_out (s : Int) (v : Value) (hs : s < 0 ∨ 4 ≤ s) (w : World) :
    Calls Tryd.prog 26 #[.int .i64 s, v] w fun e w' => e = .returned (.tuple #[.slice none 0 0, .int .i64 20]) ∧ Below w.heap.size w w' := by
  have HM := fun w => modulus_out s hs w
  clear hs
  go_enter Tryd.func26, Tryd.ntmps26
  go_wp2_with fail
  refine (HM _).mono ?_
  rintro e w1 ⟨rfl, hb1⟩
  go_wp2
  go_ret2
  exact ⟨rfl, bAlloc hb1 _⟩

end Go.Proofs.YtlndeghggdpmaacDoor

/- What Marked does. -/
namespace Go.Proofs.YtlndeghggdpmaacDoor
open Go.RowKit

/-- All blocks but g are as they were. -/
def Kept (g : Nat) (w w' : World) : Prop :=
  w'.os = w.os ∧ w'.tape = w.tape ∧ w'.output = w.output ∧ w.heap.size ≤ w'.heap.size ∧ ∀ k, k < w.heap.size → k ≠ g → w'.heap[k]? = w.heap[k]?
theorem Kept.os {g : Nat} {w w' : World} (h : Kept g w w') : w'.os = w.os := h.1
theorem Kept.tape {g : Nat} {w w' : World} (h : Kept g w w') : w'.tape = w.tape := h.2.1
theorem Kept.output {g : Nat} {w w' : World} (h : Kept g w w') : w'.output = w.output := h.2.2.1
theorem Kept.size {g : Nat} {w w' : World} (h : Kept g w w') : w.heap.size ≤ w'.heap.size := h.2.2.2.1
theorem Kept.block {g : Nat} {w w' : World} (h : Kept g w w') : ∀ k, k < w.heap.size → k ≠ g → w'.heap[k]? = w.heap[k]? := h.2.2.2.2
theorem Kept.refl (g : Nat) (w : World) : Kept g w w := ⟨rfl, rfl, rfl, Nat.le_refl _, fun _ _ _ => rfl⟩
theorem Kept.trans {g : Nat} {a b c : World} (h : Kept g a b) (k : Kept g b c) : Kept g a c :=
  ⟨k.os.trans h.os, k.tape.trans h.tape, k.output.trans h.output, Nat.le_trans h.size k.size, fun i hi hg => (k.block i (Nat.lt_of_lt_of_le hi h.size) hg).trans (h.block i hi hg)⟩
theorem Kept.setCell {g : Nat} {a w : World} (h : Kept g a w) (o : Nat) (u : Value) : Kept g a (w.setCell ⟨g, o, none⟩ u) :=
  h.trans ⟨rfl, rfl, rfl, by simp [World.setCell], fun k _ hk => Below.heap_setCell w ⟨g, o, none⟩ u k hk⟩
theorem Kept.alloc {g : Nat} {a w : World} (h : Kept g a w) (o : Obj) : Kept g a (w.alloc o) :=
  h.trans ⟨rfl, rfl, rfl, by simp, fun k hk _ => ((Below.refl w.heap.size w).alloc (Nat.le_refl _) o).block k hk⟩
theorem Kept.grown {g : Nat} {a w w' : World} {row : Option Nat} (h : Kept g a w) (hg : w.grownBy w' row) (hr : ∀ k, row = some k → a.heap.size ≤ k) : Kept g a w' :=
  ⟨hg.os.trans h.os, hg.tape.trans h.tape, hg.output.trans h.output, Nat.le_trans h.size hg.size, fun k hk hkg => by
    rw [hg.block k (Nat.lt_of_lt_of_le hk h.size) (fun e => by have := hr k e.symm; omega)]
    exact h.block k hk hkg⟩
theorem Kept.below {g m : Nat} {w w' : World} (h : Kept g w w') (hm : m ≤ g) (hs : m ≤ w.heap.size) : Below m w w' :=
  ⟨h.os, h.tape, h.output, h.size, fun k hk => h.block k (by omega) (by omega)⟩

set_option maxHeartbeats 8000000 in
set_option maxRecDepth 20000 in
theorem marked_any (n g : Nat) (f : Nat → Nat) (hn : n ≤ 1000) (w : World) (h : BlkE w g n f) :
    Calls Tryd.prog 29 #[.slice (some ⟨g, 0, none⟩) n n] w fun e w' => e = .returned (.bool true) ∧ Kept g w w' := by
  obtain ⟨i0, hi, hz0, hz1, hz2⟩ := elemInfo
  have HI := (show Hid _ from hi); have HZ := (show Hid _ from And.intro hz0 (And.intro hz1 hz2)); clear hi hz0 hz1 hz2
  have hgl := h.lt
  go_enter Tryd.func29, Tryd.ntmps29
  go_wp2
  go_loopw [3] (fun iv wr => ∃ (k : Nat) (f : Nat → Nat), iv = .int .i64 (k : Int) ∧ k ≤ n ∧ Kept g w wr ∧ BlkE wr g n f) (fun iv _ => n - (intOf iv).toNat)
  case atStart => exact ⟨0, f, rfl, Nat.zero_le _, Kept.refl _ _, h⟩
  case round =>
    obtain ⟨k, f, rfl, hk, hK, bo⟩ := hrel
    clear h
    by_cases hlt : k < n
    · have hki : (k : Int) < (n : Int) := by omega
      have o0 := bo.cell k hlt 0 (by decide); have o1 := bo.cell k hlt 1 (by decide); have o2 := bo.cell k hlt 2 (by decide); have o3 := bo.cell k hlt 3 (by decide)
      rw [Nat.add_zero] at o0
      have fo := bo.frozen
      have e77 : ∃ x : Nat, limb 0 x = 77 ∧ limb 1 x = 77 ∧ limb 2 x = 77 ∧ limb 3 x = 77 := by
        have g := limbs_of 77 77 77 77 (by decide) (by decide) (by decide) (by decide) _ rfl
        exact ⟨_, g.1.symm, g.2.1.symm, g.2.2.1.symm, g.2.2.2.1.symm⟩
      obtain ⟨x, x0, x1, x2, x3⟩ := e77
      have bS := bo.setE k hlt x
      rw [x0, x1, x2, x3] at bS
      have HS := (show Hid _ from bS)
      clear bS x0 x1 x2 x3
      go_wp2
      go_roundw
      case measure => simp [intOf]; omega
      case rel => exact ⟨k + 1, _, by go_num, by omega, (((hK.setCell _ _).setCell _ _).setCell _ _).setCell _ _, HS.out⟩
    · have hki : ¬ (k : Int) < (n : Int) := by omega
      clear hlt
      go_wp2
      go_loopw [0, 4] (fun sv iv wr => ∃ k : Nat, iv = .int .i64 (k : Int) ∧ k ≤ 9 ∧ Kept g w wr ∧ ((k = 0 ∧ sv = .slice (some ⟨g, 0, none⟩) n n ∧ ∃ f, BlkE wr g n f) ∨ (1 ≤ k ∧ ∃ xs, wr.ownsRow w.heap.size 24 4 sv (n + k) xs))) (fun _ iv _ => 9 - (intOf iv).toNat)
      case atStart => exact ⟨0, rfl, by decide, hK, Or.inl ⟨rfl, rfl, f, bo⟩⟩
      case round =>
        obtain ⟨j, rfl, hj, hK2, hor⟩ := hrel
        clear hK bo
        by_cases hlt2 : j < 9
        · have hji : (j : Int) < 9 := by omega
          have hsz := hK2.size
          rcases hor with ⟨rfl, rfl, f2, bo2⟩ | ⟨hj1, xs, hown⟩
          · have olds : ∀ j u, (els f2 n)[j]? = some u → wr.cell? ⟨g, 0 + j, none⟩ = some u := fun j u hu => by
              have hjn : j < n * 4 := by
                rcases Nat.lt_or_ge j (n * 4) with h | h
                · exact h
                · rw [List.getElem?_eq_none (by rw [els_len]; exact h)] at hu; cases hu
              have e := els_get f2 n (j / 4) (j % 4) (by omega) (by omega)
              rw [show j / 4 * 4 + j % 4 = j from by omega, hu] at e
              have c := bo2.cell (j / 4) (by omega) (j % 4) (by omega)
              rw [show j / 4 * 4 + j % 4 = j from by omega] at c
              rw [Nat.zero_add, c, e]
            have HOL := (show Hid _ from olds)
            clear olds
            go_wp2_with (first
              | (at_builtin; refine wpList_append_arg _ rfl _ _ 41 rfl 24 i0 (.agg #[.int .u64 0, .int .u64 0, .int .u64 0, .int .u64 0]) 4 32 Tryd.underlying41 HI.out HZ.out.1 HZ.out.2.1 HZ.out.2.2 rfl (by decide) g 0 n n (els f2 n) rfl (els_len _ _) ?c0 ⟨wr.heap.size, 0, none⟩ 1 1 [.int .u64 66, .int .u64 0, .int .u64 0, .int .u64 0] rfl rfl ?c1 ?c2 (fun h => by omega) ?c3 ?c4 (fun h => by omega) ?_)
              | go_in)
            case c0 =>
              intro j u hu
              have hb : Below wr.heap.size wr (wr.alloc _) := (Below.refl _ _).alloc (Nat.le_refl _) (.cells #[.int .u64 66, .int .u64 0, .int .u64 0, .int .u64 0] 24)
              rw [hb.cell (p := ⟨g, 0 + j, none⟩) (by exact bo2.lt)]
              exact HOL.out j u hu
            case c1 =>
              intro j u hj
              match j, hj with
              | 0, hj => simp at hj; subst hj; simp [Addr.add]
              | 1, hj => simp at hj; subst hj; simp [Addr.add]
              | 2, hj => simp at hj; subst hj; simp [Addr.add]
              | 3, hj => simp at hj; subst hj; simp [Addr.add]
              | j + 4, hj => simp at hj
            case c2 => intro u hu; simp at hu; rcases hu with rfl | rfl <;> rfl
            case c3 => unfold maxLen; omega
            case c4 => omega
            intro v' w5 hown' hgrow
            go_wp2
            go_roundw
            case measure => simp [intOf]
            case rel =>
              refine ⟨1, rfl, by decide, (hK2.alloc _).grown hgrow (fun k hk => by cases hk), Or.inr ⟨Nat.le_refl _, els f2 n ++ [.int .u64 66, .int .u64 0, .int .u64 0, .int .u64 0], ?_⟩⟩
              obtain ⟨h1, h2⟩ := hown'
              refine ⟨h1, ?_⟩
              rcases h2 with h2 | ⟨g', c', cur, h3, h4, h5⟩
              · exact Or.inl h2
              · exact Or.inr ⟨g', c', cur, h3, by first | omega | (simp at h4; omega), h5⟩
          · go_wp2_with (first
              | (at_builtin; refine wpList_append_own _ rfl _ _ 41 rfl w.heap.size 24 i0 (.agg #[.int .u64 0, .int .u64 0, .int .u64 0, .int .u64 0]) 4 32 Tryd.underlying41 HI.out HZ.out.1 HZ.out.2.1 HZ.out.2.2 rfl (by decide) _ _ _ rfl (hown.alloc _) ⟨wr.heap.size, 0, none⟩ 1 1 [.int .u64 66, .int .u64 0, .int .u64 0, .int .u64 0] rfl rfl ?d1 ?d2 ?d3 ?d4 ?d5 ?_)
              | go_in)
            case d1 =>
              intro j u hj
              match j, hj with
              | 0, hj => simp at hj; subst hj; simp [Addr.add]
              | 1, hj => simp at hj; subst hj; simp [Addr.add]
              | 2, hj => simp at hj; subst hj; simp [Addr.add]
              | 3, hj => simp at hj; subst hj; simp [Addr.add]
              | j + 4, hj => simp at hj
            case d2 => intro u hu; simp at hu; rcases hu with rfl | rfl <;> rfl
            case d3 => unfold maxLen; omega
            case d4 => omega
            case d5 => simp; omega
            intro v' w5 hown' hgrow _
            go_wp2
            go_roundw
            case measure => simp [intOf]; omega
            case rel =>
              refine ⟨j + 1, by go_num, by omega, (hK2.alloc _).grown hgrow (fun k hk => own_block_geE hown hk), Or.inr ⟨by omega, _, hown'⟩⟩
        · have hji : ¬ (j : Int) < 9 := by omega
          have hj9 : j = 9 := by omega
          subst hj9
          rcases hor with ⟨h0, _⟩ | ⟨_, xs, hown⟩
          · omega
          · obtain ⟨_, h2⟩ := hown
            rcases h2 with ⟨_, h0⟩ | ⟨g', c', cur, rfl, _⟩
            · omega
            · have h9 : (9 : Int) ≤ (n : Int) + 9 := by omega
              clear hlt2
              go_wp2
              go_ret
              exact ⟨rfl, hK2⟩

set_option maxHeartbeats 4000000 in
set_option maxRecDepth 20000 in
theorem marked_nil (w : World) :
    Calls Tryd.prog 29 #[.slice none 0 0] w fun e w' => e = .returned (.bool true) ∧ Below w.heap.size w w' := by
  obtain ⟨i0, hi, hz0, hz1, hz2⟩ := elemInfo
  have HI := (show Hid _ from hi); have HZ := (show Hid _ from And.intro hz0 (And.intro hz1 hz2)); clear hi hz0 hz1 hz2
  go_enter Tryd.func29, Tryd.ntmps29
  go_wp2
  go_loop [3] (fun i => i = .int .i64 0) (fun _ => 0)
  case atStart => rfl
  case round =>
    subst hrel
    go_wp2
    go_loopw [0, 4] (fun sv iv wr => ∃ k : Nat, iv = .int .i64 (k : Int) ∧ k ≤ 9 ∧ Below w.heap.size w wr ∧ ∃ xs, wr.ownsRow w.heap.size 24 4 sv k xs) (fun _ iv _ => 9 - (intOf iv).toNat)
    case atStart => exact ⟨0, rfl, by decide, Below.refl _ _, [], rfl, Or.inl ⟨rfl, rfl⟩⟩
    case round =>
      obtain ⟨j, rfl, hj, hB2, xs, hown⟩ := hrel
      by_cases hlt2 : j < 9
      · have hji : (j : Int) < 9 := by omega
        have hsz := hB2.size
        go_wp2_with (first
          | (at_builtin; refine wpList_append_own _ rfl _ _ 41 rfl w.heap.size 24 i0 (.agg #[.int .u64 0, .int .u64 0, .int .u64 0, .int .u64 0]) 4 32 Tryd.underlying41 HI.out HZ.out.1 HZ.out.2.1 HZ.out.2.2 rfl (by decide) _ _ _ rfl (hown.alloc _) ⟨wr.heap.size, 0, none⟩ 1 1 [.int .u64 66, .int .u64 0, .int .u64 0, .int .u64 0] rfl rfl ?d1 ?d2 ?d3 ?d4 ?d5 ?_)
          | go_in)
        case d1 =>
          intro j u hj
          match j, hj with
          | 0, hj => simp at hj; subst hj; simp [Addr.add]
          | 1, hj => simp at hj; subst hj; simp [Addr.add]
          | 2, hj => simp at hj; subst hj; simp [Addr.add]
          | 3, hj => simp at hj; subst hj; simp [Addr.add]
          | j + 4, hj => simp at hj
        case d2 => intro u hu; simp at hu; rcases hu with rfl | rfl <;> rfl
        case d3 => unfold maxLen; omega
        case d4 => omega
        case d5 => simp; omega
        intro v' w5 hown' hgrow _
        go_wp2
        go_roundw
        case measure => simp [intOf]; omega
        case rel =>
          refine ⟨j + 1, by go_num, by omega, (hB2.alloc hsz _).grown hgrow (by simp; omega) (fun k hk => own_block_geE hown hk), _, hown'⟩
      · have hji : ¬ (j : Int) < 9 := by omega
        have hj9 : j = 9 := by omega
        subst hj9
        obtain ⟨_, h2⟩ := hown
        rcases h2 with ⟨_, h0⟩ | ⟨g', c', cur, rfl, _⟩
        · omega
        · clear hlt2
          go_wp2
          go_ret
          exact ⟨rfl, hB2⟩

end Go.Proofs.YtlndeghggdpmaacDoor

/- Copies that aren't nil; what is kept over stores; field.Invert of no elements. -/
namespace Go.Proofs.YtlndeghggdpmaacDoor
open Go.RowKit

set_option maxHeartbeats 2000000 in
theorem copyF_some (n cn a oa : Nat) (f : Nat → Nat) (hn : n ≤ 1000) (w : World) (ha : a < w.heap.size) (hc : ∀ i, i < n → ∀ j, j < 4 → w.cell? ⟨a, oa + i * 4 + j, none⟩ = some (.int .u64 ((limb j (f i) : Nat) : Int))) :
    Calls Tryd.prog 25 #[.slice (some ⟨a, oa, none⟩) n cn] w fun e w' => ∃ v, e = .returned v ∧ w'.ownsRow w.heap.size 24 4 v n (els f n) ∧ v ≠ .slice none 0 0 ∧ Below w.heap.size w w' := by
  obtain ⟨i0, hi, hz0, hz1, hz2⟩ := elemInfo
  have HI := (show Hid _ from hi); have HZ := (show Hid _ from And.intro hz0 (And.intro hz1 hz2)); clear hi hz0 hz1 hz2
  have HC := (show Hid _ from hc); clear hc
  have hown0 : (w.alloc (.cells #[] 24)).ownsRow w.heap.size 24 4 (.slice (some ⟨w.heap.size, 0, none⟩) 0 0) 0 [] :=
    ⟨rfl, Or.inr ⟨w.heap.size, 0, #[], rfl, Nat.le_refl _, new_blockE _ _, Nat.le_refl _, by decide, rfl, rfl⟩⟩
  have HO : Hid ((w.alloc (.cells #[] 24)).ownsRow w.heap.size 24 4 (.slice (some ⟨w.heap.size, 0, none⟩) 0 0) 0 []) := hown0
  clear hown0
  go_enter Tryd.func25, Tryd.ntmps25
  go_wp2_with (first
    | (at_builtin; refine wpList_append_own _ rfl _ _ 41 rfl w.heap.size 24 i0 (.agg #[.int .u64 0, .int .u64 0, .int .u64 0, .int .u64 0]) 4 32 Tryd.underlying41 HI.out HZ.out.1 HZ.out.2.1 HZ.out.2.2 rfl (by decide) _ _ _ rfl HO.out ⟨a, oa, none⟩ n cn (els f n) rfl ?c0 ?c1 ?c2 ?c3 ?c4 ?c5 ?_)
    | go_in)
  case c0 => exact els_len f n
  case c1 =>
    intro j u hj
    have hjn : j < n * 4 := by
      rcases Nat.lt_or_ge j (n * 4) with h | h
      · exact h
      · rw [List.getElem?_eq_none (by rw [els_len]; exact h)] at hj; cases hj
    have e := els_get f n (j / 4) (j % 4) (by omega) (by omega)
    rw [show j / 4 * 4 + j % 4 = j from by omega, hj] at e
    cases e
    have hb : Below w.heap.size w (w.alloc (.cells #[] 24)) := (Below.refl _ _).alloc (Nat.le_refl _) _
    have hadd : (⟨a, oa, none⟩ : Addr).add j = ⟨a, oa + j / 4 * 4 + j % 4, none⟩ := by
      have e2 : oa + j / 4 * 4 + j % 4 = oa + j := by omega
      rw [e2]; unfold Addr.add; split <;> simp_all
    rw [hadd, hb.cell (p := ⟨a, oa + j / 4 * 4 + j % 4, none⟩) ha]
    exact HC.out (j / 4) (by omega) (j % 4) (by omega)
  case c2 => intro u hu; unfold els at hu; obtain ⟨i, _, rfl⟩ := List.mem_map.mp hu; rfl
  case c3 => unfold maxLen; omega
  case c4 => omega
  case c5 => simp
  intro v' w2 hown' hgrow hnil
  have HN : Hid (v' ≠ .slice none 0 0) := hnil
  clear hnil
  go_wp2
  go_ret
  refine ⟨_, rfl, ?_, HN.out, ?_⟩
  · exact hown'
  · exact ((Below.refl _ w).alloc (Nat.le_refl _) _).grown hgrow (by simp) (fun j hj => own_block_geE HO.out hj)

set_option maxHeartbeats 2000000 in
theorem copyF_nil (w : World) :
    Calls Tryd.prog 25 #[.slice none 0 0] w fun e w' => ∃ v, e = .returned v ∧ w'.ownsRow w.heap.size 24 4 v 0 [] ∧ v ≠ .slice none 0 0 ∧ Below w.heap.size w w' := by
  obtain ⟨i0, hi, _, hz1, _⟩ := elemInfo
  have HI := (show Hid _ from hi); clear hi
  have hown0 : (w.alloc (.cells #[] 24)).ownsRow w.heap.size 24 4 (.slice (some ⟨w.heap.size, 0, none⟩) 0 0) 0 [] :=
    ⟨rfl, Or.inr ⟨w.heap.size, 0, #[], rfl, Nat.le_refl _, new_blockE _ _, Nat.le_refl _, by decide, rfl, rfl⟩⟩
  have HO : Hid ((w.alloc (.cells #[] 24)).ownsRow w.heap.size 24 4 (.slice (some ⟨w.heap.size, 0, none⟩) 0 0) 0 []) := hown0
  clear hown0
  go_enter Tryd.func25, Tryd.ntmps25
  go_wp2_with (first
    | (at_builtin; refine wpList_append_own_none rfl _ _ 41 rfl w.heap.size 24 i0 4 Tryd.underlying41 HI.out _ _ _ rfl HO.out rfl ?_)
    | go_in)
  go_wp2
  go_ret
  exact ⟨_, rfl, HO.out, (fun h => by cases h), (Below.refl _ w).alloc (Nat.le_refl _) _⟩
/-- CopyElems: the same elements in new memory. -/
theorem copyF_any (n : Nat) (v : Value) (f : Nat → Nat) (hn : n ≤ 1000) (w : World) (h : Es w v n f) :
    Calls Tryd.prog 25 #[v] w fun e w' => ∃ v', e = .returned v' ∧ w'.ownsRow w.heap.size 24 4 v' n (els f n) ∧ v' ≠ .slice none 0 0 ∧ Below w.heap.size w w' := by
  rcases h with ⟨rfl, rfl⟩ | ⟨b, o, c, rfl, _, _, hb, hc⟩
  · exact copyF_nil w
  · exact copyF_some n c b o f hn w hb hc

theorem ownBlock_in {w : World} {base : Nat} {e : TypeId} {size : Nat} {v : Value} {n : Nat} {xs : List Value} (h : w.ownsRow base e size v n xs) : ∀ b, v.ownBlock = some b → base ≤ b ∧ b < w.heap.size := by
  obtain ⟨_, h⟩ := h
  intro b hb
  rcases h with ⟨rfl, _⟩ | ⟨g, c, cur, rfl, h1, h2, _⟩
  · simp [Value.ownBlock] at hb
  · simp [Value.ownBlock] at hb
    subst hb
    refine ⟨h1, ?_⟩
    rcases Nat.lt_or_ge g w.heap.size with hl | hl
    · exact hl
    · rw [Array.getElem?_eq_none hl] at h2; cases h2
theorem own_kept {w w' : World} {base g : Nat} {e : TypeId} {size : Nat} {v : Value} {n : Nat} {xs : List Value} (h : w.ownsRow base e size v n xs) (hk : Kept g w w') (hf : ∀ b, v.ownBlock = some b → b ≠ g) : w'.ownsRow base e size v n xs := by
  have hin := ownBlock_in h
  obtain ⟨h1, h2⟩ := h
  refine ⟨h1, ?_⟩
  rcases h2 with h2 | ⟨g', cap, cur, rfl, h4, h5, h6⟩
  · exact Or.inl h2
  · refine Or.inr ⟨g', cap, cur, rfl, h4, ?_, h6⟩
    rw [hk.block g' (hin g' rfl).2 (hf g' rfl)]; exact h5
theorem BlkE.kept {w w' : World} {b n g : Nat} {f : Nat → Nat} (h : BlkE w b n f) (hk : Kept g w w') (hb : b ≠ g) : BlkE w' b n f := by
  have hl := h.lt
  obtain ⟨c, hc, hs⟩ := h
  exact ⟨c, by rw [hk.block b hl hb]; exact hc, hs⟩
theorem BlkB.kept {w w' : World} {t : TypeId} {b n g : Nat} {f : Nat → Nat} (h : BlkB w t b n f) (hk : Kept g w w') (hb : b ≠ g) : BlkB w' t b n f := by
  have hl := h.lt
  obtain ⟨c, hc, hs⟩ := h
  exact ⟨c, by rw [hk.block b hl hb]; exact hc, hs⟩

end Go.Proofs.YtlndeghggdpmaacDoor

/- FieldMemory: the walk. -/
namespace Go.Proofs.YtlndeghggdpmaacDoor
open Go.RowKit

set_option maxHeartbeats 16000000 in
set_option maxRecDepth 20000 in
theorem mem_bi (s : Int) (a n c : Nat) (oa : Option Addr) (f fi fe : Nat → Nat) (hn : n ≤ 40) (hf : ∀ i, i < n → f i < 115792089237316195423570985008687907853269984665640564039457584007913129639936) (hfi : ∀ i, i < n → fi i < 115792089237316195423570985008687907853269984665640564039457584007913129639936)
    (IV : ∀ w v, Glob w → Es w v n f → v ≠ .slice none 0 0 → Calls Tryd.prog 26 #[.int .i64 s, v] w fun e w' => ∃ g, e = .returned (.tuple #[.slice (some ⟨g, 0, none⟩) n n, .int .i64 0]) ∧ w.heap.size ≤ g ∧ BlkE w' g n fi ∧ Below w.heap.size w w')
    (RV : ∀ w, Es w (.slice oa n c) n f → Calls Tryd.prog 27 #[.int .i64 s, .slice oa n c] w fun e w' => ∃ v, e = .returned (.tuple #[v, .int .i64 0]) ∧ w'.ownsRow w.heap.size 24 4 v n (els fi n) ∧ Below w.heap.size w w')
    (EN : ∀ w, Glob w → Calls Tryd.prog 13 #[.int .i64 s, .agg #[.int .u64 ((limb 0 (a) : Nat) : Int), .int .u64 ((limb 1 (a) : Nat) : Int), .int .u64 ((limb 2 (a) : Nat) : Int), .int .u64 ((limb 3 (a) : Nat) : Int)]] w fun e w' => ∃ g, e = .returned (.slice (some ⟨g, 0, none⟩) 32 32) ∧ w.heap.size ≤ g ∧ BlkB w' 5 g 32 fe ∧ Below w.heap.size w w')
    (RE : ∀ w, Calls Tryd.prog 14 #[.int .i64 s, .agg #[.int .u64 ((limb 0 (a) : Nat) : Int), .int .u64 ((limb 1 (a) : Nat) : Int), .int .u64 ((limb 2 (a) : Nat) : Int), .int .u64 ((limb 3 (a) : Nat) : Int)]] w fun e w' => ∃ v, e = .returned v ∧ w'.ownsRow w.heap.size 5 1 v 32 (bys fe 32) ∧ Below w.heap.size w w')
    (w : World) (hg : Glob w) (hB : Es w (.slice oa n c) n f) :
    Calls Tryd.prog 7 #[.int .i64 s, .agg #[.int .u64 ((limb 0 (a) : Nat) : Int), .int .u64 ((limb 1 (a) : Nat) : Int), .int .u64 ((limb 2 (a) : Nat) : Int), .int .u64 ((limb 3 (a) : Nat) : Int)], .slice oa n c] w fun e w' => e = .returned (.bool true) ∧ Below w.heap.size w w' := by
  have AL := fun w hg => alive2_any w hg
  have CP := fun w h => copyF_any n (.slice oa n c) f (by omega) w h
  have HB : Hid (Es w (.slice oa n c) n f) := hB
  have HG : Hid (Glob w) := hg
  have HF : Hid (∀ i, i < n → f i < 115792089237316195423570985008687907853269984665640564039457584007913129639936) := hf
  have HFI : Hid (∀ i, i < n → fi i < 115792089237316195423570985008687907853269984665640564039457584007913129639936) := hfi
  have h40 : ¬ (40 : Int) < (n : Int) := by omega
  clear hB hf hfi
  go_enter Tryd.func7, Tryd.ntmps7
  go_wp2_with fail
  obtain ⟨w0, hw0⟩ : ∃ w0 : World, w0 = w.alloc (.cells #[.int .u64 ((limb 0 (a) : Nat) : Int), .int .u64 ((limb 1 (a) : Nat) : Int), .int .u64 ((limb 2 (a) : Nat) : Int), .int .u64 ((limb 3 (a) : Nat) : Int)] 24) := ⟨_, rfl⟩
  have ba0 : Blk w0 24 w.heap.size (fun i => limb i a) := by rw [hw0]; exact Blk.newAt _ _ _ (fun i => limb i a) (by simp)
  have hbw0 : Below w.heap.size w w0 := by rw [hw0]; exact (Below.refl _ _).alloc (Nat.le_refl _) _
  rw [← hw0]
  clear hw0 hg
  refine (AL _ (HG.out.below hbw0)).mono ?_
  rintro e w1 ⟨rfl, hb1⟩
  have ba1 := ba0.belowAll hb1
  have hbw1 := bStep hbw0 hb1
  clear ba0 hbw0 hb1 AL
  go_wp2_with fail
  refine (CP _ (HB.out.below hbw1)).mono ?_
  rintro e w2 ⟨vo, rfl, oo2, hvo, hb2⟩
  have ba2 := ba1.belowAll hb2
  have hbw2 := bStep hbw1 hb2
  clear ba1 hbw1 hb2 
  have HVO := (show Hid _ from hvo)
  clear hvo
  go_wp2_with fail
  refine (IV _ vo (HG.out.below hbw2) (own_Es oo2) HVO.out).mono ?_
  rintro e w3 ⟨gx, rfl, lx3, bx3, hb3⟩
  have ba3 := ba2.belowAll hb3
  have oo3 := ownsRow_below oo2 hb3
  have hbw3 := bStep hbw2 hb3
  have lox := fun b h => Nat.lt_of_lt_of_le (ownBlock_in oo2 b h).2 lx3; have lgx : w.heap.size ≤ gx := Nat.le_trans hbw2.size lx3
  clear ba2 oo2 hbw2 hb3 lx3
  go_wp2_with fail
  refine (IV _ vo (HG.out.below hbw3) (own_Es oo3) HVO.out).mono ?_
  rintro e w4 ⟨gy, rfl, ly4, by4, hb4⟩
  have ba4 := ba3.belowAll hb4
  have oo4 := ownsRow_below oo3 hb4
  have bx4 := bx3.belowAll hb4
  have hbw4 := bStep hbw3 hb4
  have lxy : gx < gy := Nat.lt_of_lt_of_le bx3.lt ly4
  clear ba3 oo3 bx3 hbw3 hb4 ly4
  go_wp2_with fail
  refine (RV _ (HB.out.below hbw4)).mono ?_
  rintro e w5 ⟨vv, rfl, ov5, hb5⟩
  have ba5 := ba4.belowAll hb5
  have oo5 := ownsRow_below oo4 hb5
  have bx5 := bx4.belowAll hb5
  have by5 := by4.belowAll hb5
  have hbw5 := bStep hbw4 hb5
  have lyv := fun b h => Nat.lt_of_lt_of_le by4.lt (ownBlock_in ov5 b h).1
  clear ba4 oo4 bx4 by4 hbw4 hb5 
  have ca := ba5.cell
  go_wp2_with fail
  refine (EN _ (HG.out.below hbw5)).mono ?_
  rintro e w6 ⟨gp, rfl, lp6, bp6, hb6⟩
  have ba6 := ba5.belowAll hb6
  have oo6 := ownsRow_below oo5 hb6
  have bx6 := bx5.belowAll hb6
  have by6 := by5.belowAll hb6
  have ov6 := ownsRow_below ov5 hb6
  have hbw6 := bStep hbw5 hb6
  have lop := fun b h => Nat.lt_of_lt_of_le (ownBlock_in oo5 b h).2 lp6; have lgp : w.heap.size ≤ gp := Nat.le_trans hbw5.size lp6; have lyp : gy < gp := Nat.lt_of_lt_of_le by5.lt lp6; have lvp := fun b h => Nat.lt_of_lt_of_le (ownBlock_in ov5 b h).2 lp6
  clear ba5 oo5 bx5 by5 ov5 hbw5 hb6 lp6 ca
  have ca := ba6.cell
  go_wp2_with fail
  refine (EN _ (HG.out.below hbw6)).mono ?_
  rintro e w7 ⟨gq, rfl, lq7, bq7, hb7⟩
  have ba7 := ba6.belowAll hb7
  have oo7 := ownsRow_below oo6 hb7
  have bx7 := bx6.belowAll hb7
  have by7 := by6.belowAll hb7
  have ov7 := ownsRow_below ov6 hb7
  have bp7 := bp6.belowAll hb7
  have hbw7 := bStep hbw6 hb7
  have lpq : gp < gq := Nat.lt_of_lt_of_le bp6.lt lq7
  clear ba6 oo6 bx6 by6 ov6 bp6 hbw6 hb7 lq7 ca
  have ca := ba7.cell
  go_wp2_with fail
  refine (RE _).mono ?_
  rintro e w8 ⟨vc, rfl, oc8, hb8⟩
  have ba8 := ba7.belowAll hb8
  have oo8 := ownsRow_below oo7 hb8
  have bx8 := bx7.belowAll hb8
  have by8 := by7.belowAll hb8
  have ov8 := ownsRow_below ov7 hb8
  have bp8 := bp7.belowAll hb8
  have bq8 := bq7.belowAll hb8
  have hbw8 := bStep hbw7 hb8
  have lqc := fun b h => Nat.lt_of_lt_of_le bq7.lt (ownBlock_in oc8 b h).1
  clear ba7 oo7 bx7 by7 ov7 bp7 bq7 hbw7 hb8 ca
  clear IV RV EN RE CP
  go_wp2_with fail
  refine (sameE_self _ _ n fi (by omega) HFI.out _ (bx8.Es (by unfold maxLen; omega)) (own_Es ov8)).mono ?_
  rintro e w9 ⟨rfl, hb9⟩
  have ba9 := ba8.belowAll hb9
  have oo9 := ownsRow_below oo8 hb9
  have bx9 := bx8.belowAll hb9
  have by9 := by8.belowAll hb9
  have ov9 := ownsRow_below ov8 hb9
  have bp9 := bp8.belowAll hb9
  have bq9 := bq8.belowAll hb9
  have oc9 := ownsRow_below oc8 hb9
  have hbw9 := bStep hbw8 hb9
  clear ba8 oo8 bx8 by8 ov8 bp8 bq8 oc8 hbw8 hb9 
  go_wp2_with fail
  refine (same_self _ _ 32 fe _ (bp9.Bs (by decide)) (own_Bs oc9)).mono ?_
  rintro e w10 ⟨rfl, hb10⟩
  have ba10 := ba9.belowAll hb10
  have oo10 := ownsRow_below oo9 hb10
  have bx10 := bx9.belowAll hb10
  have by10 := by9.belowAll hb10
  have ov10 := ownsRow_below ov9 hb10
  have bp10 := bp9.belowAll hb10
  have bq10 := bq9.belowAll hb10
  have oc10 := ownsRow_below oc9 hb10
  have hbw10 := bStep hbw9 hb10
  clear ba9 oo9 bx9 by9 ov9 bp9 bq9 oc9 hbw9 hb10 
  go_wp2_with fail
  refine (marked_any n gx fi (by omega) _ bx10).mono ?_
  rintro e w11 ⟨rfl, hk11⟩
  have oo11 := own_kept oo10 hk11 (fun b h => by have := lox b h; omega)
  have by11 := by10.kept hk11 (by omega)
  have ov11 := own_kept ov10 hk11 (fun b h => by have := lyv b h; omega)
  have bp11 := bp10.kept hk11 (by omega)
  have bq11 := bq10.kept hk11 (by omega)
  have oc11 := own_kept oc10 hk11 (fun b h => by have := lqc b h; omega)
  have hbw11 := hbw10.trans (hk11.below lgx hbw10.size)
  clear ba10 oo10 bx10 by10 ov10 bp10 bq10 oc10 hbw10 hk11
  go_wp2
  go_loopw [17] (fun iv wr => ∃ (k : Nat) (fp : Nat → Nat), iv = .int .i64 (k : Int) ∧ k ≤ 32 ∧ Kept gp w11 wr ∧ BlkB wr 5 gp 32 fp) (fun iv _ => 32 - (intOf iv).toNat)
  case atStart => exact ⟨0, fe, rfl, by decide, Kept.refl _ _, bp11⟩
  case round =>
    obtain ⟨k, fp, rfl, hk, hK, bp⟩ := hrel
    by_cases hlt : k < 32
    · have hki : (k : Int) < 32 := by omega
      have cp := bp.cell k hlt; have fp0 := bp.frozen
      obtain ⟨x, ex⟩ : ∃ x : Int, x = ((fp k : Nat) : Int) := ⟨_, rfl⟩
      rw [← ex] at cp
      clear ex
      have BS := bp.set k hlt 1
      have HBS := (show Hid _ from BS)
      clear BS
      go_wp2
      go_roundw
      case measure => simp [intOf]; omega
      case rel => exact ⟨k + 1, _, by go_num, by omega, hK.setCell _ _, HBS.out⟩
    · have hki : ¬ (k : Int) < 32 := by omega
      have oo12 := own_kept oo11 hK (fun b h => by have := lop b h; omega)
      have by12 := by11.kept hK (by omega)
      have ov12 := own_kept ov11 hK (fun b h => by have := lvp b h; omega)
      have bq12 := bq11.kept hK (by omega)
      have oc12 := own_kept oc11 hK (fun b h => by have := lqc b h; omega)
      have hbw12 := hbw11.trans (hK.below lgp hbw11.size)
      clear oo11 by11 ov11 bp11 bq11 oc11 hbw11 hK bp hlt
      go_wp2_with fail
      refine (sameE_self _ _ n fi (by omega) HFI.out _ (by12.Es (by unfold maxLen; omega)) (own_Es ov12)).mono ?_
      rintro e w13 ⟨rfl, hb13⟩
      have oo13 := ownsRow_below oo12 hb13
      have by13 := by12.belowAll hb13
      have ov13 := ownsRow_below ov12 hb13
      have bq13 := bq12.belowAll hb13
      have oc13 := ownsRow_below oc12 hb13
      have hbw13 := bStep hbw12 hb13
      clear oo12 by12 ov12 bq12 oc12 hbw12 hb13
      go_wp2_with fail
      refine (same_self _ _ 32 fe _ (bq13.Bs (by decide)) (own_Bs oc13)).mono ?_
      rintro e w14 ⟨rfl, hb14⟩
      have oo14 := ownsRow_below oo13 hb14
      have by14 := by13.belowAll hb14
      have ov14 := ownsRow_below ov13 hb14
      have bq14 := bq13.belowAll hb14
      have oc14 := ownsRow_below oc13 hb14
      have hbw14 := bStep hbw13 hb14
      clear oo13 by13 ov13 bq13 oc13 hbw13 hb14
      go_wp2_with fail
      refine (sameE_self _ _ n f (by omega) HF.out _ (own_Es oo14) (HB.out.below hbw14)).mono ?_
      rintro e w15 ⟨rfl, hb15⟩
      have oo15 := ownsRow_below oo14 hb15
      have by15 := by14.belowAll hb15
      have ov15 := ownsRow_below ov14 hb15
      have bq15 := bq14.belowAll hb15
      have oc15 := ownsRow_below oc14 hb15
      have hbw15 := bStep hbw14 hb15
      clear oo14 by14 ov14 bq14 oc14 hbw14 hb15
      go_wp2
      go_ret
      exact ⟨rfl, hbw15⟩

set_option maxHeartbeats 16000000 in
set_option maxRecDepth 20000 in
theorem mem_ni (s er : Int) (a n c : Nat) (oa : Option Addr) (f fe : Nat → Nat) (hn : n ≤ 40) (hf : ∀ i, i < n → f i < 115792089237316195423570985008687907853269984665640564039457584007913129639936)
    (IV : ∀ w v, Glob w → Es w v n f → v ≠ .slice none 0 0 → Calls Tryd.prog 26 #[.int .i64 s, v] w fun e w' => e = .returned (.tuple #[.slice none 0 0, .int .i64 er]) ∧ Below w.heap.size w w')
    (RV : ∀ w, Es w (.slice oa n c) n f → Calls Tryd.prog 27 #[.int .i64 s, .slice oa n c] w fun e w' => e = .returned (.tuple #[.slice none 0 0, .int .i64 er]) ∧ Below w.heap.size w w')
    (EN : ∀ w, Glob w → Calls Tryd.prog 13 #[.int .i64 s, .agg #[.int .u64 ((limb 0 (a) : Nat) : Int), .int .u64 ((limb 1 (a) : Nat) : Int), .int .u64 ((limb 2 (a) : Nat) : Int), .int .u64 ((limb 3 (a) : Nat) : Int)]] w fun e w' => ∃ g, e = .returned (.slice (some ⟨g, 0, none⟩) 32 32) ∧ w.heap.size ≤ g ∧ BlkB w' 5 g 32 fe ∧ Below w.heap.size w w')
    (RE : ∀ w, Calls Tryd.prog 14 #[.int .i64 s, .agg #[.int .u64 ((limb 0 (a) : Nat) : Int), .int .u64 ((limb 1 (a) : Nat) : Int), .int .u64 ((limb 2 (a) : Nat) : Int), .int .u64 ((limb 3 (a) : Nat) : Int)]] w fun e w' => ∃ v, e = .returned v ∧ w'.ownsRow w.heap.size 5 1 v 32 (bys fe 32) ∧ Below w.heap.size w w')
    (w : World) (hg : Glob w) (hB : Es w (.slice oa n c) n f) :
    Calls Tryd.prog 7 #[.int .i64 s, .agg #[.int .u64 ((limb 0 (a) : Nat) : Int), .int .u64 ((limb 1 (a) : Nat) : Int), .int .u64 ((limb 2 (a) : Nat) : Int), .int .u64 ((limb 3 (a) : Nat) : Int)], .slice oa n c] w fun e w' => e = .returned (.bool true) ∧ Below w.heap.size w w' := by
  have AL := fun w hg => alive2_any w hg
  have CP := fun w h => copyF_any n (.slice oa n c) f (by omega) w h
  have HB : Hid (Es w (.slice oa n c) n f) := hB
  have HG : Hid (Glob w) := hg
  have HF : Hid (∀ i, i < n → f i < 115792089237316195423570985008687907853269984665640564039457584007913129639936) := hf
  have h40 : ¬ (40 : Int) < (n : Int) := by omega
  clear hB hf
  go_enter Tryd.func7, Tryd.ntmps7
  go_wp2_with fail
  obtain ⟨w0, hw0⟩ : ∃ w0 : World, w0 = w.alloc (.cells #[.int .u64 ((limb 0 (a) : Nat) : Int), .int .u64 ((limb 1 (a) : Nat) : Int), .int .u64 ((limb 2 (a) : Nat) : Int), .int .u64 ((limb 3 (a) : Nat) : Int)] 24) := ⟨_, rfl⟩
  have ba0 : Blk w0 24 w.heap.size (fun i => limb i a) := by rw [hw0]; exact Blk.newAt _ _ _ (fun i => limb i a) (by simp)
  have hbw0 : Below w.heap.size w w0 := by rw [hw0]; exact (Below.refl _ _).alloc (Nat.le_refl _) _
  rw [← hw0]
  clear hw0 hg
  refine (AL _ (HG.out.below hbw0)).mono ?_
  rintro e w1 ⟨rfl, hb1⟩
  have ba1 := ba0.belowAll hb1
  have hbw1 := bStep hbw0 hb1
  clear ba0 hbw0 hb1 AL
  go_wp2_with fail
  refine (CP _ (HB.out.below hbw1)).mono ?_
  rintro e w2 ⟨vo, rfl, oo2, hvo, hb2⟩
  have ba2 := ba1.belowAll hb2
  have hbw2 := bStep hbw1 hb2
  clear ba1 hbw1 hb2 
  have HVO := (show Hid _ from hvo)
  clear hvo
  go_wp2_with fail
  refine (IV _ vo (HG.out.below hbw2) (own_Es oo2) HVO.out).mono ?_
  rintro e w3 ⟨rfl, hb3⟩
  have ba3 := ba2.belowAll hb3
  have oo3 := ownsRow_below oo2 hb3
  have hbw3 := bStep hbw2 hb3
  clear ba2 oo2 hbw2 hb3 
  go_wp2_with fail
  refine (IV _ vo (HG.out.below hbw3) (own_Es oo3) HVO.out).mono ?_
  rintro e w4 ⟨rfl, hb4⟩
  have ba4 := ba3.belowAll hb4
  have oo4 := ownsRow_below oo3 hb4
  have hbw4 := bStep hbw3 hb4
  clear ba3 oo3 hbw3 hb4 
  go_wp2_with fail
  refine (RV _ (HB.out.below hbw4)).mono ?_
  rintro e w5 ⟨rfl, hb5⟩
  have ba5 := ba4.belowAll hb5
  have oo5 := ownsRow_below oo4 hb5
  have hbw5 := bStep hbw4 hb5
  clear ba4 oo4 hbw4 hb5 
  have ca := ba5.cell
  go_wp2_with fail
  refine (EN _ (HG.out.below hbw5)).mono ?_
  rintro e w6 ⟨gp, rfl, lp6, bp6, hb6⟩
  have ba6 := ba5.belowAll hb6
  have oo6 := ownsRow_below oo5 hb6
  have hbw6 := bStep hbw5 hb6
  have lop := fun b h => Nat.lt_of_lt_of_le (ownBlock_in oo5 b h).2 lp6; have lgp : w.heap.size ≤ gp := Nat.le_trans hbw5.size lp6
  clear ba5 oo5 hbw5 hb6 lp6 ca
  have ca := ba6.cell
  go_wp2_with fail
  refine (EN _ (HG.out.below hbw6)).mono ?_
  rintro e w7 ⟨gq, rfl, lq7, bq7, hb7⟩
  have ba7 := ba6.belowAll hb7
  have oo7 := ownsRow_below oo6 hb7
  have bp7 := bp6.belowAll hb7
  have hbw7 := bStep hbw6 hb7
  have lpq : gp < gq := Nat.lt_of_lt_of_le bp6.lt lq7
  clear ba6 oo6 bp6 hbw6 hb7 lq7 ca
  have ca := ba7.cell
  go_wp2_with fail
  refine (RE _).mono ?_
  rintro e w8 ⟨vc, rfl, oc8, hb8⟩
  have ba8 := ba7.belowAll hb8
  have oo8 := ownsRow_below oo7 hb8
  have bp8 := bp7.belowAll hb8
  have bq8 := bq7.belowAll hb8
  have hbw8 := bStep hbw7 hb8
  have lqc := fun b h => Nat.lt_of_lt_of_le bq7.lt (ownBlock_in oc8 b h).1
  clear ba7 oo7 bp7 bq7 hbw7 hb8 ca
  clear IV RV EN RE CP
  go_wp2_with fail
  refine (sameE_self _ _ 0 (fun _ => 0) (by omega) (fun i hi => by omega) _ (Or.inl ⟨rfl, rfl⟩) (Or.inl ⟨rfl, rfl⟩)).mono ?_
  rintro e w9 ⟨rfl, hb9⟩
  have ba9 := ba8.belowAll hb9
  have oo9 := ownsRow_below oo8 hb9
  have bp9 := bp8.belowAll hb9
  have bq9 := bq8.belowAll hb9
  have oc9 := ownsRow_below oc8 hb9
  have hbw9 := bStep hbw8 hb9
  clear ba8 oo8 bp8 bq8 oc8 hbw8 hb9 
  go_wp2_with fail
  refine (same_self _ _ 32 fe _ (bp9.Bs (by decide)) (own_Bs oc9)).mono ?_
  rintro e w10 ⟨rfl, hb10⟩
  have ba10 := ba9.belowAll hb10
  have oo10 := ownsRow_below oo9 hb10
  have bp10 := bp9.belowAll hb10
  have bq10 := bq9.belowAll hb10
  have oc10 := ownsRow_below oc9 hb10
  have hbw10 := bStep hbw9 hb10
  clear ba9 oo9 bp9 bq9 oc9 hbw9 hb10 
  go_wp2_with fail
  refine (marked_nil _).mono ?_
  rintro e w11 ⟨rfl, hb11⟩
  have ba11 := ba10.belowAll hb11
  have oo11 := ownsRow_below oo10 hb11
  have bp11 := bp10.belowAll hb11
  have bq11 := bq10.belowAll hb11
  have oc11 := ownsRow_below oc10 hb11
  have hbw11 := bStep hbw10 hb11
  clear ba10 oo10 bp10 bq10 oc10 hbw10 hb11 
  go_wp2
  go_loopw [17] (fun iv wr => ∃ (k : Nat) (fp : Nat → Nat), iv = .int .i64 (k : Int) ∧ k ≤ 32 ∧ Kept gp w11 wr ∧ BlkB wr 5 gp 32 fp) (fun iv _ => 32 - (intOf iv).toNat)
  case atStart => exact ⟨0, fe, rfl, by decide, Kept.refl _ _, bp11⟩
  case round =>
    obtain ⟨k, fp, rfl, hk, hK, bp⟩ := hrel
    by_cases hlt : k < 32
    · have hki : (k : Int) < 32 := by omega
      have cp := bp.cell k hlt; have fp0 := bp.frozen
      obtain ⟨x, ex⟩ : ∃ x : Int, x = ((fp k : Nat) : Int) := ⟨_, rfl⟩
      rw [← ex] at cp
      clear ex
      have BS := bp.set k hlt 1
      have HBS := (show Hid _ from BS)
      clear BS
      go_wp2
      go_roundw
      case measure => simp [intOf]; omega
      case rel => exact ⟨k + 1, _, by go_num, by omega, hK.setCell _ _, HBS.out⟩
    · have hki : ¬ (k : Int) < 32 := by omega
      have oo12 := own_kept oo11 hK (fun b h => by have := lop b h; omega)
      have bq12 := bq11.kept hK (by omega)
      have oc12 := own_kept oc11 hK (fun b h => by have := lqc b h; omega)
      have hbw12 := hbw11.trans (hK.below lgp hbw11.size)
      clear oo11 bp11 bq11 oc11 hbw11 hK bp hlt
      go_wp2_with fail
      refine (sameE_self _ _ 0 (fun _ => 0) (by omega) (fun i hi => by omega) _ (Or.inl ⟨rfl, rfl⟩) (Or.inl ⟨rfl, rfl⟩)).mono ?_
      rintro e w13 ⟨rfl, hb13⟩
      have oo13 := ownsRow_below oo12 hb13
      have bq13 := bq12.belowAll hb13
      have oc13 := ownsRow_below oc12 hb13
      have hbw13 := bStep hbw12 hb13
      clear oo12 bq12 oc12 hbw12 hb13
      go_wp2_with fail
      refine (same_self _ _ 32 fe _ (bq13.Bs (by decide)) (own_Bs oc13)).mono ?_
      rintro e w14 ⟨rfl, hb14⟩
      have oo14 := ownsRow_below oo13 hb14
      have bq14 := bq13.belowAll hb14
      have oc14 := ownsRow_below oc13 hb14
      have hbw14 := bStep hbw13 hb14
      clear oo13 bq13 oc13 hbw13 hb14
      go_wp2_with fail
      refine (sameE_self _ _ n f (by omega) HF.out _ (own_Es oo14) (HB.out.below hbw14)).mono ?_
      rintro e w15 ⟨rfl, hb15⟩
      have oo15 := ownsRow_below oo14 hb15
      have bq15 := bq14.belowAll hb15
      have oc15 := ownsRow_below oc14 hb15
      have hbw15 := bStep hbw14 hb15
      clear oo14 bq14 oc14 hbw14 hb15
      go_wp2
      go_ret
      exact ⟨rfl, hbw15⟩

set_option maxHeartbeats 16000000 in
set_option maxRecDepth 20000 in
theorem mem_no (s er : Int) (a n c : Nat) (oa : Option Addr) (f : Nat → Nat) (hn : n ≤ 40) (hf : ∀ i, i < n → f i < 115792089237316195423570985008687907853269984665640564039457584007913129639936)
    (IV : ∀ w v, Glob w → Es w v n f → v ≠ .slice none 0 0 → Calls Tryd.prog 26 #[.int .i64 s, v] w fun e w' => e = .returned (.tuple #[.slice none 0 0, .int .i64 er]) ∧ Below w.heap.size w w')
    (RV : ∀ w, Es w (.slice oa n c) n f → Calls Tryd.prog 27 #[.int .i64 s, .slice oa n c] w fun e w' => e = .returned (.tuple #[.slice none 0 0, .int .i64 er]) ∧ Below w.heap.size w w')
    (EN : ∀ w, Glob w → Calls Tryd.prog 13 #[.int .i64 s, .agg #[.int .u64 ((limb 0 (a) : Nat) : Int), .int .u64 ((limb 1 (a) : Nat) : Int), .int .u64 ((limb 2 (a) : Nat) : Int), .int .u64 ((limb 3 (a) : Nat) : Int)]] w fun e w' => e = .returned (.slice none 0 0) ∧ Below w.heap.size w w')
    (RE : ∀ w, Calls Tryd.prog 14 #[.int .i64 s, .agg #[.int .u64 ((limb 0 (a) : Nat) : Int), .int .u64 ((limb 1 (a) : Nat) : Int), .int .u64 ((limb 2 (a) : Nat) : Int), .int .u64 ((limb 3 (a) : Nat) : Int)]] w fun e w' => e = .returned (.slice none 0 0) ∧ Below w.heap.size w w')
    (w : World) (hg : Glob w) (hB : Es w (.slice oa n c) n f) :
    Calls Tryd.prog 7 #[.int .i64 s, .agg #[.int .u64 ((limb 0 (a) : Nat) : Int), .int .u64 ((limb 1 (a) : Nat) : Int), .int .u64 ((limb 2 (a) : Nat) : Int), .int .u64 ((limb 3 (a) : Nat) : Int)], .slice oa n c] w fun e w' => e = .returned (.bool true) ∧ Below w.heap.size w w' := by
  have AL := fun w hg => alive2_any w hg
  have CP := fun w h => copyF_any n (.slice oa n c) f (by omega) w h
  have HB : Hid (Es w (.slice oa n c) n f) := hB
  have HG : Hid (Glob w) := hg
  have HF : Hid (∀ i, i < n → f i < 115792089237316195423570985008687907853269984665640564039457584007913129639936) := hf
  have h40 : ¬ (40 : Int) < (n : Int) := by omega
  clear hB hf
  go_enter Tryd.func7, Tryd.ntmps7
  go_wp2_with fail
  obtain ⟨w0, hw0⟩ : ∃ w0 : World, w0 = w.alloc (.cells #[.int .u64 ((limb 0 (a) : Nat) : Int), .int .u64 ((limb 1 (a) : Nat) : Int), .int .u64 ((limb 2 (a) : Nat) : Int), .int .u64 ((limb 3 (a) : Nat) : Int)] 24) := ⟨_, rfl⟩
  have ba0 : Blk w0 24 w.heap.size (fun i => limb i a) := by rw [hw0]; exact Blk.newAt _ _ _ (fun i => limb i a) (by simp)
  have hbw0 : Below w.heap.size w w0 := by rw [hw0]; exact (Below.refl _ _).alloc (Nat.le_refl _) _
  rw [← hw0]
  clear hw0 hg
  refine (AL _ (HG.out.below hbw0)).mono ?_
  rintro e w1 ⟨rfl, hb1⟩
  have ba1 := ba0.belowAll hb1
  have hbw1 := bStep hbw0 hb1
  clear ba0 hbw0 hb1 AL
  go_wp2_with fail
  refine (CP _ (HB.out.below hbw1)).mono ?_
  rintro e w2 ⟨vo, rfl, oo2, hvo, hb2⟩
  have ba2 := ba1.belowAll hb2
  have hbw2 := bStep hbw1 hb2
  clear ba1 hbw1 hb2 
  have HVO := (show Hid _ from hvo)
  clear hvo
  go_wp2_with fail
  refine (IV _ vo (HG.out.below hbw2) (own_Es oo2) HVO.out).mono ?_
  rintro e w3 ⟨rfl, hb3⟩
  have ba3 := ba2.belowAll hb3
  have oo3 := ownsRow_below oo2 hb3
  have hbw3 := bStep hbw2 hb3
  clear ba2 oo2 hbw2 hb3 
  go_wp2_with fail
  refine (IV _ vo (HG.out.below hbw3) (own_Es oo3) HVO.out).mono ?_
  rintro e w4 ⟨rfl, hb4⟩
  have ba4 := ba3.belowAll hb4
  have oo4 := ownsRow_below oo3 hb4
  have hbw4 := bStep hbw3 hb4
  clear ba3 oo3 hbw3 hb4 
  go_wp2_with fail
  refine (RV _ (HB.out.below hbw4)).mono ?_
  rintro e w5 ⟨rfl, hb5⟩
  have ba5 := ba4.belowAll hb5
  have oo5 := ownsRow_below oo4 hb5
  have hbw5 := bStep hbw4 hb5
  clear ba4 oo4 hbw4 hb5 
  have ca := ba5.cell
  go_wp2_with fail
  refine (EN _ (HG.out.below hbw5)).mono ?_
  rintro e w6 ⟨rfl, hb6⟩
  have ba6 := ba5.belowAll hb6
  have oo6 := ownsRow_below oo5 hb6
  have hbw6 := bStep hbw5 hb6
  clear ba5 oo5 hbw5 hb6 ca
  have ca := ba6.cell
  go_wp2_with fail
  refine (EN _ (HG.out.below hbw6)).mono ?_
  rintro e w7 ⟨rfl, hb7⟩
  have ba7 := ba6.belowAll hb7
  have oo7 := ownsRow_below oo6 hb7
  have hbw7 := bStep hbw6 hb7
  clear ba6 oo6 hbw6 hb7 ca
  have ca := ba7.cell
  go_wp2_with fail
  refine (RE _).mono ?_
  rintro e w8 ⟨rfl, hb8⟩
  have ba8 := ba7.belowAll hb8
  have oo8 := ownsRow_below oo7 hb8
  have hbw8 := bStep hbw7 hb8
  clear ba7 oo7 hbw7 hb8 ca
  clear IV RV EN RE CP
  go_wp2_with fail
  refine (sameE_self _ _ 0 (fun _ => 0) (by omega) (fun i hi => by omega) _ (Or.inl ⟨rfl, rfl⟩) (Or.inl ⟨rfl, rfl⟩)).mono ?_
  rintro e w9 ⟨rfl, hb9⟩
  have ba9 := ba8.belowAll hb9
  have oo9 := ownsRow_below oo8 hb9
  have hbw9 := bStep hbw8 hb9
  clear ba8 oo8 hbw8 hb9 
  go_wp2_with fail
  refine (same_self _ _ 0 (fun _ => 0) _ (Or.inl ⟨rfl, rfl⟩) (Or.inl ⟨rfl, rfl⟩)).mono ?_
  rintro e w10 ⟨rfl, hb10⟩
  have ba10 := ba9.belowAll hb10
  have oo10 := ownsRow_below oo9 hb10
  have hbw10 := bStep hbw9 hb10
  clear ba9 oo9 hbw9 hb10 
  go_wp2_with fail
  refine (marked_nil _).mono ?_
  rintro e w11 ⟨rfl, hb11⟩
  have ba11 := ba10.belowAll hb11
  have oo11 := ownsRow_below oo10 hb11
  have hbw11 := bStep hbw10 hb11
  clear ba10 oo10 hbw10 hb11 
  go_wp2
  go_loopw [17] (fun iv wr => iv = .int .i64 0 ∧ wr = w11) (fun _ _ => 0)
  case atStart => exact ⟨rfl, rfl⟩
  case round =>
    obtain ⟨rfl, rfl⟩ := hrel
    go_wp2_with fail
    refine (sameE_self _ _ 0 (fun _ => 0) (by omega) (fun i hi => by omega) _ (Or.inl ⟨rfl, rfl⟩) (Or.inl ⟨rfl, rfl⟩)).mono ?_
    rintro e w12 ⟨rfl, hb12⟩
    have oo12 := ownsRow_below oo11 hb12
    have hbw12 := bStep hbw11 hb12
    clear oo11 hbw11 hb12
    go_wp2_with fail
    refine (same_self _ _ 0 (fun _ => 0) _ (Or.inl ⟨rfl, rfl⟩) (Or.inl ⟨rfl, rfl⟩)).mono ?_
    rintro e w13 ⟨rfl, hb13⟩
    have oo13 := ownsRow_below oo12 hb13
    have hbw13 := bStep hbw12 hb13
    clear oo12 hbw12 hb13
    go_wp2_with fail
    refine (sameE_self _ _ n f (by omega) HF.out _ (own_Es oo13) (HB.out.below hbw13)).mono ?_
    rintro e w14 ⟨rfl, hb14⟩
    have oo14 := ownsRow_below oo13 hb14
    have hbw14 := bStep hbw13 hb14
    clear oo13 hbw13 hb14
    go_wp2
    go_ret
    exact ⟨rfl, hbw14⟩

set_option maxHeartbeats 2000000 in
theorem mem_long (s : Int) (a n c : Nat) (oa : Option Addr) (hn : 40 < n) (w : World) (hg : Glob w) :
    Calls Tryd.prog 7 #[.int .i64 s, .agg #[.int .u64 ((limb 0 (a) : Nat) : Int), .int .u64 ((limb 1 (a) : Nat) : Int), .int .u64 ((limb 2 (a) : Nat) : Int), .int .u64 ((limb 3 (a) : Nat) : Int)], .slice oa n c] w fun e w' => e = .returned (.bool true) ∧ Below w.heap.size w w' := by
  have AL := fun w hg => alive2_any w hg
  have h40 : (40 : Int) < (n : Int) := by omega
  clear hn
  go_enter Tryd.func7, Tryd.ntmps7
  go_wp2_with fail
  refine (AL _ (hg.alloc _)).mono ?_
  rintro e w1 ⟨rfl, hb1⟩
  go_wp2
  go_ret
  exact ⟨rfl, bStep (bAlloc (Below.refl _ _) _) hb1⟩

end Go.Proofs.YtlndeghggdpmaacDoor

