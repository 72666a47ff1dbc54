/- What the second reference's Inv and Invert do. -/
import Derived.Test.YtlndeghggdpmaabDoorL2
import Derived.Test.YtlndeghggdpmaabDoorH5
namespace Go.Proofs.YtlndeghggdpmaabDoor
open Go.RowKit

theorem ownsRow_below {w w' : World} {base : Nat} {e : TypeId} {size : Nat} {v : Value} {n : Nat} {xs : List Value} (h : w.ownsRow base e size v n xs) (hb : Below w.heap.size w w') : w'.ownsRow base e size v n xs := by
  obtain ⟨h1, h2⟩ := h
  refine ⟨h1, ?_⟩
  rcases h2 with h2 | ⟨g, cap, cur, h3, h4, h5, h6⟩
  · exact Or.inl h2
  · refine Or.inr ⟨g, cap, cur, h3, h4, ?_, h6⟩
    have hgl : g < w.heap.size := by
      rcases Nat.lt_or_ge g w.heap.size with hl | hl
      · exact hl
      · rw [Array.getElem?_eq_none hl] at h5; cases h5
    rw [hb.block g hgl]; exact h5

set_option maxHeartbeats 8000000 in
set_option maxRecDepth 20000 in
theorem rInv_zero (s a : Nat) (hs : s < 4) (ha : a < 115792089237316195423570985008687907853269984665640564039457584007913129639936) (hz : a % modN s = 0) (w : World) :
    Calls Tryd.prog 29 #[.int .i64 (s : Int), .agg #[.int .u64 ((limb 0 (a) : Nat) : Int), .int .u64 ((limb 1 (a) : Nat) : Int), .int .u64 ((limb 2 (a) : Nat) : Int), .int .u64 ((limb 3 (a) : Nat) : Int)]] w fun e w' => e = .returned (.tuple #[.agg #[.int .u64 0, .int .u64 0, .int .u64 0, .int .u64 0], .int .i64 10]) ∧ Below w.heap.size w w' := by
  have HM := fun w => ref2Modulus_any s hs w
  have OF := fun w => ref2Of_any s a hs ha w
  have hgl := (modN_good s).lt
  have lx := Nat.mod_lt a (modN_pos s)
  have QZ := fun w => eqlE (a % modN s) 0 (by omega) (by decide) w
  rw [show decide (a % modN s = 0) = true from by simp [hz]] at QZ
  obtain ⟨x, ex⟩ : ∃ x, x = a % modN s := ⟨_, rfl⟩
  rw [← ex] at OF QZ
  obtain ⟨m, em⟩ : ∃ m, m = modN s := ⟨_, rfl⟩
  rw [← em] at HM
  clear ex em hgl lx hz hs ha
  go_enter Tryd.func29, Tryd.ntmps29
  go_wp2_with fail
  obtain ⟨w0, hw0⟩ : ∃ w0 : World, w0 = (w.alloc (.cells #[.int .u64 ((limb 0 (a) : Nat) : Int), .int .u64 ((limb 1 (a) : Nat) : Int), .int .u64 ((limb 2 (a) : Nat) : Int), .int .u64 ((limb 3 (a) : Nat) : Int)] 24)).alloc (.cells #[.int .u64 0, .int .u64 0, .int .u64 0, .int .u64 0] 24) := ⟨_, rfl⟩
  have ba0 : Blk w0 24 w.heap.size (fun i => limb i a) := by rw [hw0]; exact (Blk.newAt _ _ _ (fun i => limb i a) (by simp)).alloc _
  have br0 : Blk w0 24 (w.heap.size + 1) (fun _ => 0) := by rw [hw0]; exact Blk.newAt _ _ _ (fun _ => 0) (by simp)
  have hb0 : Below w.heap.size w w0 := by
    rw [hw0]
    repeat (first | with_reducible exact Below.refl _ _ | with_reducible refine Below.alloc ?_ (by first | omega | (simp; omega) | simp) _)
  rw [← hw0]
  clear hw0
  refine (HM _).mono ?_
  rintro e w1 ⟨rfl, hb1⟩
  have ba1 := ba0.belowAll hb1; have br1 := br0.belowAll hb1
  have hbw1 := bStep hb0 hb1
  have lr1 := br1.lt
  clear ba0 br0 hb0 hb1 HM
  obtain ⟨N6, e6⟩ : ∃ N6, N6 = w1.heap.size := ⟨_, rfl⟩
  obtain ⟨w2, hw2⟩ : ∃ w2 : World, w2 = w1.alloc (.cells #[.int .u64 ((limb 0 (m) : Nat) : Int), .int .u64 ((limb 1 (m) : Nat) : Int), .int .u64 ((limb 2 (m) : Nat) : Int), .int .u64 ((limb 3 (m) : Nat) : Int)] 24) := ⟨_, rfl⟩
  have ba2 : Blk w2 24 w.heap.size (fun i => limb i a) := by rw [hw2]; exact ba1.alloc _
  have br2 : Blk w2 24 (w.heap.size + 1) (fun _ => 0) := by rw [hw2]; exact br1.alloc _
  have bm2 : Blk w2 24 N6 (fun i => limb i m) := by rw [hw2]; exact Blk.newAt _ _ _ (fun i => limb i m) e6
  have hbw2 : Below w.heap.size w w2 := by rw [hw2]; exact bAlloc hbw1 _
  have l6 : w.heap.size + 1 < N6 := by rw [e6]; exact lr1
  go_upto_region 2 with fail
  rw [← hw2, ← e6]
  clear hw2 e6 ba1 br1 hbw1 lr1
  obtain ⟨N8, e8⟩ : ∃ N8, N8 = w2.heap.size := ⟨_, rfl⟩
  obtain ⟨w3, hw3⟩ : ∃ w3 : World, w3 = w2.alloc (.cells #[.int .u64 0, .int .u64 0, .int .u64 0, .int .u64 0] 24) := ⟨_, rfl⟩
  have ba3 : Blk w3 24 w.heap.size (fun i => limb i a) := by rw [hw3]; exact ba2.alloc _
  have br3 : Blk w3 24 (w.heap.size + 1) (fun _ => 0) := by rw [hw3]; exact br2.alloc _
  have bm3 : Blk w3 24 N6 (fun i => limb i m) := by rw [hw3]; exact bm2.alloc _
  have bz3 : Blk w3 24 N8 (fun i => limb i 0) := by rw [hw3]; exact (Blk.newAt _ _ _ (fun _ => 0) e8).congr (fun i _ => limb_zero i)
  have hbw3 : Below w.heap.size w w3 := by rw [hw3]; exact bAlloc hbw2 _
  have l8 : N6 < N8 := by rw [e8]; exact bm2.lt
  go_upto_region 5 with fail
  rw [← hw3, ← e8]
  clear hw3 e8 ba2 br2 bm2 hbw2
  go_wp2_with fail
  go_region_held3 (fun w' => (∀ i, i < 4 → w'.cell? ⟨w.heap.size, i, none⟩ = some (.int .u64 ((limb i a : Nat) : Int))) ∧ (∀ i, i < 4 → w'.cell? ⟨N8, i, none⟩ = some (.int .u64 ((limb i 0 : Nat) : Int))))
    (first | with_reducible exact hold2 hbA (by with_reducible assumption) | with_reducible exact ⟨ba3.drew.cell, bz3.drew.cell⟩)
    (first | (go_at_call 38; with_reducible refine (OF _).mono ?_; rintro e w4 ⟨rfl, hbA⟩) | fail)
  have ba4 := ba3.drew.belowAll hbA; have br4 := br3.drew.belowAll hbA; have bm4 := bm3.drew.belowAll hbA; have bz4 := bz3.drew.belowAll hbA
  have hbw4 := bStep hbw3.drew hbA
  clear ba3 br3 bm3 bz3 hbw3 hbA OF QZ
  have cr := br4.cell; have fr := br4.frozen; have lr := br4.lt; have cz := bz4.cell
  go_wp2
  refine bodyPost_ret (v := .tuple #[.agg #[.int .u64 0, .int .u64 0, .int .u64 0, .int .u64 0], .int .i64 10]) (by simp [results, Tryd.results29, go_sem, cr, limb_zero]) rfl ⟨rfl, ?_⟩
  repeat (first | with_reducible exact hbw4 | with_reducible refine Below.setCell ?_ (by first | omega | (simp; omega) | simp) _)

set_option maxHeartbeats 8000000 in
set_option maxRecDepth 20000 in
theorem rInv_some (s a : Nat) (hs : s < 4) (ha : a < 115792089237316195423570985008687907853269984665640564039457584007913129639936) (hz : a % modN s ≠ 0) (w : World) :
    Calls Tryd.prog 29 #[.int .i64 (s : Int), .agg #[.int .u64 ((limb 0 (a) : Nat) : Int), .int .u64 ((limb 1 (a) : Nat) : Int), .int .u64 ((limb 2 (a) : Nat) : Int), .int .u64 ((limb 3 (a) : Nat) : Int)]] w fun e w' => e = .returned (.tuple #[.agg #[.int .u64 ((limb 0 (invU (modN s) a) : Nat) : Int), .int .u64 ((limb 1 (invU (modN s) a) : Nat) : Int), .int .u64 ((limb 2 (invU (modN s) a) : Nat) : Int), .int .u64 ((limb 3 (invU (modN s) a) : Nat) : Int)], .int .i64 0]) ∧ Below w.heap.size w w' := by
  have HM := fun w => ref2Modulus_any s hs w
  have OF := fun w => ref2Of_any s a hs ha w
  have hgl := (modN_good s).lt
  have lx := Nat.mod_lt a (modN_pos s)
  have QZ := fun w => eqlE (a % modN s) 0 (by omega) (by decide) w
  rw [show decide (a % modN s = 0) = false from by simp [hz]] at QZ
  have hod := modN_odd s
  have MI := fun w => ref2Minus_any (modN s) 2 hgl.2.2 (by decide) w
  rw [word_agg 2 (by decide), show sub256 (modN s) 2 = modN s - 2 from by unfold sub256; omega, show (((2 : Nat)) : Int) = 2 from rfl] at MI
  have EX := fun w => ref2Exp_any s a (modN s - 2) hs ha (by omega) w
  rw [show expP s a (modN s - 2) = invU (modN s) a from rfl] at EX
  obtain ⟨x, ex⟩ : ∃ x, x = a % modN s := ⟨_, rfl⟩
  rw [← ex] at OF QZ
  obtain ⟨q, eq⟩ : ∃ q, q = invU (modN s) a := ⟨_, rfl⟩
  rw [← eq] at EX ⊢
  obtain ⟨m2, em2⟩ : ∃ m2, m2 = modN s - 2 := ⟨_, rfl⟩
  rw [← em2] at EX MI
  obtain ⟨m, em⟩ : ∃ m, m = modN s := ⟨_, rfl⟩
  rw [← em] at HM MI
  clear ex em hgl lx hz hs ha eq em2 hod
  go_enter Tryd.func29, Tryd.ntmps29
  go_wp2_with fail
  obtain ⟨w0, hw0⟩ : ∃ w0 : World, w0 = (w.alloc (.cells #[.int .u64 ((limb 0 (a) : Nat) : Int), .int .u64 ((limb 1 (a) : Nat) : Int), .int .u64 ((limb 2 (a) : Nat) : Int), .int .u64 ((limb 3 (a) : Nat) : Int)] 24)).alloc (.cells #[.int .u64 0, .int .u64 0, .int .u64 0, .int .u64 0] 24) := ⟨_, rfl⟩
  have ba0 : Blk w0 24 w.heap.size (fun i => limb i a) := by rw [hw0]; exact (Blk.newAt _ _ _ (fun i => limb i a) (by simp)).alloc _
  have br0 : Blk w0 24 (w.heap.size + 1) (fun _ => 0) := by rw [hw0]; exact Blk.newAt _ _ _ (fun _ => 0) (by simp)
  have hb0 : Below w.heap.size w w0 := by
    rw [hw0]
    repeat (first | with_reducible exact Below.refl _ _ | with_reducible refine Below.alloc ?_ (by first | omega | (simp; omega) | simp) _)
  rw [← hw0]
  clear hw0
  refine (HM _).mono ?_
  rintro e w1 ⟨rfl, hb1⟩
  have ba1 := ba0.belowAll hb1; have br1 := br0.belowAll hb1
  have hbw1 := bStep hb0 hb1
  have lr1 := br1.lt
  clear ba0 br0 hb0 hb1 HM
  obtain ⟨N6, e6⟩ : ∃ N6, N6 = w1.heap.size := ⟨_, rfl⟩
  obtain ⟨w2, hw2⟩ : ∃ w2 : World, w2 = w1.alloc (.cells #[.int .u64 ((limb 0 (m) : Nat) : Int), .int .u64 ((limb 1 (m) : Nat) : Int), .int .u64 ((limb 2 (m) : Nat) : Int), .int .u64 ((limb 3 (m) : Nat) : Int)] 24) := ⟨_, rfl⟩
  have ba2 : Blk w2 24 w.heap.size (fun i => limb i a) := by rw [hw2]; exact ba1.alloc _
  have br2 : Blk w2 24 (w.heap.size + 1) (fun _ => 0) := by rw [hw2]; exact br1.alloc _
  have bm2 : Blk w2 24 N6 (fun i => limb i m) := by rw [hw2]; exact Blk.newAt _ _ _ (fun i => limb i m) e6
  have hbw2 : Below w.heap.size w w2 := by rw [hw2]; exact bAlloc hbw1 _
  have l6 : w.heap.size + 1 < N6 := by rw [e6]; exact lr1
  go_upto_region 2 with fail
  rw [← hw2, ← e6]
  clear hw2 e6 ba1 br1 hbw1 lr1
  obtain ⟨N8, e8⟩ : ∃ N8, N8 = w2.heap.size := ⟨_, rfl⟩
  obtain ⟨w3, hw3⟩ : ∃ w3 : World, w3 = w2.alloc (.cells #[.int .u64 0, .int .u64 0, .int .u64 0, .int .u64 0] 24) := ⟨_, rfl⟩
  have ba3 : Blk w3 24 w.heap.size (fun i => limb i a) := by rw [hw3]; exact ba2.alloc _
  have br3 : Blk w3 24 (w.heap.size + 1) (fun _ => 0) := by rw [hw3]; exact br2.alloc _
  have bm3 : Blk w3 24 N6 (fun i => limb i m) := by rw [hw3]; exact bm2.alloc _
  have bz3 : Blk w3 24 N8 (fun i => limb i 0) := by rw [hw3]; exact (Blk.newAt _ _ _ (fun _ => 0) e8).congr (fun i _ => limb_zero i)
  have hbw3 : Below w.heap.size w w3 := by rw [hw3]; exact bAlloc hbw2 _
  have l8 : N6 < N8 := by rw [e8]; exact bm2.lt
  go_upto_region 5 with fail
  rw [← hw3, ← e8]
  clear hw3 e8 ba2 br2 bm2 hbw2
  go_wp2_with fail
  go_region_held3 (fun w' => (∀ i, i < 4 → w'.cell? ⟨w.heap.size, i, none⟩ = some (.int .u64 ((limb i a : Nat) : Int))) ∧ (∀ i, i < 4 → w'.cell? ⟨N8, i, none⟩ = some (.int .u64 ((limb i 0 : Nat) : Int))))
    (first | with_reducible exact hold2 hbA (by with_reducible assumption) | with_reducible exact ⟨ba3.drew.cell, bz3.drew.cell⟩)
    (first | (go_at_call 38; with_reducible refine (OF _).mono ?_; rintro e w4 ⟨rfl, hbA⟩) | fail)
  have ba4 := ba3.drew.belowAll hbA; have br4 := br3.drew.belowAll hbA; have bm4 := bm3.drew.belowAll hbA; have bz4 := bz3.drew.belowAll hbA
  have hbw4 := bStep hbw3.drew hbA
  clear ba3 br3 bm3 bz3 hbw3 hbA OF QZ
  have ca := ba4.cell; have cm := bm4.cell
  go_wp2_with fail
  go_region_with (first | (go_at_call 42; with_reducible refine (MI _).mono ?_; rintro e wA ⟨rfl, hbA⟩; have baA := ba4.drew.belowAll hbA; have caA := baA.cell; clear baA) | (go_at_call 23; with_reducible refine (EX _).mono ?_; rintro e wB ⟨rfl, hbB⟩; have brB := (br4.drew.belowAll hbA).belowAll hbB; have crB := brB.cell; have frB := brB.frozen; clear brB) | fail)
  all_goals
    go_wp2
    refine bodyPost_ret (v := .tuple #[.agg #[.int .u64 ((limb 0 (q) : Nat) : Int), .int .u64 ((limb 1 (q) : Nat) : Int), .int .u64 ((limb 2 (q) : Nat) : Int), .int .u64 ((limb 3 (q) : Nat) : Int)], .int .i64 0]) (by simp [results, Tryd.results29, go_sem, crB]) rfl ⟨rfl, ?_⟩
    have hbwB := bStep (bStep hbw4.drew hbA) hbB
    repeat (first | with_reducible exact hbwB | with_reducible refine Below.drew ?_ | with_reducible refine Below.setCell ?_ (by first | omega | (simp; omega) | simp) _)

set_option maxHeartbeats 4000000 in
set_option maxRecDepth 20000 in
theorem rInv_out (s : Int) (a : Nat) (hs : s < 0 ∨ 4 ≤ s) (w : World) :
    Calls Tryd.prog 29 #[.int .i64 s, .agg #[.int .u64 ((limb 0 (a) : Nat) : Int), .int .u64 ((limb 1 (a) : Nat) : Int), .int .u64 ((limb 2 (a) : Nat) : Int), .int .u64 ((limb 3 (a) : Nat) : Int)]] w fun e w' => e = .returned (.tuple #[.agg #[.int .u64 0, .int .u64 0, .int .u64 0, .int .u64 0], .int .i64 20]) ∧ Below w.heap.size w w' := by
  have HM := fun w => ref2Modulus_out s hs w
  clear hs
  go_enter Tryd.func29, Tryd.ntmps29
  go_wp2_with fail
  obtain ⟨w0, hw0⟩ : ∃ w0 : World, w0 = (w.alloc (.cells #[.int .u64 ((limb 0 (a) : Nat) : Int), .int .u64 ((limb 1 (a) : Nat) : Int), .int .u64 ((limb 2 (a) : Nat) : Int), .int .u64 ((limb 3 (a) : Nat) : Int)] 24)).alloc (.cells #[.int .u64 0, .int .u64 0, .int .u64 0, .int .u64 0] 24) := ⟨_, rfl⟩
  have ba0 : Blk w0 24 w.heap.size (fun i => limb i a) := by rw [hw0]; exact (Blk.newAt _ _ _ (fun i => limb i a) (by simp)).alloc _
  have br0 : Blk w0 24 (w.heap.size + 1) (fun _ => 0) := by rw [hw0]; exact Blk.newAt _ _ _ (fun _ => 0) (by simp)
  have hb0 : Below w.heap.size w w0 := by
    rw [hw0]
    repeat (first | with_reducible exact Below.refl _ _ | with_reducible refine Below.alloc ?_ (by first | omega | (simp; omega) | simp) _)
  rw [← hw0]
  clear hw0
  refine (HM _).mono ?_
  rintro e w1 ⟨rfl, hb1⟩
  have ba1 := ba0.belowAll hb1; have br1 := br0.belowAll hb1
  have hbw1 := bStep hb0 hb1
  have lr1 := br1.lt
  clear ba0 br0 hb0 hb1 HM
  have cr := br1.cell; have fr := br1.frozen; have lr := br1.lt
  go_wp2
  refine bodyPost_ret (v := .tuple #[.agg #[.int .u64 0, .int .u64 0, .int .u64 0, .int .u64 0], .int .i64 20]) (by simp [results, Tryd.results29, go_sem, cr, cell_old, lr]) rfl ⟨rfl, ?_⟩
  have hz1 := hbw1.size
  repeat (first | with_reducible exact hbw1 | with_reducible refine Below.setCell ?_ (by first | omega | (simp; omega) | simp) _ | with_reducible refine Below.alloc ?_ (by first | omega | (simp; omega) | simp) _)

set_option maxHeartbeats 8000000 in
set_option maxRecDepth 20000 in
/-- The second reference's Invert. -/
theorem rInvert_any (s n c : Nat) (oa : Option Addr) (f : Nat → Nat) (hs : s < 4) (hn : n ≤ 1000) (hf : ∀ i, i < n → f i < 115792089237316195423570985008687907853269984665640564039457584007913129639936) (w : World) (hv : Es w (.slice oa n c) n f) :
    Calls Tryd.prog 26 #[.int .i64 (s : Int), .slice oa n c] w fun e w' => (((∃ i, i < n ∧ f i % modN s = 0) ∧ e = .returned (.tuple #[.slice none 0 0, .int .i64 10])) ∨ ((∀ i, i < n → f i % modN s ≠ 0) ∧ ∃ v, e = .returned (.tuple #[v, .int .i64 0]) ∧ w'.ownsRow w.heap.size 24 4 v n (els (fun i => invU (modN s) (f i)) n))) ∧ Below w.heap.size w w' := by
  obtain ⟨i0, hi, hz0, hz1, hz2⟩ := elemInfo
  have HI := (show Hid _ from hi); have HZ := (show Hid _ from And.intro hz0 (And.intro hz1 hz2)); clear hi hz0 hz1 hz2
  have HM := fun w => ref2Modulus_any s hs w
  have IZ := fun a ha hz w => rInv_zero s a hs ha hz w
  have IS := fun a ha hz w => rInv_some s a hs ha hz w
  have HIZ : Hid (∀ (a : Nat) (ha : _) (hz : _) (w : World), _) := IZ
  have HIS : Hid (∀ (a : Nat) (ha : _) (hz : _) (w : World), _) := IS
  have HV := (show Hid _ from hv); have HF := (show Hid _ from hf)
  obtain ⟨m, em⟩ : ∃ m, m = modN s := ⟨_, rfl⟩
  rw [← em] at HM HIZ HIS ⊢
  clear IZ IS hv hf em hs
  go_enter Tryd.func26, Tryd.ntmps26
  go_wp2_with fail
  refine (HM _).mono ?_
  rintro e w1 ⟨rfl, hb1⟩
  obtain ⟨w2, hw2⟩ : ∃ w2 : World, w2 = w1.alloc (.cells #[.int .u64 ((limb 0 (m) : Nat) : Int), .int .u64 ((limb 1 (m) : Nat) : Int), .int .u64 ((limb 2 (m) : Nat) : Int), .int .u64 ((limb 3 (m) : Nat) : Int)] 24) := ⟨_, rfl⟩
  have hbw2 : Below w.heap.size w w2 := by rw [hw2]; exact bAlloc hb1 _
  go_upto_region 2 with fail
  rw [← hw2]
  clear hw2 hb1 HM
  have hown0 : (w2.alloc (.cells #[] 24)).ownsRow w.heap.size 24 4 (.slice (some ⟨w2.heap.size, 0, none⟩) 0 0) 0 (els (fun i => invU m (f i)) 0) :=
    ⟨rfl, Or.inr ⟨w2.heap.size, 0, #[], rfl, hbw2.size, new_blockE _ _, Nat.le_refl _, by decide, rfl, rfl⟩⟩
  have HO : Hid ((w2.alloc (.cells #[] 24)).ownsRow w.heap.size 24 4 (.slice (some ⟨w2.heap.size, 0, none⟩) 0 0) 0 (els (fun i => invU m (f i)) 0)) := hown0
  clear hown0
  go_wp2
  go_loopw [8, 9] (fun out iv wr => ∃ k : Nat, iv = .int .i64 (k : Int) ∧ k ≤ n ∧ Hid (∀ i, i < k → f i % m ≠ 0) ∧ Below w.heap.size w wr ∧ wr.ownsRow w.heap.size 24 4 out k (els (fun i => invU m (f i)) k)) (fun _ iv _ => n - (intOf iv).toNat)
  case atStart => exact ⟨0, rfl, Nat.zero_le _, fun i hi => by omega, bAlloc hbw2 _, HO.out⟩
  case round =>
    obtain ⟨k, rfl, hk, hall, hbr, hown⟩ := hrel
    clear HO hbw2
    by_cases hlt : k < n
    · have hki : (k : Int) < (n : Int) := by omega
      have fk := HF.out k hlt
      obtain ⟨b, o, hoa, hbl, hcs⟩ : ∃ b o, oa = some ⟨b, o, none⟩ ∧ b < w.heap.size ∧ ∀ j, j < 4 → w.cell? ⟨b, o + k * 4 + j, none⟩ = some (.int .u64 ((limb j (f k) : Nat) : Int)) := by
        rcases HV.out with ⟨_, h⟩ | ⟨b, o, c', h, _, _, h3, h4⟩
        · omega
        · cases h
          exact ⟨b, o, rfl, h3, fun j hj => h4 k hlt j hj⟩
      subst hoa
      have c0 : wr.cell? ⟨b, o + k * 4, none⟩ = some (.int .u64 ((limb 0 (f k) : Nat) : Int)) := by rw [hbr.cell (p := ⟨b, o + k * 4, none⟩) hbl]; exact hcs 0 (by decide)
      have c1 : wr.cell? ⟨b, o + k * 4 + 1, none⟩ = some (.int .u64 ((limb 1 (f k) : Nat) : Int)) := by rw [hbr.cell (p := ⟨b, o + k * 4 + 1, none⟩) hbl]; exact hcs 1 (by decide)
      have c2 : wr.cell? ⟨b, o + k * 4 + 2, none⟩ = some (.int .u64 ((limb 2 (f k) : Nat) : Int)) := by rw [hbr.cell (p := ⟨b, o + k * 4 + 2, none⟩) hbl]; exact hcs 2 (by decide)
      have c3 : wr.cell? ⟨b, o + k * 4 + 3, none⟩ = some (.int .u64 ((limb 3 (f k) : Nat) : Int)) := by rw [hbr.cell (p := ⟨b, o + k * 4 + 3, none⟩) hbl]; exact hcs 3 (by decide)
      have IZ := HIZ.out (f k) fk; have IS := HIS.out (f k) fk
      by_cases hz : f k % m = 0
      · have IZa := IZ hz
        have HE : Hid (∃ i, i < n ∧ f i % m = 0) := ⟨k, hlt, hz⟩
        obtain ⟨x, ex⟩ : ∃ x, x = f k := ⟨_, rfl⟩
        rw [← ex] at c0 c1 c2 c3 IZa
        clear IZ IS hz ex hcs
        go_wp2_with fail
        refine (IZa _).mono ?_
        rintro e w3 ⟨rfl, hb3⟩
        have hbw3 := bStep hbr hb3
        go_wp2
        go_ret2
        refine ⟨Or.inl ⟨HE.out, rfl⟩, ?_⟩
        repeat (first | with_reducible exact hbw3 | with_reducible exact bAlloc hbw3 _)
      · have ISa := IS hz
        have HNZ : Hid (f k % m ≠ 0) := hz
        obtain ⟨x, ex⟩ : ∃ x, x = f k := ⟨_, rfl⟩
        rw [← ex] at c0 c1 c2 c3 ISa
        obtain ⟨q, eq⟩ : ∃ q, q = invU m x := ⟨_, rfl⟩
        rw [← eq] at ISa
        have EQ : Hid (q = invU m (f k)) := by show _ = _; rw [eq, ex]
        clear IZ IS hz ex eq hcs
        go_wp2_with fail
        refine (ISa _).mono ?_
        rintro e w3 ⟨rfl, hb3⟩
        have hbw3 := bStep hbr hb3
        have hown3 := ownsRow_below hown hb3
        clear hown hbr hb3 c0 c1 c2 c3 ISa
        obtain ⟨N10, e10⟩ : ∃ N10, N10 = w3.heap.size := ⟨_, rfl⟩
        obtain ⟨w4, hw4⟩ : ∃ w4 : World, w4 = w3.alloc (.cells #[.int .u64 ((limb 0 (q) : Nat) : Int), .int .u64 ((limb 1 (q) : Nat) : Int), .int .u64 ((limb 2 (q) : Nat) : Int), .int .u64 ((limb 3 (q) : Nat) : Int)] 24) := ⟨_, rfl⟩
        have bq4 : Blk w4 24 N10 (fun i => limb i q) := by rw [hw4]; exact Blk.newAt _ _ _ (fun i => limb i q) e10
        have hown4 := ownsRow_below hown3 ((Below.refl _ w3).alloc (Nat.le_refl _) (.cells #[.int .u64 ((limb 0 (q) : Nat) : Int), .int .u64 ((limb 1 (q) : Nat) : Int), .int .u64 ((limb 2 (q) : Nat) : Int), .int .u64 ((limb 3 (q) : Nat) : Int)] 24))
        rw [← hw4] at hown4
        have hbw4 : Below w.heap.size w w4 := by rw [hw4]; exact bAlloc hbw3 _
        have hsz := hbw4.size
        go_upto_region 9 with fail
        rw [← hw4, ← e10]
        clear hw4 e10 hown3 hbw3
        have cq := bq4.cell
        go_wp2_with (first
          | (at_builtin; refine wpList_append_own _ rfl _ _ 36 rfl w.heap.size 24 i0 (.agg #[.int .u64 0, .int .u64 0, .int .u64 0, .int .u64 0]) 4 32 Tryd.underlying36 HI.out HZ.out.1 HZ.out.2.1 HZ.out.2.2 rfl (by decide) _ _ _ rfl (hown4.alloc _) ⟨w4.heap.size, 0, none⟩ 1 1 [.int .u64 ((limb 0 q : Nat) : Int), .int .u64 ((limb 1 q : Nat) : Int), .int .u64 ((limb 2 q : Nat) : Int), .int .u64 ((limb 3 q : Nat) : Int)] rfl rfl ?c1 ?c2 ?c3 ?c4 ?c5 ?_)
          | go_in)
        case c1 =>
          intro j u hj
          match j, hj with
          | 0, hj => simp at hj; subst hj; simp [Addr.add]
          | 1, hj => simp at hj; subst hj; simp [Addr.add]
          | 2, hj => simp at hj; subst hj; simp [Addr.add]
          | 3, hj => simp at hj; subst hj; simp [Addr.add]
          | j + 4, hj => simp at hj
        case c2 => intro u hu; simp at hu; rcases hu with rfl | rfl | rfl | rfl <;> rfl
        case c3 => unfold maxLen; omega
        case c4 => omega
        case c5 => simp; omega
        intro v' w5 hown' hgrow _
        go_wp2
        go_roundw
        case measure => simp [intOf]; omega
        case rel =>
          have hB : Below w.heap.size w4 w5 := ((Below.refl _ w4).alloc hsz _).grown hgrow (by simp; omega) (fun j hj => own_block_geE hown4 hj)
          refine ⟨k + 1, by go_num, by omega, fun i hi => ?_, hbw4.trans hB, ?_⟩
          · rcases Nat.lt_or_ge i k with h | h
            · exact hall.out i h
            · rw [show i = k from by omega]; exact HNZ.out
          · rw [els_succ, ← EQ.out]
            exact hown'
    · have hki : ¬ (k : Int) < (n : Int) := by omega
      have hkn : k = n := by omega
      subst hkn
      go_wp2
      go_ret2
      exact ⟨Or.inr ⟨hall.out, _, rfl, hown⟩, hbr⟩

set_option maxHeartbeats 2000000 in
theorem rInvert_out (s : Int) (v : Value) (hs : s < 0 ∨ 4 ≤ s) (w : World) :
    Calls Tryd.prog 26 #[.int .i64 s, v] w fun e w' => e = .returned (.tuple #[.slice none 0 0, .int .i64 20]) ∧ Below w.heap.size w w' := by
  have HM := fun w => ref2Modulus_out s hs w
  clear hs
  go_enter Tryd.func26, Tryd.ntmps26
  go_wp2_with fail
  refine (HM _).mono ?_
  rintro e w1 ⟨rfl, hb1⟩
  go_wp2
  go_ret2
  exact ⟨rfl, bAlloc hb1 _⟩
set_option maxHeartbeats 2000000 in
theorem fInvert_out (s : Int) (v : Value) (hs : s < 0 ∨ 4 ≤ s) (w : World) :
    Calls Tryd.prog 25 #[.int .i64 s, v] w fun e w' => e = .returned (.tuple #[.slice none 0 0, .int .i64 20]) ∧ Below w.heap.size w w' := by
  have HM := fun w => modulus_out s hs w
  clear hs
  go_enter Tryd.func25, Tryd.ntmps25
  go_wp2_with fail
  refine (HM _).mono ?_
  rintro e w1 ⟨rfl, hb1⟩
  go_wp2
  go_ret2
  exact ⟨rfl, bAlloc hb1 _⟩

end Go.Proofs.YtlndeghggdpmaabDoor
