/- What field.Decode does. -/
import Derived.Test.YtlndeghggdpmaacDoorY5
namespace Go.Proofs.YtlndeghggdpmaacDoor
open Go.RowKit

/-- A slice of n bytes by its own length. -/
theorem Bs.cases {w : World} {v : Value} {n : Nat} {f : Nat → Nat} (h : Bs w v n f) : (v = .slice none 0 0 ∧ n = 0) ∨ ∃ (a : Addr) (c : Nat), v = .slice (some a) n c := by
  rcases h with h | ⟨a, c, h, _⟩
  · exact Or.inl h
  · exact Or.inr ⟨a, c, h⟩

set_option maxHeartbeats 4000000 in
set_option maxRecDepth 20000 in
/-- field.Decode of bytes that aren't 32. -/
theorem fDecode_len (s n : Nat) (v : Value) (f : Nat → Nat) (hs : s < 4) (hn : ¬ n = 32) (w : World) (hg : Glob w) (h : Bs w v n f) :
    Calls Tryd.prog 10 #[.int .i64 (s : Int), v] w fun e w' => e = .returned (.tuple #[.agg #[.int .u64 0, .int .u64 0, .int .u64 0, .int .u64 0], .int .i64 21]) ∧ Below w.heap.size w w' := by
  have HM := fun w hg => modulus_any s hs w hg
  obtain ⟨m, em⟩ : ∃ m, m = modN s := ⟨_, rfl⟩
  rw [← em] at HM
  clear em hs
  have h1 : ((n : Int) != 32) = true := by simp; omega
  rcases h.cases with ⟨rfl, rfl⟩ | ⟨a, c, rfl⟩
  all_goals
    clear h hn
    go_enter Tryd.func10, Tryd.ntmps10
    go_wp2_with fail
    obtain ⟨w0, hw0⟩ : ∃ w0 : World, w0 = w.alloc (.cells #[.int .u64 0, .int .u64 0, .int .u64 0, .int .u64 0] 24) := ⟨_, rfl⟩
    have br0 : Blk w0 24 w.heap.size (fun _ => 0) := by rw [hw0]; exact Blk.newAt _ _ _ (fun _ => 0) (by simp)
    have hg0 : Glob w0 := by rw [hw0]; exact hg.alloc _
    have hb0 : Below w.heap.size w w0 := by rw [hw0]; exact (Below.refl _ _).alloc (Nat.le_refl _) _
    rw [← hw0]
    clear hw0 hg
    refine (HM _ hg0).mono ?_
    rintro e w1 ⟨rfl, hb1⟩
    have br1 := br0.belowAll hb1
    have hbw1 := bStep hb0 hb1
    clear br0 hb0 hb1 hg0 HM
    have br2 := br1.alloc (.cells #[.int .u64 ((limb 0 (m) : Nat) : Int), .int .u64 ((limb 1 (m) : Nat) : Int), .int .u64 ((limb 2 (m) : Nat) : Int), .int .u64 ((limb 3 (m) : Nat) : Int)] 49)
    have hbw2 := bAlloc hbw1 (.cells #[.int .u64 ((limb 0 (m) : Nat) : Int), .int .u64 ((limb 1 (m) : Nat) : Int), .int .u64 ((limb 2 (m) : Nat) : Int), .int .u64 ((limb 3 (m) : Nat) : Int)] 49)
    go_upto_region 4 with fail
    obtain ⟨w2, hw2⟩ : ∃ w2 : World, w2 = w1.alloc (.cells #[.int .u64 ((limb 0 (m) : Nat) : Int), .int .u64 ((limb 1 (m) : Nat) : Int), .int .u64 ((limb 2 (m) : Nat) : Int), .int .u64 ((limb 3 (m) : Nat) : Int)] 49) := ⟨_, rfl⟩
    rw [← hw2] at br2 hbw2 ⊢
    clear hw2 br1 hbw1
    have cr := br2.cell; have fr := br2.frozen; have lr := br2.lt
    go_wp2
    refine bodyPost_ret (v := .tuple #[.agg #[.int .u64 0, .int .u64 0, .int .u64 0, .int .u64 0], .int .i64 21]) (by simp [results, Tryd.results10, go_sem, cr]) rfl ⟨rfl, ?_⟩
    repeat (first | with_reducible exact hbw2 | with_reducible refine Below.setCell ?_ (by first | omega | (simp; omega) | simp) _)

/-- What is answered for a number: it, where it is below the modulus. -/
def decV (m x : Nat) : Value := if x < m then .tuple #[.agg #[.int .u64 ((limb 0 (x) : Nat) : Int), .int .u64 ((limb 1 (x) : Nat) : Int), .int .u64 ((limb 2 (x) : Nat) : Int), .int .u64 ((limb 3 (x) : Nat) : Int)], .int .i64 0] else .tuple #[.agg #[.int .u64 0, .int .u64 0, .int .u64 0, .int .u64 0], .int .i64 21]

set_option maxHeartbeats 8000000 in
set_option maxRecDepth 20000 in
/-- field.Decode of 32 bytes. -/
theorem fDecode_32 (s : Nat) (v : Value) (f : Nat → Nat) (hs : s < 4) (w : World) (hg : Glob w) (h : Bs w v 32 f) (hf : ∀ i, i < 32 → f i < 256) :
    Calls Tryd.prog 10 #[.int .i64 (s : Int), v] w fun e w' => e = .returned (decV (modN s) (leN f 32)) ∧ Below w.heap.size w w' := by
  have HM := fun w hg => modulus_any s hs w hg
  have hm := (modN_good s).lt.2.2
  obtain ⟨m, em⟩ : ∃ m, m = modN s := ⟨_, rfl⟩
  rw [← em] at HM hm ⊢
  clear em hs
  have lx := leN_M f hf
  have LE := fun w (h : Bs w v 32 f) => le_any v f w h hf
  obtain ⟨x, ex⟩ : ∃ x, x = leN f 32 := ⟨_, rfl⟩
  rw [← ex] at lx LE ⊢
  clear ex hf
  have NO := fun w => numberOf_any x w
  have IB := fun w => isBelow_any x m lx hm w
  have HB := (show Hid (Bs w v 32 f) from h)
  rcases h.cases with ⟨_, h0⟩ | ⟨a, c, rfl⟩
  · cases h0
  · clear h
    go_enter Tryd.func10, Tryd.ntmps10
    go_wp2_with fail
    obtain ⟨w0, hw0⟩ : ∃ w0 : World, w0 = w.alloc (.cells #[.int .u64 0, .int .u64 0, .int .u64 0, .int .u64 0] 24) := ⟨_, rfl⟩
    have br0 : Blk w0 24 w.heap.size (fun _ => 0) := by rw [hw0]; exact Blk.newAt _ _ _ (fun _ => 0) (by simp)
    have hg0 : Glob w0 := by rw [hw0]; exact hg.alloc _
    have hb0 : Below w.heap.size w w0 := by rw [hw0]; exact (Below.refl _ _).alloc (Nat.le_refl _) _
    rw [← hw0]
    clear hw0 hg
    refine (HM _ hg0).mono ?_
    rintro e w1 ⟨rfl, hb1⟩
    have br1 := br0.belowAll hb1
    have hbw1 := bStep hb0 hb1
    have lr1 := br1.lt
    clear br0 hb0 hb1 hg0 HM
    obtain ⟨w2, hw2⟩ : ∃ w2 : World, w2 = w1.alloc (.cells #[.int .u64 ((limb 0 (m) : Nat) : Int), .int .u64 ((limb 1 (m) : Nat) : Int), .int .u64 ((limb 2 (m) : Nat) : Int), .int .u64 ((limb 3 (m) : Nat) : Int)] 49) := ⟨_, rfl⟩
    have br2 : Blk w2 24 w.heap.size (fun _ => 0) := by rw [hw2]; exact br1.alloc _
    have bm2 : Blk w2 49 w1.heap.size (fun i => limb i m) := by rw [hw2]; exact Blk.new w1 _ (fun i => limb i m)
    have hbw2 : Below w.heap.size w w2 := by rw [hw2]; exact bAlloc hbw1 _
    have hB2 : Bs w2 (.slice (some a) 32 c) 32 f := HB.out.below hbw2
    go_upto_region 4 with fail
    rw [← hw2]
    clear hw2 br1 hbw1
    go_wp2_with fail
    refine (LE _ hB2).mono ?_
    rintro e w3 ⟨rfl, hb3⟩
    have br3 := br2.belowAll hb3; have bm3 := bm2.belowAll hb3
    have hbw3 := bStep hbw2 hb3
    have lm3 := bm3.lt
    clear br2 bm2 hbw2 hb3 LE hB2 HB
    obtain ⟨N8, e8⟩ : ∃ N8, N8 = w3.heap.size := ⟨_, rfl⟩
    obtain ⟨w4, hw4⟩ : ∃ w4 : World, w4 = w3.alloc (.cells #[.int .u64 ((limb 0 (x) : Nat) : Int), .int .u64 ((limb 1 (x) : Nat) : Int), .int .u64 ((limb 2 (x) : Nat) : Int), .int .u64 ((limb 3 (x) : Nat) : Int)] 24) := ⟨_, rfl⟩
    have br4 : Blk w4 24 w.heap.size (fun _ => 0) := by rw [hw4]; exact br3.alloc _
    have bm4 : Blk w4 49 w1.heap.size (fun i => limb i m) := by rw [hw4]; exact bm3.alloc _
    have bx4 : Blk w4 24 N8 (fun i => limb i x) := by rw [hw4]; exact Blk.newAt _ _ _ (fun i => limb i x) e8
    have hbw4 : Below w.heap.size w w4 := by rw [hw4]; exact bAlloc hbw3 _
    go_upto_region 7 with fail
    rw [← hw4, ← e8]
    have l8 : w.heap.size < N8 := by have := br3.lt; omega
    clear hw4 br3 bm3 hbw3 e8
    by_cases hlt : x < m
    · rw [show below256 x m = true from by simp [below256, hlt]] at IB
      have EV : Hid (decV m x = .tuple #[.agg #[.int .u64 ((limb 0 (x) : Nat) : Int), .int .u64 ((limb 1 (x) : Nat) : Int), .int .u64 ((limb 2 (x) : Nat) : Int), .int .u64 ((limb 3 (x) : Nat) : Int)], .int .i64 0]) := if_pos hlt
      clear hlt
      go_wp2_with fail
      go_region_held3 (fun w' => (∀ i, i < 4 → w'.cell? ⟨N8, i, none⟩ = some (.int .u64 ((limb i x : Nat) : Int))) ∧ (∀ i, i < 4 → w'.cell? ⟨w1.heap.size, i, none⟩ = some (.int .u64 ((limb i m : Nat) : Int))))
        (first | with_reducible exact hold2 hbB (by with_reducible assumption) | with_reducible exact hold2 hbA (by with_reducible assumption) | with_reducible exact ⟨bx4.drew.cell, bm4.drew.cell⟩)
        (first | (go_at_call 33; with_reducible refine (NO _).mono ?_; rintro e wA ⟨rfl, hbA⟩) | (go_at_call 32; with_reducible refine (IB _).mono ?_; rintro e w5 ⟨rfl, hbB⟩) | fail)
      have br5 := (br4.drew.belowAll hbA).belowAll hbB; have bx5 := (bx4.drew.belowAll hbA).belowAll hbB
      have hbw5 := bStep (bStep hbw4.drew hbA) hbB
      clear br4 bm4 bx4 hbw4 hbA hbB
      have cx := bx5.cell; have cr := br5.cell; have fr := br5.frozen; have lr := br5.lt
      go_wp2
      refine bodyPost_ret (v := .tuple #[.agg #[.int .u64 ((limb 0 (x) : Nat) : Int), .int .u64 ((limb 1 (x) : Nat) : Int), .int .u64 ((limb 2 (x) : Nat) : Int), .int .u64 ((limb 3 (x) : Nat) : Int)], .int .i64 0]) (by simp [results, Tryd.results10, go_sem, cr]) rfl ⟨by rw [EV.out], ?_⟩
      repeat (first | with_reducible exact hbw5 | with_reducible refine Below.setCell ?_ (by first | omega | (simp; omega) | simp) _)
    · rw [show below256 x m = false from by simp [below256]; omega] at IB
      have EV : Hid (decV m x = .tuple #[.agg #[.int .u64 0, .int .u64 0, .int .u64 0, .int .u64 0], .int .i64 21]) := if_neg hlt
      clear hlt
      go_wp2_with fail
      go_region_held3 (fun w' => (∀ i, i < 4 → w'.cell? ⟨N8, i, none⟩ = some (.int .u64 ((limb i x : Nat) : Int))) ∧ (∀ i, i < 4 → w'.cell? ⟨w1.heap.size, i, none⟩ = some (.int .u64 ((limb i m : Nat) : Int))))
        (first | with_reducible exact hold2 hbB (by with_reducible assumption) | with_reducible exact hold2 hbA (by with_reducible assumption) | with_reducible exact ⟨bx4.drew.cell, bm4.drew.cell⟩)
        (first | (go_at_call 33; with_reducible refine (NO _).mono ?_; rintro e wA ⟨rfl, hbA⟩) | (go_at_call 32; with_reducible refine (IB _).mono ?_; rintro e w5 ⟨rfl, hbB⟩) | fail)
      have br5 := (br4.drew.belowAll hbA).belowAll hbB
      have hbw5 := bStep (bStep hbw4.drew hbA) hbB
      clear br4 bm4 bx4 hbw4 hbA hbB
      have cr := br5.cell; have fr := br5.frozen; have lr := br5.lt
      go_wp2
      refine bodyPost_ret (v := .tuple #[.agg #[.int .u64 0, .int .u64 0, .int .u64 0, .int .u64 0], .int .i64 21]) (by simp [results, Tryd.results10, go_sem, cr]) rfl ⟨by rw [EV.out], ?_⟩
      repeat (first | with_reducible exact hbw5 | with_reducible refine Below.setCell ?_ (by first | omega | (simp; omega) | simp) _)

end Go.Proofs.YtlndeghggdpmaacDoor
