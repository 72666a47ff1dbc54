/- Wide of 64 bytes. -/
import Derived.Test.YtlndeghggdpmaacDoorZA
import Derived.Test.YtlndeghggdpmaacDoorRB
import Derived.DataElems
import Derived.Test.YtlndeghggdpmaacDoorYA
namespace Go.Proofs.YtlndeghggdpmaacDoor
open Go.RowKit

/-- 64 bytes are 32 and 32. -/
theorem Bs.halves {w : World} {v : Value} {f : Nat → Nat} (h : Bs w v 64 f) : ∃ (a : Addr) (c : Nat), v = .slice (some a) 64 c ∧ 64 ≤ c ∧ c ≤ maxLen ∧ Bs w (.slice (some a) 32 c) 32 f ∧ Bs w (.slice (some (a.add 32)) 32 (c - 32)) 32 (fun i => f (32 + i)) := by
  rcases h with ⟨_, h0⟩ | ⟨a, c, rfl, h1, h2, h3, h4⟩
  · cases h0
  · refine ⟨a, c, rfl, h1, h2, Or.inr ⟨a, c, rfl, by omega, h2, h3, fun i hi => h4 i (by omega)⟩, Or.inr ⟨a.add 32, c - 32, rfl, by omega, by omega, ?_, fun i hi => ?_⟩⟩
    · rw [show (a.add 32).block = a.block from by unfold Addr.add; split <;> rfl]; exact h3
    · rw [Addr.add_add]; exact h4 (32 + i) (by omega)

set_option maxHeartbeats 8000000 in
set_option maxRecDepth 20000 in
theorem fWide_64 (s : Nat) (v : Value) (f : Nat → Nat) (hs : s < 4) (w : World) (hg : Glob w) (h : Bs w v 64 f) (hf : ∀ i, i < 64 → f i < 256) :
    Calls Tryd.prog 15 #[.int .i64 (s : Int), v] w fun e w' => e = .returned (.tuple #[.agg #[.int .u64 ((limb 0 ((leN f 32 + 115792089237316195423570985008687907853269984665640564039457584007913129639936 * leN (fun i => f (32 + i)) 32) % modN s) : Nat) : Int), .int .u64 ((limb 1 ((leN f 32 + 115792089237316195423570985008687907853269984665640564039457584007913129639936 * leN (fun i => f (32 + i)) 32) % modN s) : Nat) : Int), .int .u64 ((limb 2 ((leN f 32 + 115792089237316195423570985008687907853269984665640564039457584007913129639936 * leN (fun i => f (32 + i)) 32) % modN s) : Nat) : Int), .int .u64 ((limb 3 ((leN f 32 + 115792089237316195423570985008687907853269984665640564039457584007913129639936 * leN (fun i => f (32 + i)) 32) % modN s) : Nat) : Int)], .int .i64 0]) ∧ Below w.heap.size w w' := by
  have HM := fun w hg => modulus_any s hs w hg
  have hm := (modN_good s).lt
  obtain ⟨m, em⟩ : ∃ m, m = modN s := ⟨_, rfl⟩
  rw [← em] at HM hm ⊢
  clear em hs
  have lx := leN_M f (fun i hi => hf i (by omega))
  have ly := leN_M (fun i => f (32 + i)) (fun i hi => hf (32 + i) (by omega))
  obtain ⟨a, c, rfl, hc1, hc2, g1, g2⟩ := h.halves
  have HB1 := (show Hid (Bs w (.slice (some a) 32 c) 32 f) from g1)
  have HB2 := (show Hid (Bs w (.slice (some (a.add 32)) 32 (c - 32)) 32 (fun i => f (32 + i))) from g2)
  have L1 := fun w (h : Bs w (.slice (some a) 32 c) 32 f) => le_any _ f w h (fun i hi => hf i (by omega))
  have L2 := fun w (h : Bs w (.slice (some (a.add 32)) 32 (c - 32)) 32 (fun i => f (32 + i))) => le_any _ _ w h (fun i hi => hf (32 + i) (by omega))
  obtain ⟨x, ex⟩ : ∃ x, x = leN f 32 := ⟨_, rfl⟩
  obtain ⟨y, ey⟩ : ∃ y, y = leN (fun i => f (32 + i)) 32 := ⟨_, rfl⟩
  rw [← ex] at lx L1 ⊢
  rw [← ey] at ly L2 ⊢
  have RE := fun w => rem_any x y m lx ly hm.2.2 (by omega) w
  have TE := fun w => toElem_any m w
  obtain ⟨z, ez⟩ : ∃ z, z = (x + 115792089237316195423570985008687907853269984665640564039457584007913129639936 * y) % m := ⟨_, rfl⟩
  rw [← ez] at RE ⊢
  clear ex ey ez g1 g2 h hf lx ly hm
  obtain ⟨a2, ea2⟩ : ∃ a2, a2 = a.add 32 := ⟨_, rfl⟩
  rw [← ea2] at HB2 L2
  unfold maxLen at hc2
  have hc3 : (64 : Int) ≤ (c : Int) := by omega
  obtain ⟨c2, ec2⟩ : ∃ c2, c2 = c - 32 := ⟨_, rfl⟩
  rw [← ec2] at HB2 L2
  have hc4 : (c : Int) - 32 = (c2 : Int) := by omega
  have ha2 : a.add 32 = a2 := ea2.symm
  have hc5 : c - 32 = c2 := ec2.symm
  clear ea2 ec2
  go_enter Tryd.func15, Tryd.ntmps15
  go_wp2_with fail
  obtain ⟨w0, hw0⟩ : ∃ w0 : World, w0 = w.alloc (.cells #[.int .u64 0, .int .u64 0, .int .u64 0, .int .u64 0] 24) := ⟨_, rfl⟩
  have br0 : Blk w0 24 w.heap.size (fun _ => 0) := by rw [hw0]; exact Blk.newAt _ _ _ (fun _ => 0) (by simp)
  have hg0 : Glob w0 := by rw [hw0]; exact hg.alloc _
  have hb0 : Below w.heap.size w w0 := by rw [hw0]; exact (Below.refl _ _).alloc (Nat.le_refl _) _
  rw [← hw0]
  clear hw0 hg
  refine (HM _ hg0).mono ?_
  rintro e w1 ⟨rfl, hb1⟩
  have br1 := br0.belowAll hb1
  have hbw1 := bStep hb0 hb1
  have lr1 := br1.lt
  clear br0 hb0 hb1 hg0 HM
  obtain ⟨N6, e6⟩ : ∃ N6, N6 = w1.heap.size := ⟨_, rfl⟩
  obtain ⟨w2, hw2⟩ : ∃ w2 : World, w2 = w1.alloc (.cells #[.int .u64 ((limb 0 (m) : Nat) : Int), .int .u64 ((limb 1 (m) : Nat) : Int), .int .u64 ((limb 2 (m) : Nat) : Int), .int .u64 ((limb 3 (m) : Nat) : Int)] 49) := ⟨_, rfl⟩
  have br2 : Blk w2 24 w.heap.size (fun _ => 0) := by rw [hw2]; exact br1.alloc _
  have bm2 : Blk w2 49 N6 (fun i => limb i m) := by rw [hw2]; exact Blk.newAt _ _ _ (fun i => limb i m) e6
  have hbw2 : Below w.heap.size w w2 := by rw [hw2]; exact bAlloc hbw1 _
  go_upto_region 4 with fail
  rw [← hw2, ← e6]
  have l6 : w.heap.size < N6 := by omega
  clear hw2 br1 hbw1 e6
  have hB1 : Bs w2.drew (.slice (some a) 32 c) 32 f := HB1.out.below hbw2.drew
  have hB2 : Bs w2.drew (.slice (some a2) 32 c2) 32 (fun i => f (32 + i)) := HB2.out.below hbw2.drew
  clear HB1 HB2
  have cm := bm2.cell
  go_wp2_with fail
  go_region_with (first | (go_at_call 31; with_reducible refine (L1 _ hB1).mono ?_; rintro e wA ⟨rfl, hbA⟩; have hB2A := hB2.below hbA; have bmA := bm2.drew.belowAll hbA; have cmA := bmA.cell; clear bmA) | (go_at_call 31; with_reducible refine (L2 _ hB2A).mono ?_; rintro e wB ⟨rfl, hbB⟩; have bmB := (bm2.drew.belowAll hbA).belowAll hbB; have cmB := bmB.cell; clear bmB) | (go_at_call 38; with_reducible refine (TE _).mono ?_; rintro e wC ⟨rfl, hbC⟩) | (go_at_call 40; with_reducible refine (RE _).mono ?_; rintro e wD ⟨rfl, hbD⟩; have brD := (((br2.drew.belowAll hbA).belowAll hbB).belowAll hbC).belowAll hbD; have crD := brD.cell; have frD := brD.frozen; have lrD := brD.lt; have hbwD := bStep (bStep (bStep (bStep hbw2.drew hbA) hbB) hbC) hbD; clear brD) | fail)
  all_goals go_wp2
  all_goals refine bodyPost_ret (v := .tuple #[.agg #[.int .u64 ((limb 0 (z) : Nat) : Int), .int .u64 ((limb 1 (z) : Nat) : Int), .int .u64 ((limb 2 (z) : Nat) : Int), .int .u64 ((limb 3 (z) : Nat) : Int)], .int .i64 0]) (by simp [results, Tryd.results15, go_sem, crD]) rfl ⟨rfl, ?_⟩
  all_goals repeat (first | with_reducible exact hbwD | with_reducible refine Below.drew ?_ | with_reducible refine Below.setCell ?_ (by first | omega | (simp; omega) | simp) _)

set_option maxHeartbeats 8000000 in
set_option maxRecDepth 20000 in
theorem rWide_64 (s : Nat) (v : Value) (f : Nat → Nat) (hs : s < 4) (w : World) (h : Bs w v 64 f) (hf : ∀ i, i < 64 → f i < 256) :
    Calls Tryd.prog 16 #[.int .i64 (s : Int), v] w fun e w' => e = .returned (.tuple #[.agg #[.int .u64 ((limb 0 ((leN f 32 + 115792089237316195423570985008687907853269984665640564039457584007913129639936 * leN (fun i => f (32 + i)) 32) % modN s) : Nat) : Int), .int .u64 ((limb 1 ((leN f 32 + 115792089237316195423570985008687907853269984665640564039457584007913129639936 * leN (fun i => f (32 + i)) 32) % modN s) : Nat) : Int), .int .u64 ((limb 2 ((leN f 32 + 115792089237316195423570985008687907853269984665640564039457584007913129639936 * leN (fun i => f (32 + i)) 32) % modN s) : Nat) : Int), .int .u64 ((limb 3 ((leN f 32 + 115792089237316195423570985008687907853269984665640564039457584007913129639936 * leN (fun i => f (32 + i)) 32) % modN s) : Nat) : Int)], .int .i64 0]) ∧ Below w.heap.size w w' := by
  have HM := fun w => ref2Modulus_any s hs w
  have hm := (modN_good s).lt
  obtain ⟨m, em⟩ : ∃ m, m = modN s := ⟨_, rfl⟩
  rw [← em] at HM hm ⊢
  clear em hs
  have lx := leN_M f (fun i hi => hf i (by omega))
  have ly := leN_M (fun i => f (32 + i)) (fun i hi => hf (32 + i) (by omega))
  obtain ⟨a, c, rfl, hc1, hc2, g1, g2⟩ := h.halves
  have HB1 := (show Hid (Bs w (.slice (some a) 32 c) 32 f) from g1)
  have HB2 := (show Hid (Bs w (.slice (some (a.add 32)) 32 (c - 32)) 32 (fun i => f (32 + i))) from g2)
  have L1 := fun w (h : Bs w (.slice (some a) 32 c) 32 f) => num_any _ f w h (fun i hi => hf i (by omega))
  have L2 := fun w (h : Bs w (.slice (some (a.add 32)) 32 (c - 32)) 32 (fun i => f (32 + i))) => num_any _ _ w h (fun i hi => hf (32 + i) (by omega))
  obtain ⟨x, ex⟩ : ∃ x, x = leN f 32 := ⟨_, rfl⟩
  obtain ⟨y, ey⟩ : ∃ y, y = leN (fun i => f (32 + i)) 32 := ⟨_, rfl⟩
  rw [← ex] at lx L1 ⊢
  rw [← ey] at ly L2 ⊢
  have RE := fun w => refRem_any x y m lx ly hm.2.2 (by omega) w
  
  obtain ⟨z, ez⟩ : ∃ z, z = (x + 115792089237316195423570985008687907853269984665640564039457584007913129639936 * y) % m := ⟨_, rfl⟩
  rw [← ez] at RE ⊢
  clear ex ey ez g1 g2 h hf lx ly hm
  obtain ⟨a2, ea2⟩ : ∃ a2, a2 = a.add 32 := ⟨_, rfl⟩
  rw [← ea2] at HB2 L2
  unfold maxLen at hc2
  have hc3 : (64 : Int) ≤ (c : Int) := by omega
  obtain ⟨c2, ec2⟩ : ∃ c2, c2 = c - 32 := ⟨_, rfl⟩
  rw [← ec2] at HB2 L2
  have hc4 : (c : Int) - 32 = (c2 : Int) := by omega
  have ha2 : a.add 32 = a2 := ea2.symm
  have hc5 : c - 32 = c2 := ec2.symm
  clear ea2 ec2
  go_enter Tryd.func16, Tryd.ntmps16
  go_wp2_with fail
  obtain ⟨w0, hw0⟩ : ∃ w0 : World, w0 = w.alloc (.cells #[.int .u64 0, .int .u64 0, .int .u64 0, .int .u64 0] 24) := ⟨_, rfl⟩
  have br0 : Blk w0 24 w.heap.size (fun _ => 0) := by rw [hw0]; exact Blk.newAt _ _ _ (fun _ => 0) (by simp)
  have hg0 := True.intro
  have hb0 : Below w.heap.size w w0 := by rw [hw0]; exact (Below.refl _ _).alloc (Nat.le_refl _) _
  rw [← hw0]
  clear hw0
  refine (HM _).mono ?_
  rintro e w1 ⟨rfl, hb1⟩
  have br1 := br0.belowAll hb1
  have hbw1 := bStep hb0 hb1
  have lr1 := br1.lt
  clear br0 hb0 hb1 hg0 HM
  obtain ⟨N6, e6⟩ : ∃ N6, N6 = w1.heap.size := ⟨_, rfl⟩
  obtain ⟨w2, hw2⟩ : ∃ w2 : World, w2 = w1.alloc (.cells #[.int .u64 ((limb 0 (m) : Nat) : Int), .int .u64 ((limb 1 (m) : Nat) : Int), .int .u64 ((limb 2 (m) : Nat) : Int), .int .u64 ((limb 3 (m) : Nat) : Int)] 24) := ⟨_, rfl⟩
  have br2 : Blk w2 24 w.heap.size (fun _ => 0) := by rw [hw2]; exact br1.alloc _
  have bm2 : Blk w2 24 N6 (fun i => limb i m) := by rw [hw2]; exact Blk.newAt _ _ _ (fun i => limb i m) e6
  have hbw2 : Below w.heap.size w w2 := by rw [hw2]; exact bAlloc hbw1 _
  go_upto_region 4 with fail
  rw [← hw2, ← e6]
  have l6 : w.heap.size < N6 := by omega
  clear hw2 br1 hbw1 e6
  have hB1 : Bs w2.drew (.slice (some a) 32 c) 32 f := HB1.out.below hbw2.drew
  have hB2 : Bs w2.drew (.slice (some a2) 32 c2) 32 (fun i => f (32 + i)) := HB2.out.below hbw2.drew
  clear HB1 HB2
  have cm := bm2.cell
  go_wp2_with fail
  go_region_with (first | (go_at_call 36; with_reducible refine (L1 _ hB1).mono ?_; rintro e wA ⟨rfl, hbA⟩; have hB2A := hB2.below hbA; have bmA := bm2.drew.belowAll hbA; have cmA := bmA.cell; clear bmA) | (go_at_call 36; with_reducible refine (L2 _ hB2A).mono ?_; rintro e wB ⟨rfl, hbB⟩; have bmB := (bm2.drew.belowAll hbA).belowAll hbB; have cmB := bmB.cell; clear bmB) | (go_at_call 41; with_reducible refine (RE _).mono ?_; rintro e wD ⟨rfl, hbD⟩; have brD := (((br2.drew.belowAll hbA).belowAll hbB)).belowAll hbD; have crD := brD.cell; have frD := brD.frozen; have lrD := brD.lt; have hbwD := bStep (bStep (bStep hbw2.drew hbA) hbB) hbD; clear brD) | fail)
  all_goals go_wp2
  all_goals refine bodyPost_ret (v := .tuple #[.agg #[.int .u64 ((limb 0 (z) : Nat) : Int), .int .u64 ((limb 1 (z) : Nat) : Int), .int .u64 ((limb 2 (z) : Nat) : Int), .int .u64 ((limb 3 (z) : Nat) : Int)], .int .i64 0]) (by simp [results, Tryd.results16, go_sem, crD]) rfl ⟨rfl, ?_⟩
  all_goals repeat (first | with_reducible exact hbwD | with_reducible refine Below.drew ?_ | with_reducible refine Below.setCell ?_ (by first | omega | (simp; omega) | simp) _)

end Go.Proofs.YtlndeghggdpmaacDoor

/- FieldCodecs: the walk. -/
namespace Go.Proofs.YtlndeghggdpmaacDoor
open Go.RowKit

/-- A block that Spare has made. -/
def Full (w : World) (g n c : Nat) (f : Nat → Nat) : Prop := n + 8 ≤ c ∧ c ≤ maxLen ∧ g < w.heap.size ∧ ∀ i, i < n + 8 → w.cell? ⟨g, i, none⟩ = some (.int .u8 ((spB f n i : Nat) : Int))
section
variable {w w' : World} {g n c : Nat} {f : Nat → Nat}
theorem Full.belowAll (h : Full w g n c f) (hb : Below w.heap.size w w') : Full w' g n c f :=
  ⟨h.1, h.2.1, Nat.lt_of_lt_of_le h.2.2.1 hb.size, fun i hi => by rw [hb.cell (p := ⟨g, i, none⟩) h.2.2.1]; exact h.2.2.2 i hi⟩
theorem Full.other4 (h : Full w g n c f) {r : Nat} (hr : g ≠ r) (v0 v1 v2 v3 : Value) : Full ((((w.setCell ⟨r, 0, none⟩ v0).setCell ⟨r, 1, none⟩ v1).setCell ⟨r, 2, none⟩ v2).setCell ⟨r, 3, none⟩ v3) g n c f := by
  refine ⟨h.1, h.2.1, by simpa using h.2.2.1, fun i hi => ?_⟩
  have e : ∀ (w : World) (a : Addr) (v : Value), g ≠ a.block → (w.setCell a v).cell? ⟨g, i, none⟩ = w.cell? ⟨g, i, none⟩ := fun w a v ha => by simp only [World.cell?, Below.heap_setCell w a v g ha]
  rw [e _ _ _ hr, e _ _ _ hr, e _ _ _ hr, e _ _ _ hr]
  exact h.2.2.2 i hi
theorem Full.part (h : Full w g n c f) : Bs w (.slice (some ⟨g, 0, none⟩) n c) n f :=
  cells_Bs (by have := h.1; omega) h.2.1 h.2.2.1 (fun i hi => by rw [h.2.2.2 i (by omega)]; unfold spB; rw [if_pos hi])
theorem Full.all (h : Full w g n c f) : Bs w (.slice (some ⟨g, 0, none⟩) (n + 8) c) (n + 8) (spB f n) := cells_Bs h.1 h.2.1 h.2.2.1 h.2.2.2
end
theorem spare_full (n : Nat) (v : Value) (f : Nat → Nat) (hn : n ≤ 140737488351232) (w : World) (h : Bs w v n f) :
    Calls Tryd.prog 9 #[v] w fun e w' => ∃ g c, e = .returned (.slice (some ⟨g, 0, none⟩) (n + 8) c) ∧ Full w' g n c f ∧ w.heap.size ≤ g ∧ Below w.heap.size w w' := by
  refine (spare_any n v f hn w h).mono ?_
  rintro e w' ⟨v', rfl, hown, hb⟩
  obtain ⟨g, c, rfl, h1, h2, h3, h4, h5⟩ := own_cellsB hown (by omega)
  exact ⟨g, c, rfl, ⟨h1, h2, h4, h5⟩, h3, hb⟩
theorem same_self (v u : Value) (n : Nat) (f : Nat → Nat) (w : World) (hv : Bs w v n f) (hu : Bs w u n f) :
    Calls Tryd.prog 12 #[v, u] w fun e w' => e = .returned (.bool true) ∧ Below w.heap.size w w' := by
  refine (same_any v u n n f f w hv hu).mono ?_
  rintro e w' ⟨rfl, hb⟩
  exact ⟨by rw [sameB_true (fun i _ => rfl)]; simp, hb⟩

set_option maxHeartbeats 16000000 in
set_option maxRecDepth 20000 in
theorem codecs_gen (s e1 e2 : Int) (a x y n k cb : Nat) (oa : Option Addr) (fb fe : Nat → Nat) (hn : n ≤ 140737488351232) (hx : x < 115792089237316195423570985008687907853269984665640564039457584007913129639936) (hy : y < 115792089237316195423570985008687907853269984665640564039457584007913129639936)
    (D1 : ∀ w v, Glob w → Bs w v n fb → Calls Tryd.prog 10 #[.int .i64 s, v] w fun e w' => e = .returned (.tuple #[.agg #[.int .u64 ((limb 0 (x) : Nat) : Int), .int .u64 ((limb 1 (x) : Nat) : Int), .int .u64 ((limb 2 (x) : Nat) : Int), .int .u64 ((limb 3 (x) : Nat) : Int)], .int .i64 e1]) ∧ Below w.heap.size w w')
    (D2 : ∀ w v, Glob w → Bs w v n fb → Calls Tryd.prog 11 #[.int .i64 s, v] w fun e w' => e = .returned (.tuple #[.agg #[.int .u64 ((limb 0 (x) : Nat) : Int), .int .u64 ((limb 1 (x) : Nat) : Int), .int .u64 ((limb 2 (x) : Nat) : Int), .int .u64 ((limb 3 (x) : Nat) : Int)], .int .i64 e1]) ∧ Below w.heap.size w w')
    (W1 : ∀ w v, Glob w → Bs w v n fb → Calls Tryd.prog 15 #[.int .i64 s, v] w fun e w' => e = .returned (.tuple #[.agg #[.int .u64 ((limb 0 (y) : Nat) : Int), .int .u64 ((limb 1 (y) : Nat) : Int), .int .u64 ((limb 2 (y) : Nat) : Int), .int .u64 ((limb 3 (y) : Nat) : Int)], .int .i64 e2]) ∧ Below w.heap.size w w')
    (W2 : ∀ w v, Glob w → Bs w v n fb → Calls Tryd.prog 16 #[.int .i64 s, v] w fun e w' => e = .returned (.tuple #[.agg #[.int .u64 ((limb 0 (y) : Nat) : Int), .int .u64 ((limb 1 (y) : Nat) : Int), .int .u64 ((limb 2 (y) : Nat) : Int), .int .u64 ((limb 3 (y) : Nat) : Int)], .int .i64 e2]) ∧ Below w.heap.size w w')
    (E1 : ∀ w, Glob w → Calls Tryd.prog 13 #[.int .i64 s, .agg #[.int .u64 ((limb 0 (a) : Nat) : Int), .int .u64 ((limb 1 (a) : Nat) : Int), .int .u64 ((limb 2 (a) : Nat) : Int), .int .u64 ((limb 3 (a) : Nat) : Int)]] w fun e w' => ∃ v, e = .returned v ∧ Bs w' v k fe ∧ Below w.heap.size w w')
    (E2 : ∀ w, Glob w → Calls Tryd.prog 14 #[.int .i64 s, .agg #[.int .u64 ((limb 0 (a) : Nat) : Int), .int .u64 ((limb 1 (a) : Nat) : Int), .int .u64 ((limb 2 (a) : Nat) : Int), .int .u64 ((limb 3 (a) : Nat) : Int)]] w fun e w' => ∃ v, e = .returned v ∧ Bs w' v k fe ∧ Below w.heap.size w w')
    (w : World) (hg : Glob w) (hB : Bs w (.slice oa n cb) n fb) :
    Calls Tryd.prog 3 #[.int .i64 s, .agg #[.int .u64 ((limb 0 (a) : Nat) : Int), .int .u64 ((limb 1 (a) : Nat) : Int), .int .u64 ((limb 2 (a) : Nat) : Int), .int .u64 ((limb 3 (a) : Nat) : Int)], .slice oa n cb] w fun e w' => e = .returned (.bool true) ∧ Below w.heap.size w w' := by
  have AL := fun w hg => alive2_any w hg
  have QX := fun w => neqE x x hx hx w
  rw [show decide (x = x) = true from by simp] at QX
  have QY := fun w => eqlE y y hy hy w
  rw [show decide (y = y) = true from by simp] at QY
  have SP := fun w h => spare_full n (.slice oa n cb) fb hn w h
  have HB : Hid (Bs w (.slice oa n cb) n fb) := hB
  have HG : Hid (Glob w) := hg
  have qe : (e1 != e1) = false := by simp
  have qe2 : (e2 == e2) = true := by simp
  clear hB
  go_enter Tryd.func3, Tryd.ntmps3
  go_wp2_with fail
  obtain ⟨w0, hw0⟩ : ∃ w0 : World, w0 = w.alloc (.cells #[.int .u64 ((limb 0 (a) : Nat) : Int), .int .u64 ((limb 1 (a) : Nat) : Int), .int .u64 ((limb 2 (a) : Nat) : Int), .int .u64 ((limb 3 (a) : Nat) : Int)] 24) := ⟨_, rfl⟩
  have ba0 : Blk w0 24 w.heap.size (fun i => limb i a) := by rw [hw0]; exact Blk.newAt _ _ _ (fun i => limb i a) (by simp)
  have hbw0 : Below w.heap.size w w0 := by rw [hw0]; exact (Below.refl _ _).alloc (Nat.le_refl _) _
  rw [← hw0]
  clear hw0 hg
  refine (AL _ (HG.out.below hbw0)).mono ?_
  rintro e w1 ⟨rfl, hb1⟩
  have ba1 := ba0.belowAll hb1
  have hbw1 := bStep hbw0 hb1
  clear ba0 hbw0 hb1  AL
  go_wp2_with fail
  refine (SP _ (HB.out.below hbw1)).mono ?_
  rintro e w2 ⟨g, c, rfl, hF2, lg, hb2⟩
  have ba2 := ba1.belowAll hb2
  have la := ba1.lt
  have hbw2 := bStep hbw1 hb2
  have lg1 : w.heap.size < g := by omega
  clear ba1 hbw1 hb2 la lg
  have hc := hF2.1; have hc2 := hF2.2.1; unfold maxLen at hc2
  have hi1 : (n : Int) ≤ (c : Int) := by omega
  go_wp2_with fail
  refine (D1 _ _ (HG.out.below hbw2) hF2.part).mono ?_
  rintro e w3 ⟨rfl, hb3⟩
  have ba3 := ba2.belowAll hb3
  have hF3 := hF2.belowAll hb3
  have hbw3 := bStep hbw2 hb3
  clear ba2 hbw2 hb3  D1
  clear hF2
  obtain ⟨N8, eN8⟩ : ∃ N8, N8 = w3.heap.size := ⟨_, rfl⟩
  obtain ⟨w4, hw4⟩ : ∃ w4 : World, w4 = w3.alloc (.cells #[.int .u64 ((limb 0 (x) : Nat) : Int), .int .u64 ((limb 1 (x) : Nat) : Int), .int .u64 ((limb 2 (x) : Nat) : Int), .int .u64 ((limb 3 (x) : Nat) : Int)] 24) := ⟨_, rfl⟩
  have ba4 : Blk w4 24 w.heap.size (fun i => limb i a) := by rw [hw4]; exact ba3.alloc _
  have lN8 : w.heap.size < N8 := by have := ba3.lt; omega
  have bx4 : Blk w4 24 N8 (fun i => limb i x) := by rw [hw4]; exact Blk.newAt _ _ _ (fun i => limb i x) eN8
  have hF4 : Full w4 g n c fb := by rw [hw4]; exact hF3.belowAll ((Below.refl _ _).alloc (Nat.le_refl _) _)
  have lgN8 : g < N8 := by have := hF3.2.2.1; omega
  have hbw4 : Below w.heap.size w w4 := by rw [hw4]; exact bAlloc hbw3 _
  go_upto_region 5 with fail
  rw [← hw4, ← eN8]
  clear hw4 eN8 ba3 hbw3
  clear hF3
  go_wp2_with fail
  refine (D2 _ _ (HG.out.below hbw4) (HB.out.below hbw4)).mono ?_
  rintro e w5 ⟨rfl, hb5⟩
  have ba5 := ba4.belowAll hb5; have bx5 := bx4.belowAll hb5
  have hF5 := hF4.belowAll hb5
  have hbw5 := bStep hbw4 hb5
  clear ba4 bx4 hbw4 hb5  D2
  clear hF4
  obtain ⟨N10, eN10⟩ : ∃ N10, N10 = w5.heap.size := ⟨_, rfl⟩
  obtain ⟨w6, hw6⟩ : ∃ w6 : World, w6 = w5.alloc (.cells #[.int .u64 ((limb 0 (x) : Nat) : Int), .int .u64 ((limb 1 (x) : Nat) : Int), .int .u64 ((limb 2 (x) : Nat) : Int), .int .u64 ((limb 3 (x) : Nat) : Int)] 24) := ⟨_, rfl⟩
  have ba6 : Blk w6 24 w.heap.size (fun i => limb i a) := by rw [hw6]; exact ba5.alloc _
  have bx6 : Blk w6 24 N8 (fun i => limb i x) := by rw [hw6]; exact bx5.alloc _
  have lN10 : N8 < N10 := by have := bx5.lt; omega
  have by6 : Blk w6 24 N10 (fun i => limb i x) := by rw [hw6]; exact Blk.newAt _ _ _ (fun i => limb i x) eN10
  have hF6 : Full w6 g n c fb := by rw [hw6]; exact hF5.belowAll ((Below.refl _ _).alloc (Nat.le_refl _) _)
  have lgN10 : g < N10 := by have := hF5.2.2.1; omega
  have hbw6 : Below w.heap.size w w6 := by rw [hw6]; exact bAlloc hbw5 _
  go_upto_region 6 with fail
  rw [← hw6, ← eN10]
  clear hw6 eN10 ba5 bx5 hbw5
  clear hF5
  go_wp2_with fail
  have hgd := (HG.out.below hbw6).drew
  go_region_held3 (fun w' => (∀ i, i < 4 → w'.cell? ⟨w.heap.size, i, none⟩ = some (.int .u64 ((limb i a : Nat) : Int))) ∧ (∀ i, i < 4 → w'.cell? ⟨N8, i, none⟩ = some (.int .u64 ((limb i x : Nat) : Int))) ∧ (∀ i, i < 4 → w'.cell? ⟨N10, i, none⟩ = some (.int .u64 ((limb i x : Nat) : Int))))
    (first | with_reducible exact hold3 hbC (by with_reducible assumption) | with_reducible exact hold3 hbB (by with_reducible assumption) | with_reducible exact hold3 hbA (by with_reducible assumption) | with_reducible exact ⟨ba6.drew.cell, bx6.drew.cell, by6.drew.cell⟩)
    (first | (go_at_call 13; with_reducible refine (E1 _ hgd).mono ?_; rintro e wA ⟨v1, rfl, hv1, hbA⟩; have hgA := hgd.below hbA) | (go_at_call 14; with_reducible refine (E2 _ hgA).mono ?_; rintro e wB ⟨v2, rfl, hv2, hbB⟩; have hv1B := hv1.below hbB) | (go_at_call 12; with_reducible refine (same_self _ _ k fe _ hv1B hv2).mono ?_; rintro e w7 ⟨rfl, hbC⟩) | fail)
  have ba7 := ((ba6.drew.belowAll hbA).belowAll hbB).belowAll hbC; have bx7 := ((bx6.drew.belowAll hbA).belowAll hbB).belowAll hbC; have by7 := ((by6.drew.belowAll hbA).belowAll hbB).belowAll hbC; have hF7 : Full w7 g n c fb := ((Full.belowAll (w := w6.drew) hF6 hbA).belowAll hbB).belowAll hbC
  have hbw7 := bStep (bStep (bStep hbw6.drew hbA) hbB) hbC
  clear ba6 bx6 by6 hbw6 hgd hF6 hbA hbB hbC hgA hv1 hv1B hv2 QX E1 E2
  go_wp2_with fail
  refine (W1 _ _ (HG.out.below hbw7) hF7.part).mono ?_
  rintro e w8 ⟨rfl, hb8⟩
  have ba8 := ba7.belowAll hb8; have bx8 := bx7.belowAll hb8; have by8 := by7.belowAll hb8
  have hF8 := hF7.belowAll hb8
  have hbw8 := bStep hbw7 hb8
  clear ba7 bx7 by7 hbw7 hb8  W1
  clear hF7
  have ct := bx8.cell; have ft := bx8.frozen
  go_upto_region 9 with fail
  obtain ⟨w9, hw9⟩ : ∃ w9 : World, w9 = (((w8.setCell ⟨N8, 0, none⟩ (.int .u64 ((limb 0 y : Nat) : Int))).setCell ⟨N8, 1, none⟩ (.int .u64 ((limb 1 y : Nat) : Int))).setCell ⟨N8, 2, none⟩ (.int .u64 ((limb 2 y : Nat) : Int))).setCell ⟨N8, 3, none⟩ (.int .u64 ((limb 3 y : Nat) : Int)) := ⟨_, rfl⟩
  have ba9 : Blk w9 24 w.heap.size (fun i => limb i a) := by rw [hw9]; exact ba8.other4 (by omega) _ _ _ _
  have bx9 : Blk w9 24 N8 (fun i => limb i y) := by rw [hw9]; exact bx8.set4 (fun i => limb i y)
  have by9 : Blk w9 24 N10 (fun i => limb i x) := by rw [hw9]; exact by8.other4 (by omega) _ _ _ _
  have hF9 : Full w9 g n c fb := by rw [hw9]; exact hF8.other4 (by omega) _ _ _ _
  have hbw9 : Below w.heap.size w w9 := by rw [hw9]; exact bSet4 hbw8 (by omega) _ _ _ _
  rw [← hw9]
  clear hw9 ba8 bx8 by8 hbw8 ct ft
  clear hF8
  go_wp2_with fail
  refine (W2 _ _ (HG.out.below hbw9) (HB.out.below hbw9)).mono ?_
  rintro e w10 ⟨rfl, hb10⟩
  have ba10 := ba9.belowAll hb10; have bx10 := bx9.belowAll hb10; have by10 := by9.belowAll hb10
  have hF10 := hF9.belowAll hb10
  have hbw10 := bStep hbw9 hb10
  clear ba9 bx9 by9 hbw9 hb10  W2
  clear hF9
  have ct := by10.cell; have ft := by10.frozen
  go_upto_region 10 with fail
  obtain ⟨w11, hw11⟩ : ∃ w11 : World, w11 = (((w10.setCell ⟨N10, 0, none⟩ (.int .u64 ((limb 0 y : Nat) : Int))).setCell ⟨N10, 1, none⟩ (.int .u64 ((limb 1 y : Nat) : Int))).setCell ⟨N10, 2, none⟩ (.int .u64 ((limb 2 y : Nat) : Int))).setCell ⟨N10, 3, none⟩ (.int .u64 ((limb 3 y : Nat) : Int)) := ⟨_, rfl⟩
  have ba11 : Blk w11 24 w.heap.size (fun i => limb i a) := by rw [hw11]; exact ba10.other4 (by omega) _ _ _ _
  have bx11 : Blk w11 24 N8 (fun i => limb i y) := by rw [hw11]; exact bx10.other4 (by omega) _ _ _ _
  have by11 : Blk w11 24 N10 (fun i => limb i y) := by rw [hw11]; exact by10.set4 (fun i => limb i y)
  have hF11 : Full w11 g n c fb := by rw [hw11]; exact hF10.other4 (by omega) _ _ _ _
  have hbw11 : Below w.heap.size w w11 := by rw [hw11]; exact bSet4 hbw10 (by omega) _ _ _ _
  rw [← hw11]
  clear hw11 ba10 bx10 by10 hbw10 ct ft
  clear hF10
  have cx := bx11.cell; have cy := by11.cell
  go_wp2_with fail
  refine (SP _ (HB.out.below hbw11)).mono ?_
  rintro e w12 ⟨g2, c2, rfl, hG2, lg2, hb12⟩
  have hF12 := hF11.belowAll hb12
  have hbw12 := bStep hbw11 hb12
  go_wp2_with fail
  refine (same_self _ _ (n + 8) (spB fb n) _ hF12.all hG2.all).mono ?_
  rintro e w13 ⟨rfl, hb13⟩
  have hbw13 := bStep hbw12 hb13
  go_wp2
  go_ret
  exact ⟨rfl, hbw13⟩

theorem codecs_walk (s : Int) (a n : Nat) (vb : Value) (fb : Nat → Nat) (ha : a < 115792089237316195423570985008687907853269984665640564039457584007913129639936) (w : World) (hB : Bs w vb n fb) (hfb : ∀ i, i < n → fb i < 256) (hn : n ≤ 140737488351232) (hg : Glob w) :
    Calls Tryd.prog 3 #[.int .i64 s, .agg #[.int .u64 ((limb 0 (a) : Nat) : Int), .int .u64 ((limb 1 (a) : Nat) : Int), .int .u64 ((limb 2 (a) : Nat) : Int), .int .u64 ((limb 3 (a) : Nat) : Int)], vb] w fun e w' => e = .returned (.bool true) ∧ Below w.heap.size w w' := by
  have z : (.agg #[.int .u64 ((limb 0 (0) : Nat) : Int), .int .u64 ((limb 1 (0) : Nat) : Int), .int .u64 ((limb 2 (0) : Nat) : Int), .int .u64 ((limb 3 (0) : Nat) : Int)] : Value) = .agg #[.int .u64 0, .int .u64 0, .int .u64 0, .int .u64 0] := by rw [limbz, limbz, limbz, limbz]; rfl
  have shape : ∀ w v, Bs w v n fb → ∃ oa cb, v = .slice oa n cb := fun w v h => by
    rcases h.cases with ⟨rfl, rfl⟩ | ⟨a, c, rfl⟩
    · exact ⟨_, _, rfl⟩
    · exact ⟨_, _, rfl⟩
  obtain ⟨oa, cb, rfl⟩ := shape w vb hB
  by_cases h : s < 0 ∨ 4 ≤ s
  · have D1 := fun w v (_ : Glob w) (_ : Bs w v n fb) => fDecode_out s h v w
    have D2 := fun w v (_ : Glob w) (_ : Bs w v n fb) => rDecode_out s h v w
    have W1 := fun w v (_ : Glob w) (_ : Bs w v n fb) => fWide_out s h v w
    have W2 := fun w v (_ : Glob w) (_ : Bs w v n fb) => rWide_out s h v w
    rw [← z] at D1 D2 W1 W2
    refine codecs_gen s 20 20 a 0 0 n 0 cb oa fb (fun _ => 0) hn (by decide) (by decide) D1 D2 W1 W2 (fun w _ => (fEncode_out s h a w).mono ?_) (fun w _ => (rEncode_out s h a w).mono ?_) w hg hB
    · rintro e w' ⟨rfl, hb⟩
      exact ⟨_, rfl, Or.inl ⟨rfl, rfl⟩, hb⟩
    · rintro e w' ⟨rfl, hb⟩
      exact ⟨_, rfl, Or.inl ⟨rfl, rfl⟩, hb⟩
  · obtain ⟨t, rfl⟩ := Int.eq_ofNat_of_zero_le (show 0 ≤ s by omega)
    have ht : t < 4 := by omega
    have hM := modN_lt t
    have hp := modN_pos t
    have E1 : ∀ w, Glob w → Calls Tryd.prog 13 #[.int .i64 (t : Int), .agg #[.int .u64 ((limb 0 (a) : Nat) : Int), .int .u64 ((limb 1 (a) : Nat) : Int), .int .u64 ((limb 2 (a) : Nat) : Int), .int .u64 ((limb 3 (a) : Nat) : Int)]] w fun e w' => ∃ v, e = .returned v ∧ Bs w' v 32 (encB (a % modN t)) ∧ Below w.heap.size w w' := fun w hg => (fEncode_any t a ht ha w hg).mono (by rintro e w' ⟨g, rfl, _, h1, h2⟩; exact ⟨_, rfl, h1.Bs (by decide), h2⟩)
    have E2 : ∀ w, Glob w → Calls Tryd.prog 14 #[.int .i64 (t : Int), .agg #[.int .u64 ((limb 0 (a) : Nat) : Int), .int .u64 ((limb 1 (a) : Nat) : Int), .int .u64 ((limb 2 (a) : Nat) : Int), .int .u64 ((limb 3 (a) : Nat) : Int)]] w fun e w' => ∃ v, e = .returned v ∧ Bs w' v 32 (encB (a % modN t)) ∧ Below w.heap.size w w' := fun w _ => (rEncode_any t a ht ha w).mono (by rintro e w' ⟨v, rfl, h1, h2⟩; exact ⟨_, rfl, own_Bs h1, h2⟩)
    have DD : ∃ x e1, x < 115792089237316195423570985008687907853269984665640564039457584007913129639936 ∧ (∀ w v, Glob w → Bs w v n fb → Calls Tryd.prog 10 #[.int .i64 (t : Int), v] w fun e w' => e = .returned (.tuple #[.agg #[.int .u64 ((limb 0 (x) : Nat) : Int), .int .u64 ((limb 1 (x) : Nat) : Int), .int .u64 ((limb 2 (x) : Nat) : Int), .int .u64 ((limb 3 (x) : Nat) : Int)], .int .i64 e1]) ∧ Below w.heap.size w w') ∧ (∀ w v, Glob w → Bs w v n fb → Calls Tryd.prog 11 #[.int .i64 (t : Int), v] w fun e w' => e = .returned (.tuple #[.agg #[.int .u64 ((limb 0 (x) : Nat) : Int), .int .u64 ((limb 1 (x) : Nat) : Int), .int .u64 ((limb 2 (x) : Nat) : Int), .int .u64 ((limb 3 (x) : Nat) : Int)], .int .i64 e1]) ∧ Below w.heap.size w w') := by
      by_cases h32 : n = 32
      · subst h32
        have d1 := fun w v hg hb => fDecode_32 t v fb ht w hg hb hfb
        have d2 := fun w v (_ : Glob w) hb => rDecode_32 t v fb ht w hb hfb
        unfold decV at d1 d2
        by_cases hlt : leN fb 32 < modN t
        · rw [if_pos hlt] at d1 d2
          exact ⟨_, _, by omega, d1, d2⟩
        · rw [if_neg hlt, ← z] at d1 d2
          exact ⟨0, 21, by decide, d1, d2⟩
      · refine ⟨0, 21, by decide, fun w v hg hb => ?_, fun w v hg hb => ?_⟩
        · rw [z]; exact fDecode_len t n v fb ht h32 w hg hb
        · obtain ⟨oa, cb, rfl⟩ := shape w v hb
          rw [z]; exact rDecode_len t n cb oa ht h32 w
    have WW : ∃ x e1, x < 115792089237316195423570985008687907853269984665640564039457584007913129639936 ∧ (∀ w v, Glob w → Bs w v n fb → Calls Tryd.prog 15 #[.int .i64 (t : Int), v] w fun e w' => e = .returned (.tuple #[.agg #[.int .u64 ((limb 0 (x) : Nat) : Int), .int .u64 ((limb 1 (x) : Nat) : Int), .int .u64 ((limb 2 (x) : Nat) : Int), .int .u64 ((limb 3 (x) : Nat) : Int)], .int .i64 e1]) ∧ Below w.heap.size w w') ∧ (∀ w v, Glob w → Bs w v n fb → Calls Tryd.prog 16 #[.int .i64 (t : Int), v] w fun e w' => e = .returned (.tuple #[.agg #[.int .u64 ((limb 0 (x) : Nat) : Int), .int .u64 ((limb 1 (x) : Nat) : Int), .int .u64 ((limb 2 (x) : Nat) : Int), .int .u64 ((limb 3 (x) : Nat) : Int)], .int .i64 e1]) ∧ Below w.heap.size w w') := by
      by_cases h64 : n = 64
      · subst h64
        refine ⟨_, 0, ?_, fun w v hg hb => fWide_64 t v fb ht w hg hb hfb, fun w v _ hb => rWide_64 t v fb ht w hb hfb⟩
        have := Nat.mod_lt (leN fb 32 + 115792089237316195423570985008687907853269984665640564039457584007913129639936 * leN (fun i => fb (32 + i)) 32) hp
        omega
      · refine ⟨0, 21, by decide, fun w v hg hb => ?_, fun w v hg hb => ?_⟩
        · obtain ⟨oa, cb, rfl⟩ := shape w v hb
          rw [z]; exact fWide_len t n cb oa ht h64 w hg
        · obtain ⟨oa, cb, rfl⟩ := shape w v hb
          rw [z]; exact rWide_len t n cb oa ht h64 w
    obtain ⟨x, e1, lx, d1, d2⟩ := DD
    obtain ⟨y, e2, ly, w1, w2⟩ := WW
    exact codecs_gen t e1 e2 a x y n 32 cb oa fb _ hn lx ly d1 d2 w1 w2 E1 E2 w hg hB

end Go.Proofs.YtlndeghggdpmaacDoor

