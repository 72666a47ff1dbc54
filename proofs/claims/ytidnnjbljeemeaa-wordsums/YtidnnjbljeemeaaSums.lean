/- WordSums: for every a and b the call returns true: Less, Add and Sub answer what the reference answers. No condition. The walk. -/
import Derived.Test.YtidnnjbljeemeaaAlive
import Derived.Test.YtidnnjbljeemeaaStep
import Derived.Test.YtidnnjbljeemeaaRef4
import Derived.Test.YtidnnjbljeemeaaRef5
import Derived.Deep.RegionHeld3
namespace Go.Proofs.Ytidnnjbljeemeaa
open Go.RowKit

section
variable {W w1 : World} {n1 n2 n3 n4 n5 n6 : Nat} {f1 f2 f3 f4 f5 f6 : Nat → Nat}
theorem six_below (hb : Below W.heap.size W w1) (h : (∀ i, i < 4 → W.cell? ⟨n1, i, none⟩ = some (.int .u64 ((f1 i : Nat) : Int))) ∧ (∀ i, i < 4 → W.cell? ⟨n2, i, none⟩ = some (.int .u64 ((f2 i : Nat) : Int))) ∧ (∀ i, i < 4 → W.cell? ⟨n3, i, none⟩ = some (.int .u64 ((f3 i : Nat) : Int))) ∧ (∀ i, i < 4 → W.cell? ⟨n4, i, none⟩ = some (.int .u64 ((f4 i : Nat) : Int))) ∧ (∀ i, i < 4 → W.cell? ⟨n5, i, none⟩ = some (.int .u64 ((f5 i : Nat) : Int))) ∧ (∀ i, i < 4 → W.cell? ⟨n6, i, none⟩ = some (.int .u64 ((f6 i : Nat) : Int)))) :
    (∀ i, i < 4 → w1.cell? ⟨n1, i, none⟩ = some (.int .u64 ((f1 i : Nat) : Int))) ∧ (∀ i, i < 4 → w1.cell? ⟨n2, i, none⟩ = some (.int .u64 ((f2 i : Nat) : Int))) ∧ (∀ i, i < 4 → w1.cell? ⟨n3, i, none⟩ = some (.int .u64 ((f3 i : Nat) : Int))) ∧ (∀ i, i < 4 → w1.cell? ⟨n4, i, none⟩ = some (.int .u64 ((f4 i : Nat) : Int))) ∧ (∀ i, i < 4 → w1.cell? ⟨n5, i, none⟩ = some (.int .u64 ((f5 i : Nat) : Int))) ∧ (∀ i, i < 4 → w1.cell? ⟨n6, i, none⟩ = some (.int .u64 ((f6 i : Nat) : Int))) :=
  ⟨cells_below hb h.1, cells_below hb h.2.1, cells_below hb h.2.2.1, cells_below hb h.2.2.2.1, cells_below hb h.2.2.2.2.1, cells_below hb h.2.2.2.2.2⟩
end

set_option maxHeartbeats 8000000 in
theorem sums_walk (a b : Nat) (ha : a < 115792089237316195423570985008687907853269984665640564039457584007913129639936) (hb : b < 115792089237316195423570985008687907853269984665640564039457584007913129639936) (w : World) :
    Calls Try.prog 4 #[.agg #[.int .u64 ((limb 0 (a) : Nat) : Int), .int .u64 ((limb 1 (a) : Nat) : Int), .int .u64 ((limb 2 (a) : Nat) : Int), .int .u64 ((limb 3 (a) : Nat) : Int)], .agg #[.int .u64 ((limb 0 (b) : Nat) : Int), .int .u64 ((limb 1 (b) : Nat) : Int), .int .u64 ((limb 2 (b) : Nat) : Int), .int .u64 ((limb 3 (b) : Nat) : Int)]] w fun e w' => e = .returned (.bool true) ∧ Below w.heap.size w w' := by
  go_enter Try.func4, Try.ntmps4
  go_wp2_with fail
  obtain ⟨w0, hw0⟩ : ∃ w0 : World, w0 = (w.alloc (.cells #[.int .u64 ((limb 0 (a) : Nat) : Int), .int .u64 ((limb 1 (a) : Nat) : Int), .int .u64 ((limb 2 (a) : Nat) : Int), .int .u64 ((limb 3 (a) : Nat) : Int)] 24)).alloc (.cells #[.int .u64 ((limb 0 (b) : Nat) : Int), .int .u64 ((limb 1 (b) : Nat) : Int), .int .u64 ((limb 2 (b) : Nat) : Int), .int .u64 ((limb 3 (b) : Nat) : Int)] 24) := ⟨_, rfl⟩
  have ba0 : Blk w0 24 w.heap.size (fun i => limb i a) := by rw [hw0]; exact (Blk.newAt _ _ _ (fun i => limb i a) rfl).alloc _
  have bb0 : Blk w0 24 (w.heap.size + 1) (fun i => limb i b) := by rw [hw0]; exact Blk.newAt _ _ _ (fun i => limb i b) (by simp)
  have hb0 : Below w.heap.size w w0 := by
    rw [hw0]
    repeat (first | with_reducible exact Below.refl _ _ | with_reducible refine Below.alloc ?_ (by first | omega | (simp; omega) | simp) _)
  rw [← hw0]
  clear hw0
  refine (alive_any _).mono ?_
  rintro e w1 ⟨rfl, hb1⟩
  have ba1 := ba0.belowAll hb1
  have bb1 := bb0.belowAll hb1
  have hbw1 := bStep hb0 hb1
  clear ba0 bb0 hb0 hb1
  have ca := ba1.cell; have cb := bb1.cell
  go_wp2_with fail
  refine (add_any a b ha hb _).mono ?_
  rintro e w2 ⟨rfl, hb2⟩
  have ba2 := ba1.belowAll hb2
  have bb2 := bb1.belowAll hb2
  have hbw2 := bStep hbw1 hb2
  clear ba1 bb1 hbw1 hb2 ca cb
  have ca := ba2.cell; have cb := bb2.cell; have la := ba2.lt; have lb := bb2.lt
  obtain ⟨hA, hG⟩ := acell (w := w2) (n := w2.heap.size) (Nat.le_refl _)
  go_wp2_with fail
  refine (refAdd_any a b ha hb _).mono ?_
  rintro e w3 ⟨rfl, hb3⟩
  have ba3 := (ba2.alloc _).belowAll hb3
  have bb3 := (bb2.alloc _).belowAll hb3
  have bs3 : Blk w3 24 w2.heap.size (fun i => limb i (add256 a b)) := (Blk.new w2 _ (fun i => limb i (add256 a b))).belowAll hb3
  have hbw3 := bStep (bAlloc hbw2 _) hb3
  clear ba2 bb2 hbw2 hb3 ca cb la lb hA hG
  have ca := ba3.cell; have la := ba3.lt; have cb := bb3.cell; have lb := bb3.lt
  obtain ⟨hA, hG⟩ := acell (w := w3) (n := w3.heap.size) (Nat.le_refl _)
  go_wp2_with fail
  refine (sub_any a b ha hb _).mono ?_
  rintro e w4 ⟨rfl, hb4⟩
  have ba4 := (ba3.alloc _).belowAll hb4
  have bb4 := (bb3.alloc _).belowAll hb4
  have bs4 := (bs3.alloc _).belowAll hb4
  have bt4 : Blk w4 24 w3.heap.size (fun i => limb i (add256 a b)) := (Blk.new w3 _ (fun i => limb i (add256 a b))).belowAll hb4
  have hbw4 := bStep (bAlloc hbw3 _) hb4
  clear ba3 bb3 bs3 hbw3 hb4 ca la cb lb hA hG
  have ca := ba4.cell; have la := ba4.lt; have cb := bb4.cell; have lb := bb4.lt
  obtain ⟨hA, hG⟩ := acell (w := w4) (n := w4.heap.size) (Nat.le_refl _)
  go_wp2_with fail
  refine (refSub_any a b ha hb _).mono ?_
  rintro e w5 ⟨rfl, hb5⟩
  have ba5 := (ba4.alloc _).belowAll hb5
  have bb5 := (bb4.alloc _).belowAll hb5
  have bs5 := (bs4.alloc _).belowAll hb5
  have bt5 := (bt4.alloc _).belowAll hb5
  have bx5 : Blk w5 24 w4.heap.size (fun i => limb i (sub256 a b)) := (Blk.new w4 _ (fun i => limb i (sub256 a b))).belowAll hb5
  have hbw5 := bStep (bAlloc hbw4 _) hb5
  clear ba4 bb4 bs4 bt4 hbw4 hb5 ca cb la lb hA hG
  have ls := add256_lt a b
  have lx := sub256_lt a b
  obtain ⟨s, hs⟩ : ∃ s, s = add256 a b := ⟨_, rfl⟩
  obtain ⟨x, hx⟩ : ∃ x, x = sub256 a b := ⟨_, rfl⟩
  rw [← hs] at ls bs5 bt5 ⊢
  rw [← hx] at lx bx5 ⊢
  clear hs hx
  have n1 := fun w => eqlE s s ls ls w
  rw [show decide (s = s) = true from by simp] at n1
  have n2 := fun w => eqlE x x lx lx w
  rw [show decide (x = x) = true from by simp] at n2
  obtain ⟨ov, hov⟩ : ∃ ov, ov = over256 a b := ⟨_, rfl⟩
  rw [← hov]
  obtain ⟨un, hun⟩ : ∃ un, un = below256 a b := ⟨_, rfl⟩
  rw [← hun]
  have HU := (show Hid _ from hun)
  clear hov hun
  obtain ⟨hA, hG⟩ := acell (w := w5) (n := w5.heap.size) (Nat.le_refl _)
  go_wp2_with fail
  obtain ⟨w6, hw6⟩ : ∃ w6 : World, w6 = w5.alloc (.cells #[.int .u64 ((limb 0 (x) : Nat) : Int), .int .u64 ((limb 1 (x) : Nat) : Int), .int .u64 ((limb 2 (x) : Nat) : Int), .int .u64 ((limb 3 (x) : Nat) : Int)] 24) := ⟨_, rfl⟩
  have ba6 : Blk w6 24 w.heap.size (fun i => limb i a) := by rw [hw6]; exact ba5.alloc _
  have bb6 : Blk w6 24 (w.heap.size + 1) (fun i => limb i b) := by rw [hw6]; exact bb5.alloc _
  have bs6 : Blk w6 24 w2.heap.size (fun i => limb i (s)) := by rw [hw6]; exact bs5.alloc _
  have bt6 : Blk w6 24 w3.heap.size (fun i => limb i (s)) := by rw [hw6]; exact bt5.alloc _
  have bx6 : Blk w6 24 w4.heap.size (fun i => limb i (x)) := by rw [hw6]; exact bx5.alloc _
  have by6 : Blk w6 24 w5.heap.size (fun i => limb i (x)) := by rw [hw6]; exact Blk.new w5 _ (fun i => limb i (x))
  have hbw6 : Below w.heap.size w w6 := by rw [hw6]; exact bAlloc hbw5 _
  rw [← hw6]
  clear hw6 ba5 bb5 bs5 bt5 bx5 hbw5 hA hG
  go_region_held3 (fun w' => (∀ i, i < 4 → w'.cell? ⟨w.heap.size, i, none⟩ = some (.int .u64 ((limb i a : Nat) : Int))) ∧ (∀ i, i < 4 → w'.cell? ⟨w.heap.size + 1, i, none⟩ = some (.int .u64 ((limb i b : Nat) : Int))) ∧ (∀ i, i < 4 → w'.cell? ⟨w2.heap.size, i, none⟩ = some (.int .u64 ((limb i (s) : Nat) : Int))) ∧ (∀ i, i < 4 → w'.cell? ⟨w3.heap.size, i, none⟩ = some (.int .u64 ((limb i (s) : Nat) : Int))) ∧ (∀ i, i < 4 → w'.cell? ⟨w4.heap.size, i, none⟩ = some (.int .u64 ((limb i (x) : Nat) : Int))) ∧ (∀ i, i < 4 → w'.cell? ⟨w5.heap.size, i, none⟩ = some (.int .u64 ((limb i (x) : Nat) : Int))))
    (first | with_reducible exact six_below hb8 (by with_reducible assumption) | with_reducible exact six_below hb7 (by with_reducible assumption) | with_reducible exact ⟨ba6.drew.cell, bb6.drew.cell, bs6.drew.cell, bt6.drew.cell, bx6.drew.cell, by6.drew.cell⟩)
    (first | (go_at_call 15; with_reducible refine (less_any a b ha hb _).mono ?_; rintro e w7 ⟨rfl, hb7⟩; rw [← HU.out]) | (go_at_call 16; with_reducible refine (refLess_any a b ha hb _).mono ?_; rintro e w8 ⟨rfl, hb8⟩; rw [← HU.out]))
  go_wp2
  go_ret
  refine ⟨?_, bStep hbw6.drew (hb7.trans (hb8.mono hb7.size))⟩
  rfl

end Go.Proofs.Ytidnnjbljeemeaa
