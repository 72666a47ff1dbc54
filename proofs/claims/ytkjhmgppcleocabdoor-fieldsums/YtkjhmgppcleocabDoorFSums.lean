/- FieldSums: the walk, for every sort, a, b and n. -/
import Derived.Test.YtkjhmgppcleocabDoorG9
namespace Go.Proofs.YtkjhmgppcleocabDoor
open Go.RowKit

set_option maxHeartbeats 8000000 in
set_option maxRecDepth 20000 in
theorem sums_gen (s n e1 e2 k1 : Int) (a b m x1 x2 x3 x4 : Nat) (hm : m < 115792089237316195423570985008687907853269984665640564039457584007913129639936) (h1 : x1 < 115792089237316195423570985008687907853269984665640564039457584007913129639936) (h2 : x2 < 115792089237316195423570985008687907853269984665640564039457584007913129639936) (h3 : x3 < 115792089237316195423570985008687907853269984665640564039457584007913129639936) (h4 : x4 < 115792089237316195423570985008687907853269984665640564039457584007913129639936) (P : World → Prop) (hPb : ∀ w w' : World, P w → Below w.heap.size w w' → P w')
    (AL : ∀ w, P w → Calls Tryd.prog 7 #[] w fun e w' => e = .returned (.bool true) ∧ Below w.heap.size w w')
    (M1 : ∀ w, P w → Calls Tryd.prog 8 #[.int .i64 s] w fun e w' => e = .returned (.tuple #[.agg #[.int .u64 ((limb 0 (m) : Nat) : Int), .int .u64 ((limb 1 (m) : Nat) : Int), .int .u64 ((limb 2 (m) : Nat) : Int), .int .u64 ((limb 3 (m) : Nat) : Int)], .int .i64 e1]) ∧ Below w.heap.size w w')
    (M2 : ∀ w, P w → Calls Tryd.prog 9 #[.int .i64 s] w fun e w' => e = .returned (.tuple #[.agg #[.int .u64 ((limb 0 (m) : Nat) : Int), .int .u64 ((limb 1 (m) : Nat) : Int), .int .u64 ((limb 2 (m) : Nat) : Int), .int .u64 ((limb 3 (m) : Nat) : Int)], .int .i64 e1]) ∧ Below w.heap.size w w')
    (A1 : ∀ w, P w → Calls Tryd.prog 10 #[.int .i64 s] w fun e w' => e = .returned (.tuple #[.int .i64 k1, .int .i64 e2]) ∧ Below w.heap.size w w')
    (A2 : ∀ w, P w → Calls Tryd.prog 11 #[.int .i64 s] w fun e w' => e = .returned (.tuple #[.int .i64 k1, .int .i64 e2]) ∧ Below w.heap.size w w')
    (D1 : ∀ w, P w → Calls Tryd.prog 12 #[.int .i64 s, .agg #[.int .u64 ((limb 0 (a) : Nat) : Int), .int .u64 ((limb 1 (a) : Nat) : Int), .int .u64 ((limb 2 (a) : Nat) : Int), .int .u64 ((limb 3 (a) : Nat) : Int)], .agg #[.int .u64 ((limb 0 (b) : Nat) : Int), .int .u64 ((limb 1 (b) : Nat) : Int), .int .u64 ((limb 2 (b) : Nat) : Int), .int .u64 ((limb 3 (b) : Nat) : Int)]] w fun e w' => e = .returned (.agg #[.int .u64 ((limb 0 (x1) : Nat) : Int), .int .u64 ((limb 1 (x1) : Nat) : Int), .int .u64 ((limb 2 (x1) : Nat) : Int), .int .u64 ((limb 3 (x1) : Nat) : Int)]) ∧ Below w.heap.size w w')
    (D2 : ∀ w, P w → Calls Tryd.prog 13 #[.int .i64 s, .agg #[.int .u64 ((limb 0 (a) : Nat) : Int), .int .u64 ((limb 1 (a) : Nat) : Int), .int .u64 ((limb 2 (a) : Nat) : Int), .int .u64 ((limb 3 (a) : Nat) : Int)], .agg #[.int .u64 ((limb 0 (b) : Nat) : Int), .int .u64 ((limb 1 (b) : Nat) : Int), .int .u64 ((limb 2 (b) : Nat) : Int), .int .u64 ((limb 3 (b) : Nat) : Int)]] w fun e w' => e = .returned (.agg #[.int .u64 ((limb 0 (x1) : Nat) : Int), .int .u64 ((limb 1 (x1) : Nat) : Int), .int .u64 ((limb 2 (x1) : Nat) : Int), .int .u64 ((limb 3 (x1) : Nat) : Int)]) ∧ Below w.heap.size w w')
    (D3 : ∀ w, P w → Calls Tryd.prog 14 #[.int .i64 s, .agg #[.int .u64 ((limb 0 (a) : Nat) : Int), .int .u64 ((limb 1 (a) : Nat) : Int), .int .u64 ((limb 2 (a) : Nat) : Int), .int .u64 ((limb 3 (a) : Nat) : Int)], .agg #[.int .u64 ((limb 0 (b) : Nat) : Int), .int .u64 ((limb 1 (b) : Nat) : Int), .int .u64 ((limb 2 (b) : Nat) : Int), .int .u64 ((limb 3 (b) : Nat) : Int)]] w fun e w' => e = .returned (.agg #[.int .u64 ((limb 0 (x2) : Nat) : Int), .int .u64 ((limb 1 (x2) : Nat) : Int), .int .u64 ((limb 2 (x2) : Nat) : Int), .int .u64 ((limb 3 (x2) : Nat) : Int)]) ∧ Below w.heap.size w w')
    (D4 : ∀ w, P w → Calls Tryd.prog 15 #[.int .i64 s, .agg #[.int .u64 ((limb 0 (a) : Nat) : Int), .int .u64 ((limb 1 (a) : Nat) : Int), .int .u64 ((limb 2 (a) : Nat) : Int), .int .u64 ((limb 3 (a) : Nat) : Int)], .agg #[.int .u64 ((limb 0 (b) : Nat) : Int), .int .u64 ((limb 1 (b) : Nat) : Int), .int .u64 ((limb 2 (b) : Nat) : Int), .int .u64 ((limb 3 (b) : Nat) : Int)]] w fun e w' => e = .returned (.agg #[.int .u64 ((limb 0 (x2) : Nat) : Int), .int .u64 ((limb 1 (x2) : Nat) : Int), .int .u64 ((limb 2 (x2) : Nat) : Int), .int .u64 ((limb 3 (x2) : Nat) : Int)]) ∧ Below w.heap.size w w')
    (D5 : ∀ w, P w → Calls Tryd.prog 16 #[.int .i64 s, .agg #[.int .u64 ((limb 0 (a) : Nat) : Int), .int .u64 ((limb 1 (a) : Nat) : Int), .int .u64 ((limb 2 (a) : Nat) : Int), .int .u64 ((limb 3 (a) : Nat) : Int)]] w fun e w' => e = .returned (.agg #[.int .u64 ((limb 0 (x3) : Nat) : Int), .int .u64 ((limb 1 (x3) : Nat) : Int), .int .u64 ((limb 2 (x3) : Nat) : Int), .int .u64 ((limb 3 (x3) : Nat) : Int)]) ∧ Below w.heap.size w w')
    (D6 : ∀ w, P w → Calls Tryd.prog 17 #[.int .i64 s, .agg #[.int .u64 ((limb 0 (a) : Nat) : Int), .int .u64 ((limb 1 (a) : Nat) : Int), .int .u64 ((limb 2 (a) : Nat) : Int), .int .u64 ((limb 3 (a) : Nat) : Int)]] w fun e w' => e = .returned (.agg #[.int .u64 ((limb 0 (x3) : Nat) : Int), .int .u64 ((limb 1 (x3) : Nat) : Int), .int .u64 ((limb 2 (x3) : Nat) : Int), .int .u64 ((limb 3 (x3) : Nat) : Int)]) ∧ Below w.heap.size w w')
    (D7 : ∀ w, P w → Calls Tryd.prog 18 #[.int .i64 s, .int .i64 n] w fun e w' => e = .returned (.agg #[.int .u64 ((limb 0 (x4) : Nat) : Int), .int .u64 ((limb 1 (x4) : Nat) : Int), .int .u64 ((limb 2 (x4) : Nat) : Int), .int .u64 ((limb 3 (x4) : Nat) : Int)]) ∧ Below w.heap.size w w')
    (D8 : ∀ w, P w → Calls Tryd.prog 19 #[.int .i64 s, .int .i64 n] w fun e w' => e = .returned (.agg #[.int .u64 ((limb 0 (x4) : Nat) : Int), .int .u64 ((limb 1 (x4) : Nat) : Int), .int .u64 ((limb 2 (x4) : Nat) : Int), .int .u64 ((limb 3 (x4) : Nat) : Int)]) ∧ Below w.heap.size w w')
    (w : World) (hP : P w) :
    Calls Tryd.prog 3 #[.int .i64 s, .agg #[.int .u64 ((limb 0 (a) : Nat) : Int), .int .u64 ((limb 1 (a) : Nat) : Int), .int .u64 ((limb 2 (a) : Nat) : Int), .int .u64 ((limb 3 (a) : Nat) : Int)], .agg #[.int .u64 ((limb 0 (b) : Nat) : Int), .int .u64 ((limb 1 (b) : Nat) : Int), .int .u64 ((limb 2 (b) : Nat) : Int), .int .u64 ((limb 3 (b) : Nat) : Int)], .int .i64 n] w fun e w' => e = .returned (.bool true) ∧ Below w.heap.size w w' := by
  have qm := fun w => eqlE m m hm hm w
  rw [show decide (m = m) = true from by simp] at qm
  have q1 := fun w => eqlE x1 x1 h1 h1 w
  rw [show decide (x1 = x1) = true from by simp] at q1
  have q2 := fun w => eqlE x2 x2 h2 h2 w
  rw [show decide (x2 = x2) = true from by simp] at q2
  have q3 := fun w => eqlE x3 x3 h3 h3 w
  rw [show decide (x3 = x3) = true from by simp] at q3
  have q4 := fun w => eqlE x4 x4 h4 h4 w
  rw [show decide (x4 = x4) = true from by simp] at q4
  clear hm h1 h2 h3 h4
  go_enter Tryd.func3, Tryd.ntmps3
  go_wp2_with fail
  obtain ⟨w0, hw0⟩ : ∃ w0 : World, w0 = (w.alloc (.cells #[.int .u64 ((limb 0 (a) : Nat) : Int), .int .u64 ((limb 1 (a) : Nat) : Int), .int .u64 ((limb 2 (a) : Nat) : Int), .int .u64 ((limb 3 (a) : Nat) : Int)] 24)).alloc (.cells #[.int .u64 ((limb 0 (b) : Nat) : Int), .int .u64 ((limb 1 (b) : Nat) : Int), .int .u64 ((limb 2 (b) : Nat) : Int), .int .u64 ((limb 3 (b) : Nat) : Int)] 24) := ⟨_, rfl⟩
  have ba0 : Blk w0 24 w.heap.size (fun i => limb i a) := by rw [hw0]; exact (Blk.newAt _ _ _ (fun i => limb i a) (by simp)).alloc _
  have bb0 : Blk w0 24 (w.heap.size + 1) (fun i => limb i b) := by rw [hw0]; exact Blk.newAt _ _ _ (fun i => limb i b) (by simp)
  have hb0 : Below w.heap.size w w0 := by rw [hw0]; exact bAlloc ((Below.refl _ _).alloc (Nat.le_refl _) _) _
  have hp0 : P w0 := hPb _ _ hP hb0
  rw [← hw0]
  clear hw0 hP
  refine (AL _ hp0).mono ?_
  rintro e w1 ⟨rfl, hb1⟩
  have ba1 := ba0.belowAll hb1; have bb1 := bb0.belowAll hb1; have hp1 := hPb _ _ hp0 hb1
  have hbw1 := bStep hb0 hb1
  clear ba0 bb0 hb0 hb1 hp0 AL
  go_wp2_with fail
  refine (M1 _ hp1).mono ?_
  rintro e w2 ⟨rfl, hb2⟩
  have ba2 := ba1.belowAll hb2; have bb2 := bb1.belowAll hb2; have hp2 := hPb _ _ hp1 hb2
  have hbw2 := bStep hbw1 hb2
  clear ba1 bb1 hbw1 hb2 hp1 M1
  have hpA : P (w2.alloc (.cells #[.int .u64 ((limb 0 (m) : Nat) : Int), .int .u64 ((limb 1 (m) : Nat) : Int), .int .u64 ((limb 2 (m) : Nat) : Int), .int .u64 ((limb 3 (m) : Nat) : Int)] 24)) := hPb _ _ hp2 ((Below.refl _ _).alloc (Nat.le_refl _) _)
  go_wp2_with fail
  refine (M2 _ hpA).mono ?_
  rintro e w3 ⟨rfl, hb3⟩
  have ba3 := (ba2.alloc _).belowAll hb3; have bb3 := (bb2.alloc _).belowAll hb3; have hp3 := hPb _ _ hpA hb3
  have bm3 : Blk w3 24 w2.heap.size (fun i => limb i m) := (Blk.new w2 _ (fun i => limb i m)).belowAll hb3
  have hbw3 := bStep (bAlloc hbw2 _) hb3
  clear ba2 bb2 hbw2 hb3 hp2 hpA M2
  have hpA : P (w3.alloc (.cells #[.int .u64 ((limb 0 (m) : Nat) : Int), .int .u64 ((limb 1 (m) : Nat) : Int), .int .u64 ((limb 2 (m) : Nat) : Int), .int .u64 ((limb 3 (m) : Nat) : Int)] 24)) := hPb _ _ hp3 ((Below.refl _ _).alloc (Nat.le_refl _) _)
  go_wp2_with fail
  refine (A1 _ hpA).mono ?_
  rintro e w4 ⟨rfl, hb4⟩
  have ba4 := (ba3.alloc _).belowAll hb4; have bb4 := (bb3.alloc _).belowAll hb4; have bm4 := (bm3.alloc _).belowAll hb4; have hp4 := hPb _ _ hpA hb4
  have bk4 : Blk w4 24 w3.heap.size (fun i => limb i m) := (Blk.new w3 _ (fun i => limb i m)).belowAll hb4
  have hbw4 := bStep (bAlloc hbw3 _) hb4
  clear ba3 bb3 bm3 hbw3 hb4 hp3 hpA A1
  go_wp2_with fail
  refine (A2 _ hp4).mono ?_
  rintro e w5 ⟨rfl, hb5⟩
  have ba5 := ba4.belowAll hb5; have bb5 := bb4.belowAll hb5; have bm5 := bm4.belowAll hb5; have bk5 := bk4.belowAll hb5; have hp5 := hPb _ _ hp4 hb5
  have hbw5 := bStep hbw4 hb5
  have hp6d : P w5.drew := hPb _ _ hp5 (Below.refl _ _).drew
  clear ba4 bb4 bm4 bk4 hbw4 hb5 hp4 hp5 A2
  go_wp2_with fail
  go_region_held3 (fun w' => (∀ i, i < 4 → w'.cell? ⟨w.heap.size, i, none⟩ = some (.int .u64 ((limb i a : Nat) : Int))) ∧ (∀ i, i < 4 → w'.cell? ⟨(w.heap.size + 1), i, none⟩ = some (.int .u64 ((limb i b : Nat) : Int))) ∧ (∀ i, i < 4 → w'.cell? ⟨w2.heap.size, i, none⟩ = some (.int .u64 ((limb i m : Nat) : Int))) ∧ (∀ i, i < 4 → w'.cell? ⟨w3.heap.size, i, none⟩ = some (.int .u64 ((limb i m : Nat) : Int))))
    (first | with_reducible exact hold4 hb14 (by with_reducible assumption) | with_reducible exact hold4 hb13 (by with_reducible assumption) | with_reducible exact hold4 hb12 (by with_reducible assumption) | with_reducible exact hold4 hb11 (by with_reducible assumption) | with_reducible exact hold4 hb10 (by with_reducible assumption) | with_reducible exact hold4 hb9 (by with_reducible assumption) | with_reducible exact hold4 hb8 (by with_reducible assumption) | with_reducible exact hold4 hb7 (by with_reducible assumption) | with_reducible exact ⟨ba5.drew.cell, bb5.drew.cell, bm5.drew.cell, bk5.drew.cell⟩)
    (first | (go_at_call 12; with_reducible refine (D1 _ hp6d).mono ?_; rintro e w7 ⟨rfl, hb7⟩; have hp7 := hPb _ _ hp6d hb7) | (go_at_call 13; with_reducible refine (D2 _ hp7).mono ?_; rintro e w8 ⟨rfl, hb8⟩; have hp8 := hPb _ _ hp7 hb8) | (go_at_call 14; with_reducible refine (D3 _ hp8).mono ?_; rintro e w9 ⟨rfl, hb9⟩; have hp9 := hPb _ _ hp8 hb9) | (go_at_call 15; with_reducible refine (D4 _ hp9).mono ?_; rintro e w10 ⟨rfl, hb10⟩; have hp10 := hPb _ _ hp9 hb10) | (go_at_call 16; with_reducible refine (D5 _ hp10).mono ?_; rintro e w11 ⟨rfl, hb11⟩; have hp11 := hPb _ _ hp10 hb11) | (go_at_call 17; with_reducible refine (D6 _ hp11).mono ?_; rintro e w12 ⟨rfl, hb12⟩; have hp12 := hPb _ _ hp11 hb12) | (go_at_call 18; with_reducible refine (D7 _ hp12).mono ?_; rintro e w13 ⟨rfl, hb13⟩; have hp13 := hPb _ _ hp12 hb13) | (go_at_call 19; with_reducible refine (D8 _ hp13).mono ?_; rintro e w14 ⟨rfl, hb14⟩; have hp14 := hPb _ _ hp13 hb14) | fail)
  have hbw14 := bStep (bStep (bStep (bStep (bStep (bStep (bStep (bStep hbw5.drew hb7) hb8) hb9) hb10) hb11) hb12) hb13) hb14
  clear ba5 bb5 bm5 bk5 hbw5 hb7 hb8 hb9 hb10 hb11 hb12 hb13 hb14
  go_wp2
  go_ret
  exact ⟨rfl, hbw14⟩

theorem sums_walk (s : Int) (a b : Nat) (n : Int) (ha : a < 115792089237316195423570985008687907853269984665640564039457584007913129639936) (hb : b < 115792089237316195423570985008687907853269984665640564039457584007913129639936) (w : World) (hg : Glob w) :
    Calls Tryd.prog 3 #[.int .i64 s, .agg #[.int .u64 ((limb 0 (a) : Nat) : Int), .int .u64 ((limb 1 (a) : Nat) : Int), .int .u64 ((limb 2 (a) : Nat) : Int), .int .u64 ((limb 3 (a) : Nat) : Int)], .agg #[.int .u64 ((limb 0 (b) : Nat) : Int), .int .u64 ((limb 1 (b) : Nat) : Int), .int .u64 ((limb 2 (b) : Nat) : Int), .int .u64 ((limb 3 (b) : Nat) : Int)], .int .i64 n] w fun e w' => e = .returned (.bool true) ∧ Below w.heap.size w w' := by
  by_cases h : s < 0 ∨ 4 ≤ s
  · have z : (.agg #[.int .u64 ((limb 0 (0) : Nat) : Int), .int .u64 ((limb 1 (0) : Nat) : Int), .int .u64 ((limb 2 (0) : Nat) : Int), .int .u64 ((limb 3 (0) : Nat) : Int)] : Value) = .agg #[.int .u64 0, .int .u64 0, .int .u64 0, .int .u64 0] := by rw [limbz, limbz, limbz, limbz]; rfl
    refine sums_gen s n 20 20 0 a b 0 0 0 0 0 (by decide) (by decide) (by decide) (by decide) (by decide) Glob (fun _ _ hg hb => hg.below hb) (fun w hg => alive2_any w hg) ?_ ?_ ?_ ?_ ?_ ?_ ?_ ?_ ?_ ?_ ?_ ?_ w hg
    · intro w _; rw [z]; exact fModulus_out s h w
    · intro w _; rw [z]; exact ref2Modulus_out s h w
    · intro w _; exact fAdicity_out s h w
    · intro w _; exact ref2Adicity_out s h w
    · intro w _; rw [z]; exact fAdd_out s a b h w
    · intro w _; rw [z]; exact ref2Add_out s h a b w
    · intro w _; rw [z]; exact fSub_out s h a b w
    · intro w _; rw [z]; exact ref2Sub_out s h a b w
    · intro w _; rw [z]; exact fNeg_out s h a w
    · intro w _; rw [z]; exact ref2Neg_out s h a w
    · intro w _; rw [z]; exact fInt_out s n h w
    · intro w _; rw [z]; exact rInt_out s n h w
  · obtain ⟨k, rfl⟩ := Int.eq_ofNat_of_zero_le (show 0 ≤ s by omega)
    have hk : k < 4 := by omega
    have hM := modN_lt k
    have l1 := addP_lt k a b; have l2 := subP_lt k a b; have l3 := subP_lt k 0 a; have l4 := intP_lt k n
    exact sums_gen k n 0 0 (adicN k) a b (modN k) (addP k a b) (subP k a b) (subP k 0 a) (intP k n) (by omega) (by omega) (by omega) (by omega) (by omega) Glob (fun _ _ hg hb => hg.below hb) (fun w hg => alive2_any w hg)
      (fun w hg => fModulus_any k hk w hg) (fun w _ => ref2Modulus_any k hk w) (fun w hg => fAdicity_any k hk w hg) (fun w _ => ref2Adicity_any k hk w)
      (fun w hg => fAdd_any k a b hk ha hb w hg) (fun w _ => ref2Add_any k a b hk ha hb w) (fun w hg => fSub_any k a b hk ha hb w hg) (fun w _ => ref2Sub_any k a b hk ha hb w)
      (fun w hg => fNeg_any k a hk ha w hg) (fun w _ => ref2Neg_any k a hk ha w) (fun w hg => fInt_any k n hk w hg) (fun w _ => rInt_any k n hk w) w hg

end Go.Proofs.YtkjhmgppcleocabDoor
