/- FieldLaws: the walk: for every sort, a, b and c the call returns true, where the package's variables read as the text lays them. -/
import Derived.Test.YtlndeghggdpmaacDoorF14
namespace Go.Proofs.YtlndeghggdpmaacDoor
open Go.RowKit

theorem fAdd_zero (s b : Nat) (hs : s < 4) (hb : b < 115792089237316195423570985008687907853269984665640564039457584007913129639936) (w : World) (hg : Glob w) :
    Calls Tryd.prog 17 #[.int .i64 (s : Int), .agg #[.int .u64 ((limb 0 (b) : Nat) : Int), .int .u64 ((limb 1 (b) : Nat) : Int), .int .u64 ((limb 2 (b) : Nat) : Int), .int .u64 ((limb 3 (b) : Nat) : Int)], .agg #[.int .u64 0, .int .u64 0, .int .u64 0, .int .u64 0]] w fun e w' => e = .returned (.agg #[.int .u64 ((limb 0 (addP s b 0) : Nat) : Int), .int .u64 ((limb 1 (addP s b 0) : Nat) : Int), .int .u64 ((limb 2 (addP s b 0) : Nat) : Int), .int .u64 ((limb 3 (addP s b 0) : Nat) : Int)]) ∧ Below w.heap.size w w' := by
  have h := fAdd_any s b 0 hs hb (by decide) w hg
  rw [limbz, limbz, limbz, limbz] at h
  exact h
theorem Glob.drew {w : World} (h : Glob w) : Glob w.drew := h

set_option maxHeartbeats 8000000 in
set_option maxRecDepth 20000 in
theorem laws_in (s a b c : Nat) (hs : s < 4) (ha : a < 115792089237316195423570985008687907853269984665640564039457584007913129639936) (hb : b < 115792089237316195423570985008687907853269984665640564039457584007913129639936) (hc : c < 115792089237316195423570985008687907853269984665640564039457584007913129639936) (w : World) (hg : Glob w) :
    Calls Tryd.prog 4 #[.int .i64 (s : Int), .agg #[.int .u64 ((limb 0 (a) : Nat) : Int), .int .u64 ((limb 1 (a) : Nat) : Int), .int .u64 ((limb 2 (a) : Nat) : Int), .int .u64 ((limb 3 (a) : Nat) : Int)], .agg #[.int .u64 ((limb 0 (b) : Nat) : Int), .int .u64 ((limb 1 (b) : Nat) : Int), .int .u64 ((limb 2 (b) : Nat) : Int), .int .u64 ((limb 3 (b) : Nat) : Int)], .agg #[.int .u64 ((limb 0 (c) : Nat) : Int), .int .u64 ((limb 1 (c) : Nat) : Int), .int .u64 ((limb 2 (c) : Nat) : Int), .int .u64 ((limb 3 (c) : Nat) : Int)]] w fun e w' => e = .returned (.bool true) ∧ Below w.heap.size w w' := by
  have hM := modN_lt s
  have lAB := mulP_lt s a b; have lSM := addP_lt s b c; have lBC := mulP_lt s b c; have lAC := mulP_lt s a c
  have CAB := fun w hg => fMul_any s a b hs ha hb w hg
  have CSM := fun w hg => fAdd_any s b c hs hb hc w hg
  have CBA := fun w hg => fMul_any s b a hs hb ha w hg
  have CBC := fun w hg => fMul_any s b c hs hb hc w hg
  have CAC := fun w hg => fMul_any s a c hs ha hc w hg
  have C6 := fun w hg => fAdd_zero s b hs hb w hg
  have CN := fun w hg => fNeg_any s a hs ha w hg
  have CI := fun w hg => fInv_any s a hs ha w hg
  rw [mulP_comm s a b] at CBA
  obtain ⟨AB, eAB⟩ : ∃ x, x = mulP s a b := ⟨_, rfl⟩
  obtain ⟨SM, eSM⟩ : ∃ x, x = addP s b c := ⟨_, rfl⟩
  obtain ⟨BC, eBC⟩ : ∃ x, x = mulP s b c := ⟨_, rfl⟩
  obtain ⟨AC, eAC⟩ : ∃ x, x = mulP s a c := ⟨_, rfl⟩
  rw [← eAB] at lAB CAB CBA
  rw [← eSM] at lSM CSM
  rw [← eBC] at lBC CBC
  rw [← eAC] at lAC CAC
  have C1 := fun w hg => fMul_any s AB c hs (by omega) hc w hg
  have C2 := fun w hg => fMul_any s a BC hs ha (by omega) w hg
  have C3 := fun w hg => fMul_any s a SM hs ha (by omega) w hg
  have C4 := fun w hg => fAdd_any s AB AC hs (by omega) (by omega) w hg
  have C5 := fun w hg => fSub_any s SM c hs (by omega) hc w hg
  rw [eBC, mulP_assoc, ← eAB, ← eBC] at C2
  rw [eAB, eAC, mulP_add, ← eAB, ← eAC, ← eSM] at C4
  rw [subP_back s b c, ← eSM] at C6
  have l1 := mulP_lt s AB c; have l2 := mulP_lt s a SM; have l3 := subP_lt s SM c
  obtain ⟨X1, eX1⟩ : ∃ x, x = mulP s AB c := ⟨_, rfl⟩
  obtain ⟨X2, eX2⟩ : ∃ x, x = mulP s a SM := ⟨_, rfl⟩
  obtain ⟨X3, eX3⟩ : ∃ x, x = subP s SM c := ⟨_, rfl⟩
  rw [← eX1] at l1 C1 C2
  rw [← eX2] at l2 C3 C4
  rw [← eX3] at l3 C5 C6
  have n1 := fun w => neqE AB AB (by omega) (by omega) w
  rw [show decide (AB = AB) = true from by simp] at n1
  have n2 := fun w => neqE X1 X1 (by omega) (by omega) w
  rw [show decide (X1 = X1) = true from by simp] at n2
  have n3 := fun w => neqE X2 X2 (by omega) (by omega) w
  rw [show decide (X2 = X2) = true from by simp] at n3
  have n4 := fun w => neqE X3 X3 (by omega) (by omega) w
  rw [show decide (X3 = X3) = true from by simp] at n4
  clear eAB eSM eBC eAC eX1 eX2 eX3
  have hi0 : ¬ (s : Int) < 0 := by omega
  have hi3 : ¬ (3 : Int) < (s : Int) := by omega
  go_enter Tryd.func4, Tryd.ntmps4
  go_wp2_with fail
  obtain ⟨w0, hw0⟩ : ∃ w0 : World, w0 = ((w.alloc (.cells #[.int .u64 ((limb 0 (a) : Nat) : Int), .int .u64 ((limb 1 (a) : Nat) : Int), .int .u64 ((limb 2 (a) : Nat) : Int), .int .u64 ((limb 3 (a) : Nat) : Int)] 24)).alloc (.cells #[.int .u64 ((limb 0 (b) : Nat) : Int), .int .u64 ((limb 1 (b) : Nat) : Int), .int .u64 ((limb 2 (b) : Nat) : Int), .int .u64 ((limb 3 (b) : Nat) : Int)] 24)).alloc (.cells #[.int .u64 ((limb 0 (c) : Nat) : Int), .int .u64 ((limb 1 (c) : Nat) : Int), .int .u64 ((limb 2 (c) : Nat) : Int), .int .u64 ((limb 3 (c) : Nat) : Int)] 24) := ⟨_, rfl⟩
  have ba0 : Blk w0 24 w.heap.size (fun i => limb i a) := by rw [hw0]; exact ((Blk.newAt _ _ _ (fun i => limb i a) (by simp)).alloc _).alloc _
  have bb0 : Blk w0 24 (w.heap.size + 1) (fun i => limb i b) := by rw [hw0]; exact (Blk.newAt _ _ _ (fun i => limb i b) (by simp)).alloc _
  have bc0 : Blk w0 24 (w.heap.size + 1 + 1) (fun i => limb i c) := by rw [hw0]; exact Blk.newAt _ _ _ (fun i => limb i c) (by simp)
  have hg0 : Glob w0 := by rw [hw0]; exact ((hg.alloc _).alloc _).alloc _
  have hb0 : Below w.heap.size w w0 := by
    rw [hw0]
    repeat (first | with_reducible exact Below.refl _ _ | with_reducible refine Below.alloc ?_ (by first | omega | (simp; omega) | simp) _)
  rw [← hw0]
  clear hw0 hg
  refine (alive2_any _ hg0).mono ?_
  rintro e w1 ⟨rfl, hb1⟩
  have ba1 := ba0.belowAll hb1; have bb1 := bb0.belowAll hb1; have bc1 := bc0.belowAll hb1; have hg1 := hg0.below hb1
  have hbw1 := bStep hb0 hb1
  clear ba0 bb0 bc0 hb0 hb1 hg0
  have ca := ba1.cell; have cb := bb1.cell
  go_wp2_with fail
  refine (CAB _ hg1).mono ?_
  rintro e w2 ⟨rfl, hb2⟩
  have ba2 := ba1.belowAll hb2; have bb2 := bb1.belowAll hb2; have bc2 := bc1.belowAll hb2; have hg2 := hg1.below hb2
  have hbw2 := bStep hbw1 hb2
  clear ba1 bb1 bc1 hbw1 hb2 hg1 ca cb CAB
  have cb := bb2.cell; have cc := bc2.cell; have lb := bb2.lt; have lc := bc2.lt
  obtain ⟨hA, hG⟩ := acell (w := w2) (n := w2.heap.size) (Nat.le_refl _)
  go_wp2_with fail
  refine (CSM _ (hg2.alloc _)).mono ?_
  rintro e w3 ⟨rfl, hb3⟩
  have ba3 := (ba2.alloc _).belowAll hb3; have bb3 := (bb2.alloc _).belowAll hb3; have bc3 := (bc2.alloc _).belowAll hb3; have hg3 := (hg2.alloc _).below hb3
  have bAB3 : Blk w3 24 w2.heap.size (fun i => limb i AB) := (Blk.new w2 _ (fun i => limb i AB)).belowAll hb3
  have hbw3 := bStep (bAlloc hbw2 _) hb3
  clear ba2 bb2 bc2 hbw2 hb3 hg2 cb cc lb lc hA hG CSM
  go_wp2_with fail
  obtain ⟨w4, hw4⟩ : ∃ w4 : World, w4 = w3.alloc (.cells #[.int .u64 ((limb 0 (SM) : Nat) : Int), .int .u64 ((limb 1 (SM) : Nat) : Int), .int .u64 ((limb 2 (SM) : Nat) : Int), .int .u64 ((limb 3 (SM) : Nat) : Int)] 24) := ⟨_, rfl⟩
  have ba4 : Blk w4 24 w.heap.size (fun i => limb i a) := by rw [hw4]; exact ba3.alloc _
  have bb4 : Blk w4 24 (w.heap.size + 1) (fun i => limb i b) := by rw [hw4]; exact bb3.alloc _
  have bc4 : Blk w4 24 (w.heap.size + 1 + 1) (fun i => limb i c) := by rw [hw4]; exact bc3.alloc _
  have bAB4 : Blk w4 24 w2.heap.size (fun i => limb i AB) := by rw [hw4]; exact bAB3.alloc _
  have bSM4 : Blk w4 24 w3.heap.size (fun i => limb i SM) := by rw [hw4]; exact Blk.new w3 _ (fun i => limb i SM)
  have hg4 : Glob w4 := by rw [hw4]; exact hg3.alloc _
  have hbw4 : Below w.heap.size w w4 := by rw [hw4]; exact bAlloc hbw3 _
  rw [← hw4]
  clear hw4 ba3 bb3 bc3 bAB3 hg3 hbw3
  go_region_held3 (fun w' => (∀ i, i < 4 → w'.cell? ⟨w.heap.size, i, none⟩ = some (.int .u64 ((limb i a : Nat) : Int))) ∧ (∀ i, i < 4 → w'.cell? ⟨(w.heap.size + 1), i, none⟩ = some (.int .u64 ((limb i b : Nat) : Int))) ∧ (∀ i, i < 4 → w'.cell? ⟨(w.heap.size + 1 + 1), i, none⟩ = some (.int .u64 ((limb i c : Nat) : Int))) ∧ (∀ i, i < 4 → w'.cell? ⟨w2.heap.size, i, none⟩ = some (.int .u64 ((limb i AB : Nat) : Int))) ∧ (∀ i, i < 4 → w'.cell? ⟨w3.heap.size, i, none⟩ = some (.int .u64 ((limb i SM : Nat) : Int))))
    (first | with_reducible exact hold5 hb13 (by with_reducible assumption) | with_reducible exact hold5 hb12 (by with_reducible assumption) | with_reducible exact hold5 hb11 (by with_reducible assumption) | with_reducible exact hold5 hb10 (by with_reducible assumption) | with_reducible exact hold5 hb9 (by with_reducible assumption) | with_reducible exact hold5 hb8 (by with_reducible assumption) | with_reducible exact hold5 hb7 (by with_reducible assumption) | with_reducible exact hold5 hb6 (by with_reducible assumption) | with_reducible exact hold5 hb5 (by with_reducible assumption) | with_reducible exact ⟨ba4.drew.cell, bb4.drew.cell, bc4.drew.cell, bAB4.drew.cell, bSM4.drew.cell⟩)
    (first | (go_at_call 18; with_reducible refine (CBA _ hg4.drew).mono ?_; rintro e w5 ⟨rfl, hb5⟩; have hg5 := (hg4.drew).below hb5) | (go_at_call 18; with_reducible refine (C1 _ hg5).mono ?_; rintro e w6 ⟨rfl, hb6⟩; have hg6 := (hg5).below hb6) | (go_at_call 18; with_reducible refine (CBC _ hg6).mono ?_; rintro e w7 ⟨rfl, hb7⟩; have hg7 := (hg6).below hb7) | (go_at_call 18; with_reducible refine (C2 _ hg7).mono ?_; rintro e w8 ⟨rfl, hb8⟩; have hg8 := (hg7).below hb8) | (go_at_call 18; with_reducible refine (C3 _ hg8).mono ?_; rintro e w9 ⟨rfl, hb9⟩; have hg9 := (hg8).below hb9) | (go_at_call 18; with_reducible refine (CAC _ hg9).mono ?_; rintro e w10 ⟨rfl, hb10⟩; have hg10 := (hg9).below hb10) | (go_at_call 17; with_reducible refine (C4 _ hg10).mono ?_; rintro e w11 ⟨rfl, hb11⟩; have hg11 := (hg10).below hb11) | (go_at_call 19; with_reducible refine (C5 _ hg11).mono ?_; rintro e w12 ⟨rfl, hb12⟩; have hg12 := (hg11).below hb12) | (go_at_call 17; with_reducible refine (C6 _ hg12).mono ?_; rintro e w13 ⟨rfl, hb13⟩; have hg13 := (hg12).below hb13) | fail)
  have hbw13 := bStep (bStep (bStep (bStep (bStep (bStep (bStep (bStep (bStep hbw4.drew hb5) hb6) hb7) hb8) hb9) hb10) hb11) hb12) hb13
  have ba13 := ((((((((ba4.drew.belowAll hb5).belowAll hb6).belowAll hb7).belowAll hb8).belowAll hb9).belowAll hb10).belowAll hb11).belowAll hb12).belowAll hb13
  clear ba4 bb4 bc4 bAB4 bSM4 hbw4 hb5 hb6 hb7 hb8 hb9 hb10 hb11 hb12 hb13 hg4 hg5 hg6 hg7 hg8 hg9 hg10 hg11 hg12 n1 n2 n3 n4 C1 C2 C3 C4 C5 C6 CBA CBC CAC
  have la := ba13.lt
  have hsl := subP_lt s 0 a
  have C7 := fun w hg => fAdd_any s a (subP s 0 a) hs ha (by omega) w hg
  rw [negP_zero] at C7
  have n5 := fun w => neqE 0 0 (by decide) (by decide) w
  rw [show decide ((0 : Nat) = 0) = true from by decide] at n5
  go_wp2_with fail
  obtain ⟨w14, hw14⟩ : ∃ w14 : World, w14 = w13.alloc (.cells #[.int .u64 0, .int .u64 0, .int .u64 0, .int .u64 0] 24) := ⟨_, rfl⟩
  have ba14 : Blk w14 24 w.heap.size (fun i => limb i a) := by rw [hw14]; exact ba13.alloc _
  have bz14 : Blk w14 24 w13.heap.size (fun i => limb i 0) := by rw [hw14]; exact (Blk.new w13 _ (fun _ => 0)).congr (fun i _ => limbz i)
  have hg14 : Glob w14 := by rw [hw14]; exact hg13.alloc _
  have hbw14 : Below w.heap.size w w14 := by rw [hw14]; exact bAlloc hbw13 _
  rw [← hw14]
  clear hw14 ba13 hg13 hbw13
  go_region_held3 (fun w' => (∀ i, i < 4 → w'.cell? ⟨w.heap.size, i, none⟩ = some (.int .u64 ((limb i a : Nat) : Int))) ∧ (∀ i, i < 4 → w'.cell? ⟨w13.heap.size, i, none⟩ = some (.int .u64 ((limb i 0 : Nat) : Int))))
    (first | with_reducible exact hold2 hb16 (by with_reducible assumption) | with_reducible exact hold2 hb15 (by with_reducible assumption) | with_reducible exact ⟨ba14.drew.cell, bz14.drew.cell⟩)
    (first | (go_at_call 20; with_reducible refine (CN _ hg14.drew).mono ?_; rintro e w15 ⟨rfl, hb15⟩; have hg15 := hg14.drew.below hb15) | (go_at_call 17; with_reducible refine (C7 _ hg15).mono ?_; rintro e w16 ⟨rfl, hb16⟩; have hg16 := hg15.below hb16) | fail)
  have hbw16 := bStep (bStep hbw14.drew hb15) hb16
  have ba16 := (ba14.drew.belowAll hb15).belowAll hb16; have bz16 := (bz14.drew.belowAll hb15).belowAll hb16
  clear ba14 bz14 hg14 hg15 hbw14 hb15 hb16 n5 C7 CN
  have ca := ba16.cell
  go_wp2_with fail
  refine (CI _ hg16).mono ?_
  rintro e w17 ⟨he, hb17⟩
  have ba17 := ba16.belowAll hb17; have bz17 := bz16.belowAll hb17; have hg17 := hg16.below hb17
  have hbw17 := bStep hbw16 hb17
  clear ba16 bz16 hg16 hbw16 hb17 ca CI
  have ca := ba17.cell; have cz := bz17.cell; have la := ba17.lt; have lz := bz17.lt
  obtain ⟨hA, hG⟩ := acell (w := w17) (n := w17.heap.size) (Nat.le_refl _)
  rcases he with ⟨h0, rfl⟩ | ⟨h0, q, lq, hq, rfl⟩
  · have C9 := fun w hg => fAdd_any s a 0 hs ha (by decide) w hg
    rw [zeroP s a h0] at C9
    have n6 := fun w => eqlE 0 0 (by decide) (by decide) w
    rw [show decide ((0 : Nat) = 0) = true from by decide] at n6
    clear h0 ca cz
    go_wp2_with fail
    obtain ⟨w18, hw18⟩ : ∃ w18 : World, w18 = w17.alloc (.cells #[.int .u64 0, .int .u64 0, .int .u64 0, .int .u64 0] 24) := ⟨_, rfl⟩
    have ba18 : Blk w18 24 w.heap.size (fun i => limb i a) := by rw [hw18]; exact ba17.alloc _
    have bz18 : Blk w18 24 w13.heap.size (fun i => limb i 0) := by rw [hw18]; exact bz17.alloc _
    have hg18 : Glob w18 := by rw [hw18]; exact hg17.alloc _
    have hbw18 : Below w.heap.size w w18 := by rw [hw18]; exact bAlloc hbw17 _
    rw [← hw18]
    clear hw18 ba17 bz17 hg17 hbw17 hA hG
    go_region_held3 (fun w' => (∀ i, i < 4 → w'.cell? ⟨w.heap.size, i, none⟩ = some (.int .u64 ((limb i a : Nat) : Int))) ∧ (∀ i, i < 4 → w'.cell? ⟨w13.heap.size, i, none⟩ = some (.int .u64 ((limb i 0 : Nat) : Int))))
      (first | with_reducible exact hold2 hb19 (by with_reducible assumption) | with_reducible exact ⟨ba18.drew.cell, bz18.drew.cell⟩)
      (first | (go_at_call 17; with_reducible refine (C9 _ hg18.drew).mono ?_; rintro e w19 ⟨rfl, hb19⟩) | fail)
    go_wp2
    go_ret
    exact ⟨rfl, bStep hbw18.drew hb19⟩
  · have C8 := fun w hg => fMul_any s q a hs (by omega) ha w hg
    rw [invP_one s q a hq] at C8
    have n7 : ∀ w : World, (binOp .eql 24 (.agg #[.int .u64 ((limb 0 (1) : Nat) : Int), .int .u64 ((limb 1 (1) : Nat) : Int), .int .u64 ((limb 2 (1) : Nat) : Int), .int .u64 ((limb 3 (1) : Nat) : Int)]) (.agg #[.int .u64 1, .int .u64 0, .int .u64 0, .int .u64 0])).run Tryd.prog w = .ok (.bool true) w := fun w => by
      have h := eqlN 1 1 (by decide) (by decide) w
      rw [show decide ((1 : Nat) = 1) = true from by decide] at h
      exact h
    clear hq h0
    go_wp2_with fail
    refine (C8 _ (hg17.alloc _)).mono ?_
    rintro e w18 ⟨rfl, hb18⟩
    have hbw18 := bStep (bAlloc hbw17 _) hb18
    clear ba17 bz17 hg17 hbw17 hb18 ca cz la lz hA hG C8
    go_wp2
    go_ret
    exact ⟨rfl, hbw18⟩

set_option maxHeartbeats 4000000 in
theorem laws_out (s : Int) (a b c : Nat) (hs : s < 0 ∨ 4 ≤ s) (w : World) (hg : Glob w) :
    Calls Tryd.prog 4 #[.int .i64 s, .agg #[.int .u64 ((limb 0 (a) : Nat) : Int), .int .u64 ((limb 1 (a) : Nat) : Int), .int .u64 ((limb 2 (a) : Nat) : Int), .int .u64 ((limb 3 (a) : Nat) : Int)], .agg #[.int .u64 ((limb 0 (b) : Nat) : Int), .int .u64 ((limb 1 (b) : Nat) : Int), .int .u64 ((limb 2 (b) : Nat) : Int), .int .u64 ((limb 3 (b) : Nat) : Int)], .agg #[.int .u64 ((limb 0 (c) : Nat) : Int), .int .u64 ((limb 1 (c) : Nat) : Int), .int .u64 ((limb 2 (c) : Nat) : Int), .int .u64 ((limb 3 (c) : Nat) : Int)]] w fun e w' => e = .returned (.bool true) ∧ Below w.heap.size w w' := by
  have CO := fun w => fAdd_out s a b hs w
  have nz : ∀ w : World, (binOp .eql 24 (.agg #[.int .u64 0, .int .u64 0, .int .u64 0, .int .u64 0]) (.agg #[.int .u64 0, .int .u64 0, .int .u64 0, .int .u64 0])).run Tryd.prog w = .ok (.bool true) w := fun w => eql4 0 0 0 0 0 0 0 0 w
  by_cases h : s < 0
  · clear hs
    go_enter Tryd.func4, Tryd.ntmps4
    go_wp2_with fail
    obtain ⟨w0, hw0⟩ : ∃ w0 : World, w0 = ((w.alloc (.cells #[.int .u64 ((limb 0 (a) : Nat) : Int), .int .u64 ((limb 1 (a) : Nat) : Int), .int .u64 ((limb 2 (a) : Nat) : Int), .int .u64 ((limb 3 (a) : Nat) : Int)] 24)).alloc (.cells #[.int .u64 ((limb 0 (b) : Nat) : Int), .int .u64 ((limb 1 (b) : Nat) : Int), .int .u64 ((limb 2 (b) : Nat) : Int), .int .u64 ((limb 3 (b) : Nat) : Int)] 24)).alloc (.cells #[.int .u64 ((limb 0 (c) : Nat) : Int), .int .u64 ((limb 1 (c) : Nat) : Int), .int .u64 ((limb 2 (c) : Nat) : Int), .int .u64 ((limb 3 (c) : Nat) : Int)] 24) := ⟨_, rfl⟩
    have ba0 : Blk w0 24 w.heap.size (fun i => limb i a) := by rw [hw0]; exact ((Blk.newAt _ _ _ (fun i => limb i a) (by simp)).alloc _).alloc _
    have bb0 : Blk w0 24 (w.heap.size + 1) (fun i => limb i b) := by rw [hw0]; exact (Blk.newAt _ _ _ (fun i => limb i b) (by simp)).alloc _
    have hg0 : Glob w0 := by rw [hw0]; exact ((hg.alloc _).alloc _).alloc _
    have hb0 : Below w.heap.size w w0 := by
      rw [hw0]
      repeat (first | with_reducible exact Below.refl _ _ | with_reducible refine Below.alloc ?_ (by first | omega | (simp; omega) | simp) _)
    rw [← hw0]
    clear hw0 hg
    refine (alive2_any _ hg0).mono ?_
    rintro e w1 ⟨rfl, hb1⟩
    have ba1 := ba0.belowAll hb1; have bb1 := bb0.belowAll hb1
    have hbw1 := bStep hb0 hb1
    clear ba0 bb0 hb0 hb1 hg0
    have ca := ba1.cell; have cb := bb1.cell
    go_wp2_with fail
    refine (CO _).mono ?_
    rintro e w2 ⟨rfl, hb2⟩
    have hbw2 := bStep hbw1 hb2
    clear ba1 bb1 hbw1 hb2 ca cb CO
    go_wp2
    go_ret
    exact ⟨rfl, hbw2⟩
  · have h3 : (3 : Int) < s := by omega
    clear hs
    go_enter Tryd.func4, Tryd.ntmps4
    go_wp2_with fail
    obtain ⟨w0, hw0⟩ : ∃ w0 : World, w0 = ((w.alloc (.cells #[.int .u64 ((limb 0 (a) : Nat) : Int), .int .u64 ((limb 1 (a) : Nat) : Int), .int .u64 ((limb 2 (a) : Nat) : Int), .int .u64 ((limb 3 (a) : Nat) : Int)] 24)).alloc (.cells #[.int .u64 ((limb 0 (b) : Nat) : Int), .int .u64 ((limb 1 (b) : Nat) : Int), .int .u64 ((limb 2 (b) : Nat) : Int), .int .u64 ((limb 3 (b) : Nat) : Int)] 24)).alloc (.cells #[.int .u64 ((limb 0 (c) : Nat) : Int), .int .u64 ((limb 1 (c) : Nat) : Int), .int .u64 ((limb 2 (c) : Nat) : Int), .int .u64 ((limb 3 (c) : Nat) : Int)] 24) := ⟨_, rfl⟩
    have ba0 : Blk w0 24 w.heap.size (fun i => limb i a) := by rw [hw0]; exact ((Blk.newAt _ _ _ (fun i => limb i a) (by simp)).alloc _).alloc _
    have bb0 : Blk w0 24 (w.heap.size + 1) (fun i => limb i b) := by rw [hw0]; exact (Blk.newAt _ _ _ (fun i => limb i b) (by simp)).alloc _
    have hg0 : Glob w0 := by rw [hw0]; exact ((hg.alloc _).alloc _).alloc _
    have hb0 : Below w.heap.size w w0 := by
      rw [hw0]
      repeat (first | with_reducible exact Below.refl _ _ | with_reducible refine Below.alloc ?_ (by first | omega | (simp; omega) | simp) _)
    rw [← hw0]
    clear hw0 hg
    refine (alive2_any _ hg0).mono ?_
    rintro e w1 ⟨rfl, hb1⟩
    have ba1 := ba0.belowAll hb1; have bb1 := bb0.belowAll hb1
    have hbw1 := bStep hb0 hb1
    clear ba0 bb0 hb0 hb1 hg0
    have ca := ba1.cell; have cb := bb1.cell
    go_wp2_with fail
    refine (CO _).mono ?_
    rintro e w2 ⟨rfl, hb2⟩
    have hbw2 := bStep hbw1 hb2
    clear ba1 bb1 hbw1 hb2 ca cb CO
    go_wp2
    go_ret
    exact ⟨rfl, hbw2⟩

/-- FieldLaws, whatever the sort. -/
theorem laws_walk (s : Int) (a b c : Nat) (ha : a < 115792089237316195423570985008687907853269984665640564039457584007913129639936) (hb : b < 115792089237316195423570985008687907853269984665640564039457584007913129639936) (hc : c < 115792089237316195423570985008687907853269984665640564039457584007913129639936) (w : World) (hg : Glob w) :
    Calls Tryd.prog 4 #[.int .i64 s, .agg #[.int .u64 ((limb 0 (a) : Nat) : Int), .int .u64 ((limb 1 (a) : Nat) : Int), .int .u64 ((limb 2 (a) : Nat) : Int), .int .u64 ((limb 3 (a) : Nat) : Int)], .agg #[.int .u64 ((limb 0 (b) : Nat) : Int), .int .u64 ((limb 1 (b) : Nat) : Int), .int .u64 ((limb 2 (b) : Nat) : Int), .int .u64 ((limb 3 (b) : Nat) : Int)], .agg #[.int .u64 ((limb 0 (c) : Nat) : Int), .int .u64 ((limb 1 (c) : Nat) : Int), .int .u64 ((limb 2 (c) : Nat) : Int), .int .u64 ((limb 3 (c) : Nat) : Int)]] w fun e w' => e = .returned (.bool true) ∧ Below w.heap.size w w' := by
  by_cases h : s < 0 ∨ 4 ≤ s
  · exact laws_out s a b c h w hg
  · obtain ⟨n, rfl⟩ := Int.eq_ofNat_of_zero_le (show 0 ≤ s by omega)
    exact laws_in n a b c (by omega) ha hb hc w hg

end Go.Proofs.YtlndeghggdpmaacDoor
