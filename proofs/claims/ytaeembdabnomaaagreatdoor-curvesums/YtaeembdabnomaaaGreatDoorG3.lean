/- What the second reference's Modulus and Of (great fields) do. -/
import Derived.Test.YtaeembdabnomaaaGreatDoorG2
import Derived.Test.YtaeembdabnomaaaGreatDoorF11
namespace Go.Proofs.YtaeembdabnomaaaGreatDoor
open Go.RowKit

theorem modN_agg0 : (.agg #[.int .u64 ((limb 0 (modN 0) : Nat) : Int), .int .u64 ((limb 1 (modN 0) : Nat) : Int), .int .u64 ((limb 2 (modN 0) : Nat) : Int), .int .u64 ((limb 3 (modN 0) : Nat) : Int)] : Value) = .agg #[.int .u64 16513537, .int .u64 0, .int .u64 0, .int .u64 0] := by
  rw [show limb 0 (modN 0) = 16513537 from by decide, show limb 1 (modN 0) = 0 from by decide, show limb 2 (modN 0) = 0 from by decide, show limb 3 (modN 0) = 0 from by decide]
  rfl
theorem modN_agg1 : (.agg #[.int .u64 ((limb 0 (modN 1) : Nat) : Int), .int .u64 ((limb 1 (modN 1) : Nat) : Int), .int .u64 ((limb 2 (modN 1) : Nat) : Int), .int .u64 ((limb 3 (modN 1) : Nat) : Int)] : Value) = .agg #[.int .u64 16521217, .int .u64 0, .int .u64 0, .int .u64 0] := by
  rw [show limb 0 (modN 1) = 16521217 from by decide, show limb 1 (modN 1) = 0 from by decide, show limb 2 (modN 1) = 0 from by decide, show limb 3 (modN 1) = 0 from by decide]
  rfl
theorem modN_agg2 : (.agg #[.int .u64 ((limb 0 (modN 2) : Nat) : Int), .int .u64 ((limb 1 (modN 2) : Nat) : Int), .int .u64 ((limb 2 (modN 2) : Nat) : Int), .int .u64 ((limb 3 (modN 2) : Nat) : Int)] : Value) = .agg #[.int .u64 11037532056220336129, .int .u64 2469829653914515739, .int .u64 0, .int .u64 4611686018427387904] := by
  rw [show limb 0 (modN 2) = 11037532056220336129 from by decide, show limb 1 (modN 2) = 2469829653914515739 from by decide, show limb 2 (modN 2) = 0 from by decide, show limb 3 (modN 2) = 4611686018427387904 from by decide]
  rfl
theorem modN_agg3 : (.agg #[.int .u64 ((limb 0 (modN 3) : Nat) : Int), .int .u64 ((limb 1 (modN 3) : Nat) : Int), .int .u64 ((limb 2 (modN 3) : Nat) : Int), .int .u64 ((limb 3 (modN 3) : Nat) : Int)] : Value) = .agg #[.int .u64 10108024940646105089, .int .u64 2469829653919213789, .int .u64 0, .int .u64 4611686018427387904] := by
  rw [show limb 0 (modN 3) = 10108024940646105089 from by decide, show limb 1 (modN 3) = 2469829653919213789 from by decide, show limb 2 (modN 3) = 0 from by decide, show limb 3 (modN 3) = 4611686018427387904 from by decide]
  rfl

set_option maxHeartbeats 2000000 in
/-- The second reference's Modulus of a sort that there is. -/
theorem ref2Modulus_any (s : Nat) (hs : s < 4) (w : World) :
    Calls Tryz.prog 60 #[.int .i64 (s : Int)] w fun e w' => e = .returned (.tuple #[.agg #[.int .u64 ((limb 0 (modN s) : Nat) : Int), .int .u64 ((limb 1 (modN s) : Nat) : Int), .int .u64 ((limb 2 (modN s) : Nat) : Int), .int .u64 ((limb 3 (modN s) : Nat) : Int)], .int .i64 0]) ∧ Below w.heap.size w w' := by
  have h4 : s = 0 ∨ s = 1 ∨ s = 2 ∨ s = 3 := by omega
  rcases h4 with rfl | rfl | rfl | rfl
  · go_enter Tryz.func60, Tryz.ntmps60
    go_wp2
    refine bodyPost_ret (v := .tuple #[.agg #[.int .u64 16513537, .int .u64 0, .int .u64 0, .int .u64 0], .int .i64 0]) (by simp [results, Tryz.results60, go_sem]) rfl ⟨by rw [modN_agg0], ?_⟩
    repeat (first | with_reducible exact Below.refl _ _ | with_reducible refine Below.drew ?_ | with_reducible refine Below.setCell ?_ (by first | omega | (simp; omega) | simp) _ | with_reducible refine Below.alloc ?_ (by first | omega | (simp; omega) | simp) _)
  · go_enter Tryz.func60, Tryz.ntmps60
    go_wp2
    refine bodyPost_ret (v := .tuple #[.agg #[.int .u64 16521217, .int .u64 0, .int .u64 0, .int .u64 0], .int .i64 0]) (by simp [results, Tryz.results60, go_sem]) rfl ⟨by rw [modN_agg1], ?_⟩
    repeat (first | with_reducible exact Below.refl _ _ | with_reducible refine Below.drew ?_ | with_reducible refine Below.setCell ?_ (by first | omega | (simp; omega) | simp) _ | with_reducible refine Below.alloc ?_ (by first | omega | (simp; omega) | simp) _)
  · go_enter Tryz.func60, Tryz.ntmps60
    go_wp2
    refine bodyPost_ret (v := .tuple #[.agg #[.int .u64 11037532056220336129, .int .u64 2469829653914515739, .int .u64 0, .int .u64 4611686018427387904], .int .i64 0]) (by simp [results, Tryz.results60, go_sem]) rfl ⟨by rw [modN_agg2], ?_⟩
    repeat (first | with_reducible exact Below.refl _ _ | with_reducible refine Below.drew ?_ | with_reducible refine Below.setCell ?_ (by first | omega | (simp; omega) | simp) _ | with_reducible refine Below.alloc ?_ (by first | omega | (simp; omega) | simp) _)
  · go_enter Tryz.func60, Tryz.ntmps60
    go_wp2
    refine bodyPost_ret (v := .tuple #[.agg #[.int .u64 10108024940646105089, .int .u64 2469829653919213789, .int .u64 0, .int .u64 4611686018427387904], .int .i64 0]) (by simp [results, Tryz.results60, go_sem]) rfl ⟨by rw [modN_agg3], ?_⟩
    repeat (first | with_reducible exact Below.refl _ _ | with_reducible refine Below.drew ?_ | with_reducible refine Below.setCell ?_ (by first | omega | (simp; omega) | simp) _ | with_reducible refine Below.alloc ?_ (by first | omega | (simp; omega) | simp) _)

set_option maxHeartbeats 2000000 in
/-- The second reference's Modulus of a sort that there isn't. -/
theorem ref2Modulus_out (s : Int) (hs : s < 0 ∨ 4 ≤ s) (w : World) :
    Calls Tryz.prog 60 #[.int .i64 s] w fun e w' => e = .returned (.tuple #[.agg #[.int .u64 0, .int .u64 0, .int .u64 0, .int .u64 0], .int .i64 20]) ∧ Below w.heap.size w w' := by
  have n0 : (s == 0) = false := by rw [beq_eq_false_iff_ne]; omega
  have n1 : (s == 1) = false := by rw [beq_eq_false_iff_ne]; omega
  have n2 : (s == 2) = false := by rw [beq_eq_false_iff_ne]; omega
  have n3 : (s == 3) = false := by rw [beq_eq_false_iff_ne]; omega
  clear hs
  go_enter Tryz.func60, Tryz.ntmps60
  go_wp2
  refine bodyPost_ret (v := .tuple #[.agg #[.int .u64 0, .int .u64 0, .int .u64 0, .int .u64 0], .int .i64 20]) (by simp [results, Tryz.results60, go_sem]) rfl ⟨rfl, ?_⟩
  repeat (first | with_reducible exact Below.refl _ _ | with_reducible refine Below.drew ?_ | with_reducible refine Below.setCell ?_ (by first | omega | (simp; omega) | simp) _ | with_reducible refine Below.alloc ?_ (by first | omega | (simp; omega) | simp) _)

theorem sub_again (A m x : Nat) (hx : x % m = A % m) (h : m ≤ x) : (x - m) % m = A % m := by rw [← hx, Nat.mod_eq_sub_mod h]

set_option maxHeartbeats 4000000 in
set_option maxRecDepth 20000 in
/-- The second reference's Of, of a great field. -/
theorem ofGreat_any (s A : Nat) (hs2 : 2 ≤ s) (hs : s < 4) (hA : A < 115792089237316195423570985008687907853269984665640564039457584007913129639936) (w : World) :
    Calls Tryz.prog 32 #[.int .i64 (s : Int), .agg #[.int .u64 ((limb 0 (A) : Nat) : Int), .int .u64 ((limb 1 (A) : Nat) : Int), .int .u64 ((limb 2 (A) : Nat) : Int), .int .u64 ((limb 3 (A) : Nat) : Int)]] w fun e w' => e = .returned (.agg #[.int .u64 ((limb 0 (A % modN s) : Nat) : Int), .int .u64 ((limb 1 (A % modN s) : Nat) : Int), .int .u64 ((limb 2 (A % modN s) : Nat) : Int), .int .u64 ((limb 3 (A % modN s) : Nat) : Int)]) ∧ Below w.heap.size w w' := by
  have hgl := (modN_good s).lt
  have HM := fun w => ref2Modulus_any s hs w
  obtain ⟨m, em⟩ : ∃ m, m = modN s := ⟨_, rfl⟩
  rw [← em] at hgl HM ⊢
  clear em
  obtain ⟨h0, _, hm⟩ := hgl
  have n0 : ((s : Int) == 0) = false := by rw [beq_eq_false_iff_ne]; omega
  have n1 : ((s : Int) == 1) = false := by rw [beq_eq_false_iff_ne]; omega
  go_enter Tryz.func32, Tryz.ntmps32
  go_wp2_with fail
  obtain ⟨w0, hw0⟩ : ∃ w0 : World, w0 = (w.alloc (.cells #[.int .u64 ((limb 0 (A) : Nat) : Int), .int .u64 ((limb 1 (A) : Nat) : Int), .int .u64 ((limb 2 (A) : Nat) : Int), .int .u64 ((limb 3 (A) : Nat) : Int)] 24)).alloc (.cells #[.int .u64 0, .int .u64 0, .int .u64 0, .int .u64 0] 24) := ⟨_, rfl⟩
  have ba0 : Blk w0 24 w.heap.size (fun i => limb i A) := by rw [hw0]; exact (Blk.newAt _ _ _ (fun i => limb i A) (by simp)).alloc _
  have br0 : Blk w0 24 (w.heap.size + 1) (fun _ => 0) := by rw [hw0]; exact Blk.newAt _ _ _ (fun _ => 0) (by simp)
  have hb0 : Below w.heap.size w w0 := by
    rw [hw0]
    repeat (first | with_reducible exact Below.refl _ _ | with_reducible refine Below.alloc ?_ (by first | omega | (simp; omega) | simp) _)
  rw [← hw0]
  clear hw0
  refine (HM _).mono ?_
  rintro e w1 ⟨rfl, hb1⟩
  have ba1 := ba0.belowAll hb1; have br1 := br0.belowAll hb1
  have hbw1 := bStep hb0 hb1
  have hr1 := br1.lt
  clear ba0 br0 hb0 hb1 HM
  go_wp2
  go_loopw [] (fun wr => ∃ x : Nat, x < 115792089237316195423570985008687907853269984665640564039457584007913129639936 ∧ x % m = A % m ∧ Blk wr 24 w.heap.size (fun i => limb i x) ∧ Blk wr 24 (w.heap.size + 1) (fun _ => 0) ∧ Blk wr 24 w1.heap.size (fun i => limb i m) ∧ Below w.heap.size w wr) (fun wr => numAt wr w.heap.size)
  case atStart => exact ⟨A, hA, rfl, ba1.alloc _, br1.alloc _, Blk.new w1 _ (fun i => limb i m), bAlloc hbw1 _⟩
  case round =>
    obtain ⟨x, lx, hx, bA, bR, bM, hbr⟩ := hrel
    have cA := bA.cell; have cM := bM.cell
    have mU := (show Hid _ from numAt_eq bA lx)
    have HX := (show Hid _ from hx)
    clear hx
    go_wp2_with fail
    refine (ref2Below_any x m lx hm _).mono ?_
    rintro e w2 ⟨rfl, hb2⟩
    have bA2 := bA.belowAll hb2; have bR2 := bR.belowAll hb2; have bM2 := bM.belowAll hb2
    have hbw2 := bStep hbr hb2
    clear bA bR bM hbr hb2 cA cM
    have cA := bA2.cell; have cM := bM2.cell; have fA := bA2.frozen; have cr := bR2.cell; have fr := bR2.frozen; have lr := bR2.lt
    by_cases hlt : x < m
    · rw [show below256 x m = true from by simp [below256, hlt]]
      have E1 : Hid (A % m = x) := by show _ = _; rw [← HX.out, Nat.mod_eq_of_lt hlt]
      clear hlt
      go_wp2
      refine bodyPost_ret (v := .agg #[.int .u64 ((limb 0 (x) : Nat) : Int), .int .u64 ((limb 1 (x) : Nat) : Int), .int .u64 ((limb 2 (x) : Nat) : Int), .int .u64 ((limb 3 (x) : Nat) : Int)]) (by simp [results, Tryz.results32, go_sem, cr]) rfl ⟨by rw [E1.out], ?_⟩
      repeat (first | with_reducible exact hbw2 | with_reducible refine Below.setCell ?_ (by first | omega | (simp; omega) | simp) _)
    · rw [show below256 x m = false from by simp [below256]; omega]
      have hs3 : sub256 x m = x - m := by
        unfold sub256
        rw [show x + 115792089237316195423570985008687907853269984665640564039457584007913129639936 - m = (x - m) + 115792089237316195423570985008687907853269984665640564039457584007913129639936 from by omega, Nat.add_mod_right, Nat.mod_eq_of_lt (by omega)]
      have HS := (show Hid _ from hs3)
      have hle : m ≤ x := by omega
      clear hs3 hlt
      go_wp2_with fail
      refine (ref2Minus_any x m lx hm _).mono ?_
      rintro e w3 ⟨rfl, hb3⟩
      have bA3 := bA2.belowAll hb3; have bR3 := bR2.belowAll hb3; have bM3 := bM2.belowAll hb3
      have hbw3 := bStep hbw2 hb3
      clear bA2 bR2 bM2 hbw2 hb3 cA cM fA cr fr lr
      have cA := bA3.cell; have fA := bA3.frozen
      have bA4 := bA3.set4 (fun i => limb i (sub256 x m))
      have mU4 := (show Hid _ from numAt_eq bA4 (sub256_lt x m))
      go_wp2
      go_roundw
      case measure => rw [mU4.out, mU.out, HS.out]; omega
      case rel =>
        exact ⟨sub256 x m, sub256_lt x m, by rw [HS.out]; exact sub_again A m x HX.out hle, bA4, bR3.other4 (by omega) _ _ _ _, bM3.other4 (by omega) _ _ _ _, bSet4 hbw3 (Nat.le_refl _) _ _ _ _⟩

/-- The second reference's Of. -/
theorem ref2Of_any (s A : Nat) (hs : s < 4) (hA : A < 115792089237316195423570985008687907853269984665640564039457584007913129639936) (w : World) :
    Calls Tryz.prog 32 #[.int .i64 (s : Int), .agg #[.int .u64 ((limb 0 (A) : Nat) : Int), .int .u64 ((limb 1 (A) : Nat) : Int), .int .u64 ((limb 2 (A) : Nat) : Int), .int .u64 ((limb 3 (A) : Nat) : Int)]] w fun e w' => e = .returned (.agg #[.int .u64 ((limb 0 (A % modN s) : Nat) : Int), .int .u64 ((limb 1 (A % modN s) : Nat) : Int), .int .u64 ((limb 2 (A % modN s) : Nat) : Int), .int .u64 ((limb 3 (A % modN s) : Nat) : Int)]) ∧ Below w.heap.size w w' := by
  rcases Nat.lt_or_ge s 2 with h | h
  · exact ofLittle_any s A h hA w
  · exact ofGreat_any s A h hs hA w

end Go.Proofs.YtaeembdabnomaaaGreatDoor
