/- What word.lengthen, part, shiftUp and zerosAhead do. -/
import Derived.Test.YtaeembdabnomaaaGreatDoorCore5
import Derived.Test.YtaeembdabnomaaaGreatDoorNum4
namespace Go.Proofs.YtaeembdabnomaaaGreatDoor
open Go.RowKit

set_option maxHeartbeats 1000000 in
theorem lengthen_walk (A B : Nat) (w : World) :
    Calls Tryz.prog 74 #[.agg #[.int .u64 ((limb 0 (A) : Nat) : Int), .int .u64 ((limb 1 (A) : Nat) : Int), .int .u64 ((limb 2 (A) : Nat) : Int), .int .u64 ((limb 3 (A) : Nat) : Int)], .agg #[.int .u64 ((limb 0 (B) : Nat) : Int), .int .u64 ((limb 1 (B) : Nat) : Int), .int .u64 ((limb 2 (B) : Nat) : Int), .int .u64 ((limb 3 (B) : Nat) : Int)]] w fun e w' => e = .returned (.agg #[.int .u64 ((limb 0 A : Nat) : Int), .int .u64 ((limb 1 A : Nat) : Int), .int .u64 ((limb 2 A : Nat) : Int), .int .u64 ((limb 3 A : Nat) : Int), .int .u64 ((limb 0 B : Nat) : Int), .int .u64 ((limb 1 B : Nat) : Int), .int .u64 ((limb 2 B : Nat) : Int), .int .u64 ((limb 3 B : Nat) : Int), .int .u64 0, .int .u64 0, .int .u64 0, .int .u64 0]) ∧ Below w.heap.size w w' := by
  go_enter Tryz.func74, Tryz.ntmps74
  go_wp2
  refine bodyPost_ret (v := .agg #[.int .u64 ((limb 0 A : Nat) : Int), .int .u64 ((limb 1 A : Nat) : Int), .int .u64 ((limb 2 A : Nat) : Int), .int .u64 ((limb 3 A : Nat) : Int), .int .u64 ((limb 0 B : Nat) : Int), .int .u64 ((limb 1 B : Nat) : Int), .int .u64 ((limb 2 B : Nat) : Int), .int .u64 ((limb 3 B : Nat) : Int), .int .u64 0, .int .u64 0, .int .u64 0, .int .u64 0]) (by simp [results, Tryz.results74, go_sem]) rfl ⟨rfl, ?_⟩
  repeat (first | with_reducible exact Below.refl _ _ | with_reducible refine Below.drew ?_ | with_reducible refine Below.alloc ?_ (by first | omega | (simp; omega) | simp) _)

set_option maxHeartbeats 1000000 in
theorem part_walk (L : Nat) (m : Nat) (hm : m = 0 ∨ m = 4) (w : World) :
    Calls Tryz.prog 72 #[.agg #[.int .u64 ((limb 0 (L) : Nat) : Int), .int .u64 ((limb 1 (L) : Nat) : Int), .int .u64 ((limb 2 (L) : Nat) : Int), .int .u64 ((limb 3 (L) : Nat) : Int), .int .u64 ((limb 4 (L) : Nat) : Int), .int .u64 ((limb 5 (L) : Nat) : Int), .int .u64 ((limb 6 (L) : Nat) : Int), .int .u64 ((limb 7 (L) : Nat) : Int), .int .u64 ((limb 8 (L) : Nat) : Int), .int .u64 ((limb 9 (L) : Nat) : Int), .int .u64 ((limb 10 (L) : Nat) : Int), .int .u64 ((limb 11 (L) : Nat) : Int)], .int .i64 (m : Int)] w fun e w' => e = .returned (.agg #[.int .u64 ((limb m L : Nat) : Int), .int .u64 ((limb (m + 1) L : Nat) : Int), .int .u64 ((limb (m + 2) L : Nat) : Int), .int .u64 ((limb (m + 3) L : Nat) : Int)]) ∧ Below w.heap.size w w' := by
  rcases hm with rfl | rfl
  · go_enter Tryz.func72, Tryz.ntmps72
    go_wp2
    go_region
    go_wp2
    refine bodyPost_ret (v := .agg #[.int .u64 ((limb 0 (L) : Nat) : Int), .int .u64 ((limb 1 (L) : Nat) : Int), .int .u64 ((limb 2 (L) : Nat) : Int), .int .u64 ((limb 3 (L) : Nat) : Int)]) (by simp [results, Tryz.results72, go_sem]) rfl ⟨rfl, ?_⟩
    repeat (first | with_reducible exact Below.refl _ _ | with_reducible refine Below.drew ?_ | with_reducible refine Below.alloc ?_ (by first | omega | (simp; omega) | simp) _)
  · go_enter Tryz.func72, Tryz.ntmps72
    go_wp2
    go_region
    go_wp2
    refine bodyPost_ret (v := .agg #[.int .u64 ((limb 4 L : Nat) : Int), .int .u64 ((limb 5 L : Nat) : Int), .int .u64 ((limb 6 L : Nat) : Int), .int .u64 ((limb 7 L : Nat) : Int)]) (by simp [results, Tryz.results72, go_sem]) rfl ⟨rfl, ?_⟩
    repeat (first | with_reducible exact Below.refl _ _ | with_reducible refine Below.drew ?_ | with_reducible refine Below.alloc ?_ (by first | omega | (simp; omega) | simp) _)

theorem wrap_shl (a r : Nat) : IntKind.u64.wrap ((a : Int) * 2 ^ r) = ((a * 2 ^ r % 18446744073709551616 : Nat) : Int) := by rw [pow_cast, wrapM]
theorem or_words (a b r : Nat) (hb : b < 18446744073709551616) : bits BinOp.or IntKind.u64 (((a % 18446744073709551616 : Nat)) : Int) ((b : Int) / 2 ^ r) = (((a % 18446744073709551616) ||| (b / 2 ^ r) : Nat) : Int) := by
  rw [dpow_cast, bits_or_u64_nat _ _ (Nat.mod_lt _ (by decide)) (Nat.lt_of_le_of_lt (Nat.div_le_self _ _) hb)]

set_option maxHeartbeats 2000000 in
/-- word.shiftUp: a number times a power of two, without what is above the twelfth word. -/
theorem shiftUp_any (L n : Nat) (hn : n ≤ 256) (w : World) :
    Calls Tryz.prog 73 #[.agg #[.int .u64 ((limb 0 (L) : Nat) : Int), .int .u64 ((limb 1 (L) : Nat) : Int), .int .u64 ((limb 2 (L) : Nat) : Int), .int .u64 ((limb 3 (L) : Nat) : Int), .int .u64 ((limb 4 (L) : Nat) : Int), .int .u64 ((limb 5 (L) : Nat) : Int), .int .u64 ((limb 6 (L) : Nat) : Int), .int .u64 ((limb 7 (L) : Nat) : Int), .int .u64 ((limb 8 (L) : Nat) : Int), .int .u64 ((limb 9 (L) : Nat) : Int), .int .u64 ((limb 10 (L) : Nat) : Int), .int .u64 ((limb 11 (L) : Nat) : Int)], .int .i64 (n : Int)] w fun e w' => e = .returned (.agg #[.int .u64 ((limb 0 (L * 2 ^ n) : Nat) : Int), .int .u64 ((limb 1 (L * 2 ^ n) : Nat) : Int), .int .u64 ((limb 2 (L * 2 ^ n) : Nat) : Int), .int .u64 ((limb 3 (L * 2 ^ n) : Nat) : Int), .int .u64 ((limb 4 (L * 2 ^ n) : Nat) : Int), .int .u64 ((limb 5 (L * 2 ^ n) : Nat) : Int), .int .u64 ((limb 6 (L * 2 ^ n) : Nat) : Int), .int .u64 ((limb 7 (L * 2 ^ n) : Nat) : Int), .int .u64 ((limb 8 (L * 2 ^ n) : Nat) : Int), .int .u64 ((limb 9 (L * 2 ^ n) : Nat) : Int), .int .u64 ((limb 10 (L * 2 ^ n) : Nat) : Int), .int .u64 ((limb 11 (L * 2 ^ n) : Nat) : Int)]) ∧ Below w.heap.size w w' := by
  obtain ⟨W, eW0⟩ : ∃ W, W = n / 64 := ⟨_, rfl⟩
  have hW : W ≤ 4 := by omega
  have e1 : (n : Int) / 64 = (W : Int) := by omega
  have hr : n % 64 < 64 := Nat.mod_lt _ (by decide)
  have EW := (show Hid _ from eW0); clear eW0
  go_enter Tryz.func73, Tryz.ntmps73
  go_wp2
  clear e1
  go_loopw [15] (fun i wr => ∃ k : Nat, i = .int .i64 (k : Int) ∧ k + W ≤ 12 ∧ Below w.heap.size w wr ∧ BlkN wr 75 w.heap.size 12 (fun i => limb i L) ∧
      BlkN wr 75 (w.heap.size + 1) 12 (fun _ => 0) ∧ BlkN wr 75 (w.heap.size + 1 + 1) 12 (shF L W (n % 64) k)) (fun i _ => 12 - (intOf i).toNat)
  case atStart =>
    refine ⟨0, rfl, by omega, ?_, ?_, ?_, ?_⟩
    · repeat (first | with_reducible exact Below.refl _ _ | with_reducible refine Below.alloc ?_ (by first | omega | (simp; omega) | simp) _)
    · refine ((BlkN.newAt _ _ _ 12 (fun i => limb i L) _ rfl rfl ?_).alloc _).alloc _
      intro i hi
      have h12 : i = 0 ∨ i = 1 ∨ i = 2 ∨ i = 3 ∨ i = 4 ∨ i = 5 ∨ i = 6 ∨ i = 7 ∨ i = 8 ∨ i = 9 ∨ i = 10 ∨ i = 11 := by omega
      rcases h12 with rfl | rfl | rfl | rfl | rfl | rfl | rfl | rfl | rfl | rfl | rfl | rfl <;> rfl
    · refine (BlkN.newAt _ _ _ 12 (fun _ => 0) _ (by simp) rfl ?_).alloc _
      intro i hi
      have h12 : i = 0 ∨ i = 1 ∨ i = 2 ∨ i = 3 ∨ i = 4 ∨ i = 5 ∨ i = 6 ∨ i = 7 ∨ i = 8 ∨ i = 9 ∨ i = 10 ∨ i = 11 := by omega
      rcases h12 with rfl | rfl | rfl | rfl | rfl | rfl | rfl | rfl | rfl | rfl | rfl | rfl <;> rfl
    · refine BlkN.congr (f := fun _ => 0) (BlkN.newAt _ _ _ 12 (fun _ => 0) _ (by simp) rfl ?_) (fun i _ => shF_zero L W (n % 64) i)
      intro i hi
      have h12 : i = 0 ∨ i = 1 ∨ i = 2 ∨ i = 3 ∨ i = 4 ∨ i = 5 ∨ i = 6 ∨ i = 7 ∨ i = 8 ∨ i = 9 ∨ i = 10 ∨ i = 11 := by omega
      rcases h12 with rfl | rfl | rfl | rfl | rfl | rfl | rfl | rfl | rfl | rfl | rfl | rfl <;> rfl
  case round =>
    obtain ⟨k, rfl, hk, hbr, bA, b1, bO⟩ := hrel
    have cA := bA.cell; have cO := bO.cell; have fO := bO.frozen
    have hz := bO.lt
    by_cases hlt : k + W < 12
    · have hkw : (k : Int) < 12 - (W : Int) := by omega
      have hkn : k < 12 := by omega
      have w1 := wrap_shl (limb k L) (n % 64)
      by_cases hk0 : k = 0
      · subst hk0
        have cK := cA 0 (by decide)
        have cKO := cO W (by omega)
        have hv : limb 0 L * 2 ^ (n % 64) % 18446744073709551616 = shW L (n % 64) 0 := by unfold shW; rw [if_pos rfl, Nat.or_zero]
        rw [hv] at w1
        have HV := (show Hid _ from hv); clear hv
        clear cA cO
        go_wp2
        go_roundw
        case measure => simp [intOf]
        case rel =>
          refine ⟨1, rfl, by omega, ?_, bA.other (by dsimp only; omega) _, b1.other (by dsimp only; omega) _, ?_⟩
          · exact hbr.setCell (by dsimp only; omega) _
          · refine (bO.set W (by omega) (shW L (n % 64) 0)).congr ?_
            intro i _
            rw [shF_step]; simp
      · have hk1 : (0 : Int) < (k : Int) := by omega
        have cK := cA k hkn
        have cK1 := cA (k - 1) (by omega)
        have cKO := cO (k + W) hlt
        have eW : ((k : Int) + (W : Int)).toNat = k + W := by omega
        have eK : ((k : Int) - 1).toNat = k - 1 := by omega
        have w2 := or_words (limb k L * 2 ^ (n % 64)) (limb (k - 1) L) (64 - n % 64) (limb_lt _ _)
        have hv : (limb k L * 2 ^ (n % 64) % 18446744073709551616) ||| (limb (k - 1) L / 2 ^ (64 - n % 64)) = shW L (n % 64) k := by unfold shW; rw [if_neg hk0]
        rw [hv] at w2
        have HV := (show Hid _ from hv); clear hv
        obtain ⟨x, hx⟩ : ∃ x, x = limb k L * 2 ^ (n % 64) % 18446744073709551616 := ⟨_, rfl⟩
        rw [← hx] at w1 w2
        clear hx HV
        clear cA cO
        go_wp2
        go_region
        go_wp2
        go_roundw
        case measure => simp [intOf]; omega
        case rel =>
          refine ⟨k + 1, by go_num, by omega, ?_, ?_, ?_, ?_⟩
          · exact ((hbr.setCell (by dsimp only; omega) _).setCell (by dsimp only; omega) _).drew
          · exact (((bA.other (by dsimp only; omega) _).other (by dsimp only; omega) _)).drew
          · exact (((b1.other (by dsimp only; omega) _).other (by dsimp only; omega) _)).drew
          · refine BlkN.drew (((bO.set (k + W) (by omega) x).set (k + W) (by omega) (shW L (n % 64) k)).congr ?_)
            intro i _
            rw [shF_step]
            by_cases hi : i = k + W
            · simp [hi]
            · simp [hi]
    · have hkw : ¬ (k : Int) < 12 - (W : Int) := by omega
      have hk12 : k = 12 - W := by omega
      subst hk12
      have bF := bO.congr (g := fun i => limb i (L * 2 ^ n)) (fun i hi => (shF_limb L n W EW.out i hi (by omega)).symm)
      have c1 := b1.cell; have f1 := b1.frozen; have cF := bF.cell
      clear cA cO bO fO
      go_wp2
      refine bodyPost_ret (v := .agg #[.int .u64 ((limb 0 (L * 2 ^ n) : Nat) : Int), .int .u64 ((limb 1 (L * 2 ^ n) : Nat) : Int), .int .u64 ((limb 2 (L * 2 ^ n) : Nat) : Int), .int .u64 ((limb 3 (L * 2 ^ n) : Nat) : Int), .int .u64 ((limb 4 (L * 2 ^ n) : Nat) : Int), .int .u64 ((limb 5 (L * 2 ^ n) : Nat) : Int), .int .u64 ((limb 6 (L * 2 ^ n) : Nat) : Int), .int .u64 ((limb 7 (L * 2 ^ n) : Nat) : Int), .int .u64 ((limb 8 (L * 2 ^ n) : Nat) : Int), .int .u64 ((limb 9 (L * 2 ^ n) : Nat) : Int), .int .u64 ((limb 10 (L * 2 ^ n) : Nat) : Int), .int .u64 ((limb 11 (L * 2 ^ n) : Nat) : Int)]) (by simp [results, Tryz.results73, go_sem, c1]) rfl ⟨rfl, ?_⟩
      repeat (first | with_reducible exact hbr | with_reducible refine Below.setCell ?_ (by first | omega | (simp; omega) | simp) _)

end Go.Proofs.YtaeembdabnomaaaGreatDoor
