import Derived.Test.YtdeijnlbencfdaaGreatDoorWFD
import Derived.Test.YtdeijnlbencfdaaGreatDoorWSA
set_option maxHeartbeats 4000000
namespace Go.Proofs.YtdeijnlbencfdaaGreatDoor
open Go.RowKit
theorem scalar_any (c s k : Nat) (hx : bits BinOp.xor IntKind.i64 (c : Int) 1 = (s : Int)) (hs : s < 4) (hk : k < 115792089237316195423570985008687907853269984665640564039457584007913129639936) (w : World) (hg : Glob w) :
  Calls Tryz.prog 119 #[.int .i64 (c : Int), .agg #[.int .u64 (limb 0 k), .int .u64 (limb 1 k), .int .u64 (limb 2 k), .int .u64 (limb 3 k)]] w fun e w' => e = .returned (.agg #[.int .u64 (limb 0 (k % modN s)), .int .u64 (limb 1 (k % modN s)), .int .u64 (limb 2 (k % modN s)), .int .u64 (limb 3 (k % modN s))]) ∧ Below w.heap.size w w' := by
 have HS := fun w hg => fAdd_zero s k hs hk w hg
 have EV : Hid (addP s k 0 = k % modN s) := rfl
 obtain ⟨v, ev⟩ : ∃ v, v = addP s k 0 := ⟨_, rfl⟩
 rw [← ev] at HS EV
 clear ev
 go_enter Tryz.func119, Tryz.ntmps119
 go_upto_region 1 with fail
 obtain ⟨w0, hw0⟩ : ∃ w0 : World, w0 = (w.alloc (.cells #[.int .u64 (limb 0 k), .int .u64 (limb 1 k), .int .u64 (limb 2 k), .int .u64 (limb 3 k)] 25)).alloc (.cells #[.int .u64 0, .int .u64 0, .int .u64 0, .int .u64 0] 25) := ⟨_, rfl⟩
 have ba0 : Blk w0 25 w.heap.size (fun i => limb i k) := by rw [hw0]; exact (Blk.newAt _ _ _ (fun i => limb i k) (by simp)).alloc _
 have br0 : Blk w0 25 (w.heap.size + 1) (fun _ => 0) := by rw [hw0]; exact Blk.newAt _ _ _ (fun _ => 0) (by simp)
 have hg0 : Glob w0 := by rw [hw0]; exact (hg.alloc _).alloc _
 have hb0 : Below w.heap.size w w0 := by
  rw [hw0]
  repeat (first | with_reducible exact Below.refl _ _ | with_reducible refine Below.alloc ?_ (by first | omega | (simp; omega) | simp) _)
 rw [← hw0]
 clear hw0 hg
 have ca := ba0.cell
 go_wp2_with fail
 refine (HS _ hg0).mono ?_
 rintro e w1 ⟨rfl, hb1⟩
 have br1 := br0.belowAll hb1
 have hbw1 := bStep hb0 hb1
 have cr := br1.cell; have fr := br1.frozen; have lr := br1.lt
 clear br0 hb0 hb1 hg0 HS ba0 ca
 go_wp2
 refine bodyPost_ret (v := .agg #[.int .u64 (limb 0 v), .int .u64 (limb 1 v), .int .u64 (limb 2 v), .int .u64 (limb 3 v)]) (by simp [results, Tryz.results119, go_sem, cr]) rfl ⟨by rw [EV.out], ?_⟩
 repeat (first | with_reducible exact hbw1 | with_reducible refine Below.setCell ?_ (by first | omega | (simp; omega) | simp) _)
end Go.Proofs.YtdeijnlbencfdaaGreatDoor
namespace Go.Proofs.YtdeijnlbencfdaaGreatDoor
open Go.RowKit
theorem digit_walk (A f b : Nat) (hf : f ≤ 65536) (hb8 : b ≤ 8) (BB : ∀ (n : Nat) (w : World), Calls Tryz.prog 71 #[.agg #[.int .u64 (limb 0 A), .int .u64 (limb 1 A), .int .u64 (limb 2 A), .int .u64 (limb 3 A)], .int .i64 (n : Int)] w fun e w' => e = .returned (.bool (decide (bitN A n = 1))) ∧ Below w.heap.size w w') (w : World) :
  Calls Tryz.prog 123 #[.agg #[.int .u64 (limb 0 A), .int .u64 (limb 1 A), .int .u64 (limb 2 A), .int .u64 (limb 3 A)], .int .i64 (f : Int), .int .i64 (b : Int)] w fun e w' => e = .returned (.int .i64 ((digN A f b : Nat) : Int)) ∧ Below w.heap.size w w' := by
 go_enter Tryz.func123, Tryz.ntmps123
 go_upto_region 1 with fail
 obtain ⟨w0, hw0⟩ : ∃ w0 : World, w0 = w.alloc (.cells #[.int .u64 (limb 0 A), .int .u64 (limb 1 A), .int .u64 (limb 2 A), .int .u64 (limb 3 A)] 25) := ⟨_, rfl⟩
 have ba0 : Blk w0 25 w.heap.size (fun i => limb i A) := by rw [hw0]; exact Blk.newAt _ _ _ (fun i => limb i A) (by simp)
 have hb0 : Below w.heap.size w w0 := by rw [hw0]; exact (Below.refl _ _).alloc (Nat.le_refl _) _
 rw [← hw0]
 clear hw0
 go_wp2
 go_loopw [7, 10] (fun d i wr => ∃ k : Nat, i = .int .i64 (k : Int) ∧ d = .int .i64 ((digN A f k : Nat) : Int) ∧ k ≤ b ∧ Below w.heap.size w wr ∧ Blk wr 25 w.heap.size (fun i => limb i A)) (fun _ i _ => b - (intOf i).toNat)
 case atStart =>
  exact ⟨0, rfl, by rw [digN_zero]; rfl, by omega, hb0, ba0⟩
 case round =>
  obtain ⟨k, rfl, rfl, hk, hbr, ba⟩ := hrel
  clear ba0 hb0
  by_cases hlt : k < b
  ·have hki : (k : Int) < (b : Int) := by omega
   have BT := fun w => BB (f + k) w
   rw [Int.natCast_add] at BT
   have ca := ba.cell; have la := ba.lt
   by_cases hbit : bitN A (f + k) = 1
   ·have HN := (show Hid _ from digN_next1 A f k hbit)
    have HO := (show Hid _ from or_above (digN A f k) k (digN_lt A f k) (by omega))
    rw [show decide (bitN A (f + k) = 1) = true from by simp [hbit]] at BT
    obtain ⟨d, ed⟩ : ∃ d, d = digN A f k := ⟨_, rfl⟩
    rw [← ed] at HN HO ⊢
    clear ed hbit BB
    go_wp2_with fail
    refine (BT _).mono ?_
    rintro r w2 ⟨rfl, hb2⟩
    have ba2 := ba.belowAll hb2
    have hbw2 := bStep hbr hb2
    clear ba hbr hb2 ca la BT
    go_wp2
    go_roundw
    case measure => simp [intOf]; omega
    case rel =>
     have hp : 2 ^ k < 2 ^ 9 := Nat.pow_lt_pow_right (by decide) (by omega)
     have e2 : wrap64 ((2 : Int) ^ k) = ((2 ^ k : Nat) : Int) := by
      rw [show ((2 : Int) ^ k) = ((2 ^ k : Nat) : Int) from by simp]
      generalize 2 ^ k = p at hp
      exact IntWalk.wrap64_in _ (by omega)
     exact ⟨k + 1, by go_num, by rw [HN.out, e2, HO.out], by omega, hbw2, ba2⟩
   ·have HN := (show Hid _ from digN_next0 A f k hbit)
    rw [show decide (bitN A (f + k) = 1) = false from by simp [hbit]] at BT
    obtain ⟨d, ed⟩ : ∃ d, d = digN A f k := ⟨_, rfl⟩
    rw [← ed] at HN ⊢
    clear ed hbit BB
    go_wp2_with fail
    refine (BT _).mono ?_
    rintro r w2 ⟨rfl, hb2⟩
    have ba2 := ba.belowAll hb2
    have hbw2 := bStep hbr hb2
    clear ba hbr hb2 ca la BT
    go_wp2
    go_roundw
    case measure => simp [intOf]; omega
    case rel =>
     exact ⟨k + 1, by go_num, by rw [HN.out], by omega, hbw2, ba2⟩
  ·have hkb : k = b := by omega
   subst hkb
   clear hlt BB
   go_wp2
   go_ret
   exact ⟨rfl, hbr⟩
end Go.Proofs.YtdeijnlbencfdaaGreatDoor
namespace Go.Proofs.YtdeijnlbencfdaaGreatDoor
open Go.RowKit
theorem bit_out (A : Nat) (i : Int) (h1 : 256 ≤ i) (w : World) :
  Calls Tryz.prog 71 #[.agg #[.int .u64 (limb 0 A), .int .u64 (limb 1 A), .int .u64 (limb 2 A), .int .u64 (limb 3 A)], .int .i64 i] w fun e w' => e = .returned (.bool false) ∧ Below w.heap.size w w' := by
 have hn : ¬ i < 0 := by omega
 go_enter Tryz.func71, Tryz.ntmps71
 go_upto_region 1 with fail
 obtain ⟨w0, hw0⟩ : ∃ w0 : World, w0 = w.alloc (.cells #[.int .u64 (limb 0 A), .int .u64 (limb 1 A), .int .u64 (limb 2 A), .int .u64 (limb 3 A)] 25) := ⟨_, rfl⟩
 have hb0 : Below w.heap.size w w0 := by rw [hw0]; exact (Below.refl _ _).alloc (Nat.le_refl _) _
 rw [← hw0]
 clear hw0
 go_wp2
 go_ret
 exact ⟨rfl, hb0⟩
theorem bit_all (A n : Nat) (hA : A < 115792089237316195423570985008687907853269984665640564039457584007913129639936) (w : World) :
  Calls Tryz.prog 71 #[.agg #[.int .u64 (limb 0 A), .int .u64 (limb 1 A), .int .u64 (limb 2 A), .int .u64 (limb 3 A)], .int .i64 (n : Int)] w fun e w' => e = .returned (.bool (decide (bitN A n = 1))) ∧ Below w.heap.size w w' := by
 by_cases h : n < 256
 ·have := bit_any A (n : Int) (by omega) (by omega) w
  rw [Int.toNat_natCast] at this
  exact this
 ·refine (bit_out A (n : Int) (by omega) w).mono ?_
  rintro e w' ⟨rfl, hb⟩
  refine ⟨congrArg (fun b => Ending.returned (.bool b)) ?_, hb⟩
  have hp : 2 ^ 256 ≤ 2 ^ n := Nat.pow_le_pow_right (by decide) (by omega)
  have e0 : A / 2 ^ n = 0 := Nat.div_eq_of_lt (Nat.lt_of_lt_of_le hA (Nat.le_trans (by decide) hp))
  unfold bitN
  rw [e0]
  rfl
theorem digit_any (A f b : Nat) (hA : A < 115792089237316195423570985008687907853269984665640564039457584007913129639936) (hf : f ≤ 65536) (hb8 : b ≤ 8) (w : World) :
  Calls Tryz.prog 123 #[.agg #[.int .u64 (limb 0 A), .int .u64 (limb 1 A), .int .u64 (limb 2 A), .int .u64 (limb 3 A)], .int .i64 (f : Int), .int .i64 (b : Int)] w fun e w' => e = .returned (.int .i64 ((digN A f b : Nat) : Int)) ∧ Below w.heap.size w w' :=
 digit_walk A f b hf hb8 (fun n w => bit_all A n hA w) w
end Go.Proofs.YtdeijnlbencfdaaGreatDoor
namespace Go.Proofs.YtdeijnlbencfdaaGreatDoor
open Go.RowKit
theorem new_cell (w : World) (t : TypeId) (v : Value) : (w.alloc (.cells #[v] t)).cell? ⟨w.heap.size, 0, none⟩ = some v := by
 have h : (w.alloc (.cells #[v] t)).heap[w.heap.size]? = some (.cells #[v] t) := by
  show (w.heap.push _)[w.heap.size]? = _
  simp
 simp only [World.cell?, h]
 rfl
theorem cost_any (L b t p q : Nat) (hL : L ≤ 65536) (hb : 0 < b) (hb8 : b ≤ 8) (w : World) (hp : w.cell? ⟨p, 0, none⟩ = some (.int .i64 (L : Int))) (hq : w.cell? ⟨q, 0, none⟩ = some (.int .i64 (t : Int))) :
  Calls Tryz.prog 122 #[.int .i64 (b : Int), .pointer (some ⟨p, 0, none⟩), .pointer (some ⟨q, 0, none⟩)] w fun e w' => (∃ n : Int, e = .returned (.int .i64 n)) ∧ Below w.heap.size w w' := by
 have LD := fun w => lastDigit_any L b hL hb (by omega) w
 have hl := lastN_le L b
 have hz : ¬ (b : Int) = 0 := by omega
 obtain ⟨r, er⟩ : ∃ r, r = lastN L b := ⟨_, rfl⟩
 rw [← er] at hl LD
 clear er
 go_enter Tryz.func122, Tryz.ntmps122
 go_wp2_with fail
 refine (LD _).mono ?_
 rintro e w1 ⟨rfl, rfl⟩
 go_wp2
 go_region
 go_wp2
 go_ret
 exact ⟨⟨_, rfl⟩, (Below.refl _ _).drew⟩
theorem bestWidth_any (L t : Nat) (hL : L ≤ 65536) (w : World) :
  Calls Tryz.prog 90 #[.int .i64 (L : Int), .int .i64 (t : Int)] w fun e w' => (∃ b : Nat, e = .returned (.int .i64 (b : Int)) ∧ 0 < b ∧ b ≤ 8) ∧ Below w.heap.size w w' := by
 have CC := fun (b p q : Nat) (hb : 0 < b) (hb8 : b ≤ 8) (w : World) hp hq => cost_any L b t p q hL hb hb8 w hp hq
 go_enter Tryz.func90, Tryz.ntmps90
 go_upto_region 1 with fail
 obtain ⟨w0, hw0⟩ : ∃ w0 : World, w0 = (w.alloc (.cells #[.int .i64 (L : Int)] 3)).alloc (.cells #[.int .i64 (t : Int)] 3) := ⟨_, rfl⟩
 have hz0 : w.heap.size + 1 < w0.heap.size := by rw [hw0]; simp
 have hs1 : (w.alloc (.cells #[.int .i64 (L : Int)] 3)).heap.size = w.heap.size + 1 := by simp
 have c0 : w0.cell? ⟨w.heap.size, 0, none⟩ = some (.int .i64 (L : Int)) := by
  rw [hw0, ((Below.refl _ _).alloc (Nat.le_refl _) _).cell (p := ⟨w.heap.size, 0, none⟩) (show w.heap.size < _ by rw [hs1]; omega)]
  exact new_cell _ _ _
 have c1 : w0.cell? ⟨w.heap.size + 1, 0, none⟩ = some (.int .i64 (t : Int)) := by
  rw [hw0, ← hs1]
  exact new_cell _ _ _
 clear hs1
 have hb0 : Below w.heap.size w w0 := by rw [hw0]; exact ((Below.refl _ _).alloc (Nat.le_refl _) _).alloc (by simp) _
 rw [← hw0]
 clear hw0
 go_wp2
 go_loopw [6, 7] (fun d i wr => ∃ k b : Nat, i = .int .i64 (k : Int) ∧ d = .int .i64 (b : Int) ∧ 0 < b ∧ b ≤ 8 ∧ 0 < k ∧ k ≤ 9 ∧ Below w.heap.size w wr ∧ w.heap.size + 1 < wr.heap.size ∧ wr.cell? ⟨w.heap.size, 0, none⟩ = some (.int .i64 (L : Int)) ∧ wr.cell? ⟨w.heap.size + 1, 0, none⟩ = some (.int .i64 (t : Int))) (fun _ i _ => 9 - (intOf i).toNat)
 case atStart =>
  exact ⟨2, 1, rfl, rfl, by omega, by omega, by omega, by omega, hb0, hz0, c0, c1⟩
 case round =>
  obtain ⟨k, b, rfl, rfl, hb, hb8, hk, hk9, hbr, hz, d0, d1⟩ := hrel
  clear hb0 hz0 c0 c1
  by_cases hlt : k ≤ 8
  ·have hki : (k : Int) ≤ 8 := by omega
   have C1 := CC k _ _ hk hlt _ d0 d1
   go_wp2_with fail
   refine C1.mono ?_
   rintro e w2 ⟨⟨n, rfl⟩, hb2⟩
   have d02 : w2.cell? ⟨w.heap.size, 0, none⟩ = some (.int .i64 (L : Int)) := by rw [hb2.cell (p := ⟨w.heap.size, 0, none⟩) (show w.heap.size < wr.heap.size by omega)]; exact d0
   have d12 : w2.cell? ⟨w.heap.size + 1, 0, none⟩ = some (.int .i64 (t : Int)) := by rw [hb2.cell (p := ⟨w.heap.size + 1, 0, none⟩) (show w.heap.size + 1 < wr.heap.size by omega)]; exact d1
   have hbw2 := bStep hbr hb2
   have hz2 : w.heap.size + 1 < w2.heap.size := Nat.lt_of_lt_of_le hz hb2.size
   have C2 := CC b _ _ hb hb8 _ d02 d12
   clear hb2 hbr hz d0 d1 C1 CC
   go_wp2_with fail
   refine C2.mono ?_
   rintro e w3 ⟨⟨m, rfl⟩, hb3⟩
   have d03 : w3.cell? ⟨w.heap.size, 0, none⟩ = some (.int .i64 (L : Int)) := by rw [hb3.cell (p := ⟨w.heap.size, 0, none⟩) (show w.heap.size < w2.heap.size by omega)]; exact d02
   have d13 : w3.cell? ⟨w.heap.size + 1, 0, none⟩ = some (.int .i64 (t : Int)) := by rw [hb3.cell (p := ⟨w.heap.size + 1, 0, none⟩) (show w.heap.size + 1 < w2.heap.size by omega)]; exact d12
   have hbw3 := bStep hbw2 hb3
   have hz3 : w.heap.size + 1 < w3.heap.size := Nat.lt_of_lt_of_le hz2 hb3.size
   clear hb3 hbw2 hz2 d02 d12 C2
   by_cases hnm : n < m
   ·go_wp2
    go_roundw
    case measure => simp [intOf]; omega
    case rel => exact ⟨k + 1, k, by go_num, rfl, hk, hlt, by omega, by omega, hbw3, hz3, d03, d13⟩
   ·go_wp2
    go_roundw
    case measure => simp [intOf]; omega
    case rel => exact ⟨k + 1, b, by go_num, rfl, hb, hb8, by omega, by omega, hbw3, hz3, d03, d13⟩
  ·have hki : ¬ (k : Int) ≤ 8 := by omega
   clear CC
   go_wp2
   go_ret
   exact ⟨⟨b, rfl, hb, hb8⟩, hbr⟩
end Go.Proofs.YtdeijnlbencfdaaGreatDoor
