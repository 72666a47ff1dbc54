/- What field.Inv and Neg do. -/
import Derived.Test.YtaeembdabnomaaaGreatDoorF12
import Derived.Test.YtaeembdabnomaaaGreatDoorPrm2
namespace Go.Proofs.YtaeembdabnomaaaGreatDoor
open Go.RowKit

theorem modN_prime (s : Nat) : IsPrime (modN s) := by
  match s with
  | 0 => exact prime0
  | 1 => exact prime1
  | 2 => exact prime2
  | _ + 3 => exact prime3
theorem modN_odd (s : Nat) : modN s % 2 = 1 ∧ 1 < modN s := by
  match s with
  | 0 => decide
  | 1 => decide
  | 2 => exact ⟨by decide, by decide⟩
  | _ + 3 => exact ⟨by show 28948022309329048855892746252171976963363056481941647379679742748393362948097 % 2 = 1; decide, by show 1 < 28948022309329048855892746252171976963363056481941647379679742748393362948097; decide⟩
theorem prime_gcd (p x : Nat) (hp : IsPrime p) (h0 : x ≠ 0) (hx : x < p) : Nat.gcd x p = 1 := by
  rw [Nat.gcd_comm]
  exact hp.coprime (fun hd => by have := Nat.le_of_dvd (by omega) hd; omega)

set_option maxHeartbeats 4000000 in
/-- field.Inv. -/
theorem fInv_any (s a : Nat) (hs : s < 4) (ha : a < 115792089237316195423570985008687907853269984665640564039457584007913129639936) (w : World) (hg : Glob w) :
    Calls Tryz.prog 67 #[.int .i64 (s : Int), .agg #[.int .u64 ((limb 0 (a) : Nat) : Int), .int .u64 ((limb 1 (a) : Nat) : Int), .int .u64 ((limb 2 (a) : Nat) : Int), .int .u64 ((limb 3 (a) : Nat) : Int)]] w fun e w' => ((a % modN s = 0 ∧ e = .returned (.tuple #[.agg #[.int .u64 0, .int .u64 0, .int .u64 0, .int .u64 0], .int .i64 10])) ∨ (a % modN s ≠ 0 ∧ ∃ q, q < modN s ∧ q * (a % modN s) % modN s = 1 ∧ e = .returned (.tuple #[.agg #[.int .u64 ((limb 0 (q) : Nat) : Int), .int .u64 ((limb 1 (q) : Nat) : Int), .int .u64 ((limb 2 (q) : Nat) : Int), .int .u64 ((limb 3 (q) : Nat) : Int)], .int .i64 0]))) ∧ Below w.heap.size w w' := by
  have hgl := (modN_good s).lt
  have hod := modN_odd s
  have hpr := modN_prime s
  have HM := fun w hg => modulus_any s hs w hg
  obtain ⟨m, em⟩ : ∃ m, m = modN s := ⟨_, rfl⟩
  rw [← em] at hgl hod hpr HM ⊢
  clear em
  obtain ⟨h0, hm2, hm⟩ := hgl
  have lx := Nat.mod_lt a h0
  have EA := fun w => element_any m a h0 hm ha w
  obtain ⟨x, ex⟩ : ∃ x, x = a % m := ⟨_, rfl⟩
  rw [← ex] at lx EA ⊢
  clear ex
  have HP := (show Hid _ from hpr)
  clear hpr
  go_enter Tryz.func67, Tryz.ntmps67
  go_wp2_with fail
  obtain ⟨w0, hw0⟩ : ∃ w0 : World, w0 = (w.alloc (.cells #[.int .u64 ((limb 0 (a) : Nat) : Int), .int .u64 ((limb 1 (a) : Nat) : Int), .int .u64 ((limb 2 (a) : Nat) : Int), .int .u64 ((limb 3 (a) : Nat) : Int)] 24)).alloc (.cells #[.int .u64 0, .int .u64 0, .int .u64 0, .int .u64 0] 24) := ⟨_, rfl⟩
  have ba0 : Blk w0 24 w.heap.size (fun i => limb i a) := by rw [hw0]; exact (Blk.newAt _ _ _ (fun i => limb i a) (by simp)).alloc _
  have br0 : Blk w0 24 (w.heap.size + 1) (fun _ => 0) := by rw [hw0]; exact Blk.newAt _ _ _ (fun _ => 0) (by simp)
  have hg0 : Glob w0 := by rw [hw0]; exact (hg.alloc _).alloc _
  have hb0 : Below w.heap.size w w0 := by
    rw [hw0]
    repeat (first | with_reducible exact Below.refl _ _ | with_reducible refine Below.alloc ?_ (by first | omega | (simp; omega) | simp) _)
  rw [← hw0]
  clear hw0 hg
  refine (HM _ hg0).mono ?_
  rintro e w1 ⟨rfl, hb1⟩
  have ba1 := ba0.belowAll hb1; have br1 := br0.belowAll hb1; have hg1 := hg0.below hb1
  have hbw1 := bStep hb0 hb1
  clear ba0 br0 hb0 hb1 hg0 HM
  have ca := ba1.cell; have la := ba1.lt
  obtain ⟨hA, hG⟩ := acell (w := w1) (n := w1.heap.size) (Nat.le_refl _)
  go_wp2_with fail
  refine (EA _).mono ?_
  rintro e w2 ⟨rfl, hb2⟩
  have br2 := (br1.alloc _).belowAll hb2; have hg2 := (hg1.alloc _).below hb2
  have bm2 : Blk w2 63 w1.heap.size (fun i => limb i m) := (Blk.new w1 _ (fun i => limb i m)).belowAll hb2
  have hbw2 := bStep (bAlloc hbw1 _) hb2
  have hne : w.heap.size + 1 ≠ w1.heap.size := by have := br1.lt; omega
  clear ba1 br1 hbw1 hb2 hg1 EA ca la hA hG
  have hq0 := fun w => eqlS0 x (by omega) w
  have cr := br2.cell; have fr := br2.frozen; have lr := br2.lt; have lm := bm2.lt
  obtain ⟨hA, hG⟩ := acell (w := w2) (n := w2.heap.size) (Nat.le_refl _)
  by_cases hx0 : x = 0
  · rw [show decide (x = 0) = true from by simp [hx0]] at hq0
    go_wp2
    refine bodyPost_ret (v := .tuple #[.agg #[.int .u64 0, .int .u64 0, .int .u64 0, .int .u64 0], .int .i64 10]) (by simp [results, Tryz.results67, go_sem, cr, cell_old, lr]) rfl ⟨Or.inl ⟨hx0, rfl⟩, ?_⟩
    have hz2 := hbw2.size
    repeat (first | with_reducible exact hbw2 | with_reducible refine Below.setCell ?_ (by first | omega | (simp; omega) | simp) _ | with_reducible refine Below.alloc ?_ (by first | omega | (simp; omega) | simp) _)
  · rw [show decide (x = 0) = false from by simp [hx0]] at hq0
    have cm := bm2.cell
    have hgcd := prime_gcd m x HP.out hx0 lx
    have HX := (show Hid _ from hx0)
    clear hx0
    go_wp2_with fail
    refine (inverse_any m x hm2 hod.2 hod.1 lx hgcd _ (hg2.alloc _)).mono ?_
    rintro e w3 ⟨q, lq, hq, rfl, hb3⟩
    have br3 := (br2.alloc _).belowAll hb3
    have hbw3 := bStep (bAlloc hbw2 _) hb3
    have HQ := (show Hid _ from hq)
    clear br2 bm2 hbw2 hb3 hg2 cr fr lr lm cm hA hG hq0 hq hgcd
    go_wp2_with fail
    refine (toElem_any q _).mono ?_
    rintro e w4 ⟨rfl, hb4⟩
    have br4 := br3.belowAll hb4
    have hbw4 := bStep hbw3 hb4
    have cr := br4.cell; have fr := br4.frozen; have lr := br4.lt
    clear br3 hbw3 hb4
    go_wp2
    refine bodyPost_ret (v := .tuple #[.agg #[.int .u64 ((limb 0 (q) : Nat) : Int), .int .u64 ((limb 1 (q) : Nat) : Int), .int .u64 ((limb 2 (q) : Nat) : Int), .int .u64 ((limb 3 (q) : Nat) : Int)], .int .i64 0]) (by simp [results, Tryz.results67, go_sem, cr]) rfl ⟨Or.inr ⟨HX.out, q, lq, HQ.out, rfl⟩, ?_⟩
    repeat (first | with_reducible exact hbw4 | with_reducible refine Below.setCell ?_ (by first | omega | (simp; omega) | simp) _)

set_option maxHeartbeats 2000000 in
/-- field.Neg. -/
theorem fNeg_any (s a : Nat) (hs : s < 4) (ha : a < 115792089237316195423570985008687907853269984665640564039457584007913129639936) (w : World) (hg : Glob w) :
    Calls Tryz.prog 66 #[.int .i64 (s : Int), .agg #[.int .u64 ((limb 0 (a) : Nat) : Int), .int .u64 ((limb 1 (a) : Nat) : Int), .int .u64 ((limb 2 (a) : Nat) : Int), .int .u64 ((limb 3 (a) : Nat) : Int)]] w fun e w' => e = .returned (.agg #[.int .u64 ((limb 0 (subP s 0 a) : Nat) : Int), .int .u64 ((limb 1 (subP s 0 a) : Nat) : Int), .int .u64 ((limb 2 (subP s 0 a) : Nat) : Int), .int .u64 ((limb 3 (subP s 0 a) : Nat) : Int)]) ∧ Below w.heap.size w w' := by
  have HS := fun w hg => fSub_any s 0 a hs (by decide) ha w hg
  rw [limbz, limbz, limbz, limbz] at HS
  go_enter Tryz.func66, Tryz.ntmps66
  go_wp2_with fail
  obtain ⟨w0, hw0⟩ : ∃ w0 : World, w0 = (w.alloc (.cells #[.int .u64 ((limb 0 (a) : Nat) : Int), .int .u64 ((limb 1 (a) : Nat) : Int), .int .u64 ((limb 2 (a) : Nat) : Int), .int .u64 ((limb 3 (a) : Nat) : Int)] 24)).alloc (.cells #[.int .u64 0, .int .u64 0, .int .u64 0, .int .u64 0] 24) := ⟨_, rfl⟩
  have br0 : Blk w0 24 (w.heap.size + 1) (fun _ => 0) := by rw [hw0]; exact Blk.newAt _ _ _ (fun _ => 0) (by simp)
  have hg0 : Glob w0 := by rw [hw0]; exact (hg.alloc _).alloc _
  have hb0 : Below w.heap.size w w0 := by
    rw [hw0]
    repeat (first | with_reducible exact Below.refl _ _ | with_reducible refine Below.alloc ?_ (by first | omega | (simp; omega) | simp) _)
  rw [← hw0]
  clear hw0 hg
  refine (HS _ hg0).mono ?_
  rintro e w1 ⟨rfl, hb1⟩
  have br1 := br0.belowAll hb1
  have hbw1 := bStep hb0 hb1
  have cr := br1.cell; have fr := br1.frozen; have lr := br1.lt
  clear br0 hb0 hb1 hg0 HS
  go_wp2
  refine bodyPost_ret (v := .agg #[.int .u64 ((limb 0 (subP s 0 a) : Nat) : Int), .int .u64 ((limb 1 (subP s 0 a) : Nat) : Int), .int .u64 ((limb 2 (subP s 0 a) : Nat) : Int), .int .u64 ((limb 3 (subP s 0 a) : Nat) : Int)]) (by simp [results, Tryz.results66, go_sem, cr]) rfl ⟨rfl, ?_⟩
  repeat (first | with_reducible exact hbw1 | with_reducible refine Below.setCell ?_ (by first | omega | (simp; omega) | simp) _)

set_option maxHeartbeats 2000000 in
/-- field.Add of a sort that there isn't. -/
theorem fAdd_out (s : Int) (a b : Nat) (hs : s < 0 ∨ 4 ≤ s) (w : World) :
    Calls Tryz.prog 58 #[.int .i64 s, .agg #[.int .u64 ((limb 0 (a) : Nat) : Int), .int .u64 ((limb 1 (a) : Nat) : Int), .int .u64 ((limb 2 (a) : Nat) : Int), .int .u64 ((limb 3 (a) : Nat) : Int)], .agg #[.int .u64 ((limb 0 (b) : Nat) : Int), .int .u64 ((limb 1 (b) : Nat) : Int), .int .u64 ((limb 2 (b) : Nat) : Int), .int .u64 ((limb 3 (b) : Nat) : Int)]] w fun e w' => e = .returned (.agg #[.int .u64 0, .int .u64 0, .int .u64 0, .int .u64 0]) ∧ Below w.heap.size w w' := by
  have HM := fun w => modulus_out s hs w
  clear hs
  go_enter Tryz.func58, Tryz.ntmps58
  go_wp2_with fail
  obtain ⟨w0, hw0⟩ : ∃ w0 : World, w0 = ((w.alloc (.cells #[.int .u64 ((limb 0 (a) : Nat) : Int), .int .u64 ((limb 1 (a) : Nat) : Int), .int .u64 ((limb 2 (a) : Nat) : Int), .int .u64 ((limb 3 (a) : Nat) : Int)] 24)).alloc (.cells #[.int .u64 ((limb 0 (b) : Nat) : Int), .int .u64 ((limb 1 (b) : Nat) : Int), .int .u64 ((limb 2 (b) : Nat) : Int), .int .u64 ((limb 3 (b) : Nat) : Int)] 24)).alloc (.cells #[.int .u64 0, .int .u64 0, .int .u64 0, .int .u64 0] 24) := ⟨_, rfl⟩
  have br0 : Blk w0 24 (w.heap.size + 1 + 1) (fun _ => 0) := by rw [hw0]; exact Blk.newAt _ _ _ (fun _ => 0) (by simp)
  have hb0 : Below w.heap.size w w0 := by
    rw [hw0]
    repeat (first | with_reducible exact Below.refl _ _ | with_reducible refine Below.alloc ?_ (by first | omega | (simp; omega) | simp) _)
  rw [← hw0]
  clear hw0
  refine (HM _).mono ?_
  rintro e w1 ⟨rfl, hb1⟩
  have br1 := br0.belowAll hb1
  have hbw1 := bStep hb0 hb1
  have cr := br1.cell; have fr := br1.frozen; have lr := br1.lt
  clear br0 hb0 hb1 HM
  go_wp2
  refine bodyPost_ret (v := .agg #[.int .u64 0, .int .u64 0, .int .u64 0, .int .u64 0]) (by simp [results, Tryz.results58, go_sem, cr, cell_old, lr]) rfl ⟨rfl, ?_⟩
  have hz1 := hbw1.size
  repeat (first | with_reducible exact hbw1 | with_reducible refine Below.setCell ?_ (by first | omega | (simp; omega) | simp) _ | with_reducible refine Below.alloc ?_ (by first | omega | (simp; omega) | simp) _)

end Go.Proofs.YtaeembdabnomaaaGreatDoor
