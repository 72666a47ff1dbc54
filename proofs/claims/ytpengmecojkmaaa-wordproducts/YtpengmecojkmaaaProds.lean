/- WordProducts: for every a, b and m the call returns true: Mul and Rem answer what the reference answers. No condition. The walk. -/
import Derived.Test.YtpengmecojkmaaaAlive
import Derived.Test.YtpengmecojkmaaaRef9
import Derived.Test.YtpengmecojkmaaaCore3
import Derived.Deep.RegionHeld3
namespace Go.Proofs.Ytpengmecojkmaaa
open Go.RowKit

def remV (a b m : Nat) : Nat := if m = 0 then 0 else (a + 115792089237316195423570985008687907853269984665640564039457584007913129639936 * b) % m
def remE (m : Nat) : Int := if m = 0 then 10 else 0
theorem remV_lt (a b m : Nat) (hm : m < 115792089237316195423570985008687907853269984665640564039457584007913129639936) : remV a b m < 115792089237316195423570985008687907853269984665640564039457584007913129639936 := by
  unfold remV; split
  · decide
  · exact Nat.lt_trans (Nat.mod_lt _ (by omega)) hm
theorem rem_both (a b m : Nat) (ha : a < 115792089237316195423570985008687907853269984665640564039457584007913129639936) (hb : b < 115792089237316195423570985008687907853269984665640564039457584007913129639936) (hm : m < 115792089237316195423570985008687907853269984665640564039457584007913129639936) (w : World) :
    Calls Try.prog 19 #[.agg #[.int .u64 ((limb 0 (a) : Nat) : Int), .int .u64 ((limb 1 (a) : Nat) : Int), .int .u64 ((limb 2 (a) : Nat) : Int), .int .u64 ((limb 3 (a) : Nat) : Int)], .agg #[.int .u64 ((limb 0 (b) : Nat) : Int), .int .u64 ((limb 1 (b) : Nat) : Int), .int .u64 ((limb 2 (b) : Nat) : Int), .int .u64 ((limb 3 (b) : Nat) : Int)], .agg #[.int .u64 ((limb 0 (m) : Nat) : Int), .int .u64 ((limb 1 (m) : Nat) : Int), .int .u64 ((limb 2 (m) : Nat) : Int), .int .u64 ((limb 3 (m) : Nat) : Int)]] w fun e w' => e = .returned (.tuple #[.agg #[.int .u64 ((limb 0 (remV a b m) : Nat) : Int), .int .u64 ((limb 1 (remV a b m) : Nat) : Int), .int .u64 ((limb 2 (remV a b m) : Nat) : Int), .int .u64 ((limb 3 (remV a b m) : Nat) : Int)], .int .i64 (remE m)]) ∧ Below w.heap.size w w' := by
  by_cases h : m = 0
  · subst h; exact rem_zero a b w
  · have h1 := rem_any a b m ha hb hm h w
    unfold remV remE
    rw [if_neg h, if_neg h]; exact h1
theorem refRem_both (a b m : Nat) (ha : a < 115792089237316195423570985008687907853269984665640564039457584007913129639936) (hb : b < 115792089237316195423570985008687907853269984665640564039457584007913129639936) (hm : m < 115792089237316195423570985008687907853269984665640564039457584007913129639936) (w : World) :
    Calls Try.prog 20 #[.agg #[.int .u64 ((limb 0 (a) : Nat) : Int), .int .u64 ((limb 1 (a) : Nat) : Int), .int .u64 ((limb 2 (a) : Nat) : Int), .int .u64 ((limb 3 (a) : Nat) : Int)], .agg #[.int .u64 ((limb 0 (b) : Nat) : Int), .int .u64 ((limb 1 (b) : Nat) : Int), .int .u64 ((limb 2 (b) : Nat) : Int), .int .u64 ((limb 3 (b) : Nat) : Int)], .agg #[.int .u64 ((limb 0 (m) : Nat) : Int), .int .u64 ((limb 1 (m) : Nat) : Int), .int .u64 ((limb 2 (m) : Nat) : Int), .int .u64 ((limb 3 (m) : Nat) : Int)]] w fun e w' => e = .returned (.tuple #[.agg #[.int .u64 ((limb 0 (remV a b m) : Nat) : Int), .int .u64 ((limb 1 (remV a b m) : Nat) : Int), .int .u64 ((limb 2 (remV a b m) : Nat) : Int), .int .u64 ((limb 3 (remV a b m) : Nat) : Int)], .int .i64 (remE m)]) ∧ Below w.heap.size w w' := by
  by_cases h : m = 0
  · subst h; exact refRem_zero a b w
  · have h1 := refRem_any a b m ha hb hm h w
    unfold remV remE
    rw [if_neg h, if_neg h]; exact h1

set_option maxHeartbeats 8000000 in
set_option maxRecDepth 20000 in
theorem prods_walk (a b m : Nat) (ha : a < 115792089237316195423570985008687907853269984665640564039457584007913129639936) (hb : b < 115792089237316195423570985008687907853269984665640564039457584007913129639936) (hm : m < 115792089237316195423570985008687907853269984665640564039457584007913129639936) (w : World) :
    Calls Try.prog 5 #[.agg #[.int .u64 ((limb 0 (a) : Nat) : Int), .int .u64 ((limb 1 (a) : Nat) : Int), .int .u64 ((limb 2 (a) : Nat) : Int), .int .u64 ((limb 3 (a) : Nat) : Int)], .agg #[.int .u64 ((limb 0 (b) : Nat) : Int), .int .u64 ((limb 1 (b) : Nat) : Int), .int .u64 ((limb 2 (b) : Nat) : Int), .int .u64 ((limb 3 (b) : Nat) : Int)], .agg #[.int .u64 ((limb 0 (m) : Nat) : Int), .int .u64 ((limb 1 (m) : Nat) : Int), .int .u64 ((limb 2 (m) : Nat) : Int), .int .u64 ((limb 3 (m) : Nat) : Int)]] w fun e w' => e = .returned (.bool true) ∧ Below w.heap.size w w' := by
  go_enter Try.func5, Try.ntmps5
  go_wp2_with fail
  obtain ⟨w0, hw0⟩ : ∃ w0 : World, w0 = ((w.alloc (.cells #[.int .u64 ((limb 0 (a) : Nat) : Int), .int .u64 ((limb 1 (a) : Nat) : Int), .int .u64 ((limb 2 (a) : Nat) : Int), .int .u64 ((limb 3 (a) : Nat) : Int)] 24)).alloc (.cells #[.int .u64 ((limb 0 (b) : Nat) : Int), .int .u64 ((limb 1 (b) : Nat) : Int), .int .u64 ((limb 2 (b) : Nat) : Int), .int .u64 ((limb 3 (b) : Nat) : Int)] 24)).alloc (.cells #[.int .u64 ((limb 0 (m) : Nat) : Int), .int .u64 ((limb 1 (m) : Nat) : Int), .int .u64 ((limb 2 (m) : Nat) : Int), .int .u64 ((limb 3 (m) : Nat) : Int)] 24) := ⟨_, rfl⟩
  have ba0 : Blk w0 24 w.heap.size (fun i => limb i a) := by rw [hw0]; exact ((Blk.newAt _ _ _ (fun i => limb i a) rfl).alloc _).alloc _
  have bb0 : Blk w0 24 (w.heap.size + 1) (fun i => limb i b) := by rw [hw0]; exact (Blk.newAt _ _ _ (fun i => limb i b) (by simp)).alloc _
  have bm0 : Blk w0 24 (w.heap.size + 1 + 1) (fun i => limb i m) := by rw [hw0]; exact Blk.newAt _ _ _ (fun i => limb i m) (by simp)
  have hb0 : Below w.heap.size w w0 := by
    rw [hw0]
    repeat (first | with_reducible exact Below.refl _ _ | with_reducible refine Below.alloc ?_ (by first | omega | (simp; omega) | simp) _)
  rw [← hw0]
  clear hw0
  refine (alive_any _).mono ?_
  rintro e w1 ⟨rfl, hb1⟩
  have ba1 := ba0.belowAll hb1; have bb1 := bb0.belowAll hb1; have bm1 := bm0.belowAll hb1
  have hbw1 := bStep hb0 hb1
  clear ba0 bb0 bm0 hb0 hb1
  have ca := ba1.cell; have cb := bb1.cell
  go_wp2_with fail
  refine (mul_any a b ha hb _).mono ?_
  rintro e w2 ⟨rfl, hb2⟩
  have ba2 := ba1.belowAll hb2; have bb2 := bb1.belowAll hb2; have bm2 := bm1.belowAll hb2
  have hbw2 := bStep hbw1 hb2
  clear ba1 bb1 bm1 hbw1 hb2 ca cb
  have ca := ba2.cell; have cb := bb2.cell; have la := ba2.lt; have lb := bb2.lt
  have hLl := lo256_lt (a * b)
  have hHl : hi256 (a * b) < 115792089237316195423570985008687907853269984665640564039457584007913129639936 := by
    unfold hi256
    rw [Nat.div_lt_iff_lt_mul (by decide)]
    exact Nat.mul_lt_mul'' ha hb
  obtain ⟨L, eL⟩ : ∃ L, L = lo256 (a * b) := ⟨_, rfl⟩
  obtain ⟨Hh, eH⟩ : ∃ Hh, Hh = hi256 (a * b) := ⟨_, rfl⟩
  rw [← eL] at hLl ⊢
  rw [← eH] at hHl ⊢
  have EL := (show Hid _ from eL); have EH := (show Hid _ from eH)
  clear eL eH
  obtain ⟨hA, hG⟩ := acell2 (w := w2)
  go_wp2_with fail
  refine (refMul_any a b ha hb _).mono ?_
  rintro e w3 ⟨rfl, hb3⟩
  rw [← EL.out, ← EH.out]
  have ba3 := ((ba2.alloc _).alloc _).belowAll hb3; have bb3 := ((bb2.alloc _).alloc _).belowAll hb3; have bm3 := ((bm2.alloc _).alloc _).belowAll hb3
  have hbw3 := bStep (bAlloc (bAlloc hbw2 _) _) hb3
  have bl3 : Blk w3 24 w2.heap.size (fun i => limb i L) := ((Blk.new w2 _ (fun i => limb i L)).alloc _).belowAll hb3
  have bh3 : Blk w3 24 (w2.heap.size + 1) (fun i => limb i Hh) := (Blk.newAt _ _ _ (fun i => limb i Hh) (by simp)).belowAll hb3
  clear ba2 bb2 bm2 hbw2 hb3 ca cb la lb hA hG
  have cl := bl3.cell; have ch := bh3.cell; have ll := bl3.lt; have lh := bh3.lt
  have n1 := fun w => neqE L L hLl hLl w
  rw [show decide (L = L) = true from by simp] at n1
  have n2 := fun w => neqE Hh Hh hHl hHl w
  rw [show decide (Hh = Hh) = true from by simp] at n2
  have ca := ba3.cell; have cb := bb3.cell; have cm := bm3.cell; have la := ba3.lt; have lb := bb3.lt; have lm := bm3.lt
  obtain ⟨hA, hG⟩ := acell2 (w := w3)
  go_wp2_with fail
  refine (rem_both a b m ha hb hm _).mono ?_
  rintro e w4 ⟨rfl, hb4⟩
  have ba4 := ((ba3.alloc _).alloc _).belowAll hb4; have bb4 := ((bb3.alloc _).alloc _).belowAll hb4; have bm4 := ((bm3.alloc _).alloc _).belowAll hb4
  have hbw4 := bStep (bAlloc (bAlloc hbw3 _) _) hb4
  clear ba3 bb3 bm3 bl3 bh3 hbw3 hb4 cl ch ll lh ca cb cm la lb lm hA hG n1 n2
  have hRl := remV_lt a b m hm
  obtain ⟨R, eR⟩ : ∃ R, R = remV a b m := ⟨_, rfl⟩
  obtain ⟨v, ev⟩ : ∃ v, v = remE m := ⟨_, rfl⟩
  rw [← eR] at hRl ⊢
  rw [← ev]
  have ER := (show Hid _ from eR); have EV := (show Hid _ from ev)
  clear eR ev
  have ca := ba4.cell; have cb := bb4.cell; have cm := bm4.cell; have la := ba4.lt; have lb := bb4.lt; have lm := bm4.lt
  obtain ⟨hA, hG⟩ := acell (w := w4) (n := w4.heap.size) (Nat.le_refl _)
  go_wp2_with fail
  refine (refRem_both a b m ha hb hm _).mono ?_
  rintro e w5 ⟨rfl, hb5⟩
  rw [← ER.out, ← EV.out]
  have hbw5 := bStep (bAlloc hbw4 _) hb5
  have bR5 : Blk w5 24 w4.heap.size (fun i => limb i R) := (Blk.new w4 _ (fun i => limb i R)).belowAll hb5
  clear ba4 bb4 bm4 hbw4 hb5 ca cb cm la lb lm hA hG
  have n1 := fun w => eqlE R R hRl hRl w
  rw [show decide (R = R) = true from by simp] at n1
  have cR := bR5.cell; have lR := bR5.lt
  obtain ⟨hA, hG⟩ := acell (w := w5) (n := w5.heap.size) (Nat.le_refl _)
  go_wp2
  go_ret
  exact ⟨rfl, bAlloc hbw5 _⟩

end Go.Proofs.Ytpengmecojkmaaa
