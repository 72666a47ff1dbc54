import Derived.Test.YtokoknacolmhgaaGreatDoorVMS17
import Derived.Test.YtokoknacolmhgaaGreatDoorVMS18
import Derived.Test.YtokoknacolmhgaaGreatDoorVMS19
set_option maxHeartbeats 8000000
namespace Go.Proofs.YtokoknacolmhgaaGreatDoor
open Go.RowKit
def GreatE (n : Nat) (e : Ending) : Prop := ∃ b, e = .returned (.bool b) ∧ (b = false → n ≤ 60)
theorem great_any (c : Int) (oa : Option Addr) (n k : Nat) (w : World) :
  Calls Tryz.prog 9 #[.int .i64 c, .slice oa n k] w fun e w' => GreatE n e ∧ w' = w := by
 by_cases h1 : (60 : Int) < (n : Int)
 ·go_enter Tryz.func9, Tryz.ntmps9
  go_wp2
  go_ret
  exact ⟨⟨true, rfl, fun h => by cases h⟩, rfl⟩
 ·have hn : n ≤ 60 := by omega
  have HN := (show Hid _ from hn)
  clear hn
  by_cases h2 : c = 2
  ·subst h2
   by_cases h3 : (2 : Int) < (n : Int)
   ·go_enter Tryz.func9, Tryz.ntmps9
    go_wp2
    go_ret
    exact ⟨⟨_, rfl, fun _ => HN.out⟩, rfl⟩
   ·go_enter Tryz.func9, Tryz.ntmps9
    go_wp2
    go_ret
    exact ⟨⟨_, rfl, fun _ => HN.out⟩, rfl⟩
  ·by_cases h3 : c = 3
   ·subst h3
    by_cases h4 : (2 : Int) < (n : Int)
    ·go_enter Tryz.func9, Tryz.ntmps9
     go_wp2
     go_ret
     exact ⟨⟨_, rfl, fun _ => HN.out⟩, rfl⟩
    ·go_enter Tryz.func9, Tryz.ntmps9
     go_wp2
     go_ret
     exact ⟨⟨_, rfl, fun _ => HN.out⟩, rfl⟩
   ·go_enter Tryz.func9, Tryz.ntmps9
    go_wp2
    go_ret
    exact ⟨⟨_, rfl, fun _ => HN.out⟩, rfl⟩
theorem SumE.one {c n : Nat} {T : Nat → Nat × Nat × Nat × Bool} : ∃ (x y : Nat) (i : Bool) (E : Int), x < 115792089237316195423570985008687907853269984665640564039457584007913129639936 ∧ y < 115792089237316195423570985008687907853269984665640564039457584007913129639936 ∧ ∀ e, SumE c n T e → e = .returned (.tuple #[.agg #[.int .u64 (limb 0 x), .int .u64 (limb 1 x), .int .u64 (limb 2 x), .int .u64 (limb 3 x), .int .u64 (limb 0 y), .int .u64 (limb 1 y), .int .u64 (limb 2 y), .int .u64 (limb 3 y), .bool i], .int .i64 E]) := by
 by_cases hall : ∀ i, i < n → onT c (T i).2
 ·have ho : onT c (tot c (fun i => (T i).1 % modN (xc c)) (fun i => (T i).2) n) := tot_on _ hall
  refine ⟨(tot c (fun i => (T i).1 % modN (xc c)) (fun i => (T i).2) n).1, (tot c (fun i => (T i).1 % modN (xc c)) (fun i => (T i).2) n).2.1, (tot c (fun i => (T i).1 % modN (xc c)) (fun i => (T i).2) n).2.2, 0, lt_M c _ (on_lt ho).1, lt_M c _ (on_lt ho).2, ?_⟩
  rintro e ⟨x, y, i, E, rfl, h | h⟩
  ·obtain ⟨rfl, _, h⟩ := h
   rw [← h]
  ·exact absurd hall h.2.1
 ·refine ⟨0, 0, false, 41, by decide, by decide, ?_⟩
  rintro e ⟨x, y, i, E, rfl, h | h⟩
  ·exact absurd h.2.1 hall
  ·obtain ⟨rfl, _, h⟩ := h
   cases h
   rfl
set_option maxRecDepth 20000 in
theorem msums_gen (c E : Int) (n cn x y : Nat) (i : Bool) (oa : Option Addr) (T : Nat → Nat × Nat × Nat × Bool) (hx : x < 115792089237316195423570985008687907853269984665640564039457584007913129639936) (hy : y < 115792089237316195423570985008687907853269984665640564039457584007913129639936) (hT : ∀ i, i < n → (T i).1 < 115792089237316195423570985008687907853269984665640564039457584007913129639936 ∧ (T i).2.1 < 115792089237316195423570985008687907853269984665640564039457584007913129639936 ∧ (T i).2.2.1 < 115792089237316195423570985008687907853269984665640564039457584007913129639936)
  (H1 : n ≤ 60 → ∀ (v : Value) (w : World), GlobC w → Rs w v 13 n (fun i => tC (T i)) → Calls Tryz.prog 11 #[.int .i64 c, v] w fun e w' => e = .returned (.tuple #[.agg #[.int .u64 (limb 0 x), .int .u64 (limb 1 x), .int .u64 (limb 2 x), .int .u64 (limb 3 x), .int .u64 (limb 0 y), .int .u64 (limb 1 y), .int .u64 (limb 2 y), .int .u64 (limb 3 y), .bool i], .int .i64 E]) ∧ Below w.heap.size w w')
  (H2 : n ≤ 60 → ∀ (v : Value) (w : World), Rs w v 13 n (fun i => tC (T i)) → Calls Tryz.prog 12 #[.int .i64 c, v] w fun e w' => e = .returned (.tuple #[.agg #[.int .u64 (limb 0 x), .int .u64 (limb 1 x), .int .u64 (limb 2 x), .int .u64 (limb 3 x), .int .u64 (limb 0 y), .int .u64 (limb 1 y), .int .u64 (limb 2 y), .int .u64 (limb 3 y), .bool i], .int .i64 E]) ∧ Below w.heap.size w w')
  (w : World) (hg : GlobC w) (hv : Rs w (.slice oa n cn) 13 n (fun i => tC (T i))) :
  Calls Tryz.prog 3 #[.int .i64 c, .slice oa n cn] w fun e w' => e = .returned (.bool true) ∧ Below w.heap.size w w' := by
 have HG0 : Hid (GlobC w) := hg; have HV : Hid (Rs w (.slice oa n cn) 13 n (fun i => tC (T i))) := hv
 have HH1 := (show Hid _ from H1); have HH2 := (show Hid _ from H2); have HT := (show Hid _ from hT)
 have QP := fun w => eqlP_self x y i hx hy w
 have HGR : Hid (∀ w, _) := fun w => great_any c oa n cn w
 clear hg hv H1 H2 hT hx hy
 go_enter Tryz.func3, Tryz.ntmps3
 go_wp2_with fail
 refine (alive5_any _ HG0.out).mono ?_
 rintro e w1 ⟨rfl, hb1⟩
 go_wp2_with fail
 refine (HGR.out _).mono ?_
 rintro e w2 ⟨⟨b, rfl, hbn⟩, rfl⟩
 cases b with
 | true =>
  clear hbn
  go_wp2
  go_ret
  exact ⟨rfl, hb1⟩
 | false =>
  have HN : Hid (n ≤ 60) := hbn rfl
  clear hbn
  have HV1 : Hid (Rs w2 (.slice oa n cn) 13 n (fun i => tC (T i))) := HV.out.below hb1
  go_wp2_with fail
  refine (copyT_any n _ T (Nat.le_trans HN.out (by decide)) _ HV1.out).mono ?_
  rintro e w3 ⟨v', rfl, hown, hb3⟩
  have HV3 : Hid (Rs w3 v' 13 n (fun i => tC (T i))) := own_Rs hown
  have HU3 : Hid (Rs w3 (.slice oa n cn) 13 n (fun i => tC (T i))) := HV1.out.below hb3
  have hbw3 := bStep hb1 hb3
  clear hown hb1 hb3 HV1 HV
  have HG3 : Hid (GlobC w3) := HG0.out.below hbw3
  go_wp2_with fail
  refine (HH1.out HN.out v' _ HG3.out HV3.out).mono ?_
  rintro e w4 ⟨rfl, hb4⟩
  have hbw5 := bAlloc (bStep hbw3 hb4) (.cells #[.int .u64 (limb 0 x), .int .u64 (limb 1 x), .int .u64 (limb 2 x), .int .u64 (limb 3 x), .int .u64 (limb 0 y), .int .u64 (limb 1 y), .int .u64 (limb 2 y), .int .u64 (limb 3 y), .bool i] 30)
  have ba5 : Pt (w4.alloc (.cells #[.int .u64 (limb 0 x), .int .u64 (limb 1 x), .int .u64 (limb 2 x), .int .u64 (limb 3 x), .int .u64 (limb 0 y), .int .u64 (limb 1 y), .int .u64 (limb 2 y), .int .u64 (limb 3 y), .bool i] 30)) w4.heap.size x y i := Pt.newAt _ _ _ _ _ rfl
  have hx5 := bAlloc hb4 (.cells #[.int .u64 (limb 0 x), .int .u64 (limb 1 x), .int .u64 (limb 2 x), .int .u64 (limb 3 x), .int .u64 (limb 0 y), .int .u64 (limb 1 y), .int .u64 (limb 2 y), .int .u64 (limb 3 y), .bool i] 30)
  have HV5' := HV3.out.below hx5; have HU5' := HU3.out.below hx5
  clear hbw3 hb4 HV3 HU3 HG3 HH1 hx5
  go_upto_region 7 with fail
  obtain ⟨w5, hw5⟩ : ∃ WW : World, WW = w4.alloc (.cells #[.int .u64 (limb 0 x), .int .u64 (limb 1 x), .int .u64 (limb 2 x), .int .u64 (limb 3 x), .int .u64 (limb 0 y), .int .u64 (limb 1 y), .int .u64 (limb 2 y), .int .u64 (limb 3 y), .bool i] 30) := ⟨_, rfl⟩
  obtain ⟨N1, hN1⟩ : ∃ N, N = w4.heap.size := ⟨_, rfl⟩
  rw [← hw5] at ba5 hbw5 HV5' HU5' ⊢
  rw [← hN1] at ba5 ⊢
  have HV5 : Hid (Rs w5 v' 13 n (fun i => tC (T i))) := HV5'
  have HU5 : Hid (Rs w5 (.slice oa n cn) 13 n (fun i => tC (T i))) := HU5'
  clear hw5 hN1 HV5' HU5'
  go_wp2_with fail
  refine (HH2.out HN.out _ _ HU5.out).mono ?_
  rintro e w6 ⟨rfl, hb6⟩
  have hbw7 := bAlloc (bStep hbw5 hb6) (.cells #[.int .u64 (limb 0 x), .int .u64 (limb 1 x), .int .u64 (limb 2 x), .int .u64 (limb 3 x), .int .u64 (limb 0 y), .int .u64 (limb 1 y), .int .u64 (limb 2 y), .int .u64 (limb 3 y), .bool i] 30)
  have bb7 : Pt (w6.alloc (.cells #[.int .u64 (limb 0 x), .int .u64 (limb 1 x), .int .u64 (limb 2 x), .int .u64 (limb 3 x), .int .u64 (limb 0 y), .int .u64 (limb 1 y), .int .u64 (limb 2 y), .int .u64 (limb 3 y), .bool i] 30)) w6.heap.size x y i := Pt.newAt _ _ _ _ _ rfl
  have ba7 := (ba5.belowAll hb6).alloc (.cells #[.int .u64 (limb 0 x), .int .u64 (limb 1 x), .int .u64 (limb 2 x), .int .u64 (limb 3 x), .int .u64 (limb 0 y), .int .u64 (limb 1 y), .int .u64 (limb 2 y), .int .u64 (limb 3 y), .bool i] 30)
  have hx7 := bAlloc hb6 (.cells #[.int .u64 (limb 0 x), .int .u64 (limb 1 x), .int .u64 (limb 2 x), .int .u64 (limb 3 x), .int .u64 (limb 0 y), .int .u64 (limb 1 y), .int .u64 (limb 2 y), .int .u64 (limb 3 y), .bool i] 30)
  have HV7' := HV5.out.below hx7; have HU7' := HU5.out.below hx7
  clear hbw5 hb6 HV5 HU5 HH2 ba5 hx7
  go_upto_region 8 with fail
  obtain ⟨w7, hw7⟩ : ∃ WW : World, WW = w6.alloc (.cells #[.int .u64 (limb 0 x), .int .u64 (limb 1 x), .int .u64 (limb 2 x), .int .u64 (limb 3 x), .int .u64 (limb 0 y), .int .u64 (limb 1 y), .int .u64 (limb 2 y), .int .u64 (limb 3 y), .bool i] 30) := ⟨_, rfl⟩
  obtain ⟨N2, hN2⟩ : ∃ N, N = w6.heap.size := ⟨_, rfl⟩
  rw [← hw7] at ba7 bb7 hbw7 HV7' HU7' ⊢
  rw [← hN2] at bb7 ⊢
  have HV7 : Hid (Rs w7 v' 13 n (fun i => tC (T i))) := HV7'
  have HU7 : Hid (Rs w7 (.slice oa n cn) 13 n (fun i => tC (T i))) := HU7'
  clear hw7 hN2 HV7' HU7'
  obtain ⟨p0, p1, p2, p3, p4, p5, p6, p7, p8, pf⟩ := ba7.cells
  obtain ⟨q0, q1, q2, q3, q4, q5, q6, q7, q8, qf⟩ := bb7.cells
  go_wp2_with fail
  refine (sameT_self v' _ n T (Nat.le_trans HN.out (by decide)) HT.out _ HV7.out HU7.out).mono ?_
  rintro e w8 ⟨rfl, hb8⟩
  have hbw8 := bStep hbw7 hb8
  clear p0 p1 p2 p3 p4 p5 p6 p7 p8 pf q0 q1 q2 q3 q4 q5 q6 q7 q8 qf hbw7 hb8
  go_wp2
  go_ret
  exact ⟨rfl, hbw8⟩
theorem Rs.slice {w : World} {v : Value} {n : Nat} {F : Nat → Nat → Value} (h : Rs w v 13 n F) : ∃ oa cn, v = .slice oa n cn := h.shape
theorem msums_walk (c : Int) (n : Nat) (v : Value) (T : Nat → Nat × Nat × Nat × Bool) (hT : ∀ i, i < n → (T i).1 < 115792089237316195423570985008687907853269984665640564039457584007913129639936 ∧ (T i).2.1 < 115792089237316195423570985008687907853269984665640564039457584007913129639936 ∧ (T i).2.2.1 < 115792089237316195423570985008687907853269984665640564039457584007913129639936) (w : World) (hg : GlobC w) (hv : Rs w v 13 n (fun i => tC (T i))) :
  Calls Tryz.prog 3 #[.int .i64 c, v] w fun e w' => e = .returned (.bool true) ∧ Below w.heap.size w w' := by
 obtain ⟨oa, cn, rfl⟩ := hv.slice
 by_cases hc : c < 0 ∨ 4 ≤ c
 ·exact msums_gen c 40 n cn 0 0 false oa T (by decide) (by decide) hT (fun _ v w hg _ => msum_out c hc v w hg) (fun _ v w _ => rsum_out c hc v w) w hg hv
 ·obtain ⟨d, rfl⟩ : ∃ d : Nat, c = (d : Int) := ⟨c.toNat, by omega⟩
  obtain ⟨x, y, i, E, hx, hy, hone⟩ := SumE.one (c := d) (n := n) (T := T)
  refine msums_gen (d : Int) E n cn x y i oa T hx hy hT (fun hn v w hg hv => ?_) (fun hn v w hv => ?_) w hg hv
  ·obtain ⟨oa, cn, rfl⟩ := hv.slice
   refine (msum_in d n cn oa T (by omega) (Nat.le_trans hn (by decide)) hT w hg hv).mono ?_
   rintro e w' ⟨h, hb⟩
   exact ⟨hone e h, hb⟩
  ·obtain ⟨oa, cn, rfl⟩ := hv.slice
   refine (rsum_in d n cn oa T (by omega) (Nat.le_trans hn (by decide)) hT w hv).mono ?_
   rintro e w' ⟨h, hb⟩
   exact ⟨hone e h, hb⟩
end Go.Proofs.YtokoknacolmhgaaGreatDoor
