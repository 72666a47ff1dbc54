import Derived.Test.YtokoknacolmhgaaGreatDoorVSL
import Derived.Test.YtokoknacolmhgaaGreatDoorVMS19
import Derived.Test.YtokoknacolmhgaaGreatDoorVKE
set_option maxHeartbeats 16000000
namespace Go.Proofs.YtokoknacolmhgaaGreatDoor
open Go.RowKit
theorem su_app {c : Nat} {g : Nat → Nat × Nat × Bool} (n : Nat) : ∀ k, (∀ i, i < n + k → onT c (g i)) → su c g (n + k) = ad c (su c g n) (su c (fun i => g (n + i)) k)
 | 0, h => by
  show su c g n = ad c (su c g n) oT
  rw [ad_o (su_on n (fun i hi => h i (by omega)))]
 | k + 1, h => by
  show ad c (su c g (n + k)) (g (n + k)) = ad c (su c g n) (ad c (su c (fun i => g (n + i)) k) (g (n + k)))
  rw [su_app n k (fun i hi => h i (by omega)), ad_assoc (su_on n (fun i hi => h i (by omega))) (su_on k (fun i hi => h (n + i) (by omega))) (h (n + k) (by omega))]
theorem oth_xc (c : Nat) (hc : c < 4) : oth c = xc c := by
 have h : c = 0 ∨ c = 1 ∨ c = 2 ∨ c = 3 := by omega
 rcases h with rfl | rfl | rfl | rfl <;> rfl
def linT (s k nx : Nat) (T V : Nat → Nat × Nat × Nat × Bool) (i : Nat) : Nat × Nat × Nat × Bool := if i < nx then (mulP s ((T i).1 % modN s) k, (T i).2) else ((V (i - nx)).1 % modN s, (V (i - nx)).2)
theorem lin_tot (c k nx ny : Nat) (T V : Nat → Nat × Nat × Nat × Bool) (hc : c < 4) (hT : ∀ i, i < nx → onT c (T i).2) (hV : ∀ i, i < ny → onT c (V i).2) :
  tot c (fun i => (linT (xc c) k nx T V i).1 % modN (xc c)) (fun i => (linT (xc c) k nx T V i).2) (nx + ny) = ad c (sm c (tot c (fun i => (T i).1 % modN (xc c)) (fun i => (T i).2) nx) (k % modN (xc c))) (tot c (fun i => (V i).1 % modN (xc c)) (fun i => (V i).2) ny) := by
 have hon : ∀ i, i < nx + ny → onT c (linT (xc c) k nx T V i).2 := fun i hi => by
  unfold linT
  split
  ·exact hT i (by assumption)
  ·exact hV (i - nx) (by omega)
 unfold tot
 rw [su_app nx ny (fun i hi => sm_on (hon i hi) _)]
 have hX : onT c (tot c (fun i => (T i).1 % modN (xc c)) (fun i => (T i).2) nx) := tot_on _ hT
 have e1 : su c (fun i => sm c (linT (xc c) k nx T V i).2 ((linT (xc c) k nx T V i).1 % modN (xc c))) nx = sm c (su c (fun i => sm c (T i).2 ((T i).1 % modN (xc c))) nx) (k % modN (xc c)) := by
  have h1 : sm c (tot c (fun i => (T i).1 % modN (xc c)) (fun i => (T i).2) nx) (k % modN (xc c)) = sm c (tot c (fun i => (T i).1 % modN (xc c)) (fun i => (T i).2) nx) k := by
   have := sm_mod hc hX k
   rw [oth_xc c hc] at this
   exact this
  show _ = sm c (tot c (fun i => (T i).1 % modN (xc c)) (fun i => (T i).2) nx) (k % modN (xc c))
  rw [h1, tot_mul _ _ hT]
  unfold tot
  refine su_congr nx (fun i hi => ?_)
  have e : linT (xc c) k nx T V i = (mulP (xc c) ((T i).1 % modN (xc c)) k, (T i).2) := by unfold linT; rw [if_pos hi]
  show sm c (linT (xc c) k nx T V i).2 ((linT (xc c) k nx T V i).1 % modN (xc c)) = sm c (T i).2 ((T i).1 % modN (xc c) * k)
  rw [e]
  show sm c (T i).2 (mulP (xc c) ((T i).1 % modN (xc c)) k % modN (xc c)) = _
  unfold mulP
  rw [Nat.mod_mod]
  have := sm_mod hc (hT i hi) ((T i).1 % modN (xc c) * k)
  rw [oth_xc c hc] at this
  exact this
 rw [e1]
 congr 1
 refine su_congr ny (fun i hi => ?_)
 have e : linT (xc c) k nx T V (nx + i) = ((V i).1 % modN (xc c), (V i).2) := by unfold linT; rw [if_neg (by omega), show nx + i - nx = i from by omega]
 show sm c (linT (xc c) k nx T V (nx + i)).2 ((linT (xc c) k nx T V (nx + i)).1 % modN (xc c)) = sm c (V i).2 ((V i).1 % modN (xc c))
 rw [e]
 show sm c (V i).2 ((V i).1 % modN (xc c) % modN (xc c)) = _
 rw [Nat.mod_mod]
theorem put_rd (T : Nat → Nat × Nat × Nat × Bool) (q j K X Y : Nat) (I : Bool) (hE : T j = (K, X, Y, I)) : trs (put (fun i => rdT q (T i)) j (K % q, X, Y, I)) (j + 1) = trs (fun i => rdT q (T i)) (j + 1) := trs_congr (fun i hi => by
 unfold put
 split
 ·rfl
 ·rw [show i = j from by omega]
  show _ = rdT q (T j)
  rw [hE]
  rfl)
theorem put_lin (T V : Nat → Nat × Nat × Nat × Bool) (s k nx j K X Y : Nat) (I : Bool) (hE : V j = (K, X, Y, I)) : trs (put (linT s k nx T V) (nx + j) (K % modN s, X, Y, I)) (nx + j + 1) = trs (linT s k nx T V) (nx + (j + 1)) := trs_congr (fun i hi => by
 unfold put
 split
 ·rfl
 ·have e : i = nx + j := by omega
  subst e
  unfold linT
  rw [if_neg (by omega), show nx + j - nx = j from by omega, hE])
theorem sc_lin (T V : Nat → Nat × Nat × Nat × Bool) (s k nx : Nat) : trs (scT s k (fun i => rdT (modN s) (T i)) nx) nx = trs (linT s k nx T V) (nx + 0) := trs_congr (fun i hi => by
 unfold scT linT
 rw [if_pos hi, if_pos hi]
 rfl)
theorem lin_M (T V : Nat → Nat × Nat × Nat × Bool) (s k nx i : Nat) : (linT s k nx T V i).1 < 115792089237316195423570985008687907853269984665640564039457584007913129639936 := by
 unfold linT
 split
 ·exact mulP_M _ _ _
 ·exact lt_M s _ (Nat.mod_lt _ (modN_pos _))
theorem own_slice {w : World} {base n : Nat} {v : Value} {xs : List Value} (h : w.ownsRow base 43 13 v n xs) : ∃ oa cn, v = .slice oa n cn := by
 rcases h.2 with ⟨rfl, rfl⟩ | ⟨g, cap, cur, rfl, _⟩
 ·exact ⟨_, _, rfl⟩
 ·exact ⟨_, _, rfl⟩
set_option maxRecDepth 20000 in
theorem mlin_in (c sk nx ny cx cy : Nat) (ox oy : Option Addr) (T V : Nat → Nat × Nat × Nat × Bool) (hc : c < 4) (hk : sk < 115792089237316195423570985008687907853269984665640564039457584007913129639936) (hn : nx + ny ≤ 60) (hT : ∀ i, i < nx → (T i).1 < 115792089237316195423570985008687907853269984665640564039457584007913129639936 ∧ (T i).2.1 < 115792089237316195423570985008687907853269984665640564039457584007913129639936 ∧ (T i).2.2.1 < 115792089237316195423570985008687907853269984665640564039457584007913129639936) (hV : ∀ i, i < ny → (V i).1 < 115792089237316195423570985008687907853269984665640564039457584007913129639936 ∧ (V i).2.1 < 115792089237316195423570985008687907853269984665640564039457584007913129639936 ∧ (V i).2.2.1 < 115792089237316195423570985008687907853269984665640564039457584007913129639936) (hTo : ∀ i, i < nx → onT c (T i).2) (hVo : ∀ i, i < ny → onT c (V i).2) (w : World) (hg : GlobC w) (hv : Rs w (.slice ox nx cx) 13 nx (fun i => tC (T i))) (hu : Rs w (.slice oy ny cy) 13 ny (fun i => tC (V i))) :
  Calls Tryz.prog 5 #[.int .i64 (c : Int), .slice ox nx cx, .slice oy ny cy, .agg #[.int .u64 (limb 0 sk), .int .u64 (limb 1 sk), .int .u64 (limb 2 sk), .int .u64 (limb 3 sk)]] w fun e w' => e = .returned (.bool true) ∧ Below w.heap.size w w' := by
 have HG0 : Hid (GlobC w) := hg
 have HT := (show Hid _ from hT); have HTV := (show Hid _ from hV)
 have HTO : Hid (∀ i, i < nx → onT c (T i).2) := hTo; have HVO : Hid (∀ i, i < ny → onT c (V i).2) := hVo
 have HCC : Hid (c < 4) := hc; have HKK : Hid (sk < 115792089237316195423570985008687907853269984665640564039457584007913129639936) := hk
 have hnx : nx ≤ 60 := by omega
 have hny : ny ≤ 60 := by omega
 have h60 : ¬ (60 : Int) < (nx : Int) + (ny : Int) := by omega
 have hwr : wrap64 ((nx : Int) + (ny : Int)) = (nx : Int) + (ny : Int) := IntWalk.wrap64_in _ (by omega)
 have HWI : Hid (IntKind.i64.wrap ((nx : Int) + (ny : Int)) = (nx : Int) + (ny : Int)) := by rw [← Int.natCast_add]; exact wrap_i64_nat (nx + ny) (by omega)
 have HV0 : Hid (Rs w (.slice ox nx cx) 13 nx (fun i => tC (T i))) := hv
 have HU0 : Hid (Rs w (.slice oy ny cy) 13 ny (fun i => tC (V i))) := hu
 have HLT := (show Hid _ from lin_tot c sk nx ny T V hc hTo hVo)
 have HOX : Hid (onT c (tot c (fun i => (T i).1 % modN (xc c)) (fun i => (T i).2) nx)) := tot_on _ hTo
 have HOY : Hid (onT c (tot c (fun i => (V i).1 % modN (xc c)) (fun i => (V i).2) ny)) := tot_on _ hVo
 have HS1 : Hid (∀ (v : Value) (w : World), GlobC w → Rs w v 13 nx (fun i => tC (T i)) → Calls Tryz.prog 11 #[.int .i64 (c : Int), v] w fun e w' => (∃ x y i, e = .returned (.tuple #[.agg #[.int .u64 (limb 0 x), .int .u64 (limb 1 x), .int .u64 (limb 2 x), .int .u64 (limb 3 x), .int .u64 (limb 0 y), .int .u64 (limb 1 y), .int .u64 (limb 2 y), .int .u64 (limb 3 y), .bool i], .int .i64 0]) ∧ (x, y, i) = tot c (fun i => (T i).1 % modN (xc c)) (fun i => (T i).2) nx) ∧ Below w.heap.size w w') := fun v w hg hv => by
  obtain ⟨oa, cn, rfl⟩ := hv.shape
  refine (msum_in c nx cn oa T hc (Nat.le_trans hnx (by decide)) hT w hg hv).mono ?_
  rintro e w' ⟨⟨x, y, i, E, rfl, hh | hh⟩, hb⟩
  ·obtain ⟨rfl, _, hq⟩ := hh
   exact ⟨⟨x, y, i, rfl, hq⟩, hb⟩
  ·exact absurd hTo hh.2.1
 have HS2 : Hid (∀ (v : Value) (w : World), GlobC w → Rs w v 13 ny (fun i => tC (V i)) → Calls Tryz.prog 11 #[.int .i64 (c : Int), v] w fun e w' => (∃ x y i, e = .returned (.tuple #[.agg #[.int .u64 (limb 0 x), .int .u64 (limb 1 x), .int .u64 (limb 2 x), .int .u64 (limb 3 x), .int .u64 (limb 0 y), .int .u64 (limb 1 y), .int .u64 (limb 2 y), .int .u64 (limb 3 y), .bool i], .int .i64 0]) ∧ (x, y, i) = tot c (fun i => (V i).1 % modN (xc c)) (fun i => (V i).2) ny) ∧ Below w.heap.size w w') := fun v w hg hv => by
  obtain ⟨oa, cn, rfl⟩ := hv.shape
  refine (msum_in c ny cn oa V hc (Nat.le_trans hny (by decide)) hV w hg hv).mono ?_
  rintro e w' ⟨⟨x, y, i, E, rfl, hh | hh⟩, hb⟩
  ·obtain ⟨rfl, _, hq⟩ := hh
   exact ⟨⟨x, y, i, rfl, hq⟩, hb⟩
  ·exact absurd hVo hh.2.1
 clear hg hT hV hTo hVo hc hk hv hu
 go_enter Tryz.func5, Tryz.ntmps5
 go_upto_region 1 with fail
 obtain ⟨N7, eN7⟩ : ∃ N, N = w.heap.size := ⟨_, rfl⟩
 obtain ⟨w0, hw0⟩ : ∃ w0 : World, w0 = w.alloc (.cells #[.int .u64 (limb 0 sk), .int .u64 (limb 1 sk), .int .u64 (limb 2 sk), .int .u64 (limb 3 sk)] 28) := ⟨_, rfl⟩
 have bk0 : Blk w0 28 N7 (fun i => limb i sk) := by rw [hw0, eN7]; exact Blk.newAt _ _ _ (fun i => limb i sk) (by simp)
 have hb0 : Below w.heap.size w w0 := by rw [hw0]; exact (Below.refl _ _).alloc (Nat.le_refl _) _
 rw [← hw0]
 rw [← eN7]
 clear hw0 eN7
 have HGa : Hid (GlobC w0) := HG0.out.below hb0
 go_wp2_with fail
 refine (alive5_any _ HGa.out).mono ?_
 rintro e w1 ⟨rfl, hb1⟩
 have bk1 := bk0.belowAll hb1; have hbw1 := bStep hb0 hb1
 clear bk0 hb0 hb1 HGa
 have HV1 : Hid (Rs w1 (.slice ox nx cx) 13 nx (fun i => tC (T i))) := HV0.out.below hbw1
 go_wp2_with fail
 refine (copyT_any nx _ T (Nat.le_trans hnx (by decide)) _ HV1.out).mono ?_
 rintro e w2 ⟨v2, rfl, ho2, hb2⟩
 have HR2 : Hid (Rs w2 v2 13 nx (fun i => tC (T i))) := own_Rs ho2
 have bk2 := bk1.belowAll hb2; have hbw2 := bStep hbw1 hb2
 clear bk1 hbw1 hb2 ho2 HV1
 have HG2 : Hid (GlobC w2) := HG0.out.below hbw2
 go_wp2_with fail
 refine (HS1.out v2 _ HG2.out HR2.out).mono ?_
 rintro e w3 ⟨⟨ax, ay, ai, rfl, hqa⟩, hb3⟩
 have HQA : Hid ((ax, ay, ai) = tot c (fun i => (T i).1 % modN (xc c)) (fun i => (T i).2) nx) := hqa
 have bk3 := (bk2.belowAll hb3).alloc (.cells #[.int .u64 (limb 0 ax), .int .u64 (limb 1 ax), .int .u64 (limb 2 ax), .int .u64 (limb 3 ax), .int .u64 (limb 0 ay), .int .u64 (limb 1 ay), .int .u64 (limb 2 ay), .int .u64 (limb 3 ay), .bool ai] 30)
 have ba3 : Pt (w3.alloc (.cells #[.int .u64 (limb 0 ax), .int .u64 (limb 1 ax), .int .u64 (limb 2 ax), .int .u64 (limb 3 ax), .int .u64 (limb 0 ay), .int .u64 (limb 1 ay), .int .u64 (limb 2 ay), .int .u64 (limb 3 ay), .bool ai] 30)) w3.heap.size ax ay ai := Pt.newAt _ _ _ _ _ rfl
 have hbw3 := bAlloc (bStep hbw2 hb3) (.cells #[.int .u64 (limb 0 ax), .int .u64 (limb 1 ax), .int .u64 (limb 2 ax), .int .u64 (limb 3 ax), .int .u64 (limb 0 ay), .int .u64 (limb 1 ay), .int .u64 (limb 2 ay), .int .u64 (limb 3 ay), .bool ai] 30)
 clear bk2 hbw2 hb3 hqa HR2 HG2 HS1
 go_upto_region 6 with fail
 obtain ⟨w4, hw4⟩ : ∃ WW : World, WW = w3.alloc (.cells #[.int .u64 (limb 0 ax), .int .u64 (limb 1 ax), .int .u64 (limb 2 ax), .int .u64 (limb 3 ax), .int .u64 (limb 0 ay), .int .u64 (limb 1 ay), .int .u64 (limb 2 ay), .int .u64 (limb 3 ay), .bool ai] 30) := ⟨_, rfl⟩
 obtain ⟨N9, hN9⟩ : ∃ N, N = w3.heap.size := ⟨_, rfl⟩
 rw [← hw4] at bk3 ba3 hbw3 ⊢
 rw [← hN9] at ba3 ⊢
 clear hw4 hN9
 have HU4 : Hid (Rs w4 (.slice oy ny cy) 13 ny (fun i => tC (V i))) := HU0.out.below hbw3
 go_wp2_with fail
 refine (copyT_any ny _ V (Nat.le_trans hny (by decide)) _ HU4.out).mono ?_
 rintro e w5 ⟨v5, rfl, ho5, hb5⟩
 have HR5 : Hid (Rs w5 v5 13 ny (fun i => tC (V i))) := own_Rs ho5
 have bk5 := bk3.belowAll hb5; have ba5 := ba3.belowAll hb5; have hbw5 := bStep hbw3 hb5
 clear bk3 ba3 hbw3 hb5 ho5 HU4
 have HG5 : Hid (GlobC w5) := HG0.out.below hbw5
 go_wp2_with fail
 refine (HS2.out v5 _ HG5.out HR5.out).mono ?_
 rintro e w6 ⟨⟨bx, by', bi, rfl, hqb⟩, hb6⟩
 have HQB : Hid ((bx, by', bi) = tot c (fun i => (V i).1 % modN (xc c)) (fun i => (V i).2) ny) := hqb
 have bk6 := (bk5.belowAll hb6).alloc (.cells #[.int .u64 (limb 0 bx), .int .u64 (limb 1 bx), .int .u64 (limb 2 bx), .int .u64 (limb 3 bx), .int .u64 (limb 0 by'), .int .u64 (limb 1 by'), .int .u64 (limb 2 by'), .int .u64 (limb 3 by'), .bool bi] 30)
 have ba6 := (ba5.belowAll hb6).alloc (.cells #[.int .u64 (limb 0 bx), .int .u64 (limb 1 bx), .int .u64 (limb 2 bx), .int .u64 (limb 3 bx), .int .u64 (limb 0 by'), .int .u64 (limb 1 by'), .int .u64 (limb 2 by'), .int .u64 (limb 3 by'), .bool bi] 30)
 have bb6 : Pt (w6.alloc (.cells #[.int .u64 (limb 0 bx), .int .u64 (limb 1 bx), .int .u64 (limb 2 bx), .int .u64 (limb 3 bx), .int .u64 (limb 0 by'), .int .u64 (limb 1 by'), .int .u64 (limb 2 by'), .int .u64 (limb 3 by'), .bool bi] 30)) w6.heap.size bx by' bi := Pt.newAt _ _ _ _ _ rfl
 have hbw6 := bAlloc (bStep hbw5 hb6) (.cells #[.int .u64 (limb 0 bx), .int .u64 (limb 1 bx), .int .u64 (limb 2 bx), .int .u64 (limb 3 bx), .int .u64 (limb 0 by'), .int .u64 (limb 1 by'), .int .u64 (limb 2 by'), .int .u64 (limb 3 by'), .bool bi] 30)
 clear bk5 ba5 hbw5 hb6 hqb HR5 HG5 HS2
 go_upto_region 7 with fail
 obtain ⟨w7, hw7⟩ : ∃ WW : World, WW = w6.alloc (.cells #[.int .u64 (limb 0 bx), .int .u64 (limb 1 bx), .int .u64 (limb 2 bx), .int .u64 (limb 3 bx), .int .u64 (limb 0 by'), .int .u64 (limb 1 by'), .int .u64 (limb 2 by'), .int .u64 (limb 3 by'), .bool bi] 30) := ⟨_, rfl⟩
 obtain ⟨N11, hN11⟩ : ∃ N, N = w6.heap.size := ⟨_, rfl⟩
 rw [← hw7] at bk6 ba6 bb6 hbw6 ⊢
 rw [← hN11] at bb6 ⊢
 clear hw7 hN11
 have HG7 : Hid (GlobC w7) := HG0.out.below hbw6
 go_wp2_with fail
 refine (new_in c HCC.out _ HG7.out).mono ?_
 rintro e w8 ⟨B, rfl, hL8, lB, hb8⟩
 have HBK : Hid (N7 < B ∧ N9 < B ∧ N11 < B) := ⟨Nat.lt_of_lt_of_le bk6.lt lB, Nat.lt_of_lt_of_le ba6.lt lB, Nat.lt_of_lt_of_le bb6.lt lB⟩
 have bk8 := bk6.belowAll hb8; have ba8 := ba6.belowAll hb8; have bb8 := bb6.belowAll hb8
 have HBW : Hid (Below w.heap.size w w8) := bStep hbw6 hb8
 have HWB : Hid (w.heap.size ≤ B) := Nat.le_trans hbw6.size lB
 have H3 : Hid (3 ≤ B) := Nat.le_trans HG0.out.1.1 HWB.out
 have HG8 : Hid (GlobC w8) := HG0.out.below HBW.out
 have HKP : Hid (∀ w', Below B w8 w' → Blk w' 28 N7 (fun i => limb i sk) ∧ Pt w' N9 ax ay ai ∧ Pt w' N11 bx by' bi) := fun w' h => ⟨bk8.below h HBK.out.1, ba8.below h HBK.out.2.1, bb8.below h HBK.out.2.2⟩
 have EQN : ∀ w, (binOp .eql 36 (.pointer (some ⟨B, 0, none⟩)) (.pointer none)).run Tryz.prog w = .ok (.bool false) w := fun w => by kernel_rfl
 clear bk6 ba6 bb6 hbw6 hb8 lB bk8 ba8 bb8 HG7
 have HV : Hid (Rs w (.slice ox nx cx) 13 nx (fun i => tC (T i))) := HV0.out
 have HU : Hid (Rs w (.slice oy ny cy) 13 ny (fun i => tC (V i))) := HU0.out
 clear HV0 HU0
 go_wp2
 go_loopw [15] (fun iv wr => ∃ (k : Nat) (v : Value), iv = .int .i64 (k : Int) ∧ k ≤ nx ∧ Hid (wr.ownsRow (B + 1) 43 13 v k (trs (fun i => rdT (modN (xc c)) (T i)) k) ∧ v.ownBlock ≠ some B) ∧ Below B w8 wr ∧ Lz wr B c v) (fun iv _ => nx - (intOf iv).toNat)
 case atStart => exact ⟨0, _, rfl, by omega, ⟨⟨rfl, Or.inl ⟨rfl, rfl⟩⟩, fun h => by cases h⟩, Below.refl _ _, hL8⟩
 case round =>
  obtain ⟨k, v, rfl, hk, HO, hbr0, hL⟩ := hrel
  clear hL8
  have hbr : Below w.heap.size w wr := HBW.out.trans (belowLe hbr0 HWB.out)
  by_cases hlt : k < nx
  ·have hki : (k : Int) < (nx : Int) := by omega
   have HOC := (show Hid _ from HTO.out k hlt)
   obtain ⟨ab, ao, rfl, lab, hcell⟩ := HV.out.at hlt
   have hTE : ∃ KK X Y I, T k = (KK, X, Y, I) := ⟨_, _, _, _, rfl⟩
   obtain ⟨KK, X, Y, I, hE⟩ := hTE
   have HXY : Hid ((T k).1 < 115792089237316195423570985008687907853269984665640564039457584007913129639936 ∧ (T k).2.1 < 115792089237316195423570985008687907853269984665640564039457584007913129639936 ∧ (T k).2.2.1 < 115792089237316195423570985008687907853269984665640564039457584007913129639936) := HT.out k hlt
   have labB : ab < B := Nat.lt_of_lt_of_le lab HWB.out
   have ca : ∀ j, j < 13 → wr.cell? ⟨ab, ao + k * 13 + j, none⟩ = some (tC (T k) j) := fun j hj => by rw [hbr.cell (p := ⟨ab, ao + k * 13 + j, none⟩) lab]; exact hcell j hj
   rw [hE] at ca HXY
   have HE := (show Hid _ from hE)
   clear hE hcell
   obtain ⟨t0, t1, t2, t3, t4, t5, t6, t7, t8, t9, t10, t11, t12⟩ := tC_cells KK X Y I
   have a0 := ca 0 (by decide)
   rw [t0] at a0
   have a1 := ca 1 (by decide)
   rw [t1] at a1
   have a2 := ca 2 (by decide)
   rw [t2] at a2
   have a3 := ca 3 (by decide)
   rw [t3] at a3
   have a4 := ca 4 (by decide)
   rw [t4] at a4
   have a5 := ca 5 (by decide)
   rw [t5] at a5
   have a6 := ca 6 (by decide)
   rw [t6] at a6
   have a7 := ca 7 (by decide)
   rw [t7] at a7
   have a8 := ca 8 (by decide)
   rw [t8] at a8
   have a9 := ca 9 (by decide)
   rw [t9] at a9
   have a10 := ca 10 (by decide)
   rw [t10] at a10
   have a11 := ca 11 (by decide)
   rw [t11] at a11
   have a12 := ca 12 (by decide)
   rw [t12] at a12
   clear ca t0 t1 t2 t3 t4 t5 t6 t7 t8 t9 t10 t11 t12
   rw [Nat.add_zero] at a0
   have HC : Hid (∀ w', Below B wr w' → w'.cell? ⟨ab, ao + k * 13, none⟩ = some (.int .u64 (limb 0 KK)) ∧ w'.cell? ⟨ab, ao + k * 13 + 1, none⟩ = some (.int .u64 (limb 1 KK)) ∧ w'.cell? ⟨ab, ao + k * 13 + 2, none⟩ = some (.int .u64 (limb 2 KK)) ∧ w'.cell? ⟨ab, ao + k * 13 + 3, none⟩ = some (.int .u64 (limb 3 KK)) ∧ w'.cell? ⟨ab, ao + k * 13 + 4, none⟩ = some (.int .u64 (limb 0 X)) ∧ w'.cell? ⟨ab, ao + k * 13 + 5, none⟩ = some (.int .u64 (limb 1 X)) ∧ w'.cell? ⟨ab, ao + k * 13 + 6, none⟩ = some (.int .u64 (limb 2 X)) ∧ w'.cell? ⟨ab, ao + k * 13 + 7, none⟩ = some (.int .u64 (limb 3 X)) ∧ w'.cell? ⟨ab, ao + k * 13 + 8, none⟩ = some (.int .u64 (limb 0 Y)) ∧ w'.cell? ⟨ab, ao + k * 13 + 9, none⟩ = some (.int .u64 (limb 1 Y)) ∧ w'.cell? ⟨ab, ao + k * 13 + 10, none⟩ = some (.int .u64 (limb 2 Y)) ∧ w'.cell? ⟨ab, ao + k * 13 + 11, none⟩ = some (.int .u64 (limb 3 Y)) ∧ w'.cell? ⟨ab, ao + k * 13 + 12, none⟩ = some (.bool I)) := cells_keepM labB a0 a1 a2 a3 a4 a5 a6 a7 a8 a9 a10 a11 a12
   clear a0 a1 a2 a3 a4 a5 a6 a7 a8 a9 a10 a11 a12
   rw [HE.out] at HOC
   have HGr : Hid (GlobC wr) := HG8.out.belowM hbr0 H3.out
   have HLB : Hid (B < wr.drew.heap.size ∧ ∀ j, v.ownBlock = some j → B < j) := ⟨hL.lt, own_gt HO.out.1⟩
   have HADD : Hid (∀ w', Below B wr w' → Calls Tryz.prog 16 #[.pointer (some ⟨B, 0, none⟩), .agg #[.int .u64 (limb 0 KK), .int .u64 (limb 1 KK), .int .u64 (limb 2 KK), .int .u64 (limb 3 KK)], .agg #[.int .u64 (limb 0 X), .int .u64 (limb 1 X), .int .u64 (limb 2 X), .int .u64 (limb 3 X), .int .u64 (limb 0 Y), .int .u64 (limb 1 Y), .int .u64 (limb 2 Y), .int .u64 (limb 3 Y), .bool I]] wr.drew fun e w' => (∃ v', e = .returned (.int .i64 0) ∧ Lz w' B c v' ∧ w'.ownsRow (B + 1) 43 13 v' (k + 1) (trs (put (fun i => rdT (modN (xc c)) (T i)) k (KK % modN (xc c), X, Y, I)) (k + 1)) ∧ v'.ownBlock ≠ some B) ∧ But wr.drew w' B v.ownBlock) := fun _ _ => add_ok B c (xc c) KK X Y k (B + 1) I v _ HCC.out (xor_c c HCC.out) (xc_lt HCC.out) HXY.out.1 HXY.out.2.1 HXY.out.2.2 HOC.out (by omega) wr.drew (HGr.out.belowM (Below.refl _ _).drew H3.out) hL.drew HO.out.1 hL.lt HO.out.2
   go_upto_region 15 with fail
   refine wp_region_Z (fun w' => Below B wr w') 99 (by kernel_rfl) ?_
   have hp0_0 : Below B wr wr.drew := (Below.refl _ _).drew
   have hlow0 : Below wr.heap.size wr wr.drew := (Below.refl _ _).drew
   refine zs 0 58 (.pointer (some ⟨B, 0, none⟩)) hp0_0 ?_
   refine zs 1 59 (.slice (some ⟨ab, ao, none⟩) nx cx) hp0_0 ?_
   refine zs 2 60 (.int .i64 (k : Int)) hp0_0 ?_
   refine zs 3 61 (.pointer (some ⟨ab, ao + k * 13, none⟩)) hp0_0 ?_
   refine zs 4 62 (.pointer (some ⟨ab, ao + k * 13, none⟩)) hp0_0 ?_
   refine zT 5 63 (.agg #[.int .u64 (limb 0 KK), .int .u64 (limb 1 KK), .int .u64 (limb 2 KK), .int .u64 (limb 3 KK)]) rfl rfl (fun w hSw => by (obtain ⟨a0, a1, a2, a3, a4, a5, a6, a7, a8, a9, a10, a11, a12⟩ := HC.out _ hSw; clear hSw; go_simp)) hp0_0 ?_
   refine zs 6 64 (.slice (some ⟨ab, ao, none⟩) nx cx) hp0_0 ?_
   refine zs 7 65 (.int .i64 (k : Int)) hp0_0 ?_
   refine zs 8 66 (.pointer (some ⟨ab, ao + k * 13, none⟩)) hp0_0 ?_
   refine zs 9 67 (.pointer (some ⟨ab, ao + k * 13 + 4, none⟩)) hp0_0 ?_
   refine zT 10 68 (.agg #[.int .u64 (limb 0 X), .int .u64 (limb 1 X), .int .u64 (limb 2 X), .int .u64 (limb 3 X), .int .u64 (limb 0 Y), .int .u64 (limb 1 Y), .int .u64 (limb 2 Y), .int .u64 (limb 3 Y), .bool I]) rfl rfl (fun w hSw => by (obtain ⟨a0, a1, a2, a3, a4, a5, a6, a7, a8, a9, a10, a11, a12⟩ := HC.out _ hSw; clear hSw; go_simp)) hp0_0 ?_
   refine zo 11 rfl (fun K hK => ?_)
   go_simp
   refine (HADD.out _ hp0_0).mono ?_
   rintro e wA ⟨⟨v', rfl, hLA, hoA, hvA⟩, hbA⟩
   have hSA : Below B wr wA := hp0_0.trans (hbA.below HLB.out)
   go_wp2_with fail
   refine hK.out _ _ (fun _ => hSA) ?_
   clear hK K
   refine zd ?_ _
   rw [put_rd T (modN (xc c)) k KK X Y I HE.out] at hoA
   have HOA : Hid (wA.ownsRow (B + 1) 43 13 v' (k + 1) (trs (fun i => rdT (modN (xc c)) (T i)) (k + 1)) ∧ v'.ownBlock ≠ some B) := ⟨hoA, hvA⟩
   clear hoA hvA hbA
   go_wp2
   go_roundw
   case measure => simp [intOf]; omega
   case rel => exact ⟨k + 1, v', by go_num, by omega, HOA, hbr0.trans hSA, hLA⟩
  ·have hki : ¬ (k : Int) < (nx : Int) := by omega
   have hkn : k = nx := by omega
   have HON : Hid (wr.ownsRow (B + 1) 43 13 v nx (trs (fun i => rdT (modN (xc c)) (T i)) nx) ∧ v.ownBlock ≠ some B) := by rw [← hkn]; exact HO.out
   have HGr : Hid (GlobC wr) := HG8.out.belowM hbr0 H3.out
   obtain ⟨bk, _, _⟩ := HKP.out wr hbr0
   have ck := bk.cell
   clear hlt hkn HO hk
   go_wp2_with fail
   refine (scale_any B c (xc c) sk nx (B + 1) v _ (xor_c c HCC.out) (xc_lt HCC.out) HKK.out (by omega) (fun i hi => lt_M (xc c) _ (Nat.mod_lt _ (modN_pos _))) _ HGr.out.1 hL HON.out.1 HON.out.2 (Nat.le_trans H3.out (Nat.le_succ _))).mono ?_
   rintro e w9 ⟨⟨rfl, hL9, ho9⟩, hbu9⟩
   rw [sc_lin T V] at ho9
   have hb9 : Below B w8 w9 := hbr0.trans (hbu9.below ⟨hL.lt, own_gt HON.out.1⟩)
   have HO9 : Hid (w9.ownsRow (B + 1) 43 13 v (nx + 0) (trs (linT (xc c) sk nx T V) (nx + 0)) ∧ v.ownBlock ≠ some B) := ⟨ho9, HON.out.2⟩
   clear ho9 hbu9 hL hbr0 hbr bk ck HON HGr hki
   go_wp2
   go_loopw [16] (fun iv wr => ∃ (k : Nat) (v : Value), iv = .int .i64 (k : Int) ∧ k ≤ ny ∧ Hid (wr.ownsRow (B + 1) 43 13 v (nx + k) (trs (linT (xc c) sk nx T V) (nx + k)) ∧ v.ownBlock ≠ some B) ∧ Below B w8 wr ∧ Lz wr B c v) (fun iv _ => ny - (intOf iv).toNat)
   case atStart => exact ⟨0, v, rfl, by omega, HO9, hb9, hL9⟩
   case round =>
    obtain ⟨k, v, rfl, hk, HO, hbr0, hL⟩ := hrel
    clear hL9 hb9 HO9
    have hbr : Below w.heap.size w wr := HBW.out.trans (belowLe hbr0 HWB.out)
    by_cases hlt : k < ny
    ·have hki : (k : Int) < (ny : Int) := by omega
     have HOC := (show Hid _ from HVO.out k hlt)
     obtain ⟨ab, ao, rfl, lab, hcell⟩ := HU.out.at hlt
     have hTE : ∃ KK X Y I, V k = (KK, X, Y, I) := ⟨_, _, _, _, rfl⟩
     obtain ⟨KK, X, Y, I, hE⟩ := hTE
     have HXY : Hid ((V k).1 < 115792089237316195423570985008687907853269984665640564039457584007913129639936 ∧ (V k).2.1 < 115792089237316195423570985008687907853269984665640564039457584007913129639936 ∧ (V k).2.2.1 < 115792089237316195423570985008687907853269984665640564039457584007913129639936) := HTV.out k hlt
     have labB : ab < B := Nat.lt_of_lt_of_le lab HWB.out
     have ca : ∀ j, j < 13 → wr.cell? ⟨ab, ao + k * 13 + j, none⟩ = some (tC (V k) j) := fun j hj => by rw [hbr.cell (p := ⟨ab, ao + k * 13 + j, none⟩) lab]; exact hcell j hj
     rw [hE] at ca HXY
     have HE := (show Hid _ from hE)
     clear hE hcell
     obtain ⟨t0, t1, t2, t3, t4, t5, t6, t7, t8, t9, t10, t11, t12⟩ := tC_cells KK X Y I
     have a0 := ca 0 (by decide)
     rw [t0] at a0
     have a1 := ca 1 (by decide)
     rw [t1] at a1
     have a2 := ca 2 (by decide)
     rw [t2] at a2
     have a3 := ca 3 (by decide)
     rw [t3] at a3
     have a4 := ca 4 (by decide)
     rw [t4] at a4
     have a5 := ca 5 (by decide)
     rw [t5] at a5
     have a6 := ca 6 (by decide)
     rw [t6] at a6
     have a7 := ca 7 (by decide)
     rw [t7] at a7
     have a8 := ca 8 (by decide)
     rw [t8] at a8
     have a9 := ca 9 (by decide)
     rw [t9] at a9
     have a10 := ca 10 (by decide)
     rw [t10] at a10
     have a11 := ca 11 (by decide)
     rw [t11] at a11
     have a12 := ca 12 (by decide)
     rw [t12] at a12
     clear ca t0 t1 t2 t3 t4 t5 t6 t7 t8 t9 t10 t11 t12
     rw [Nat.add_zero] at a0
     have HC : Hid (∀ w', Below B wr w' → w'.cell? ⟨ab, ao + k * 13, none⟩ = some (.int .u64 (limb 0 KK)) ∧ w'.cell? ⟨ab, ao + k * 13 + 1, none⟩ = some (.int .u64 (limb 1 KK)) ∧ w'.cell? ⟨ab, ao + k * 13 + 2, none⟩ = some (.int .u64 (limb 2 KK)) ∧ w'.cell? ⟨ab, ao + k * 13 + 3, none⟩ = some (.int .u64 (limb 3 KK)) ∧ w'.cell? ⟨ab, ao + k * 13 + 4, none⟩ = some (.int .u64 (limb 0 X)) ∧ w'.cell? ⟨ab, ao + k * 13 + 5, none⟩ = some (.int .u64 (limb 1 X)) ∧ w'.cell? ⟨ab, ao + k * 13 + 6, none⟩ = some (.int .u64 (limb 2 X)) ∧ w'.cell? ⟨ab, ao + k * 13 + 7, none⟩ = some (.int .u64 (limb 3 X)) ∧ w'.cell? ⟨ab, ao + k * 13 + 8, none⟩ = some (.int .u64 (limb 0 Y)) ∧ w'.cell? ⟨ab, ao + k * 13 + 9, none⟩ = some (.int .u64 (limb 1 Y)) ∧ w'.cell? ⟨ab, ao + k * 13 + 10, none⟩ = some (.int .u64 (limb 2 Y)) ∧ w'.cell? ⟨ab, ao + k * 13 + 11, none⟩ = some (.int .u64 (limb 3 Y)) ∧ w'.cell? ⟨ab, ao + k * 13 + 12, none⟩ = some (.bool I)) := cells_keepM labB a0 a1 a2 a3 a4 a5 a6 a7 a8 a9 a10 a11 a12
     clear a0 a1 a2 a3 a4 a5 a6 a7 a8 a9 a10 a11 a12
     rw [HE.out] at HOC
     have HGr : Hid (GlobC wr) := HG8.out.belowM hbr0 H3.out
     have HLB : Hid (B < wr.drew.heap.size ∧ ∀ j, v.ownBlock = some j → B < j) := ⟨hL.lt, own_gt HO.out.1⟩
     have HADD : Hid (∀ w', Below B wr w' → Calls Tryz.prog 16 #[.pointer (some ⟨B, 0, none⟩), .agg #[.int .u64 (limb 0 KK), .int .u64 (limb 1 KK), .int .u64 (limb 2 KK), .int .u64 (limb 3 KK)], .agg #[.int .u64 (limb 0 X), .int .u64 (limb 1 X), .int .u64 (limb 2 X), .int .u64 (limb 3 X), .int .u64 (limb 0 Y), .int .u64 (limb 1 Y), .int .u64 (limb 2 Y), .int .u64 (limb 3 Y), .bool I]] wr.drew fun e w' => (∃ v', e = .returned (.int .i64 0) ∧ Lz w' B c v' ∧ w'.ownsRow (B + 1) 43 13 v' (nx + k + 1) (trs (put (linT (xc c) sk nx T V) (nx + k) (KK % modN (xc c), X, Y, I)) (nx + k + 1)) ∧ v'.ownBlock ≠ some B) ∧ But wr.drew w' B v.ownBlock) := fun _ _ => add_ok B c (xc c) KK X Y (nx + k) (B + 1) I v _ HCC.out (xor_c c HCC.out) (xc_lt HCC.out) HXY.out.1 HXY.out.2.1 HXY.out.2.2 HOC.out (by omega) wr.drew (HGr.out.belowM (Below.refl _ _).drew H3.out) hL.drew HO.out.1 hL.lt HO.out.2
     go_upto_region 20 with fail
     refine wp_region_Z (fun w' => Below B wr w') 99 (by kernel_rfl) ?_
     have hp0_0 : Below B wr wr.drew := (Below.refl _ _).drew
     have hlow0 : Below wr.heap.size wr wr.drew := (Below.refl _ _).drew
     refine zs 0 79 (.pointer (some ⟨B, 0, none⟩)) hp0_0 ?_
     refine zs 1 80 (.slice (some ⟨ab, ao, none⟩) ny cy) hp0_0 ?_
     refine zs 2 81 (.int .i64 (k : Int)) hp0_0 ?_
     refine zs 3 82 (.pointer (some ⟨ab, ao + k * 13, none⟩)) hp0_0 ?_
     refine zs 4 83 (.pointer (some ⟨ab, ao + k * 13, none⟩)) hp0_0 ?_
     refine zT 5 84 (.agg #[.int .u64 (limb 0 KK), .int .u64 (limb 1 KK), .int .u64 (limb 2 KK), .int .u64 (limb 3 KK)]) rfl rfl (fun w hSw => by (obtain ⟨a0, a1, a2, a3, a4, a5, a6, a7, a8, a9, a10, a11, a12⟩ := HC.out _ hSw; clear hSw; go_simp)) hp0_0 ?_
     refine zs 6 85 (.slice (some ⟨ab, ao, none⟩) ny cy) hp0_0 ?_
     refine zs 7 86 (.int .i64 (k : Int)) hp0_0 ?_
     refine zs 8 87 (.pointer (some ⟨ab, ao + k * 13, none⟩)) hp0_0 ?_
     refine zs 9 88 (.pointer (some ⟨ab, ao + k * 13 + 4, none⟩)) hp0_0 ?_
     refine zT 10 89 (.agg #[.int .u64 (limb 0 X), .int .u64 (limb 1 X), .int .u64 (limb 2 X), .int .u64 (limb 3 X), .int .u64 (limb 0 Y), .int .u64 (limb 1 Y), .int .u64 (limb 2 Y), .int .u64 (limb 3 Y), .bool I]) rfl rfl (fun w hSw => by (obtain ⟨a0, a1, a2, a3, a4, a5, a6, a7, a8, a9, a10, a11, a12⟩ := HC.out _ hSw; clear hSw; go_simp)) hp0_0 ?_
     refine zo 11 rfl (fun K hK => ?_)
     go_simp
     refine (HADD.out _ hp0_0).mono ?_
     rintro e wA ⟨⟨v', rfl, hLA, hoA, hvA⟩, hbA⟩
     have hSA : Below B wr wA := hp0_0.trans (hbA.below HLB.out)
     go_wp2_with fail
     refine hK.out _ _ (fun _ => hSA) ?_
     clear hK K
     refine zd ?_ _
     rw [put_lin T V (xc c) sk nx k KK X Y I HE.out] at hoA
     have HOA : Hid (wA.ownsRow (B + 1) 43 13 v' (nx + (k + 1)) (trs (linT (xc c) sk nx T V) (nx + (k + 1))) ∧ v'.ownBlock ≠ some B) := ⟨hoA, hvA⟩
     clear hoA hvA hbA
     go_wp2
     go_roundw
     case measure => simp [intOf]; omega
     case rel => exact ⟨k + 1, v', by go_num, by omega, HOA, hbr0.trans hSA, hLA⟩
    ·have hki : ¬ (k : Int) < (ny : Int) := by omega
     have hkn : k = ny := by omega
     obtain ⟨nt, ent⟩ : ∃ nt, nt = nx + ny := ⟨_, rfl⟩
     have hnt : (nt : Int) = (nx : Int) + (ny : Int) := by omega
     have HN6 : Hid (nt ≤ 60) := (by omega : nt ≤ 60)
     have HOF : Hid (wr.ownsRow (B + 1) 43 13 v nt (trs (linT (xc c) sk nx T V) nt)) := by rw [ent, ← hkn]; exact HO.out.1
     have HGr : Hid (GlobC wr) := HG8.out.belowM hbr0 H3.out
     have HRv : Hid (Rs wr v 13 nt (fun i => tC (linT (xc c) sk nx T V i))) := own_Rs HOF.out
     obtain ⟨bk, ba, bb⟩ := HKP.out wr hbr0
     have HLTN : Hid (tot c (fun i => (linT (xc c) sk nx T V i).1 % modN (xc c)) (fun i => (linT (xc c) sk nx T V i).2) nt = ad c (sm c (ax, ay, ai) (sk % modN (xc c))) (bx, by', bi)) := by rw [ent, HQA.out, HQB.out]; exact HLT.out
     have HOA : Hid (onC c ax ay ai) := by
      have : onT c (ax, ay, ai) := by rw [HQA.out]; exact HOX.out
      exact this
     have HOB : Hid (onC c bx by' bi) := by
      have : onT c (bx, by', bi) := by rw [HQB.out]; exact HOY.out
      exact this
     have HLO : Hid (∀ i, i < nt → onT c (linT (xc c) sk nx T V i).2) := fun i hi => by
      unfold linT
      split
      ·exact HTO.out i (by assumption)
      ·exact HVO.out (i - nx) (by omega)
     obtain ⟨mx, my, mi, hm⟩ : ∃ x y i, sm c (ax, ay, ai) (sk % modN (xc c)) = (x, y, i) := ⟨_, _, _, rfl⟩
     have HOM : Hid (onC c mx my mi) := by
      have : onT c (mx, my, mi) := by rw [← hm]; exact sm_on (show onT c (ax, ay, ai) from HOA.out) _
      exact this
     obtain ⟨fx, fy, fi, hf⟩ : ∃ x y i, ad c (mx, my, mi) (bx, by', bi) = (x, y, i) := ⟨_, _, _, rfl⟩
     have hfo : onT c (fx, fy, fi) := by rw [← hf]; exact ad_on (show onT c (mx, my, mi) from HOM.out) (show onT c (bx, by', bi) from HOB.out)
     have QF := fun w => eqlP_self fx fy fi (lt_M c _ (on_lt hfo).1) (lt_M c _ (on_lt hfo).2) w
     have HVAL : Hid (∀ w', Below wr.heap.size wr w' → Calls Tryz.prog 22 #[.pointer (some ⟨B, 0, none⟩)] w' fun e w'' => e = .returned (.agg #[.int .u64 (limb 0 fx), .int .u64 (limb 1 fx), .int .u64 (limb 2 fx), .int .u64 (limb 3 fx), .int .u64 (limb 0 fy), .int .u64 (limb 1 fy), .int .u64 (limb 2 fy), .int .u64 (limb 3 fy), .bool fi]) ∧ Below w'.heap.size w' w'') := fun w' hb => by
      refine (value_any B c nt v _ HCC.out (by have := HN6.out; omega) (fun i _ => lin_M T V (xc c) sk nx i) HLO.out w' (HGr.out.below hb) (hL.belowAll hb) (HRv.out.below hb)).mono ?_
      rintro e w'' ⟨⟨x, y, i, rfl, hq⟩, hb2⟩
      rw [HLTN.out, hm, hf] at hq
      cases hq
      exact ⟨rfl, hb2⟩
     have HMUL : Hid (∀ w', Below wr.heap.size wr w' → Calls Tryz.prog 25 #[.int .i64 (c : Int), .agg #[.int .u64 (limb 0 sk), .int .u64 (limb 1 sk), .int .u64 (limb 2 sk), .int .u64 (limb 3 sk)], .agg #[.int .u64 (limb 0 ax), .int .u64 (limb 1 ax), .int .u64 (limb 2 ax), .int .u64 (limb 3 ax), .int .u64 (limb 0 ay), .int .u64 (limb 1 ay), .int .u64 (limb 2 ay), .int .u64 (limb 3 ay), .bool ai]] w' fun e w'' => e = .returned (.agg #[.int .u64 (limb 0 mx), .int .u64 (limb 1 mx), .int .u64 (limb 2 mx), .int .u64 (limb 3 mx), .int .u64 (limb 0 my), .int .u64 (limb 1 my), .int .u64 (limb 2 my), .int .u64 (limb 3 my), .bool mi]) ∧ Below w'.heap.size w' w'') := fun w' hb => by
      have h := mul_on c sk ax ay ai HCC.out HKK.out (lt_M c _ (on_lt HOA.out).1) (lt_M c _ (on_lt HOA.out).2) HOA.out w' (HGr.out.below hb)
      rw [mulUp_all HOA.out _ (Nat.lt_trans (Nat.mod_lt _ (modN_pos _)) (modN_lt _)), hm] at h
      exact h
     have HADD : Hid (∀ w', Below wr.heap.size wr w' → Calls Tryz.prog 24 #[.int .i64 (c : Int), .agg #[.int .u64 (limb 0 mx), .int .u64 (limb 1 mx), .int .u64 (limb 2 mx), .int .u64 (limb 3 mx), .int .u64 (limb 0 my), .int .u64 (limb 1 my), .int .u64 (limb 2 my), .int .u64 (limb 3 my), .bool mi], .agg #[.int .u64 (limb 0 bx), .int .u64 (limb 1 bx), .int .u64 (limb 2 bx), .int .u64 (limb 3 bx), .int .u64 (limb 0 by'), .int .u64 (limb 1 by'), .int .u64 (limb 2 by'), .int .u64 (limb 3 by'), .bool bi]] w' fun e w'' => e = .returned (.agg #[.int .u64 (limb 0 fx), .int .u64 (limb 1 fx), .int .u64 (limb 2 fx), .int .u64 (limb 3 fx), .int .u64 (limb 0 fy), .int .u64 (limb 1 fy), .int .u64 (limb 2 fy), .int .u64 (limb 3 fy), .bool fi]) ∧ Below w'.heap.size w' w'') := fun w' hb => by
      have h := add_in c mx my bx by' mi bi HCC.out (lt_M c _ (on_lt HOM.out).1) (lt_M c _ (on_lt HOM.out).2) (lt_M c _ (on_lt HOB.out).1) (lt_M c _ (on_lt HOB.out).2) w' (HGr.out.below hb)
      have e : addPt c mx my mi bx by' bi = (fx, fy, fi) := by
       rw [add_same, ← hf]
       unfold raddPt ad
       rw [if_neg (fun h => by rcases h with h | h; exact h HOM.out; exact h HOB.out)]
      rw [e] at h
      exact h
     have HTRM : Hid (∀ w', Below wr.heap.size wr w' → Calls Tryz.prog 21 #[.pointer (some ⟨B, 0, none⟩)] w' fun e w'' => ∃ v', e = .returned v' ∧ w''.ownsRow w'.heap.size 43 13 v' nt (trs (linT (xc c) sk nx T V) nt) ∧ Below w'.heap.size w' w'') := fun w' hb => terms_any B c nt v _ (by have := HN6.out; omega) w' (hL.belowAll hb) (HRv.out.below hb)
     have HL2 : Hid (Lz wr B c v) := hL
     clear hlt hkn ent hm hf hfo HO hk hL
     go_upto_region 21 with fail
     have HS0 : Hid (Below wr.heap.size wr wr.drew) := (Below.refl _ _).drew
     refine wp_region_Z (fun w' => Below wr.heap.size wr w') 99 (by kernel_rfl) ?_
     refine zs 0 91 (.pointer (some ⟨B, 0, none⟩)) HS0.out ?_
     refine zs 2 93 (.int .i64 (c : Int)) HS0.out ?_
     refine zs 3 94 (.int .i64 (c : Int)) HS0.out ?_
     refine zT 4 95 (.agg #[.int .u64 (limb 0 sk), .int .u64 (limb 1 sk), .int .u64 (limb 2 sk), .int .u64 (limb 3 sk)]) rfl rfl (fun w hSw => by (have qq := (bk.belowAll hSw).cell; clear hSw; go_simp)) HS0.out ?_
     refine zT 5 96 (.agg #[.int .u64 (limb 0 ax), .int .u64 (limb 1 ax), .int .u64 (limb 2 ax), .int .u64 (limb 3 ax), .int .u64 (limb 0 ay), .int .u64 (limb 1 ay), .int .u64 (limb 2 ay), .int .u64 (limb 3 ay), .bool ai]) rfl rfl (fun w hSw => by (obtain ⟨q0, q1, q2, q3, q4, q5, q6, q7, q8, qf⟩ := (ba.belowAll hSw).cells; clear hSw; go_simp)) HS0.out ?_
     refine zT 7 98 (.agg #[.int .u64 (limb 0 bx), .int .u64 (limb 1 bx), .int .u64 (limb 2 bx), .int .u64 (limb 3 bx), .int .u64 (limb 0 by'), .int .u64 (limb 1 by'), .int .u64 (limb 2 by'), .int .u64 (limb 3 by'), .bool bi]) rfl rfl (fun w hSw => by (obtain ⟨q0, q1, q2, q3, q4, q5, q6, q7, q8, qf⟩ := (bb.belowAll hSw).cells; clear hSw; go_simp)) HS0.out ?_
     refine zo 1 rfl (fun K hK => ?_)
     go_simp
     refine (HVAL.out wr.drew (HS0.out)).mono ?_
     rintro e wK1 ⟨rfl, hbK1⟩
     have hSK1 := bStep HS0.out hbK1
     go_wp2_with fail
     refine hK.out _ _ (fun _ => hSK1) ?_
     clear hK K
     refine zo 6 rfl (fun K hK => ?_)
     go_simp
     refine (HMUL.out wK1 (hSK1)).mono ?_
     rintro e wK2 ⟨rfl, hbK2⟩
     have hSK2 := bStep hSK1 hbK2
     go_wp2_with fail
     refine hK.out _ _ (fun _ => hSK2) ?_
     clear hK K
     refine zo 8 rfl (fun K hK => ?_)
     go_simp
     refine (HADD.out wK2 (hSK2)).mono ?_
     rintro e wK3 ⟨rfl, hbK3⟩
     have hSK3 := bStep hSK2 hbK3
     go_wp2_with fail
     refine hK.out _ _ (fun _ => hSK3) ?_
     clear hK K
     refine zs 9 100 (.bool true) hSK3 ?_
     refine zs 10 101 (.bool true) hSK3 ?_
     refine zs 11 102 (.pointer (some ⟨B, 0, none⟩)) hSK3 ?_
     refine zs 14 105 (.slice ox nx cx) hSK3 ?_
     refine zs 15 106 (.int .i64 (nx : Int)) hSK3 ?_
     refine zs 16 107 (.slice oy ny cy) hSK3 ?_
     refine zs 17 108 (.int .i64 (ny : Int)) hSK3 ?_
     refine zT 18 109 (.int .i64 ((nx : Int) + (ny : Int))) rfl rfl (fun w hSw => by (go_simp; exact HWI.out)) hSK3 ?_
     refine zo 12 rfl (fun K hK => ?_)
     go_simp
     refine (HTRM.out wK3 (hSK3)).mono ?_
     rintro e wK4 ⟨v', rfl, ho, hbK4⟩
     have hSK4 := bStep hSK3 hbK4
     obtain ⟨ot, ct, rfl⟩ := own_slice ho
     clear ho
     go_wp2_with fail
     refine hK.out _ _ (fun _ => hSK4) ?_
     clear hK K
     refine zs 13 104 (.int .i64 ((nx : Int) + (ny : Int))) hSK4 ?_
     refine zs 19 110 (.bool true) hSK4 ?_
     refine zs 20 111 (.bool true) hSK4 ?_
     refine zs 21 8 (.bool true) hSK4 ?_
     refine zd ?_ _
     go_wp2
     go_ret
     exact ⟨rfl, hbr.trans (belowLe (hSK4) hbr.size)⟩
set_option maxRecDepth 20000 in
theorem mlin_out (c E1 E2 : Int) (sk nx ny cx cy ax ay bx by' : Nat) (ai bi : Bool) (ox oy : Option Addr) (T V : Nat → Nat × Nat × Nat × Bool) (hE : nx + ny ≤ 60 → ¬ (E1 = 0 ∧ E2 = 0))
  (H1 : nx + ny ≤ 60 → ∀ (v : Value) (w : World), GlobC w → Rs w v 13 nx (fun i => tC (T i)) → Calls Tryz.prog 11 #[.int .i64 c, v] w fun e w' => e = .returned (.tuple #[.agg #[.int .u64 (limb 0 ax), .int .u64 (limb 1 ax), .int .u64 (limb 2 ax), .int .u64 (limb 3 ax), .int .u64 (limb 0 ay), .int .u64 (limb 1 ay), .int .u64 (limb 2 ay), .int .u64 (limb 3 ay), .bool ai], .int .i64 E1]) ∧ Below w.heap.size w w')
  (H2 : nx + ny ≤ 60 → ∀ (v : Value) (w : World), GlobC w → Rs w v 13 ny (fun i => tC (V i)) → Calls Tryz.prog 11 #[.int .i64 c, v] w fun e w' => e = .returned (.tuple #[.agg #[.int .u64 (limb 0 bx), .int .u64 (limb 1 bx), .int .u64 (limb 2 bx), .int .u64 (limb 3 bx), .int .u64 (limb 0 by'), .int .u64 (limb 1 by'), .int .u64 (limb 2 by'), .int .u64 (limb 3 by'), .bool bi], .int .i64 E2]) ∧ Below w.heap.size w w')
  (hnn : nx ≤ 140737488351232 ∧ ny ≤ 140737488351232) (w : World) (hg : GlobC w) (hv : Rs w (.slice ox nx cx) 13 nx (fun i => tC (T i))) (hu : Rs w (.slice oy ny cy) 13 ny (fun i => tC (V i))) :
  Calls Tryz.prog 5 #[.int .i64 c, .slice ox nx cx, .slice oy ny cy, .agg #[.int .u64 (limb 0 sk), .int .u64 (limb 1 sk), .int .u64 (limb 2 sk), .int .u64 (limb 3 sk)]] w fun e w' => e = .returned (.bool true) ∧ Below w.heap.size w w' := by
 have HG0 : Hid (GlobC w) := hg
 have HV0 : Hid (Rs w (.slice ox nx cx) 13 nx (fun i => tC (T i))) := hv
 have HU0 : Hid (Rs w (.slice oy ny cy) 13 ny (fun i => tC (V i))) := hu
 have HS1 := (show Hid _ from H1); have HS2 := (show Hid _ from H2); have HEE := (show Hid _ from hE)
 have HNN : Hid (nx ≤ 140737488351232 ∧ ny ≤ 140737488351232) := hnn
 clear hg hv hu H1 H2 hE hnn
 go_enter Tryz.func5, Tryz.ntmps5
 go_upto_region 1 with fail
 obtain ⟨N7, eN7⟩ : ∃ N, N = w.heap.size := ⟨_, rfl⟩
 obtain ⟨w0, hw0⟩ : ∃ w0 : World, w0 = w.alloc (.cells #[.int .u64 (limb 0 sk), .int .u64 (limb 1 sk), .int .u64 (limb 2 sk), .int .u64 (limb 3 sk)] 28) := ⟨_, rfl⟩
 have hb0 : Below w.heap.size w w0 := by rw [hw0]; exact (Below.refl _ _).alloc (Nat.le_refl _) _
 rw [← hw0]
 rw [← eN7]
 clear hw0 eN7
 have HGa : Hid (GlobC w0) := HG0.out.below hb0
 go_wp2_with fail
 refine (alive5_any _ HGa.out).mono ?_
 rintro e w1 ⟨rfl, hb1⟩
 have hbw1 := bStep hb0 hb1
 clear hb0 hb1 HGa
 have hwr : wrap64 ((nx : Int) + (ny : Int)) = (nx : Int) + (ny : Int) := IntWalk.wrap64_in _ (by have := HNN.out; omega)
 by_cases h60 : (60 : Int) < (nx : Int) + (ny : Int)
 ·go_wp2
  go_ret
  exact ⟨rfl, hbw1⟩
 ·have hN : nx + ny ≤ 60 := by omega
  have HE := (show Hid _ from HEE.out hN)
  have HT1 := (show Hid _ from HS1.out hN); have HT2 := (show Hid _ from HS2.out hN)
  have hnx : Hid (nx ≤ 60 ∧ ny ≤ 60) := ⟨by omega, by omega⟩
  clear HEE HS1 HS2 hN
  have HV1 : Hid (Rs w1 (.slice ox nx cx) 13 nx (fun i => tC (T i))) := HV0.out.below hbw1
  go_wp2_with fail
  refine (copyT_any nx _ T (Nat.le_trans hnx.out.1 (by decide)) _ HV1.out).mono ?_
  rintro e w2 ⟨v2, rfl, ho2, hb2⟩
  have HR2 : Hid (Rs w2 v2 13 nx (fun i => tC (T i))) := own_Rs ho2
  have hbw2 := bStep hbw1 hb2
  clear hbw1 hb2 ho2 HV1
  have HG2 : Hid (GlobC w2) := HG0.out.below hbw2
  go_wp2_with fail
  refine (HT1.out v2 _ HG2.out HR2.out).mono ?_
  rintro e w3 ⟨rfl, hb3⟩
  have hbw3 := bAlloc (bStep hbw2 hb3) (.cells #[.int .u64 (limb 0 ax), .int .u64 (limb 1 ax), .int .u64 (limb 2 ax), .int .u64 (limb 3 ax), .int .u64 (limb 0 ay), .int .u64 (limb 1 ay), .int .u64 (limb 2 ay), .int .u64 (limb 3 ay), .bool ai] 30)
  clear hbw2 hb3 HR2 HG2 HT1
  go_upto_region 6 with fail
  obtain ⟨w4, hw4⟩ : ∃ WW : World, WW = w3.alloc (.cells #[.int .u64 (limb 0 ax), .int .u64 (limb 1 ax), .int .u64 (limb 2 ax), .int .u64 (limb 3 ax), .int .u64 (limb 0 ay), .int .u64 (limb 1 ay), .int .u64 (limb 2 ay), .int .u64 (limb 3 ay), .bool ai] 30) := ⟨_, rfl⟩
  obtain ⟨N9, hN9⟩ : ∃ N, N = w3.heap.size := ⟨_, rfl⟩
  rw [← hw4] at hbw3 ⊢
  rw [← hN9]
  clear hw4 hN9
  have HU4 : Hid (Rs w4 (.slice oy ny cy) 13 ny (fun i => tC (V i))) := HU0.out.below hbw3
  go_wp2_with fail
  refine (copyT_any ny _ V (Nat.le_trans hnx.out.2 (by decide)) _ HU4.out).mono ?_
  rintro e w5 ⟨v5, rfl, ho5, hb5⟩
  have HR5 : Hid (Rs w5 v5 13 ny (fun i => tC (V i))) := own_Rs ho5
  have hbw5 := bStep hbw3 hb5
  clear hbw3 hb5 ho5 HU4
  have HG5 : Hid (GlobC w5) := HG0.out.below hbw5
  go_wp2_with fail
  refine (HT2.out v5 _ HG5.out HR5.out).mono ?_
  rintro e w6 ⟨rfl, hb6⟩
  have hbw6 := bAlloc (bStep hbw5 hb6) (.cells #[.int .u64 (limb 0 bx), .int .u64 (limb 1 bx), .int .u64 (limb 2 bx), .int .u64 (limb 3 bx), .int .u64 (limb 0 by'), .int .u64 (limb 1 by'), .int .u64 (limb 2 by'), .int .u64 (limb 3 by'), .bool bi] 30)
  clear hbw5 hb6 HR5 HG5 HT2
  go_upto_region 7 with fail
  by_cases h1 : E1 = 0
  ·have h2 : ¬ E2 = 0 := fun h => HE.out ⟨h1, h⟩
   go_wp2
   go_ret
   exact ⟨rfl, hbw6⟩
  ·go_wp2
   go_ret
   exact ⟨rfl, hbw6⟩
theorem mlin_walk (c : Int) (nx : Nat) (v : Value) (T : Nat → Nat × Nat × Nat × Bool) (ny : Nat) (u : Value) (V : Nat → Nat × Nat × Nat × Bool) (sk : Nat) (hk : sk < 115792089237316195423570985008687907853269984665640564039457584007913129639936) (hT : ∀ i, i < nx → (T i).1 < 115792089237316195423570985008687907853269984665640564039457584007913129639936 ∧ (T i).2.1 < 115792089237316195423570985008687907853269984665640564039457584007913129639936 ∧ (T i).2.2.1 < 115792089237316195423570985008687907853269984665640564039457584007913129639936) (hV : ∀ i, i < ny → (V i).1 < 115792089237316195423570985008687907853269984665640564039457584007913129639936 ∧ (V i).2.1 < 115792089237316195423570985008687907853269984665640564039457584007913129639936 ∧ (V i).2.2.1 < 115792089237316195423570985008687907853269984665640564039457584007913129639936) (hnn : nx ≤ 140737488351232 ∧ ny ≤ 140737488351232) (w : World) (hg : GlobC w) (hv : Rs w v 13 nx (fun i => tC (T i))) (hu : Rs w u 13 ny (fun i => tC (V i))) :
  Calls Tryz.prog 5 #[.int .i64 c, v, u, .agg #[.int .u64 (limb 0 sk), .int .u64 (limb 1 sk), .int .u64 (limb 2 sk), .int .u64 (limb 3 sk)]] w fun e w' => e = .returned (.bool true) ∧ Below w.heap.size w w' := by
 obtain ⟨ox, cx, rfl⟩ := hv.shape
 obtain ⟨oy, cy, rfl⟩ := hu.shape
 by_cases hc : c < 0 ∨ 4 ≤ c
 ·exact mlin_out c 40 40 sk nx ny cx cy 0 0 0 0 false false ox oy T V (fun _ h => by omega) (fun _ v w hg _ => msum_out c hc v w hg) (fun _ v w hg _ => msum_out c hc v w hg) hnn w hg hv hu
 ·obtain ⟨d, rfl⟩ : ∃ d : Nat, c = (d : Int) := ⟨c.toNat, by omega⟩
  by_cases hall : nx + ny ≤ 60 ∧ (∀ i, i < nx → onT d (T i).2) ∧ ∀ i, i < ny → onT d (V i).2
  ·exact mlin_in d sk nx ny cx cy ox oy T V (by omega) hk hall.1 hT hV hall.2.1 hall.2.2 w hg hv hu
  ·have key : ∀ (n : Nat) (X : Nat → Nat × Nat × Nat × Bool) (_ : ∀ i, i < n → (X i).1 < 115792089237316195423570985008687907853269984665640564039457584007913129639936 ∧ (X i).2.1 < 115792089237316195423570985008687907853269984665640564039457584007913129639936 ∧ (X i).2.2.1 < 115792089237316195423570985008687907853269984665640564039457584007913129639936), ∃ (x y : Nat) (i : Bool) (E : Int), (E = 0 → ∀ i, i < n → onT d (X i).2) ∧ (n ≤ 60 → ∀ (v : Value) (w : World), GlobC w → Rs w v 13 n (fun i => tC (X i)) → Calls Tryz.prog 11 #[.int .i64 (d : Int), v] w fun e w' => e = .returned (.tuple #[.agg #[.int .u64 (limb 0 x), .int .u64 (limb 1 x), .int .u64 (limb 2 x), .int .u64 (limb 3 x), .int .u64 (limb 0 y), .int .u64 (limb 1 y), .int .u64 (limb 2 y), .int .u64 (limb 3 y), .bool i], .int .i64 E]) ∧ Below w.heap.size w w') := fun n X hX => by
    by_cases ha : ∀ i, i < n → onT d (X i).2
    ·refine ⟨(tot d (fun i => (X i).1 % modN (xc d)) (fun i => (X i).2) n).1, (tot d (fun i => (X i).1 % modN (xc d)) (fun i => (X i).2) n).2.1, (tot d (fun i => (X i).1 % modN (xc d)) (fun i => (X i).2) n).2.2, 0, fun _ => ha, fun hn v w hg hv => ?_⟩
     obtain ⟨oa, cn, rfl⟩ := hv.shape
     refine (msum_in d n cn oa X (by omega) (Nat.le_trans hn (by decide)) hX w hg hv).mono ?_
     rintro e w' ⟨⟨x, y, i, E, rfl, hh | hh⟩, hb⟩
     ·obtain ⟨rfl, _, hq⟩ := hh
      rw [← hq]
      exact ⟨rfl, hb⟩
     ·exact absurd ha hh.2.1
    ·refine ⟨0, 0, false, 41, fun h => by omega, fun hn v w hg hv => ?_⟩
     obtain ⟨oa, cn, rfl⟩ := hv.shape
     refine (msum_in d n cn oa X (by omega) (Nat.le_trans hn (by decide)) hX w hg hv).mono ?_
     rintro e w' ⟨⟨x, y, i, E, rfl, hh | hh⟩, hb⟩
     ·exact absurd hh.2.1 ha
     ·obtain ⟨rfl, _, hq⟩ := hh
      cases hq
      exact ⟨rfl, hb⟩
   obtain ⟨ax, ay, ai, E1, h1, g1⟩ := key nx T hT
   obtain ⟨bx, by', bi, E2, h2, g2⟩ := key ny V hV
   exact mlin_out (d : Int) E1 E2 sk nx ny cx cy ax ay bx by' ai bi ox oy T V (fun hn h => hall ⟨hn, h1 h.1, h2 h.2⟩) (fun hn => g1 (by omega)) (fun hn => g2 (by omega)) hnn w hg hv hu
end Go.Proofs.YtokoknacolmhgaaGreatDoor
