import Derived.Test.YtokoknacolmhgaaGreatDoorWXK
import Derived.Test.YtokoknacolmhgaaGreatDoorWK12
import Derived.Test.YtokoknacolmhgaaGreatDoorWXJ
namespace Go.Proofs.YtokoknacolmhgaaGreatDoor
open Go.RowKit
theorem alive_on (r : Nat) (h1 : r < modN 0) (h2 : mulP 0 r r = 24) : onC 0 1 r false := Or.inr ⟨rfl, by decide, h1, h2.trans sq_one.symm⟩
theorem five_ne (r : Nat) (h : onC 0 1 r false) : ∃ a b, sm 0 (1, r, false) 5 = (a, b, false) ∧ a < 115792089237316195423570985008687907853269984665640564039457584007913129639936 ∧ b < 115792089237316195423570985008687907853269984665640564039457584007913129639936 := by
 have hz : sm 0 (1, r, false) (modN (oth 0)) = oT := order_all (c := 0) (by decide) (show onT 0 (1, r, false) from h)
 have hn := order_least h (modN_prime (oth 0)) hz 5 (by decide) (by decide)
 have ho : onT 0 (sm 0 (1, r, false) 5) := sm_on (show onT 0 (1, r, false) from h) 5
 obtain ⟨a, b, i, e⟩ : ∃ a b i, sm 0 (1, r, false) 5 = (a, b, i) := ⟨_, _, _, rfl⟩
 rw [e] at ho hn ⊢
 cases i with
 | true =>
  obtain ⟨rfl, rfl⟩ := on_inf ho
  exact absurd rfl hn
 | false => exact ⟨a, b, rfl, lt_M 0 _ (on_lt ho).1, lt_M 0 _ (on_lt ho).2⟩
theorem two_limbs : limb 0 2 = 2 ∧ limb 1 2 = 0 ∧ limb 2 2 = 0 ∧ limb 3 2 = 0 := by decide
theorem three_limbs : limb 0 3 = 3 ∧ limb 1 3 = 0 ∧ limb 2 3 = 0 ∧ limb 3 3 = 0 := by decide
theorem two_rs (w : World) (x r : Nat) : Rs (w.alloc (.cells #[.int .u64 2, .int .u64 0, .int .u64 0, .int .u64 0, .int .u64 (limb 0 x), .int .u64 (limb 1 x), .int .u64 (limb 2 x), .int .u64 (limb 3 x), .int .u64 (limb 0 r), .int .u64 (limb 1 r), .int .u64 (limb 2 r), .int .u64 (limb 3 r), .bool false, .int .u64 3, .int .u64 0, .int .u64 0, .int .u64 0, .int .u64 (limb 0 x), .int .u64 (limb 1 x), .int .u64 (limb 2 x), .int .u64 (limb 3 x), .int .u64 (limb 0 r), .int .u64 (limb 1 r), .int .u64 (limb 2 r), .int .u64 (limb 3 r), .bool false] 43)) (.slice (some ⟨w.heap.size, 0, none⟩) 2 2) 13 2 (fun i => tC (i + 2, x, r, false)) := by
 refine BlkR.Rs (t := 43) ⟨#[.int .u64 2, .int .u64 0, .int .u64 0, .int .u64 0, .int .u64 (limb 0 x), .int .u64 (limb 1 x), .int .u64 (limb 2 x), .int .u64 (limb 3 x), .int .u64 (limb 0 r), .int .u64 (limb 1 r), .int .u64 (limb 2 r), .int .u64 (limb 3 r), .bool false, .int .u64 3, .int .u64 0, .int .u64 0, .int .u64 0, .int .u64 (limb 0 x), .int .u64 (limb 1 x), .int .u64 (limb 2 x), .int .u64 (limb 3 x), .int .u64 (limb 0 r), .int .u64 (limb 1 r), .int .u64 (limb 2 r), .int .u64 (limb 3 r), .bool false], ?_, rfl, ?_⟩ (by decide)
 ·show (w.heap.push _)[w.heap.size]? = _
  simp
 ·intro i hi j hj
  have hi' : i = 0 ∨ i = 1 := by omega
  have hj' : j = 0 ∨ j = 1 ∨ j = 2 ∨ j = 3 ∨ j = 4 ∨ j = 5 ∨ j = 6 ∨ j = 7 ∨ j = 8 ∨ j = 9 ∨ j = 10 ∨ j = 11 ∨ j = 12 := by omega
  rcases hi' with rfl | rfl
  ·rcases hj' with rfl | rfl | rfl | rfl | rfl | rfl | rfl | rfl | rfl | rfl | rfl | rfl | rfl <;> first | rfl | simp [tC, two_limbs]
  ·rcases hj' with rfl | rfl | rfl | rfl | rfl | rfl | rfl | rfl | rfl | rfl | rfl | rfl | rfl <;> first | rfl | simp [tC, three_limbs]
theorem two_tot (r : Nat) (h : onC 0 1 r false) : tot 0 (fun i => (i + 2, 1, r, false).1 % modN (xc 0)) (fun i => ((i + 2, 1, r, false) : Nat × Nat × Nat × Bool).2) 2 = sm 0 (1, r, false) 5 := by
 show ad 0 (ad 0 oT (sm 0 (1, r, false) (2 % modN (xc 0)))) (sm 0 (1, r, false) (3 % modN (xc 0))) = sm 0 (1, r, false) (2 + 3)
 rw [o_ad, show 2 % modN (xc 0) = 2 from by decide, show 3 % modN (xc 0) = 3 from by decide, ← sm_add (show onT 0 (1, r, false) from h)]
theorem sum_two (x r a b B : Nat) (ex : x = 1) (h1 : r < modN 0) (h : onC 0 1 r false) (hab : sm 0 (1, r, false) 5 = (a, b, false)) (w : World) (hg : GlobC w) (hv : Rs w (.slice (some ⟨B, 0, none⟩) 2 2) 13 2 (fun i => tC (i + 2, x, r, false))) :
  Calls Tryz.prog 11 #[.int .i64 0, .slice (some ⟨B, 0, none⟩) 2 2] w fun e w' => e = .returned (.tuple #[.agg #[.int .u64 (limb 0 a), .int .u64 (limb 1 a), .int .u64 (limb 2 a), .int .u64 (limb 3 a), .int .u64 (limb 0 b), .int .u64 (limb 1 b), .int .u64 (limb 2 b), .int .u64 (limb 3 b), .bool false], .int .i64 0]) ∧ Below w.heap.size w w' := by
 subst ex
 refine (msum_in 0 2 2 _ (fun i => (i + 2, 1, r, false)) (by decide) (by decide) (fun i hi => ⟨by show i + 2 < _; omega, by show 1 < _; decide, lt_M 0 _ h1⟩) w hg hv).mono ?_
 rintro e w' ⟨⟨x, y, i, E, rfl, hh | hh⟩, hb⟩
 ·obtain ⟨rfl, _, hq⟩ := hh
  rw [two_tot r h, hab] at hq
  cases hq
  exact ⟨rfl, hb⟩
 ·exact absurd (fun i _ => h) hh.2.1
theorem sum_nil (o : Nat) (eo : o = 0) (w : World) (hg : GlobC w) :
  Calls Tryz.prog 11 #[.int .i64 0, .slice none 0 0] w fun e w' => e = .returned (.tuple #[.agg #[.int .u64 (limb 0 o), .int .u64 (limb 1 o), .int .u64 (limb 2 o), .int .u64 (limb 3 o), .int .u64 (limb 0 o), .int .u64 (limb 1 o), .int .u64 (limb 2 o), .int .u64 (limb 3 o), .bool true], .int .i64 0]) ∧ Below w.heap.size w w' := by
 subst eo
 refine (msum_in 0 0 0 none (fun _ => (0, 0, 0, true)) (by decide) (by decide) (fun i hi => by omega) w hg (Or.inl ⟨rfl, rfl⟩)).mono ?_
 rintro e w' ⟨⟨x, y, i, E, rfl, hh | hh⟩, hb⟩
 ·obtain ⟨rfl, _, hq⟩ := hh
  cases hq
  exact ⟨rfl, hb⟩
 ·exact absurd (fun i hi => by omega) hh.2.1
theorem mul_five (x r a b : Nat) (ex : x = 1) (h1 : r < modN 0) (h : onC 0 1 r false) (hab : sm 0 (1, r, false) 5 = (a, b, false)) (w : World) (hg : GlobC w) :
  Calls Tryz.prog 25 #[.int .i64 0, .agg #[.int .u64 5, .int .u64 0, .int .u64 0, .int .u64 0], .agg #[.int .u64 (limb 0 x), .int .u64 (limb 1 x), .int .u64 (limb 2 x), .int .u64 (limb 3 x), .int .u64 (limb 0 r), .int .u64 (limb 1 r), .int .u64 (limb 2 r), .int .u64 (limb 3 r), .bool false]] w fun e w' => e = .returned (.agg #[.int .u64 (limb 0 a), .int .u64 (limb 1 a), .int .u64 (limb 2 a), .int .u64 (limb 3 a), .int .u64 (limb 0 b), .int .u64 (limb 1 b), .int .u64 (limb 2 b), .int .u64 (limb 3 b), .bool false]) ∧ Below w.heap.size w w' := by
 subst ex
 have hm := mul_on 0 5 1 r false (by decide) (by decide) (by decide) (lt_M 0 _ h1) h w hg
 rw [mulUp_all h _ (Nat.lt_trans (Nat.mod_lt _ (modN_pos _)) (modN_lt _)), show 5 % modN (xc 0) = 5 from by decide, hab] at hm
 exact hm
set_option maxHeartbeats 4000000 in
set_option maxRecDepth 20000 in
theorem alive5_any (w : World) (hg : GlobC w) : Calls Tryz.prog 8 #[] w fun e w' => e = .returned (.bool true) ∧ Below w.heap.size w w' := by
 have HG0 : Hid (GlobC w) := hg
 obtain ⟨o, eo⟩ : ∃ o, o = 0 := ⟨_, rfl⟩
 obtain ⟨x, ex⟩ : ∃ x, x = 1 := ⟨_, rfl⟩
 have HSO : Hid (∀ w, Calls Tryz.prog 26 #[.int .i64 0, .int .i64 1] w fun e w' => ∃ r, r < modN 0 ∧ mulP 0 r r = 24 ∧ e = .returned (.agg #[.int .u64 (limb 0 x), .int .u64 (limb 1 x), .int .u64 (limb 2 x), .int .u64 (limb 3 x), .int .u64 (limb 0 r), .int .u64 (limb 1 r), .int .u64 (limb 2 r), .int .u64 (limb 3 r), .bool false]) ∧ Below w.heap.size w w') := fun w => by rw [ex]; exact rsome_one w
 have HNI : Hid (∀ w, GlobC w → _) := fun w hg => sum_nil o eo w hg
 have HEX : Hid (x = 1) := ex
 clear hg eo ex
 go_enter Tryz.func8, Tryz.ntmps8
 go_wp2_with fail
 refine (HSO.out _).mono ?_
 rintro e w1 ⟨r, hr1, hr2, rfl, hb1⟩
 have hon := alive_on r hr1 hr2
 obtain ⟨a, b, hab, ha, hb⟩ := five_ne r hon
 have HM : Hid (∀ w, GlobC w → Calls Tryz.prog 25 #[.int .i64 0, .agg #[.int .u64 5, .int .u64 0, .int .u64 0, .int .u64 0], .agg #[.int .u64 (limb 0 x), .int .u64 (limb 1 x), .int .u64 (limb 2 x), .int .u64 (limb 3 x), .int .u64 (limb 0 r), .int .u64 (limb 1 r), .int .u64 (limb 2 r), .int .u64 (limb 3 r), .bool false]] w fun e w' => e = .returned (.agg #[.int .u64 (limb 0 a), .int .u64 (limb 1 a), .int .u64 (limb 2 a), .int .u64 (limb 3 a), .int .u64 (limb 0 b), .int .u64 (limb 1 b), .int .u64 (limb 2 b), .int .u64 (limb 3 b), .bool false]) ∧ Below w.heap.size w w') := fun w hg => mul_five x r a b HEX.out hr1 hon hab w hg
 have HS2 : Hid (∀ (B : Nat) (w : World), GlobC w → Rs w (.slice (some ⟨B, 0, none⟩) 2 2) 13 2 (fun i => tC (i + 2, x, r, false)) → Calls Tryz.prog 11 #[.int .i64 0, .slice (some ⟨B, 0, none⟩) 2 2] w fun e w' => e = .returned (.tuple #[.agg #[.int .u64 (limb 0 a), .int .u64 (limb 1 a), .int .u64 (limb 2 a), .int .u64 (limb 3 a), .int .u64 (limb 0 b), .int .u64 (limb 1 b), .int .u64 (limb 2 b), .int .u64 (limb 3 b), .bool false], .int .i64 0]) ∧ Below w.heap.size w w') := fun B w hg hv => sum_two x r a b B HEX.out hr1 hon hab w hg hv
 have QAB : ∀ w, (binOp .eql 30 (.agg #[.int .u64 (limb 0 a), .int .u64 (limb 1 a), .int .u64 (limb 2 a), .int .u64 (limb 3 a), .int .u64 (limb 0 b), .int .u64 (limb 1 b), .int .u64 (limb 2 b), .int .u64 (limb 3 b), .bool false]) (.agg #[.int .u64 (limb 0 a), .int .u64 (limb 1 a), .int .u64 (limb 2 a), .int .u64 (limb 3 a), .int .u64 (limb 0 b), .int .u64 (limb 1 b), .int .u64 (limb 2 b), .int .u64 (limb 3 b), .bool false])).run Tryz.prog w = .ok (.bool true) w := fun w => eqlP_self a b false ha hb w
 have bg2 : Pt (w1.alloc (.cells #[.int .u64 (limb 0 x), .int .u64 (limb 1 x), .int .u64 (limb 2 x), .int .u64 (limb 3 x), .int .u64 (limb 0 r), .int .u64 (limb 1 r), .int .u64 (limb 2 r), .int .u64 (limb 3 r), .bool false] 30)) w1.heap.size x r false := Pt.newAt _ _ _ _ _ rfl
 have hbw2 := bAlloc hb1 (.cells #[.int .u64 (limb 0 x), .int .u64 (limb 1 x), .int .u64 (limb 2 x), .int .u64 (limb 3 x), .int .u64 (limb 0 r), .int .u64 (limb 1 r), .int .u64 (limb 2 r), .int .u64 (limb 3 r), .bool false] 30)
 clear hb1 HSO hr1 hr2 hon hab ha hb
 go_upto_region 2 with fail
 obtain ⟨w2, hw2⟩ : ∃ WW : World, WW = w1.alloc (.cells #[.int .u64 (limb 0 x), .int .u64 (limb 1 x), .int .u64 (limb 2 x), .int .u64 (limb 3 x), .int .u64 (limb 0 r), .int .u64 (limb 1 r), .int .u64 (limb 2 r), .int .u64 (limb 3 r), .bool false] 30) := ⟨_, rfl⟩
 obtain ⟨N1, hN1⟩ : ∃ N, N = w1.heap.size := ⟨_, rfl⟩
 rw [← hw2] at bg2 hbw2 ⊢
 rw [← hN1] at bg2 ⊢
 clear hw2 hN1
 obtain ⟨q0, q1, q2, q3, q4, q5, q6, q7, q8, qf⟩ := bg2.cells
 have HR3 := (show Hid _ from two_rs w2 x r)
 have hbw3 := bAlloc hbw2 (.cells #[.int .u64 2, .int .u64 0, .int .u64 0, .int .u64 0, .int .u64 (limb 0 x), .int .u64 (limb 1 x), .int .u64 (limb 2 x), .int .u64 (limb 3 x), .int .u64 (limb 0 r), .int .u64 (limb 1 r), .int .u64 (limb 2 r), .int .u64 (limb 3 r), .bool false, .int .u64 3, .int .u64 0, .int .u64 0, .int .u64 0, .int .u64 (limb 0 x), .int .u64 (limb 1 x), .int .u64 (limb 2 x), .int .u64 (limb 3 x), .int .u64 (limb 0 r), .int .u64 (limb 1 r), .int .u64 (limb 2 r), .int .u64 (limb 3 r), .bool false] 43)
 have bg3 := bg2.alloc (.cells #[.int .u64 2, .int .u64 0, .int .u64 0, .int .u64 0, .int .u64 (limb 0 x), .int .u64 (limb 1 x), .int .u64 (limb 2 x), .int .u64 (limb 3 x), .int .u64 (limb 0 r), .int .u64 (limb 1 r), .int .u64 (limb 2 r), .int .u64 (limb 3 r), .bool false, .int .u64 3, .int .u64 0, .int .u64 0, .int .u64 0, .int .u64 (limb 0 x), .int .u64 (limb 1 x), .int .u64 (limb 2 x), .int .u64 (limb 3 x), .int .u64 (limb 0 r), .int .u64 (limb 1 r), .int .u64 (limb 2 r), .int .u64 (limb 3 r), .bool false] 43)
 have HG3 : Hid (GlobC (w2.alloc (.cells #[.int .u64 2, .int .u64 0, .int .u64 0, .int .u64 0, .int .u64 (limb 0 x), .int .u64 (limb 1 x), .int .u64 (limb 2 x), .int .u64 (limb 3 x), .int .u64 (limb 0 r), .int .u64 (limb 1 r), .int .u64 (limb 2 r), .int .u64 (limb 3 r), .bool false, .int .u64 3, .int .u64 0, .int .u64 0, .int .u64 0, .int .u64 (limb 0 x), .int .u64 (limb 1 x), .int .u64 (limb 2 x), .int .u64 (limb 3 x), .int .u64 (limb 0 r), .int .u64 (limb 1 r), .int .u64 (limb 2 r), .int .u64 (limb 3 r), .bool false] 43))) := HG0.out.below hbw3
 go_wp2_with fail
 refine (HS2.out _ _ HG3.out HR3.out).mono ?_
 rintro e w4 ⟨rfl, hb4⟩
 have bg4 := bg3.belowAll hb4
 have hbw4 := bStep hbw3 hb4
 clear q0 q1 q2 q3 q4 q5 q6 q7 q8 qf HR3 HG3 hbw3 bg3 hb4 hbw2 bg2 HS2
 have bg5 := bg4.alloc (.cells #[.int .u64 (limb 0 a), .int .u64 (limb 1 a), .int .u64 (limb 2 a), .int .u64 (limb 3 a), .int .u64 (limb 0 b), .int .u64 (limb 1 b), .int .u64 (limb 2 b), .int .u64 (limb 3 b), .bool false] 30)
 have ba5 : Pt (w4.alloc (.cells #[.int .u64 (limb 0 a), .int .u64 (limb 1 a), .int .u64 (limb 2 a), .int .u64 (limb 3 a), .int .u64 (limb 0 b), .int .u64 (limb 1 b), .int .u64 (limb 2 b), .int .u64 (limb 3 b), .bool false] 30)) w4.heap.size a b false := Pt.newAt _ _ _ _ _ rfl
 have hbw5 := bAlloc hbw4 (.cells #[.int .u64 (limb 0 a), .int .u64 (limb 1 a), .int .u64 (limb 2 a), .int .u64 (limb 3 a), .int .u64 (limb 0 b), .int .u64 (limb 1 b), .int .u64 (limb 2 b), .int .u64 (limb 3 b), .bool false] 30)
 go_upto_region 3 with fail
 obtain ⟨w5, hw5⟩ : ∃ WW : World, WW = w4.alloc (.cells #[.int .u64 (limb 0 a), .int .u64 (limb 1 a), .int .u64 (limb 2 a), .int .u64 (limb 3 a), .int .u64 (limb 0 b), .int .u64 (limb 1 b), .int .u64 (limb 2 b), .int .u64 (limb 3 b), .bool false] 30) := ⟨_, rfl⟩
 obtain ⟨N2, hN2⟩ : ∃ N, N = w4.heap.size := ⟨_, rfl⟩
 rw [← hw5] at bg5 ba5 hbw5 ⊢
 rw [← hN2] at ba5 ⊢
 clear hw5 hN2 bg4 hbw4
 have HG5 : Hid (GlobC w5) := HG0.out.below hbw5
 go_wp2_with fail
 refine (HNI.out _ HG5.out).mono ?_
 rintro e w6 ⟨rfl, hb6⟩
 have bg7 := (bg5.belowAll hb6).alloc (.cells #[.int .u64 (limb 0 o), .int .u64 (limb 1 o), .int .u64 (limb 2 o), .int .u64 (limb 3 o), .int .u64 (limb 0 o), .int .u64 (limb 1 o), .int .u64 (limb 2 o), .int .u64 (limb 3 o), .bool true] 30)
 have ba7 := (ba5.belowAll hb6).alloc (.cells #[.int .u64 (limb 0 o), .int .u64 (limb 1 o), .int .u64 (limb 2 o), .int .u64 (limb 3 o), .int .u64 (limb 0 o), .int .u64 (limb 1 o), .int .u64 (limb 2 o), .int .u64 (limb 3 o), .bool true] 30)
 have bo7 : Pt (w6.alloc (.cells #[.int .u64 (limb 0 o), .int .u64 (limb 1 o), .int .u64 (limb 2 o), .int .u64 (limb 3 o), .int .u64 (limb 0 o), .int .u64 (limb 1 o), .int .u64 (limb 2 o), .int .u64 (limb 3 o), .bool true] 30)) w6.heap.size o o true := Pt.newAt _ _ _ _ _ rfl
 have hbw7 := bAlloc (bStep hbw5 hb6) (.cells #[.int .u64 (limb 0 o), .int .u64 (limb 1 o), .int .u64 (limb 2 o), .int .u64 (limb 3 o), .int .u64 (limb 0 o), .int .u64 (limb 1 o), .int .u64 (limb 2 o), .int .u64 (limb 3 o), .bool true] 30)
 clear bg5 ba5 hbw5 hb6 HG5 HNI
 go_upto_region 4 with fail
 obtain ⟨w7, hw7⟩ : ∃ WW : World, WW = w6.alloc (.cells #[.int .u64 (limb 0 o), .int .u64 (limb 1 o), .int .u64 (limb 2 o), .int .u64 (limb 3 o), .int .u64 (limb 0 o), .int .u64 (limb 1 o), .int .u64 (limb 2 o), .int .u64 (limb 3 o), .bool true] 30) := ⟨_, rfl⟩
 obtain ⟨N4, hN4⟩ : ∃ N, N = w6.heap.size := ⟨_, rfl⟩
 rw [← hw7] at bg7 ba7 bo7 hbw7 ⊢
 rw [← hN4] at bo7 ⊢
 clear hw7 hN4
 have HG : Hid (GlobC w7) := HG0.out.below hbw7
 have HS0 : Hid (Below w7.heap.size w7 w7.drew) := (Below.refl _ _).drew
 refine wp_region_Z (fun w' => Below w7.heap.size w7 w') 99 (by kernel_rfl) ?_
 refine zs 0 22 (.int .i64 0) HS0.out ?_
 refine zs 1 23 (.bool true) HS0.out ?_
 refine zs 2 24 (.bool true) HS0.out ?_
 refine zs 3 25 (.int .i64 0) HS0.out ?_
 refine zs 4 26 (.bool true) HS0.out ?_
 refine zs 5 27 (.bool true) HS0.out ?_
 refine zs 6 28 (.bool true) HS0.out ?_
 refine zs 7 29 (.pointer (some ⟨N4, 8, none⟩)) HS0.out ?_
 refine zT 8 30 (.bool true) rfl rfl (fun w hSw => by (obtain ⟨q0, q1, q2, q3, q4, q5, q6, q7, q8, qf⟩ := (bo7.belowAll hSw).cells; clear hSw; go_simp)) HS0.out ?_
 refine zs 9 31 (.bool true) HS0.out ?_
 refine zs 10 32 (.bool true) HS0.out ?_
 refine zT 11 33 (.agg #[.int .u64 (limb 0 a), .int .u64 (limb 1 a), .int .u64 (limb 2 a), .int .u64 (limb 3 a), .int .u64 (limb 0 b), .int .u64 (limb 1 b), .int .u64 (limb 2 b), .int .u64 (limb 3 b), .bool false]) rfl rfl (fun w hSw => by (obtain ⟨q0, q1, q2, q3, q4, q5, q6, q7, q8, qf⟩ := (ba7.belowAll hSw).cells; clear hSw; go_simp)) HS0.out ?_
 refine zs 12 34 (.agg #[.int .u64 5, .int .u64 0, .int .u64 0, .int .u64 0]) HS0.out ?_
 refine zT 13 35 (.agg #[.int .u64 (limb 0 x), .int .u64 (limb 1 x), .int .u64 (limb 2 x), .int .u64 (limb 3 x), .int .u64 (limb 0 r), .int .u64 (limb 1 r), .int .u64 (limb 2 r), .int .u64 (limb 3 r), .bool false]) rfl rfl (fun w hSw => by (obtain ⟨q0, q1, q2, q3, q4, q5, q6, q7, q8, qf⟩ := (bg7.belowAll hSw).cells; clear hSw; go_simp)) HS0.out ?_
 refine zo 14 rfl (fun K hK => ?_)
 go_simp
 refine (HM.out w7.drew (HG.out.below (HS0.out))).mono ?_
 rintro e wK1 ⟨rfl, hbK1⟩
 have hSK1 := bStep HS0.out hbK1
 go_wp2_with fail
 refine hK.out _ _ (fun _ => hSK1) ?_
 clear hK K
 refine zs 15 37 (.bool true) hSK1 ?_
 refine zs 16 38 (.bool true) hSK1 ?_
 refine zs 17 39 (.bool true) hSK1 ?_
 refine zs 18 40 (.pointer (some ⟨N2, 8, none⟩)) hSK1 ?_
 refine zT 19 41 (.bool false) rfl rfl (fun w hSw => by (obtain ⟨q0, q1, q2, q3, q4, q5, q6, q7, q8, qf⟩ := (ba7.belowAll hSw).cells; clear hSw; go_simp)) hSK1 ?_
 refine zs 20 42 (.bool true) hSK1 ?_
 refine zs 21 43 (.bool true) hSK1 ?_
 refine zs 22 0 (.bool true) hSK1 ?_
 refine zd ?_ _
 go_wp2
 go_ret
 exact ⟨rfl, bStep hbw7 (hSK1)⟩
end Go.Proofs.YtokoknacolmhgaaGreatDoor
