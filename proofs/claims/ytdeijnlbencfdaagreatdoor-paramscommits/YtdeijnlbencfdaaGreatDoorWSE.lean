import Derived.Test.YtdeijnlbencfdaaGreatDoorWMS14
import Derived.Test.YtdeijnlbencfdaaGreatDoorWXJ
set_option maxHeartbeats 16000000
namespace Go.Proofs.YtdeijnlbencfdaaGreatDoor
open Go.RowKit
theorem reduced_none (c : Int) (w : World) :
  Calls Tryz.prog 88 #[.int .i64 c, .slice none 0 0] w fun e w' => ∃ g, e = .returned (.slice (some ⟨g, 0, none⟩) 0 0) ∧ w.heap.size ≤ g ∧ g < w'.heap.size ∧ (∀ F, BlkR w' 56 g 13 0 F) ∧ Below w.heap.size w w' := by
 obtain ⟨i0, hi, hz0, hz1, hz2⟩ := termInfo
 have HI := (show Hid _ from hi); have HZ := (show Hid _ from And.intro hz0 (And.intro hz1 hz2)); clear hi hz0 hz1 hz2
 go_enter Tryz.func88, Tryz.ntmps88
 go_wp2_with (first
  | (at_make; refine wpList_make_full _ rfl _ _ 57 rfl w.heap.size 56 i0 (.agg #[.int .u64 0, .int .u64 0, .int .u64 0, .int .u64 0, .int .u64 0, .int .u64 0, .int .u64 0, .int .u64 0, .int .u64 0, .int .u64 0, .int .u64 0, .int .u64 0, .bool false]) 13 Tryz.underlying57 HI.out HZ.out.1 HZ.out.2.1 .i64 .i64 0 0 0 rfl rfl rfl rfl ?c1 ?c2 (Nat.le_refl _) ?_)
  | go_in)
 case c1 => rw [HZ.out.2.2]; omega
 case c2 => unfold maxLen; omega
 intro w3 hown hgrow
 obtain ⟨G, eG⟩ : ∃ G, G = w.heap.size := ⟨_, rfl⟩
 rw [← eG] at hown ⊢
 have bo3 : ∀ F, BlkR w3 56 G 13 0 F := fun F => (own_blkR (F := F) hown (fun i hi j hj => by omega)).1
 have hbe : Below w.heap.size w w3 := (Below.refl _ w).grown hgrow (Nat.le_refl _) (fun j hj => by cases hj)
 have lG : w.heap.size ≤ G := by omega
 clear hown hgrow eG
 go_wp2
 go_loopw [13] (fun iv wr => iv = .int .i64 0 ∧ wr = w3) (fun _ _ => 0)
 case atStart => exact ⟨rfl, rfl⟩
 case round =>
  obtain ⟨rfl, rfl⟩ := hrel
  go_wp2
  go_ret
  exact ⟨G, rfl, lG, (bo3 (fun _ _ => undef)).lt, bo3, hbe⟩
theorem reduced_any (c s n : Nat) (v : Value) (T : Nat → Nat × Nat × Nat × Bool) (hx : bits BinOp.xor IntKind.i64 (c : Int) 1 = (s : Int)) (hs : s < 4) (hn : n ≤ 1000000) (hT : ∀ i, i < n → (T i).1 < 115792089237316195423570985008687907853269984665640564039457584007913129639936) (w : World) (hg : Glob w) (hv : Rs w v 13 n (fun i => tC (T i))) :
  Calls Tryz.prog 88 #[.int .i64 (c : Int), v] w fun e w' => ∃ g, e = .returned (.slice (some ⟨g, 0, none⟩) n n) ∧ BlkR w' 56 g 13 n (fun i => tC (rdT (modN s) (T i))) ∧ w.heap.size ≤ g ∧ Below w.heap.size w w' := by
 rcases hv with ⟨rfl, rfl⟩ | ⟨b, o, cn, rfl, h1, h2, h3, h4⟩
 ·refine (reduced_none (c : Int) w).mono ?_
  rintro e w' ⟨g, rfl, h1, h2, h3, h4⟩
  exact ⟨g, rfl, h3 _, h1, h4⟩
 ·exact reduced_some c s n cn b o T hx hs hn hT w hg h3 h4
theorem sm_dbl {c : Nat} {Q : Nat × Nat × Bool} (h : onT c Q) (t : Nat) : ad c (sm c Q (2 ^ t)) (sm c Q (2 ^ t)) = sm c Q (2 ^ (t + 1)) := by
 rw [← sm_add h, Nat.pow_succ, Nat.mul_two]
set_option maxRecDepth 20000 in
theorem total_any (c s n : Nat) (v : Value) (T : Nat → Nat × Nat × Nat × Bool) (hc : c < 4) (hx : bits BinOp.xor IntKind.i64 (c : Int) 1 = (s : Int)) (hs : s < 4) (hn : n ≤ 1000000) (hT : ∀ i, i < n → (T i).1 < 115792089237316195423570985008687907853269984665640564039457584007913129639936) (hP : ∀ i, i < n → onT c (T i).2) (w : World) (hg : GlobC w) (hv : Rs w v 13 n (fun i => tC (T i))) :
  Calls Tryz.prog 50 #[.int .i64 (c : Int), v] w fun e w' => e = .returned (.agg #[.int .u64 ((limb 0 ((tot c (fun i => (T i).1 % modN s) (fun i => (T i).2) n).1) : Nat) : Int), .int .u64 ((limb 1 ((tot c (fun i => (T i).1 % modN s) (fun i => (T i).2) n).1) : Nat) : Int), .int .u64 ((limb 2 ((tot c (fun i => (T i).1 % modN s) (fun i => (T i).2) n).1) : Nat) : Int), .int .u64 ((limb 3 ((tot c (fun i => (T i).1 % modN s) (fun i => (T i).2) n).1) : Nat) : Int), .int .u64 ((limb 0 ((tot c (fun i => (T i).1 % modN s) (fun i => (T i).2) n).2.1) : Nat) : Int), .int .u64 ((limb 1 ((tot c (fun i => (T i).1 % modN s) (fun i => (T i).2) n).2.1) : Nat) : Int), .int .u64 ((limb 2 ((tot c (fun i => (T i).1 % modN s) (fun i => (T i).2) n).2.1) : Nat) : Int), .int .u64 ((limb 3 ((tot c (fun i => (T i).1 % modN s) (fun i => (T i).2) n).2.1) : Nat) : Int), .bool (tot c (fun i => (T i).1 % modN s) (fun i => (T i).2) n).2.2]) ∧ Below w.heap.size w w' := by
 have HP : Hid (∀ i, i < n → onT c (T i).2) := hP; have HG0 : Hid (GlobC w) := hg; have HV : Hid (Rs w v 13 n (fun i => tC (T i))) := hv
 have HPL : Hid (∀ (X Y Z U V O : Nat) (Q R : Nat × Nat × Bool), onT c Q → onT c R → JT c X Y Z Q → JT c U V O R → ∀ w, Glob w → Calls Tryz.prog 72 #[.agg #[.int .u64 (limb 0 X), .int .u64 (limb 1 X), .int .u64 (limb 2 X), .int .u64 (limb 3 X), .int .u64 (limb 0 Y), .int .u64 (limb 1 Y), .int .u64 (limb 2 Y), .int .u64 (limb 3 Y), .int .u64 (limb 0 Z), .int .u64 (limb 1 Z), .int .u64 (limb 2 Z), .int .u64 (limb 3 Z)], .int .i64 (c : Int), .agg #[.int .u64 (limb 0 U), .int .u64 (limb 1 U), .int .u64 (limb 2 U), .int .u64 (limb 3 U), .int .u64 (limb 0 V), .int .u64 (limb 1 V), .int .u64 (limb 2 V), .int .u64 (limb 3 V), .int .u64 (limb 0 O), .int .u64 (limb 1 O), .int .u64 (limb 2 O), .int .u64 (limb 3 O)]] w fun e w' => (∃ A B C, e = .returned (.agg #[.int .u64 (limb 0 A), .int .u64 (limb 1 A), .int .u64 (limb 2 A), .int .u64 (limb 3 A), .int .u64 (limb 0 B), .int .u64 (limb 1 B), .int .u64 (limb 2 B), .int .u64 (limb 3 B), .int .u64 (limb 0 C), .int .u64 (limb 1 C), .int .u64 (limb 2 C), .int .u64 (limb 3 C)]) ∧ JT c A B C (ad c Q R)) ∧ Below w.heap.size w w') := fun X Y Z U V O Q R h1 h2 h3 h4 w hg => plusT c X Y Z U V O Q R hc h1 h2 h3 h4 w hg
 have HTW : Hid (∀ (X Y Z : Nat) (Q : Nat × Nat × Bool), onT c Q → JT c X Y Z Q → ∀ w, Glob w → Calls Tryz.prog 70 #[.agg #[.int .u64 (limb 0 X), .int .u64 (limb 1 X), .int .u64 (limb 2 X), .int .u64 (limb 3 X), .int .u64 (limb 0 Y), .int .u64 (limb 1 Y), .int .u64 (limb 2 Y), .int .u64 (limb 3 Y), .int .u64 (limb 0 Z), .int .u64 (limb 1 Z), .int .u64 (limb 2 Z), .int .u64 (limb 3 Z)], .int .i64 (c : Int)] w fun e w' => (∃ A B C, e = .returned (.agg #[.int .u64 (limb 0 A), .int .u64 (limb 1 A), .int .u64 (limb 2 A), .int .u64 (limb 3 A), .int .u64 (limb 0 B), .int .u64 (limb 1 B), .int .u64 (limb 2 B), .int .u64 (limb 3 B), .int .u64 (limb 0 C), .int .u64 (limb 1 C), .int .u64 (limb 2 C), .int .u64 (limb 3 C)]) ∧ JT c A B C (ad c Q Q)) ∧ Below w.heap.size w w') := fun X Y Z Q h1 h2 w hg => twiceT c X Y Z Q hc h1 h2 w hg
 have HRD : Hid (∀ w, Glob w → Rs w v 13 n (fun i => tC (T i)) → _) := fun w hg hv => reduced_any c s n v T hx hs hn hT w hg hv
 have HTM : Hid (∀ i, i < n → (rdT (modN s) (T i)).1 < 115792089237316195423570985008687907853269984665640564039457584007913129639936) := fun i _ => lt_M s _ (Nat.mod_lt _ (modN_pos s))
 obtain ⟨TR, eTR⟩ : ∃ TR, TR = fun i => rdT (modN s) (T i) := ⟨_, rfl⟩
 have HTR : Hid (∀ i, i < n → (TR i).1 < 115792089237316195423570985008687907853269984665640564039457584007913129639936) := by rw [eTR]; exact HTM.out
 have HPR : Hid (∀ i, i < n → onT c (TR i).2) := by rw [eTR]; exact hP
 have HRD2 : Hid (∀ w, Glob w → Rs w v 13 n (fun i => tC (T i)) → Calls Tryz.prog 88 #[.int .i64 (c : Int), v] w fun e w' => ∃ g, e = .returned (.slice (some ⟨g, 0, none⟩) n n) ∧ BlkR w' 56 g 13 n (fun i => tC (TR i)) ∧ w.heap.size ≤ g ∧ Below w.heap.size w w') := by rw [eTR]; exact HRD
 have ETT : tot c (fun i => (T i).1 % modN s) (fun i => (T i).2) n = tot c (fun i => (TR i).1) (fun i => (TR i).2) n := by rw [eTR]; rfl
 rw [ETT]
 clear ETT eTR HRD HTM hT hP hx hs hv HP
 obtain ⟨Q, eQ⟩ : ∃ Q, Q = tot c (fun i => (TR i).1) (fun i => (TR i).2) n := ⟨_, rfl⟩
 have HQO : Hid (onT c Q) := by rw [eQ]; exact tot_on _ (fun i hi => HPR.out i hi)
 have HPN : Hid (∀ X Y Z, JT c X Y Z Q → ∀ w, GlobC w → Calls Tryz.prog 73 #[.agg #[.int .u64 (limb 0 X), .int .u64 (limb 1 X), .int .u64 (limb 2 X), .int .u64 (limb 3 X), .int .u64 (limb 0 Y), .int .u64 (limb 1 Y), .int .u64 (limb 2 Y), .int .u64 (limb 3 Y), .int .u64 (limb 0 Z), .int .u64 (limb 1 Z), .int .u64 (limb 2 Z), .int .u64 (limb 3 Z)], .int .i64 (c : Int)] w fun e w' => e = .returned (.agg #[.int .u64 (limb 0 (Q.1)), .int .u64 (limb 1 (Q.1)), .int .u64 (limb 2 (Q.1)), .int .u64 (limb 3 (Q.1)), .int .u64 (limb 0 (Q.2.1)), .int .u64 (limb 1 (Q.2.1)), .int .u64 (limb 2 (Q.2.1)), .int .u64 (limb 3 (Q.2.1)), .bool Q.2.2]) ∧ Below w.heap.size w w') := fun X Y Z h w hg => plainT c X Y Z Q hc HQO.out h w hg
 rw [← eQ]
 have HQ : Hid (Q = tot c (fun i => (TR i).1) (fun i => (TR i).2) n) := eQ
 clear eQ
 obtain ⟨qx, ex⟩ : ∃ z, z = Q.1 := ⟨_, rfl⟩
 obtain ⟨qy, ey⟩ : ∃ z, z = Q.2.1 := ⟨_, rfl⟩
 obtain ⟨qi, ei⟩ : ∃ z, z = Q.2.2 := ⟨_, rfl⟩
 rw [← ex, ← ey, ← ei] at HPN ⊢
 clear ex ey ei hg
 go_enter Tryz.func50, Tryz.ntmps50
 go_upto_region 1 with fail
 obtain ⟨R, eR⟩ : ∃ R, R = w.heap.size := ⟨_, rfl⟩
 obtain ⟨w0, hw0⟩ : ∃ w0 : World, w0 = w.alloc (.cells #[.int .u64 0, .int .u64 0, .int .u64 0, .int .u64 0, .int .u64 0, .int .u64 0, .int .u64 0, .int .u64 0, .bool false] 27) := ⟨_, rfl⟩
 have bR0 : Pt w0 R 0 0 false := by rw [hw0, eR]; exact Pt.zeroAt _ _ rfl
 have hb0 : Below w.heap.size w w0 := by rw [hw0]; exact (Below.refl _ _).alloc (Nat.le_refl _) _
 have HV0 : Hid (Rs w0 v 13 n (fun i => tC (T i))) := HV.out.below hb0
 have lR : w.heap.size ≤ R := by omega
 rw [← hw0]
 rw [← eR]
 clear hw0 eR HV
 have HGr : Hid (Glob w0) := (HG0.out.below hb0).1
 go_wp2_with fail
 refine (HRD2.out _ HGr.out HV0.out).mono ?_
 rintro e w1 ⟨g, rfl, bg1, lg1, hb1⟩
 have bR1 := bR0.belowAll hb1; have hbw1 := bStep hb0 hb1
 have lgR : R < g := by have := bR0.lt; omega
 clear bR0 hb0 hb1 HGr HRD2 HV0 lg1
 go_wp2_with fail
 refine (bitLen_any g n TR hn HTR.out _ bg1).mono ?_
 rintro e w2 ⟨⟨L, rfl, hL, hLT⟩, hb2⟩
 have HLT : Hid (∀ i, i < n → (TR i).1 < 2 ^ L) := hLT
 have bR2 := bR1.belowAll hb2; have bg2 := bg1.belowAll hb2; have hbw2 := bStep hbw1 hb2
 clear bR1 bg1 hbw1 hb2 hLT
 go_wp2_with fail
 refine (bestWidth_any L n (by omega) _).mono ?_
 rintro e w3 ⟨⟨b, rfl, hb0, hb8⟩, hb3⟩
 have bR3 := bR2.belowAll hb3; have bg3 := bg2.belowAll hb3; have hbw3 := bStep hbw2 hb3
 clear bR2 bg2 hbw2 hb3
 go_upto_region 5 with fail
 obtain ⟨N, eN⟩ : ∃ N, N = w3.heap.size := ⟨_, rfl⟩
 obtain ⟨w4, hw4⟩ : ∃ w4 : World, w4 = w3.alloc (.cells #[.int .u64 0, .int .u64 0, .int .u64 0, .int .u64 0, .int .u64 0, .int .u64 0, .int .u64 0, .int .u64 0, .int .u64 0, .int .u64 0, .int .u64 0, .int .u64 0] 99) := ⟨_, rfl⟩
 have bN4 : Jt w4 N 0 0 0 := by rw [hw4, eN]; exact Jt.zeroAt _ _ rfl
 have bR4 : Pt w4 R 0 0 false := by rw [hw4]; exact bR3.alloc _
 have bg4 : BlkR w4 56 g 13 n (fun i => tC (TR i)) := by rw [hw4]; exact bg3.alloc _
 have hbw4 : Below w.heap.size w w4 := by rw [hw4]; exact bAlloc hbw3 _
 have lN : w.heap.size ≤ N := by have := hbw3.size; omega
 have lNR : R ≠ N := by have := bR3.lt; omega
 have lNg : g ≠ N := by have := bg3.lt; omega
 rw [← hw4]
 rw [← eN]
 clear hw4 eN bR3 bg3 hbw3
 have LD := fun w => lastDigit_any L b (by omega) hb0 (by omega) w
 have HLL := (show Hid _ from lastN_le L b)
 have HTOP : Hid (∀ i, i < n → (TR i).1 / 2 ^ (lastN L b + b) = 0) := fun i hi => lastN_top _ L b hb0 (HLT.out i hi)
 have HLM : Hid (∃ q, lastN L b = q * b) := ⟨_, rfl⟩
 obtain ⟨q, eq⟩ := HLM.out
 rw [eq] at LD HTOP HLL
 clear eq HLM
 have hqb : q * b ≤ 256 := by have := HLL.out; omega
 go_wp2_with fail
 refine (LD _).mono ?_
 rintro e w5 ⟨rfl, rfl⟩
 clear LD
 have HL : Hid (w.heap.size ≤ R ∧ w.heap.size ≤ N ∧ R ≠ N ∧ g ≠ N) := ⟨lR, lN, lNR, lNg⟩
 clear lR lN lNR lNg lgR
 go_wp2
 go_loopw [8] (fun iv wr => ∃ (j : Nat) (x : Int) (X Y Z : Nat), iv = .int .i64 x ∧ Hid (x = ((j * b : Nat) : Int) - (b : Int)) ∧ Hid (j ≤ q + 1) ∧ Hid (JT c X Y Z (tot c (fun i => (TR i).1 / 2 ^ (j * b)) (fun i => (TR i).2) n)) ∧ Below w.heap.size w wr ∧ Jt wr N X Y Z ∧ BlkR wr 56 g 13 n (fun i => tC (TR i)) ∧ Pt wr R 0 0 false) (fun iv _ => (intOf iv + (b : Int)).toNat)
 case atStart =>
  refine ⟨q + 1, _, 0, 0, 0, rfl, ?_, Nat.le_refl _, ?_, hbw4, bN4, bg4, bR4⟩
  ·show ((q * b : Nat) : Int) = (((q + 1) * b : Nat) : Int) - (b : Int)
   rw [Nat.add_mul, Nat.one_mul]
   omega
  ·rw [tot_zero (fun i hi => by rw [Nat.add_mul, Nat.one_mul]; exact HTOP.out i hi)]
   exact JT.zero c
 case round =>
  obtain ⟨j, x, X, Y, Z, rfl, HX, HJ, HJT, hbr, bN, bg, bR⟩ := hrel
  clear bN4 bR4 bg4 hbw4
  by_cases hj0 : j = 0
  ·have hki : ¬ 0 ≤ x := by
    have := HX.out
    rw [hj0, Nat.zero_mul] at this
    omega
   have HJQ : Hid (JT c X Y Z Q) := by
    rw [HQ.out]
    have := HJT.out
    rw [hj0, Nat.zero_mul, Nat.pow_zero] at this
    rw [tot_congr (l := fun i => (TR i).1) (fun i _ => Nat.div_one _)] at this
    exact this
   have HGr : Hid (GlobC wr) := HG0.out.below hbr
   clear hj0
   obtain ⟨q0, q1, q2, q3, q4, q5, q6, q7, q8, q9, q10, q11, qf⟩ := bN.cells
   go_wp2_with fail
   refine (HPN.out X Y Z HJQ.out _ HGr.out).mono ?_
   rintro e w6 ⟨rfl, hb6⟩
   clear q0 q1 q2 q3 q4 q5 q6 q7 q8 q9 q10 q11 qf
   obtain ⟨r0, r1, r2, r3, r4, r5, r6, r7, r8, rf⟩ := (bR.belowAll hb6).cells
   go_wp2
   (try simp only [Exit.inBlock, Exit.then])
   refine bodyPost_ret (v := .agg #[.int .u64 (limb 0 qx), .int .u64 (limb 1 qx), .int .u64 (limb 2 qx), .int .u64 (limb 3 qx), .int .u64 (limb 0 qy), .int .u64 (limb 1 qy), .int .u64 (limb 2 qy), .int .u64 (limb 3 qy), .bool qi]) (by simp [results, Tryz.results50, go_sem, r0, r1, r2, r3, r4, r5, r6, r7, r8]) rfl ⟨rfl, ?_⟩
   exact bSet9 (bStep hbr hb6) HL.out.1 _ _ _ _ _ _ _ _ _
  ·obtain ⟨f, ef⟩ : ∃ f, f = (j - 1) * b := ⟨_, rfl⟩
   have ejb : j * b = f + b := by
    rw [ef, ← Nat.succ_mul]
    congr 1
    omega
   have exf : x = (f : Int) := by have := HX.out; rw [ejb] at this; omega
   have hfb : f ≤ 256 := by
    have h1 := HJ.out
    have h2 : (j - 1) * b ≤ q * b := Nat.mul_le_mul_right b (by omega)
    omega
   subst exf
   have HEF : Hid (f = (j - 1) * b) := ef
   have HEJ : Hid (j * b = f + b) := ejb
   have HJ1 : Hid (j - 1 ≤ q + 1) := by have := HJ.out; exact (by omega : j - 1 ≤ q + 1)
   have HJ0 : Hid (JT c X Y Z (sm c (tot c (fun i => (TR i).1 / 2 ^ (f + b)) (fun i => (TR i).2) n) (2 ^ 0))) := by
    rw [Nat.pow_zero, sm_one, ← ejb]
    exact HJT.out
   have HDT : Hid (ad c (sm c (tot c (fun i => (TR i).1 / 2 ^ (f + b)) (fun i => (TR i).2) n) (2 ^ b)) (tot c (fun i => digN (TR i).1 f b) (fun i => (TR i).2) n) = tot c (fun i => (TR i).1 / 2 ^ f) (fun i => (TR i).2) n) := tot_digit (fun i => (TR i).1) f b (fun i hi => HPR.out i hi)
   have HTO : Hid (onT c (tot c (fun i => (TR i).1 / 2 ^ (f + b)) (fun i => (TR i).2) n)) := tot_on _ (fun i hi => HPR.out i hi)
   have HTD : Hid (onT c (tot c (fun i => digN (TR i).1 f b) (fun i => (TR i).2) n)) := tot_on _ (fun i hi => HPR.out i hi)
   obtain ⟨Q1, eQ1⟩ : ∃ Q1, Q1 = tot c (fun i => (TR i).1 / 2 ^ (f + b)) (fun i => (TR i).2) n := ⟨_, rfl⟩
   rw [← eQ1] at HJ0 HDT HTO
   clear ef ejb HX HJ HJT eQ1 hj0
   have hki : 0 ≤ (f : Int) := by omega
   go_wp2
   go_loopw [27] (fun iv wr => ∃ (t X Y Z : Nat), iv = .int .i64 (t : Int) ∧ t ≤ b ∧ Hid (JT c X Y Z (sm c Q1 (2 ^ t))) ∧ Below w.heap.size w wr ∧ Jt wr N X Y Z ∧ BlkR wr 56 g 13 n (fun i => tC (TR i)) ∧ Pt wr R 0 0 false) (fun iv _ => b - (intOf iv).toNat)
   case atStart => exact ⟨0, X, Y, Z, rfl, by omega, HJ0, hbr, bN, bg, bR⟩
   case round =>
    clear hbr bN bg bR HJ0
    obtain ⟨t, X, Y, Z, rfl, ht, HJt, hbr, bN, bg, bR⟩ := hrel
    by_cases hlt : t < b
    ·have hti : (t : Int) < (b : Int) := by omega
     have HGr : Hid (Glob wr) := (HG0.out.below hbr).1
     obtain ⟨q0, q1, q2, q3, q4, q5, q6, q7, q8, q9, q10, q11, qf⟩ := bN.cells
     go_wp2_with fail
     refine (HTW.out X Y Z _ (sm_on HTO.out _) HJt.out _ HGr.out).mono ?_
     rintro e w7 ⟨⟨A2, B2, C2, rfl, HJ2'⟩, hb7⟩
     have HJ2 : Hid (JT c A2 B2 C2 (sm c Q1 (2 ^ (t + 1)))) := by rw [← sm_dbl HTO.out]; exact HJ2'
     clear q0 q1 q2 q3 q4 q5 q6 q7 q8 q9 q10 q11 qf HJ2' HGr
     have bN7 := bN.belowAll hb7; have bg7 := bg.belowAll hb7; have bR7 := bR.belowAll hb7; have hbw7 := bStep hbr hb7
     clear bN bg bR hbr hb7
     obtain ⟨q0, q1, q2, q3, q4, q5, q6, q7, q8, q9, q10, q11, qf⟩ := bN7.cells
     go_upto_region 11 with fail
     clear q0 q1 q2 q3 q4 q5 q6 q7 q8 q9 q10 q11 qf
     obtain ⟨w8, hw8, bN8, hb8', _, hB8, hP8⟩ := pk12 bN7 hbw7 HL.out.2.1 A2 B2 C2
     rw [hw8]
     have bg8 := hB8 _ _ _ _ _ bg7 HL.out.2.2.2; have bR8 := hP8 _ _ _ _ bR7 HL.out.2.2.1
     clear hw8 bN7 bg7 bR7 hbw7 hB8 hP8
     go_wp2
     go_roundw
     case measure => simp [intOf]; omega
     case rel => exact ⟨t + 1, A2, B2, C2, by go_num, by omega, HJ2, hb8', bN8, bg8, bR8⟩
    ·have hti : ¬ (t : Int) < (b : Int) := by omega
     have htb : t = b := by omega
     have HJb : Hid (JT c X Y Z (sm c Q1 (2 ^ b))) := by rw [← htb]; exact HJt.out
     have HGr : Hid (Glob wr) := (HG0.out.below hbr).1
     clear HJt htb
     go_upto_region 12 with fail
     have HS0 : Hid (Below wr.heap.size wr wr.drew) := (Below.refl _ _).drew
     refine wp_region_Z (fun w' => Below wr.heap.size wr w') 8 (by kernel_rfl) ?_
     refine zT 0 33 (.agg #[.int .u64 (limb 0 X), .int .u64 (limb 1 X), .int .u64 (limb 2 X), .int .u64 (limb 3 X), .int .u64 (limb 0 Y), .int .u64 (limb 1 Y), .int .u64 (limb 2 Y), .int .u64 (limb 3 Y), .int .u64 (limb 0 Z), .int .u64 (limb 1 Z), .int .u64 (limb 2 Z), .int .u64 (limb 3 Z)]) rfl rfl (fun w hSw => by (obtain ⟨q0, q1, q2, q3, q4, q5, q6, q7, q8, q9, q10, q11, qf⟩ := (bN.belowAll hSw).cells; clear hSw; go_simp)) HS0.out ?_
     refine zs 1 34 (.int .i64 (c : Int)) HS0.out ?_
     refine zs 2 35 (.int .i64 (c : Int)) HS0.out ?_
     refine zs 3 36 (.slice (some ⟨g, 0, none⟩) n n) HS0.out ?_
     refine zs 4 37 (.int .i64 (f : Int)) HS0.out ?_
     refine zs 5 38 (.int .i64 (b : Int)) HS0.out ?_
     refine zo 6 rfl (fun K hK => ?_)
     go_simp
     refine (digitSum_any c n f b g TR hc hn (by omega) (by omega) HTR.out HPR.out wr.drew (HGr.out.below (HS0.out)) (bg.belowAll ((HS0.out)))).mono ?_
     rintro e wK1 ⟨⟨A1, B1, C1, rfl, HJ1'⟩, hbK1⟩
     have hSK1 := bStep HS0.out hbK1
     have HJD : Hid (JT c A1 B1 C1 (tot c (fun i => digN (TR i).1 f b) (fun i => (TR i).2) n)) := HJ1'
     clear HJ1'
     go_wp2_with fail
     refine hK.out _ _ (fun _ => hSK1) ?_
     clear hK K
     refine zo 7 rfl (fun K hK => ?_)
     go_simp
     refine (HPL.out X Y Z A1 B1 C1 _ _ (sm_on HTO.out _) HTD.out HJb.out HJD.out wK1 (HGr.out.below (hSK1))).mono ?_
     rintro e wK2 ⟨⟨A2, B2, C2, rfl, HJ2'⟩, hbK2⟩
     have hSK2 := bStep hSK1 hbK2
     have HJ2 : Hid (JT c A2 B2 C2 (ad c (sm c Q1 (2 ^ b)) (tot c (fun i => digN (TR i).1 f b) (fun i => (TR i).2) n))) := HJ2'
     clear HJ2'
     go_wp2_with fail
     refine hK.out _ _ (fun _ => hSK2) ?_
     clear hK K
     refine zo 8 rfl (fun K hK => ?_)
     have bNA := bN.belowAll (hSK2); have bgA := bg.belowAll (hSK2); have bRA := bR.belowAll (hSK2); have hbA := bStep hbr (hSK2)
     obtain ⟨g0, g1, g2, g3, g4, g5, g6, g7, g8, g9, g10, g11, gf⟩ := bNA.cells
     go_simp
     refine hK.out _ _ (fun h => absurd rfl h) ?_
     clear hK K
     refine zd ?_ _
     obtain ⟨w9, hw9, bN9, hb9, _, hB9, hP9⟩ := pk12 bNA hbA HL.out.2.1 A2 B2 C2
     rw [hw9]
     have bg9 := hB9 _ _ _ _ _ bgA HL.out.2.2.2; have bR9 := hP9 _ _ _ _ bRA HL.out.2.2.1
     clear hw9 bNA bgA bRA hbA hB9 hP9
     rw [HDT.out] at HJ2
     go_wp2
     go_roundw
     case measure => simp [intOf]; omega
     case rel =>
      refine ⟨j - 1, (f : Int) - (b : Int), A2, B2, C2, ?_, ?_, HJ1, ?_, hb9, bN9, bg9, bR9⟩
      ·congr 1
      ·show (f : Int) - (b : Int) = (((j - 1) * b : Nat) : Int) - (b : Int); rw [← HEF.out]
      ·rw [← HEF.out]; exact HJ2
end Go.Proofs.YtdeijnlbencfdaaGreatDoor
namespace Go.Proofs.YtdeijnlbencfdaaGreatDoor
open Go.RowKit
theorem zeroPt : (.agg #[.int .u64 (limb 0 0), .int .u64 (limb 1 0), .int .u64 (limb 2 0), .int .u64 (limb 3 0), .int .u64 (limb 0 0), .int .u64 (limb 1 0), .int .u64 (limb 2 0), .int .u64 (limb 3 0), .bool false] : Value) = .agg #[.int .u64 0, .int .u64 0, .int .u64 0, .int .u64 0, .int .u64 0, .int .u64 0, .int .u64 0, .int .u64 0, .bool false] := by
 rw [limb_zero, limb_zero, limb_zero, limb_zero]; rfl
theorem inf_onC (c : Nat) : onC c 0 0 true := Or.inl ⟨rfl, rfl, rfl⟩
theorem isC_gen (c : Int) (b : Bool) (HO : ∀ w, GlobC w → Calls Tryz.prog 33 #[.int .i64 c, .agg #[.int .u64 (limb 0 0), .int .u64 (limb 1 0), .int .u64 (limb 2 0), .int .u64 (limb 3 0), .int .u64 (limb 0 0), .int .u64 (limb 1 0), .int .u64 (limb 2 0), .int .u64 (limb 3 0), .bool true]] w fun e w' => e = .returned (.bool b) ∧ Below w.heap.size w w') (w : World) (hg : GlobC w) :
  Calls Tryz.prog 87 #[.int .i64 c] w fun e w' => e = .returned (.bool b) ∧ Below w.heap.size w w' := by
 have HG0 : Hid (GlobC w) := hg
 have HO' := (show Hid _ from HO)
 clear HO hg
 go_enter Tryz.func87, Tryz.ntmps87
 go_wp2_with fail
 refine (infinity_any _).mono ?_
 rintro e w1 ⟨rfl, hb1⟩
 have HG1 : Hid (GlobC w1) := HG0.out.below hb1
 go_wp2_with fail
 refine (HO'.out _ HG1.out).mono ?_
 rintro e w2 ⟨rfl, hb2⟩
 have hbw := bStep hb1 hb2
 clear hb1 hb2
 go_wp2
 go_ret
 exact ⟨rfl, hbw⟩
theorem isC_in (c : Nat) (hc : c < 4) (w : World) (hg : GlobC w) : Calls Tryz.prog 87 #[.int .i64 (c : Int)] w fun e w' => e = .returned (.bool true) ∧ Below w.heap.size w w' :=
 isC_gen (c : Int) true (fun w hg => by
  have := on_in c 0 0 true hc (by decide) (by decide) w hg
  rw [decide_eq_true (inf_onC c)] at this
  exact this) w hg
theorem Rs.at {w : World} {n k : Nat} {oa : Option Addr} {cn : Nat} {F : Nat → Nat → Value} (h : Rs w (.slice oa n cn) 13 n F) (hk : k < n) : ∃ b o, oa = some ⟨b, o, none⟩ ∧ b < w.heap.size ∧ ∀ j, j < 13 → w.cell? ⟨b, o + k * 13 + j, none⟩ = some (F k j) := by
 rcases h with ⟨h1, h2⟩ | ⟨b, o, c, h1, _, _, h3, h4⟩
 ·omega
 ·cases h1
  exact ⟨b, o, rfl, h3, h4 k hk⟩
set_option maxRecDepth 20000 in
theorem check_short (c n cn : Nat) (oa : Option Addr) (T : Nat → Nat × Nat × Nat × Bool) (hc : c < 4) (hn : n ≤ 100000) (hT : ∀ i, i < n → (T i).2.1 < 115792089237316195423570985008687907853269984665640564039457584007913129639936 ∧ (T i).2.2.1 < 115792089237316195423570985008687907853269984665640564039457584007913129639936) (w : World) (hg : GlobC w) (hv : Rs w (.slice oa n cn) 13 n (fun i => tC (T i))) :
  Calls Tryz.prog 49 #[.int .i64 (c : Int), .slice oa n cn] w fun e w' => (∃ E : Int, e = .returned (.int .i64 E) ∧ (E = 0 ∧ (∀ i, i < n → onT c (T i).2) ∨ E = 41 ∧ ¬ ∀ i, i < n → onT c (T i).2)) ∧ Below w.heap.size w w' := by
 have HI := (show Hid _ from fun (_ : Unit) => isC_in c hc w hg)
 have hni : ¬ (100000 : Int) < (n : Int) := by omega
 have HG0 : Hid (GlobC w) := hg
 have HV : Hid (Rs w (.slice oa n cn) 13 n (fun i => tC (T i))) := hv
 have HT := (show Hid _ from hT)
 have HON : Hid (∀ (x y : Nat) (i : Bool), x < 115792089237316195423570985008687907853269984665640564039457584007913129639936 → y < 115792089237316195423570985008687907853269984665640564039457584007913129639936 → ∀ w, GlobC w → Calls Tryz.prog 33 #[.int .i64 (c : Int), .agg #[.int .u64 (limb 0 x), .int .u64 (limb 1 x), .int .u64 (limb 2 x), .int .u64 (limb 3 x), .int .u64 (limb 0 y), .int .u64 (limb 1 y), .int .u64 (limb 2 y), .int .u64 (limb 3 y), .bool i]] w fun e w' => e = .returned (.bool (decide (onC c x y i))) ∧ Below w.heap.size w w') := fun x y i hx hy w hg => on_in c x y i hc hx hy w hg
 clear hc hg hv hT
 go_enter Tryz.func49, Tryz.ntmps49
 go_wp2_with fail
 refine (HI.out ()).mono ?_
 rintro e w1 ⟨rfl, hb1⟩
 clear HI
 go_wp2
 go_loopw [15] (fun iv wr => ∃ k : Nat, iv = .int .i64 (k : Int) ∧ k ≤ n ∧ Hid (∀ i, i < k → onT c (T i).2) ∧ Below w.heap.size w wr) (fun iv _ => n - (intOf iv).toNat)
 case atStart => exact ⟨0, rfl, by omega, fun i hi => by omega, hb1⟩
 case round =>
  obtain ⟨k, rfl, hk, HK, hbr⟩ := hrel
  clear hb1
  by_cases hlt : k < n
  ·have hki : (k : Int) < (n : Int) := by omega
   obtain ⟨ab, ao, rfl, lab, hcell⟩ := HV.out.at hlt
   have hTE : ∃ K X Y I, T k = (K, X, Y, I) := ⟨_, _, _, _, rfl⟩
   obtain ⟨K, X, Y, I, hE⟩ := hTE
   have HXY : Hid ((T k).2.1 < 115792089237316195423570985008687907853269984665640564039457584007913129639936 ∧ (T k).2.2.1 < 115792089237316195423570985008687907853269984665640564039457584007913129639936) := HT.out k hlt
   have ca : ∀ j, j < 13 → wr.cell? ⟨ab, ao + k * 13 + j, none⟩ = some (tC (T k) j) := fun j hj => by rw [hbr.cell (p := ⟨ab, ao + k * 13 + j, none⟩) lab]; exact hcell j hj
   rw [hE] at ca HXY
   have HE := (show Hid _ from hE)
   clear hE hcell
   obtain ⟨t0, t1, t2, t3, t4, t5, t6, t7, t8, t9, t10, t11, t12⟩ := tC_cells K X Y I
   have a0 := ca 0 (by decide)
   rw [t0] at a0
   have a1 := ca 1 (by decide)
   rw [t1] at a1
   have a2 := ca 2 (by decide)
   rw [t2] at a2
   have a3 := ca 3 (by decide)
   rw [t3] at a3
   have a4 := ca 4 (by decide)
   rw [t4] at a4
   have a5 := ca 5 (by decide)
   rw [t5] at a5
   have a6 := ca 6 (by decide)
   rw [t6] at a6
   have a7 := ca 7 (by decide)
   rw [t7] at a7
   have a8 := ca 8 (by decide)
   rw [t8] at a8
   have a9 := ca 9 (by decide)
   rw [t9] at a9
   have a10 := ca 10 (by decide)
   rw [t10] at a10
   have a11 := ca 11 (by decide)
   rw [t11] at a11
   have a12 := ca 12 (by decide)
   rw [t12] at a12
   clear ca t0 t1 t2 t3 t4 t5 t6 t7 t8 t9 t10 t11 t12
   rw [Nat.add_zero] at a0
   go_upto_region 8 with fail
   obtain ⟨Nt, eNt⟩ : ∃ N, N = wr.heap.size := ⟨_, rfl⟩
   obtain ⟨w5, hw5⟩ : ∃ w5 : World, w5 = wr.alloc (.cells #[.int .u64 (limb 0 K), .int .u64 (limb 1 K), .int .u64 (limb 2 K), .int .u64 (limb 3 K), .int .u64 (limb 0 X), .int .u64 (limb 1 X), .int .u64 (limb 2 X), .int .u64 (limb 3 X), .int .u64 (limb 0 Y), .int .u64 (limb 1 Y), .int .u64 (limb 2 Y), .int .u64 (limb 3 Y), .bool I] 56) := ⟨_, rfl⟩
   have bt5 : Tt w5 Nt K X Y I := by rw [hw5, eNt]; exact Tt.newAt _ _ _ _ _ _ rfl
   have hb5 : Below w.heap.size w w5 := by rw [hw5]; exact bAlloc hbr _
   rw [← hw5]
   rw [← eNt]
   clear hw5 eNt a0 a1 a2 a3 a4 a5 a6 a7 a8 a9 a10 a11 a12 hbr
   obtain ⟨q0, q1, q2, q3, q4, q5, q6, q7, q8, q9, q10, q11, q12⟩ := bt5.cells
   have HG5 : Hid (GlobC w5) := HG0.out.below hb5
   by_cases hon : onC c X Y I
   ·have HO1 := HON.out X Y I HXY.out.1 HXY.out.2 w5 HG5.out
    rw [decide_eq_true hon] at HO1
    have HOC : Hid (onC c X Y I) := hon
    clear hon
    go_wp2_with fail
    refine HO1.mono ?_
    rintro e w6 ⟨rfl, hb6⟩
    have hbw6 := bStep hb5 hb6
    clear q0 q1 q2 q3 q4 q5 q6 q7 q8 q9 q10 q11 q12 bt5 hb5 hb6 HO1
    go_wp2
    go_roundw
    case measure => simp [intOf]; omega
    case rel =>
     refine ⟨k + 1, by go_num, by omega, fun i hi => ?_, hbw6⟩
     rcases Nat.lt_or_ge i k with h | h
     ·exact HK.out i h
     ·rw [show i = k from by omega, HE.out]; exact HOC.out
   ·have HO1 := HON.out X Y I HXY.out.1 HXY.out.2 w5 HG5.out
    rw [decide_eq_false hon] at HO1
    have HOC : Hid (¬ onC c X Y I) := hon
    have HLT : Hid (k < n) := hlt
    clear hon
    go_wp2_with fail
    refine HO1.mono ?_
    rintro e w6 ⟨rfl, hb6⟩
    have hbw6 := bStep hb5 hb6
    clear q0 q1 q2 q3 q4 q5 q6 q7 q8 q9 q10 q11 q12 bt5 hb5 hb6 HO1
    go_wp2
    go_ret
    refine ⟨⟨41, rfl, Or.inr ⟨rfl, fun h => HOC.out ?_⟩⟩, hbw6⟩
    have := h k HLT.out
    rw [HE.out] at this
    exact this
  ·have hki : ¬ (k : Int) < (n : Int) := by omega
   have hkn : k = n := by omega
   subst hkn
   go_wp2
   go_ret
   exact ⟨⟨0, rfl, Or.inl ⟨rfl, HK.out⟩⟩, hbr⟩
theorem sum_bad (c E : Int) (v : Value) (w : World) (hE : ¬ E = 0) (HC : ∀ w', Below w.heap.size w w' → Calls Tryz.prog 49 #[.int .i64 c, v] w' fun e w'' => e = .returned (.int .i64 E) ∧ Below w'.heap.size w' w'') :
  Calls Tryz.prog 26 #[.int .i64 c, v] w fun e w' => e = .returned (.tuple #[.agg #[.int .u64 (limb 0 0), .int .u64 (limb 1 0), .int .u64 (limb 2 0), .int .u64 (limb 3 0), .int .u64 (limb 0 0), .int .u64 (limb 1 0), .int .u64 (limb 2 0), .int .u64 (limb 3 0), .bool false], .int .i64 E]) ∧ Below w.heap.size w w' := by
 have HC := (show Hid _ from HC)
 rw [zeroPt]
 go_enter Tryz.func26, Tryz.ntmps26
 go_upto_region 1 with fail
 obtain ⟨R, eR⟩ : ∃ R, R = w.heap.size := ⟨_, rfl⟩
 obtain ⟨w0, hw0⟩ : ∃ w0 : World, w0 = w.alloc (.cells #[.int .u64 0, .int .u64 0, .int .u64 0, .int .u64 0, .int .u64 0, .int .u64 0, .int .u64 0, .int .u64 0, .bool false] 27) := ⟨_, rfl⟩
 have bR0 : Pt w0 R 0 0 false := by rw [hw0, eR]; exact Pt.zeroAt _ _ rfl
 have hb0 : Below w.heap.size w w0 := by rw [hw0]; exact (Below.refl _ _).alloc (Nat.le_refl _) _
 have lR : w.heap.size ≤ R := by omega
 rw [← hw0]
 rw [← eR]
 clear hw0 eR
 go_wp2_with fail
 refine (HC.out _ hb0).mono ?_
 rintro e w1 ⟨rfl, hb1⟩
 have bR1 := bR0.belowAll hb1; have hbw1 := bStep hb0 hb1
 clear bR0
 clear hb0 hb1 HC
 obtain ⟨r0, r1, r2, r3, r4, r5, r6, r7, r8, rf⟩ := bR1.cells
 go_wp2
 refine bodyPost_ret (v := .tuple #[.agg #[.int .u64 0, .int .u64 0, .int .u64 0, .int .u64 0, .int .u64 0, .int .u64 0, .int .u64 0, .int .u64 0, .bool false], .int .i64 E]) (by simp [results, Tryz.results26, go_sem, r0, r1, r2, r3, r4, r5, r6, r7, r8]) rfl ⟨rfl, ?_⟩
 exact bSet9 hbw1 lR _ _ _ _ _ _ _ _ _
theorem sum_good (c : Int) (v : Value) (Q : Nat × Nat × Bool) (w : World) (HC : ∀ w', Below w.heap.size w w' → Calls Tryz.prog 49 #[.int .i64 c, v] w' fun e w'' => e = .returned (.int .i64 0) ∧ Below w'.heap.size w' w'')
  (HT : ∀ w', Below w.heap.size w w' → Calls Tryz.prog 50 #[.int .i64 c, v] w' fun e w'' => e = .returned (.agg #[.int .u64 (limb 0 (Q.1)), .int .u64 (limb 1 (Q.1)), .int .u64 (limb 2 (Q.1)), .int .u64 (limb 3 (Q.1)), .int .u64 (limb 0 (Q.2.1)), .int .u64 (limb 1 (Q.2.1)), .int .u64 (limb 2 (Q.2.1)), .int .u64 (limb 3 (Q.2.1)), .bool Q.2.2]) ∧ Below w'.heap.size w' w'') :
  Calls Tryz.prog 26 #[.int .i64 c, v] w fun e w' => e = .returned (.tuple #[.agg #[.int .u64 (limb 0 (Q.1)), .int .u64 (limb 1 (Q.1)), .int .u64 (limb 2 (Q.1)), .int .u64 (limb 3 (Q.1)), .int .u64 (limb 0 (Q.2.1)), .int .u64 (limb 1 (Q.2.1)), .int .u64 (limb 2 (Q.2.1)), .int .u64 (limb 3 (Q.2.1)), .bool Q.2.2], .int .i64 0]) ∧ Below w.heap.size w w' := by
 have HC := (show Hid _ from HC); have HT := (show Hid _ from HT)
 obtain ⟨qx, ex⟩ : ∃ z, z = Q.1 := ⟨_, rfl⟩
 obtain ⟨qy, ey⟩ : ∃ z, z = Q.2.1 := ⟨_, rfl⟩
 obtain ⟨qi, ei⟩ : ∃ z, z = Q.2.2 := ⟨_, rfl⟩
 rw [← ex, ← ey, ← ei] at HT ⊢
 clear ex ey ei
 go_enter Tryz.func26, Tryz.ntmps26
 go_upto_region 1 with fail
 obtain ⟨R, eR⟩ : ∃ R, R = w.heap.size := ⟨_, rfl⟩
 obtain ⟨w0, hw0⟩ : ∃ w0 : World, w0 = w.alloc (.cells #[.int .u64 0, .int .u64 0, .int .u64 0, .int .u64 0, .int .u64 0, .int .u64 0, .int .u64 0, .int .u64 0, .bool false] 27) := ⟨_, rfl⟩
 have bR0 : Pt w0 R 0 0 false := by rw [hw0, eR]; exact Pt.zeroAt _ _ rfl
 have hb0 : Below w.heap.size w w0 := by rw [hw0]; exact (Below.refl _ _).alloc (Nat.le_refl _) _
 have lR : w.heap.size ≤ R := by omega
 rw [← hw0]
 rw [← eR]
 clear hw0 eR
 go_wp2_with fail
 refine (HC.out _ hb0).mono ?_
 rintro e w1 ⟨rfl, hb1⟩
 have bR1 := bR0.belowAll hb1; have hbw1 := bStep hb0 hb1
 clear bR0
 clear hb0 hb1 HC
 go_wp2_with fail
 refine (HT.out _ hbw1).mono ?_
 rintro e w2 ⟨rfl, hb2⟩
 obtain ⟨r0, r1, r2, r3, r4, r5, r6, r7, r8, rf⟩ := (bR1.belowAll hb2).cells
 go_wp2
 refine bodyPost_ret (v := .tuple #[.agg #[.int .u64 (limb 0 qx), .int .u64 (limb 1 qx), .int .u64 (limb 2 qx), .int .u64 (limb 3 qx), .int .u64 (limb 0 qy), .int .u64 (limb 1 qy), .int .u64 (limb 2 qy), .int .u64 (limb 3 qy), .bool qi], .int .i64 0]) (by simp [results, Tryz.results26, go_sem, r0, r1, r2, r3, r4, r5, r6, r7, r8]) rfl ⟨rfl, ?_⟩
 exact bSet9 (bStep hbw1 hb2) lR _ _ _ _ _ _ _ _ _
def SumE (c n : Nat) (T : Nat → Nat × Nat × Nat × Bool) (e : Ending) : Prop := (∃ (x y : Nat) (i : Bool) (E : Int), e = .returned (.tuple #[.agg #[.int .u64 (limb 0 x), .int .u64 (limb 1 x), .int .u64 (limb 2 x), .int .u64 (limb 3 x), .int .u64 (limb 0 y), .int .u64 (limb 1 y), .int .u64 (limb 2 y), .int .u64 (limb 3 y), .bool i], .int .i64 E]) ∧ (E = 0 ∧ (∀ i, i < n → onT c (T i).2) ∧ (x, y, i) = tot c (fun i => (T i).1 % modN (xc c)) (fun i => (T i).2) n ∨ E = 41 ∧ (¬ ∀ i, i < n → onT c (T i).2) ∧ (x, y, i) = (0, 0, false)))
theorem msum_in (c n cn : Nat) (oa : Option Addr) (T : Nat → Nat × Nat × Nat × Bool) (hc : c < 4) (hn : n ≤ 100000) (hT : ∀ i, i < n → (T i).1 < 115792089237316195423570985008687907853269984665640564039457584007913129639936 ∧ (T i).2.1 < 115792089237316195423570985008687907853269984665640564039457584007913129639936 ∧ (T i).2.2.1 < 115792089237316195423570985008687907853269984665640564039457584007913129639936) (w : World) (hg : GlobC w) (hv : Rs w (.slice oa n cn) 13 n (fun i => tC (T i))) :
  Calls Tryz.prog 26 #[.int .i64 (c : Int), .slice oa n cn] w fun e w' => SumE c n T e ∧ Below w.heap.size w w' := by
 by_cases hall : ∀ i, i < n → onT c (T i).2
 ·refine (sum_good (c : Int) _ (tot c (fun i => (T i).1 % modN (xc c)) (fun i => (T i).2) n) w (fun w' hb => ?_) (fun w' hb => ?_)).mono ?_
  ·refine (check_short c n cn oa T hc hn (fun i hi => (hT i hi).2) w' (hg.below hb) (hv.below hb)).mono ?_
   rintro e w'' ⟨⟨E, rfl, h | h⟩, hb2⟩
   ·exact ⟨by rw [h.1], hb2⟩
   ·exact absurd hall h.2
  ·exact total_any c (xc c) n _ T hc (xor_c c hc) (xc_lt hc) (by omega) (fun i hi => (hT i hi).1) hall w' (hg.below hb) (hv.below hb)
  ·rintro e w' ⟨rfl, hb⟩
   exact ⟨⟨_, _, _, 0, rfl, Or.inl ⟨rfl, hall, rfl⟩⟩, hb⟩
 ·refine (sum_bad (c : Int) 41 _ w (by decide) (fun w' hb => ?_)).mono ?_
  ·refine (check_short c n cn oa T hc hn (fun i hi => (hT i hi).2) w' (hg.below hb) (hv.below hb)).mono ?_
   rintro e w'' ⟨⟨E, rfl, h | h⟩, hb2⟩
   ·exact absurd h.2 hall
   ·exact ⟨by rw [h.1], hb2⟩
  ·rintro e w' ⟨rfl, hb⟩
   exact ⟨⟨0, 0, false, 41, rfl, Or.inr ⟨rfl, hall, rfl⟩⟩, hb⟩
end Go.Proofs.YtdeijnlbencfdaaGreatDoor
