import Derived.Test.YtdeijnlbencfdaaGreatDoorWSD
namespace Go.Proofs.YtdeijnlbencfdaaGreatDoor
open Go.RowKit
set_option maxHeartbeats 16000000 in
set_option maxRecDepth 20000 in
theorem digitSum_any (c n f b g : Nat) (T : Nat → Nat × Nat × Nat × Bool) (hc : c < 4) (hn : n ≤ 1000000) (hf : f ≤ 65536) (hb8 : b ≤ 8) (hT : ∀ i, i < n → (T i).1 < 115792089237316195423570985008687907853269984665640564039457584007913129639936) (hP : ∀ i, i < n → onT c (T i).2) (w : World) (hg : Glob w) (bt : BlkR w 56 g 13 n (fun i => tC (T i))) :
  Calls Tryz.prog 92 #[.int .i64 (c : Int), .slice (some ⟨g, 0, none⟩) n n, .int .i64 (f : Int), .int .i64 (b : Int)] w fun e w' => (∃ X Y Z, e = .returned (.agg #[.int .u64 (limb 0 X), .int .u64 (limb 1 X), .int .u64 (limb 2 X), .int .u64 (limb 3 X), .int .u64 (limb 0 Y), .int .u64 (limb 1 Y), .int .u64 (limb 2 Y), .int .u64 (limb 3 Y), .int .u64 (limb 0 Z), .int .u64 (limb 1 Z), .int .u64 (limb 2 Z), .int .u64 (limb 3 Z)]) ∧ JT c X Y Z (tot c (fun i => digN (T i).1 f b) (fun i => (T i).2) n)) ∧ Below w.heap.size w w' := by
 have HT := (show Hid _ from hT); have HP : Hid (∀ i, i < n → onT c (T i).2) := hP; have HG0 : Hid (Glob w) := hg
 have HPL : Hid (∀ (X Y Z U V O : Nat) (Q R : Nat × Nat × Bool), onT c Q → onT c R → JT c X Y Z Q → JT c U V O R → ∀ w, Glob w → Calls Tryz.prog 72 #[.agg #[.int .u64 (limb 0 X), .int .u64 (limb 1 X), .int .u64 (limb 2 X), .int .u64 (limb 3 X), .int .u64 (limb 0 Y), .int .u64 (limb 1 Y), .int .u64 (limb 2 Y), .int .u64 (limb 3 Y), .int .u64 (limb 0 Z), .int .u64 (limb 1 Z), .int .u64 (limb 2 Z), .int .u64 (limb 3 Z)], .int .i64 (c : Int), .agg #[.int .u64 (limb 0 U), .int .u64 (limb 1 U), .int .u64 (limb 2 U), .int .u64 (limb 3 U), .int .u64 (limb 0 V), .int .u64 (limb 1 V), .int .u64 (limb 2 V), .int .u64 (limb 3 V), .int .u64 (limb 0 O), .int .u64 (limb 1 O), .int .u64 (limb 2 O), .int .u64 (limb 3 O)]] w fun e w' => (∃ A B C, e = .returned (.agg #[.int .u64 (limb 0 A), .int .u64 (limb 1 A), .int .u64 (limb 2 A), .int .u64 (limb 3 A), .int .u64 (limb 0 B), .int .u64 (limb 1 B), .int .u64 (limb 2 B), .int .u64 (limb 3 B), .int .u64 (limb 0 C), .int .u64 (limb 1 C), .int .u64 (limb 2 C), .int .u64 (limb 3 C)]) ∧ JT c A B C (ad c Q R)) ∧ Below w.heap.size w w') := fun X Y Z U V O Q R h1 h2 h3 h4 w hg => plusT c X Y Z U V O Q R hc h1 h2 h3 h4 w hg
 have HOF : Hid (∀ (x y : Nat) (i : Bool), onC c x y i → ∀ w, Calls Tryz.prog 69 #[.agg #[.int .u64 (limb 0 x), .int .u64 (limb 1 x), .int .u64 (limb 2 x), .int .u64 (limb 3 x), .int .u64 (limb 0 y), .int .u64 (limb 1 y), .int .u64 (limb 2 y), .int .u64 (limb 3 y), .bool i]] w fun e w' => (∃ A B C, e = .returned (.agg #[.int .u64 (limb 0 A), .int .u64 (limb 1 A), .int .u64 (limb 2 A), .int .u64 (limb 3 A), .int .u64 (limb 0 B), .int .u64 (limb 1 B), .int .u64 (limb 2 B), .int .u64 (limb 3 B), .int .u64 (limb 0 C), .int .u64 (limb 1 C), .int .u64 (limb 2 C), .int .u64 (limb 3 C)]) ∧ JT c A B C (x, y, i)) ∧ Below w.heap.size w w') := fun x y i h w => ofT c x y i h w
 have HDG : Hid (∀ A, A < 115792089237316195423570985008687907853269984665640564039457584007913129639936 → ∀ w, Calls Tryz.prog 123 #[.agg #[.int .u64 (limb 0 A), .int .u64 (limb 1 A), .int .u64 (limb 2 A), .int .u64 (limb 3 A)], .int .i64 (f : Int), .int .i64 (b : Int)] w fun e w' => e = .returned (.int .i64 ((digN A f b : Nat) : Int)) ∧ Below w.heap.size w w') := fun A hA w => digit_any A f b hA hf hb8 w
 have HLT : Hid (∀ A, digN A f b < 256) := fun A => Nat.lt_of_lt_of_le (digN_lt A f b) (Nat.pow_le_pow_right (by decide) hb8 : 2 ^ b ≤ 2 ^ 8)
 have lg := bt.lt
 have ZV := zeroBuckets
 have HB0 : Hid (∀ w : World, BlkR (w.alloc (.cells (Array.replicate 3072 (.int .u64 0)) 141)) 141 w.heap.size 12 256 (fun _ => jC (0, 0, 0))) := zeroBlk
 obtain ⟨Zs, eZ⟩ : ∃ Zs : Array Value, Zs = Array.replicate 3072 (.int .u64 0) := ⟨_, rfl⟩
 rw [← eZ] at ZV HB0
 have HBT : Hid (BlkR w 56 g 13 n (fun i => tC (T i))) := bt
 clear hT hP hg eZ bt hf
 go_enter Tryz.func92, Tryz.ntmps92
 go_upto_region 2 with fail
 obtain ⟨R, eR⟩ : ∃ R, R = w.heap.size := ⟨_, rfl⟩
 obtain ⟨S, eS⟩ : ∃ S, S = w.heap.size + 1 := ⟨_, rfl⟩
 obtain ⟨w0, hw0⟩ : ∃ w0 : World, w0 = (w.alloc (.cells #[.int .u64 0, .int .u64 0, .int .u64 0, .int .u64 0, .int .u64 0, .int .u64 0, .int .u64 0, .int .u64 0, .int .u64 0, .int .u64 0, .int .u64 0, .int .u64 0] 99)).alloc (.cells Zs 141) := ⟨_, rfl⟩
 have bR0 : Jt w0 R 0 0 0 := by rw [hw0, eR]; exact (Jt.zeroAt w _ rfl).alloc _
 have bS0 : BlkR w0 141 S 12 256 (fun _ => jC (0, 0, 0)) := by
  have := HB0.out (w.alloc (.cells #[.int .u64 0, .int .u64 0, .int .u64 0, .int .u64 0, .int .u64 0, .int .u64 0, .int .u64 0, .int .u64 0, .int .u64 0, .int .u64 0, .int .u64 0, .int .u64 0] 99))
  rw [World.size_alloc, ← hw0, ← eS] at this
  exact this
 have hb0 : Below w.heap.size w w0 := by rw [hw0]; exact bAlloc ((Below.refl _ _).alloc (Nat.le_refl _) _) _
 rw [← hw0]
 rw [← eS, ← eR]
 have lR : w.heap.size ≤ R := by omega
 have lS : w.heap.size ≤ S := by omega
 have hRS : R ≠ S := by omega
 have lgS : g ≠ S := by omega
 have HL : Hid (w.heap.size ≤ R ∧ w.heap.size ≤ S ∧ R ≠ S ∧ g ≠ S) := ⟨lR, lS, hRS, lgS⟩
 clear hw0 eR eS ZV HB0 lR lS hRS lgS
 go_wp2
 go_loopw [18] (fun iv wr => ∃ (k : Nat) (B : Nat → Nat × Nat × Nat), iv = .int .i64 (k : Int) ∧ k ≤ n ∧ Hid (∀ d, 0 < d → d < 256 → JT c (B d).1 (B d).2.1 (B d).2.2 (bk c (fun i => (T i).2) (fun i => digN (T i).1 f b) k d)) ∧ Below w.heap.size w wr ∧ BlkR wr 141 S 12 256 (fun d => jC (B d)) ∧ Jt wr R 0 0 0) (fun iv _ => n - (intOf iv).toNat)
 case atStart =>
  exact ⟨0, fun _ => (0, 0, 0), rfl, by omega, fun d _ _ => JT.zero c, hb0, bS0, bR0⟩
 case round =>
  obtain ⟨k, B, rfl, hk, HJ, hbr, bS, bR⟩ := hrel
  clear bS0 bR0 hb0
  by_cases hlt : k < n
  ·have hki : (k : Int) < (n : Int) := by omega
   have hTE : ∃ K X Y I, T k = (K, X, Y, I) := ⟨_, _, _, _, rfl⟩
   obtain ⟨K, X, Y, I, hE⟩ := hTE
   have HK : Hid ((T k).1 < 115792089237316195423570985008687907853269984665640564039457584007913129639936) := HT.out k hlt
   have HON : Hid (onT c (T k).2) := HP.out k hlt
   have ca : ∀ j, j < 13 → wr.cell? ⟨g, k * 13 + j, none⟩ = some (tC (T k) j) := fun j hj => by rw [hbr.cell (p := ⟨g, k * 13 + j, none⟩) lg]; exact HBT.out.cell k hlt j hj
   rw [hE] at ca HK HON
   have HE := (show Hid _ from hE)
   clear hE
   obtain ⟨t0, t1, t2, t3, t4, t5, t6, t7, t8, t9, t10, t11, t12⟩ := tC_cells K X Y I
   have a0 := ca 0 (by decide)
   rw [t0] at a0
   have a1 := ca 1 (by decide)
   rw [t1] at a1
   have a2 := ca 2 (by decide)
   rw [t2] at a2
   have a3 := ca 3 (by decide)
   rw [t3] at a3
   have a4 := ca 4 (by decide)
   rw [t4] at a4
   have a5 := ca 5 (by decide)
   rw [t5] at a5
   have a6 := ca 6 (by decide)
   rw [t6] at a6
   have a7 := ca 7 (by decide)
   rw [t7] at a7
   have a8 := ca 8 (by decide)
   rw [t8] at a8
   have a9 := ca 9 (by decide)
   rw [t9] at a9
   have a10 := ca 10 (by decide)
   rw [t10] at a10
   have a11 := ca 11 (by decide)
   rw [t11] at a11
   have a12 := ca 12 (by decide)
   rw [t12] at a12
   clear ca t0 t1 t2 t3 t4 t5 t6 t7 t8 t9 t10 t11 t12
   rw [Nat.add_zero] at a0
   go_upto_region 5 with fail
   obtain ⟨Nt, eNt⟩ : ∃ N, N = wr.heap.size := ⟨_, rfl⟩
   obtain ⟨w5, hw5⟩ : ∃ w5 : World, w5 = wr.alloc (.cells #[.int .u64 (limb 0 K), .int .u64 (limb 1 K), .int .u64 (limb 2 K), .int .u64 (limb 3 K), .int .u64 (limb 0 X), .int .u64 (limb 1 X), .int .u64 (limb 2 X), .int .u64 (limb 3 X), .int .u64 (limb 0 Y), .int .u64 (limb 1 Y), .int .u64 (limb 2 Y), .int .u64 (limb 3 Y), .bool I] 56) := ⟨_, rfl⟩
   have bt5 : Tt w5 Nt K X Y I := by rw [hw5, eNt]; exact Tt.newAt _ _ _ _ _ _ rfl
   have bS5 : BlkR w5 141 S 12 256 (fun d => jC (B d)) := by rw [hw5]; exact bS.alloc _
   have bR5 : Jt w5 R 0 0 0 := by rw [hw5]; exact bR.alloc _
   have hb5 : Below w.heap.size w w5 := by rw [hw5]; exact bAlloc hbr _
   rw [← hw5]
   rw [← eNt]
   clear hw5 eNt a0 a1 a2 a3 a4 a5 a6 a7 a8 a9 a10 a11 a12 bS bR hbr
   obtain ⟨q0, q1, q2, q3, q4, q5, q6, q7, q8, q9, q10, q11, q12⟩ := bt5.cells
   go_wp2_with fail
   refine (HDG.out K HK.out _).mono ?_
   rintro e w6 ⟨rfl, hb6⟩
   clear q0 q1 q2 q3 q4 q5 q6 q7 q8 q9 q10 q11 q12
   have bt6 := bt5.belowAll hb6; have bS6 := bS5.belowAll hb6; have bR6 := bR5.belowAll hb6; have hbw6 := bStep hb5 hb6
   clear bt5 bS5 bR5 hb5 hb6
   have hdl := HLT.out K
   obtain ⟨d, ed⟩ : ∃ d, d = digN K f b := ⟨_, rfl⟩
   rw [← ed] at hdl ⊢
   have HD : Hid (d = digN K f b) := ed
   clear ed
   by_cases hd : (d : Int) = 0
   ·go_wp2
    go_roundw
    case measure => simp [intOf]; omega
    case rel =>
     refine ⟨k + 1, B, by go_num, by omega, fun d' h1 h2 => ?_, hbw6, bS6, bR6⟩
     rw [bk_other (fun i hi => HP.out i (by omega)) (by rw [HE.out, ← HD.out]; omega)]
     exact HJ.out d' h1 h2
   ·have hBE : ∃ x y z, B d = (x, y, z) := ⟨_, _, _, rfl⟩
    obtain ⟨BX, BY, BZ, hB⟩ := hBE
    have HJB : Hid (JT c BX BY BZ (bk c (fun i => (T i).2) (fun i => digN (T i).1 f b) k d)) := by
     have := HJ.out d (by omega) hdl
     rw [hB] at this
     exact this
    have HBE := (show Hid _ from hB)
    have HDL : Hid (d < 256) := hdl
    have hdi : (d : Int) < 256 := by omega
    have hd0 : ¬ (d : Int) < 0 := by omega
    have HG6 : Hid (Glob w6) := HG0.out.below hbw6
    have HKB : Hid (onT c (bk c (fun i => (T i).2) (fun i => digN (T i).1 f b) k d)) := bk_on (fun i hi => HP.out i (by omega)) d
    clear hB hdl
    go_upto_region 7 with fail
    have HS0 : Hid (Below w6.heap.size w6 w6.drew) := (Below.refl _ _).drew
    refine wp_region_Z (fun w' => Below w6.heap.size w6 w') 10 (by kernel_rfl) ?_
    refine zs 0 29 (.int .i64 (d : Int)) HS0.out ?_
    refine zs 1 30 (.int .i64 (d : Int)) HS0.out ?_
    refine zs 2 31 (.pointer (some ⟨S, d * 12, none⟩)) HS0.out ?_
    refine zT 3 32 (.agg #[.int .u64 (limb 0 BX), .int .u64 (limb 1 BX), .int .u64 (limb 2 BX), .int .u64 (limb 3 BX), .int .u64 (limb 0 BY), .int .u64 (limb 1 BY), .int .u64 (limb 2 BY), .int .u64 (limb 3 BY), .int .u64 (limb 0 BZ), .int .u64 (limb 1 BZ), .int .u64 (limb 2 BZ), .int .u64 (limb 3 BZ)]) rfl rfl (fun w hSw => by (obtain ⟨g0, g1, g2, g3, g4, g5, g6, g7, g8, g9, g10, g11⟩ := (bS6.belowAll hSw).cells12 HDL.out HBE.out; clear hSw; go_simp)) HS0.out ?_
    refine zs 4 33 (.int .i64 (c : Int)) HS0.out ?_
    refine zs 5 34 (.pointer (some ⟨Nt, 4, none⟩)) HS0.out ?_
    refine zT 6 35 (.agg #[.int .u64 (limb 0 X), .int .u64 (limb 1 X), .int .u64 (limb 2 X), .int .u64 (limb 3 X), .int .u64 (limb 0 Y), .int .u64 (limb 1 Y), .int .u64 (limb 2 Y), .int .u64 (limb 3 Y), .bool I]) rfl rfl (fun w hSw => by (obtain ⟨q0, q1, q2, q3, q4, q5, q6, q7, q8, q9, q10, q11, q12⟩ := (bt6.belowAll hSw).cells; clear hSw; go_simp)) HS0.out ?_
    refine zo 7 rfl (fun K hK => ?_)
    go_simp
    refine (HOF.out X Y I HON.out w6.drew).mono ?_
    rintro e wK1 ⟨⟨A1, B1, C1, rfl, HJ1'⟩, hbK1⟩
    have hSK1 := bStep HS0.out hbK1
    have HJ1 : Hid (JT c A1 B1 C1 (X, Y, I)) := HJ1'
    clear HJ1'
    go_wp2_with fail
    refine hK.out _ _ (fun _ => hSK1) ?_
    clear hK K
    refine zo 8 rfl (fun K hK => ?_)
    go_simp
    refine (HPL.out BX BY BZ A1 B1 C1 _ _ HKB.out HON.out HJB.out HJ1.out wK1 (HG6.out.below (hSK1))).mono ?_
    rintro e wK2 ⟨⟨A2, B2, C2, rfl, HJ2'⟩, hbK2⟩
    have hSK2 := bStep hSK1 hbK2
    have HJ2 : Hid (JT c A2 B2 C2 (ad c (bk c (fun i => (T i).2) (fun i => digN (T i).1 f b) k d) (X, Y, I))) := HJ2'
    clear HJ2'
    go_wp2_with fail
    refine hK.out _ _ (fun _ => hSK2) ?_
    clear hK K
    refine zs 9 38 (.pointer (some ⟨S, d * 12, none⟩)) hSK2 ?_
    refine zo 10 rfl (fun K hK => ?_)
    have bSA := bS6.belowAll (hSK2); have bRA := bR6.belowAll (hSK2); have hbA := bStep hbw6 (hSK2)
    obtain ⟨g0, g1, g2, g3, g4, g5, g6, g7, g8, g9, g10, g11⟩ := bSA.cells12 HDL.out HBE.out; have gf := bSA.frozen
    go_simp
    refine hK.out _ _ (fun h => absurd rfl h) ?_
    clear hK K
    refine zd ?_ _
    obtain ⟨w9, hw9, bS9, bR9, hb9⟩ := pkRow (k := d) bSA bRA HL.out.2.2.1 hbA HL.out.2.1 HDL.out A2 B2 C2
    rw [hw9]
    clear hw9 bSA bRA hbA
    go_wp2
    go_roundw
    case measure => simp [intOf]; omega
    case rel =>
     refine ⟨k + 1, _, by go_num, by omega, fun d' h1 h2 => ?_, hb9, bS9, bR9⟩
     by_cases e : d' = d
     ·subst e
      rw [if_pos rfl, bk_same (by rw [HE.out, ← HD.out])]
      rw [HE.out]
      exact HJ2.out
     ·rw [if_neg e, bk_other (fun i hi => HP.out i (by omega)) (by rw [HE.out, ← HD.out]; exact fun h => e h.symm)]
      exact HJ.out d' h1 h2
  ·have hki : ¬ (k : Int) < (n : Int) := by omega
   have hkn : k = n := by omega
   subst hkn
   go_upto_region 10 with fail
   obtain ⟨A, eA⟩ : ∃ A, A = wr.heap.size := ⟨_, rfl⟩
   obtain ⟨M, eM⟩ : ∃ M, M = wr.heap.size + 1 := ⟨_, rfl⟩
   obtain ⟨w1, hw1⟩ : ∃ w1 : World, w1 = (wr.alloc (.cells #[.int .u64 0, .int .u64 0, .int .u64 0, .int .u64 0, .int .u64 0, .int .u64 0, .int .u64 0, .int .u64 0, .int .u64 0, .int .u64 0, .int .u64 0, .int .u64 0] 99)).alloc (.cells #[.int .u64 0, .int .u64 0, .int .u64 0, .int .u64 0, .int .u64 0, .int .u64 0, .int .u64 0, .int .u64 0, .int .u64 0, .int .u64 0, .int .u64 0, .int .u64 0] 99) := ⟨_, rfl⟩
   have bA1 : Jt w1 A 0 0 0 := by rw [hw1, eA]; exact (Jt.zeroAt wr _ rfl).alloc _
   have bM1 : Jt w1 M 0 0 0 := by rw [hw1, eM]; exact Jt.zeroAt _ _ (by simp)
   have bS1 : BlkR w1 141 S 12 256 (fun d => jC (B d)) := by rw [hw1]; exact (bS.alloc _).alloc _
   have bR1 : Jt w1 R 0 0 0 := by rw [hw1]; exact (bR.alloc _).alloc _
   have hb1 : Below w.heap.size w w1 := by rw [hw1]; exact bAlloc (bAlloc hbr _) _
   have HN : Hid (w.heap.size ≤ A ∧ w.heap.size ≤ M ∧ A ≠ M ∧ S ≠ A ∧ S ≠ M ∧ R ≠ A ∧ R ≠ M) := by
    have h1 := bS.lt; have h2 := bR.lt; have h3 := hbr.size
    refine ⟨?_, ?_, ?_, ?_, ?_, ?_, ?_⟩ <;> omega
   rw [← hw1]
   rw [← eM, ← eA]
   clear hw1 eA eM bS bR hbr
   have HBO : Hid (∀ d, onT c (bk c (fun i => (T i).2) (fun i => digN (T i).1 f b) k d)) := fun d => bk_on (fun i hi => HP.out i hi) d
   have HAB : Hid (abs' c (bk c (fun i => (T i).2) (fun i => digN (T i).1 f b) k) 1 (2 ^ b - 1) = tot c (fun i => digN (T i).1 f b) (fun i => (T i).2) k) := abs_tot (fun i hi => HP.out i hi) (fun i _ => by have := digN_lt (T i).1 f b; have := Nat.two_pow_pos b; omega)
   obtain ⟨BK, eBK⟩ : ∃ BK, BK = bk c (fun i => (T i).2) (fun i => digN (T i).1 f b) k := ⟨_, rfl⟩
   rw [← eBK] at HJ HBO HAB
   have hp1 : 2 ^ b ≤ 2 ^ 8 := Nat.pow_le_pow_right (by decide) hb8
   have hp0 := Nat.two_pow_pos b
   have HW : Hid (wrap64 ((2 : Int) ^ b) = ((2 ^ b : Nat) : Int)) := by
    rw [show ((2 : Int) ^ b) = ((2 ^ b : Nat) : Int) from by simp]
    generalize 2 ^ b = p at hp1
    exact IntWalk.wrap64_in _ (by omega)
   obtain ⟨D, eD⟩ : ∃ D, D = 2 ^ b - 1 := ⟨_, rfl⟩
   have hD : D ≤ 255 := by omega
   have HDE : Hid (2 ^ b = D + 1) := (by omega : 2 ^ b = D + 1)
   rw [← eD] at HAB
   clear eBK eD hp1 hp0
   have hbn : ¬ (b : Int) < 0 := by omega
   go_wp2
   go_loopw [15] (fun dv wr => ∃ (d X Y Z U V O : Nat), dv = .int .i64 (d : Int) ∧ d ≤ D ∧ Hid (JT c X Y Z (abv c BK (d + 1) (D - d))) ∧ Hid (JT c U V O (abs' c BK (d + 1) (D - d))) ∧ Below w.heap.size w wr ∧ Jt wr A X Y Z ∧ Jt wr M U V O ∧ BlkR wr 141 S 12 256 (fun d => jC (B d)) ∧ Jt wr R 0 0 0) (fun dv _ => (intOf dv).toNat)
   case atStart =>
    refine ⟨D, 0, 0, 0, 0, 0, 0, ?_, Nat.le_refl _, ?_, ?_, hb1, bA1, bM1, bS1, bR1⟩
    ·first
      | (rw [HW.out, HDE.out]; congr 1; omega)
      | (rw [HW.out, HDE.out]; congr 1; rw [IntWalk.wrap64_in _ (by omega)]; omega)
    ·rw [Nat.sub_self]; exact JT.zero c
    ·rw [Nat.sub_self]; exact JT.zero c
   case round =>
    obtain ⟨d, X, Y, Z, U, V, O, rfl, hd, HJA, HJM, hbr, bA, bM, bS, bR⟩ := hrel
    clear bA1 bM1 bS1 bR1 hb1
    by_cases hpos : 0 < d
    ·have hki : (0 : Int) < (d : Int) := by omega
     have hdi : (d : Int) < 256 := by omega
     have hd0 : ¬ (d : Int) < 0 := by omega
     have HDL : Hid (d < 256) := (by omega : d < 256)
     have hBE : ∃ x y z, B d = (x, y, z) := ⟨_, _, _, rfl⟩
     obtain ⟨BX, BY, BZ, hB⟩ := hBE
     have HJB : Hid (JT c BX BY BZ (BK d)) := by
      have := HJ.out d hpos HDL.out
      rw [hB] at this
      exact this
     have HBE := (show Hid _ from hB)
     have HGr : Hid (Glob wr) := HG0.out.below hbr
     have HOA : Hid (onT c (abv c BK (d + 1) (D - d))) := abv_on HBO.out _ _
     have HOM : Hid (onT c (abs' c BK (d + 1) (D - d))) := abs_on HBO.out _ _
     have HSA : Hid (ad c (abv c BK (d + 1) (D - d)) (BK d) = abv c BK d (D - d + 1)) := abv_step HBO.out d (D - d)
     have HSM : Hid (ad c (abs' c BK (d + 1) (D - d)) (abv c BK d (D - d + 1)) = abs' c BK d (D - d + 1)) := abs_step HBO.out d (D - d)
     have HOA2 : Hid (onT c (abv c BK d (D - d + 1))) := abv_on HBO.out _ _
     clear hB
     go_upto_region 13 with fail
     have HS0 : Hid (Below wr.heap.size wr wr.drew) := (Below.refl _ _).drew
     refine wp_region_Z (fun w' => Below wr.heap.size wr w') 6 (by kernel_rfl) ?_
     refine zT 0 47 (.agg #[.int .u64 (limb 0 X), .int .u64 (limb 1 X), .int .u64 (limb 2 X), .int .u64 (limb 3 X), .int .u64 (limb 0 Y), .int .u64 (limb 1 Y), .int .u64 (limb 2 Y), .int .u64 (limb 3 Y), .int .u64 (limb 0 Z), .int .u64 (limb 1 Z), .int .u64 (limb 2 Z), .int .u64 (limb 3 Z)]) rfl rfl (fun w hSw => by (obtain ⟨q0, q1, q2, q3, q4, q5, q6, q7, q8, q9, q10, q11, qf⟩ := (bA.belowAll hSw).cells; clear hSw; go_simp)) HS0.out ?_
     refine zs 1 48 (.int .i64 (c : Int)) HS0.out ?_
     refine zs 2 49 (.int .i64 (d : Int)) HS0.out ?_
     refine zs 3 50 (.pointer (some ⟨S, d * 12, none⟩)) HS0.out ?_
     refine zT 4 51 (.agg #[.int .u64 (limb 0 BX), .int .u64 (limb 1 BX), .int .u64 (limb 2 BX), .int .u64 (limb 3 BX), .int .u64 (limb 0 BY), .int .u64 (limb 1 BY), .int .u64 (limb 2 BY), .int .u64 (limb 3 BY), .int .u64 (limb 0 BZ), .int .u64 (limb 1 BZ), .int .u64 (limb 2 BZ), .int .u64 (limb 3 BZ)]) rfl rfl (fun w hSw => by (obtain ⟨g0, g1, g2, g3, g4, g5, g6, g7, g8, g9, g10, g11⟩ := (bS.belowAll hSw).cells12 HDL.out HBE.out; clear hSw; go_simp)) HS0.out ?_
     refine zo 5 rfl (fun K hK => ?_)
     go_simp
     refine (HPL.out X Y Z BX BY BZ _ _ HOA.out (HBO.out d) HJA.out HJB.out wr.drew (HGr.out.below (HS0.out))).mono ?_
     rintro e wK1 ⟨⟨A2, B2, C2, rfl, HJ2'⟩, hbK1⟩
     have hSK1 := bStep HS0.out hbK1
     have HJ2 : Hid (JT c A2 B2 C2 (ad c (abv c BK (d + 1) (D - d)) (BK d))) := HJ2'
     clear HJ2'
     go_wp2_with fail
     refine hK.out _ _ (fun _ => hSK1) ?_
     clear hK K
     refine zo 6 rfl (fun K hK => ?_)
     have bAA := bA.belowAll (hSK1); have bMA := bM.belowAll (hSK1); have bSA := bS.belowAll (hSK1); have bRA := bR.belowAll (hSK1); have hbA := bStep hbr (hSK1)
     obtain ⟨g0, g1, g2, g3, g4, g5, g6, g7, g8, g9, g10, g11, gf⟩ := bAA.cells
     go_simp
     refine hK.out _ _ (fun h => absurd rfl h) ?_
     clear hK K
     refine zd ?_ _
     obtain ⟨w9, hw9, bA9, hb9, hJ9, hB9, _⟩ := pk12 bAA hbA HN.out.1 A2 B2 C2
     rw [hw9]
     have bM9 := hJ9 _ _ _ _ bMA HN.out.2.2.1.symm; have bR9 := hJ9 _ _ _ _ bRA HN.out.2.2.2.2.2.1; have bS9 := hB9 _ _ _ _ _ bSA HN.out.2.2.2.1
     clear hw9 bSA bRA bAA bMA hbA hJ9 hB9
     rw [HSA.out] at HJ2
     obtain ⟨q0, q1, q2, q3, q4, q5, q6, q7, q8, q9, q10, q11, qf⟩ := bM9.cells; obtain ⟨p0, p1, p2, p3, p4, p5, p6, p7, p8, p9, p10, p11, pf⟩ := bA9.cells
     have HG9 : Hid (Glob w9) := HG0.out.below hb9
     go_wp2_with fail
     refine (HPL.out U V O A2 B2 C2 _ _ HOM.out HOA2.out HJM.out HJ2.out _ HG9.out).mono ?_
     rintro e w10 ⟨⟨A3, B3, C3, rfl, HJ3'⟩, hb10⟩
     have HJ3 : Hid (JT c A3 B3 C3 (abs' c BK d (D - d + 1))) := by rw [← HSM.out]; exact HJ3'
     clear HJ3' q0 q1 q2 q3 q4 q5 q6 q7 q8 q9 q10 q11 qf p0 p1 p2 p3 p4 p5 p6 p7 p8 p9 p10 p11 pf
     have bA10 := bA9.belowAll hb10; have bM10 := bM9.belowAll hb10; have bR10 := bR9.belowAll hb10; have bS10 := bS9.belowAll hb10; have hbw10 := bStep hb9 hb10
     clear bA9 bM9 bR9 bS9 hb9 hb10
     obtain ⟨q0, q1, q2, q3, q4, q5, q6, q7, q8, q9, q10, q11, qf⟩ := bM10.cells
     go_upto_region 12 with fail
     clear q0 q1 q2 q3 q4 q5 q6 q7 q8 q9 q10 q11 qf
     obtain ⟨w11, hw11, bM11, hb11, hJ11, hB11, _⟩ := pk12 bM10 hbw10 HN.out.2.1 A3 B3 C3
     rw [hw11]
     have bA11 := hJ11 _ _ _ _ bA10 HN.out.2.2.1; have bR11 := hJ11 _ _ _ _ bR10 HN.out.2.2.2.2.2.2; have bS11 := hB11 _ _ _ _ _ bS10 HN.out.2.2.2.2.1
     clear hw11 bM10 bA10 bR10 bS10 hbw10 hJ11 hB11
     go_wp2
     go_roundw
     case measure => simp [intOf]; omega
     case rel =>
      have e1 : d - 1 + 1 = d := by omega
      have e2 : D - (d - 1) = D - d + 1 := by omega
      refine ⟨d - 1, A2, B2, C2, A3, B3, C3, ?_, by omega, ?_, ?_, hb11, bA11, bM11, bS11, bR11⟩
      ·congr 1; go_num
      ·rw [e1, e2]; exact HJ2
      ·rw [e1, e2]; exact HJ3
    ·have hki : ¬ (0 : Int) < (d : Int) := by omega
     have hd2 : d = 0 := by omega
     subst hd2
     rw [Nat.sub_zero] at HJM
     obtain ⟨q0, q1, q2, q3, q4, q5, q6, q7, q8, q9, q10, q11, qf⟩ := bM.cells
     obtain ⟨r0, r1, r2, r3, r4, r5, r6, r7, r8, r9, r10, r11, rf⟩ := bR.cells
     go_wp2
     refine bodyPost_ret (v := .agg #[.int .u64 (limb 0 U), .int .u64 (limb 1 U), .int .u64 (limb 2 U), .int .u64 (limb 3 U), .int .u64 (limb 0 V), .int .u64 (limb 1 V), .int .u64 (limb 2 V), .int .u64 (limb 3 V), .int .u64 (limb 0 O), .int .u64 (limb 1 O), .int .u64 (limb 2 O), .int .u64 (limb 3 O)]) (by simp [results, Tryz.results92, go_sem, r0, r1, r2, r3, r4, r5, r6, r7, r8, r9, r10, r11]) rfl ⟨⟨U, V, O, rfl, by rw [← HAB.out]; exact HJM.out⟩, ?_⟩
     exact bSet12 hbr HL.out.1 _ _ _ _ _ _ _ _ _ _ _ _
end Go.Proofs.YtdeijnlbencfdaaGreatDoor
