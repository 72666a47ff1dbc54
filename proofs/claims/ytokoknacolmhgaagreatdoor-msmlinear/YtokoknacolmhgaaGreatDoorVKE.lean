import Derived.Test.YtokoknacolmhgaaGreatDoorVKD
import Derived.Test.YtokoknacolmhgaaGreatDoorVM2
set_option maxHeartbeats 16000000
namespace Go.Proofs.YtokoknacolmhgaaGreatDoor
open Go.RowKit
set_option maxRecDepth 20000 in
theorem opposite_any (c x y : Nat) (i : Bool) (hc : c < 4) (hy : y < 115792089237316195423570985008687907853269984665640564039457584007913129639936) (w : World) (hg : GlobC w) : Calls Tryz.prog 43 #[.int .i64 (c : Int), .agg #[.int .u64 (limb 0 x), .int .u64 (limb 1 x), .int .u64 (limb 2 x), .int .u64 (limb 3 x), .int .u64 (limb 0 y), .int .u64 (limb 1 y), .int .u64 (limb 2 y), .int .u64 (limb 3 y), .bool i]] w fun e w' => e = .returned (.agg #[.int .u64 (limb 0 x), .int .u64 (limb 1 x), .int .u64 (limb 2 x), .int .u64 (limb 3 x), .int .u64 (limb 0 ((subP c 0 y))), .int .u64 (limb 1 ((subP c 0 y))), .int .u64 (limb 2 ((subP c 0 y))), .int .u64 (limb 3 ((subP c 0 y))), .bool false]) ∧ Below w.heap.size w w' := by
 have HG0 : Hid (GlobC w) := hg
 have HN : Hid (∀ w, Glob w → _) := fun w hg => fNeg_any c y hc hy w hg
 obtain ⟨ny, eny⟩ : ∃ z, z = subP c 0 y := ⟨_, rfl⟩
 rw [← eny] at HN ⊢
 clear hg eny
 go_enter Tryz.func43, Tryz.ntmps43
 go_upto_region 1 with fail
 obtain ⟨w0, hw0⟩ : ∃ w0 : World, w0 = (w.alloc (.cells #[.int .u64 (limb 0 x), .int .u64 (limb 1 x), .int .u64 (limb 2 x), .int .u64 (limb 3 x), .int .u64 (limb 0 y), .int .u64 (limb 1 y), .int .u64 (limb 2 y), .int .u64 (limb 3 y), .bool i] 30)).alloc (.cells #[.int .u64 0, .int .u64 0, .int .u64 0, .int .u64 0, .int .u64 0, .int .u64 0, .int .u64 0, .int .u64 0, .bool false] 30) := ⟨_, rfl⟩
 have bp : Pt w0 w.heap.size x y i := by rw [hw0]; exact (Pt.newAt _ _ _ _ _ rfl).alloc _
 have br : Pt w0 (w.heap.size + 1) 0 0 false := by rw [hw0]; exact Pt.zeroAt _ _ (by simp)
 have hbw0 : Below w.heap.size w w0 := by rw [hw0]; exact bAlloc ((Below.refl _ _).alloc (Nat.le_refl _) _) _
 have hrw : w.heap.size ≤ w.heap.size + 1 := Nat.le_succ _
 rw [← hw0]
 clear hw0
 have HG : Hid (GlobC w0) := HG0.out.below hbw0
 have HS0 : Hid (Below w0.heap.size w0 w0.drew) := (Below.refl _ _).drew
 refine wp_region_Z (fun w' => Below w0.heap.size w0 w') 7 (by kernel_rfl) ?_
 refine zs 0 5 (.pointer (some ⟨w.heap.size, 0, none⟩)) HS0.out ?_
 refine zT 1 6 (.agg #[.int .u64 (limb 0 x), .int .u64 (limb 1 x), .int .u64 (limb 2 x), .int .u64 (limb 3 x)]) rfl rfl (fun w hSw => by (obtain ⟨q0, q1, q2, q3, q4, q5, q6, q7, q8, qf⟩ := (bp.belowAll hSw).cells; clear hSw; go_simp)) HS0.out ?_
 refine zs 2 7 (.int .i64 (c : Int)) HS0.out ?_
 refine zs 3 8 (.pointer (some ⟨w.heap.size, 4, none⟩)) HS0.out ?_
 refine zT 4 9 (.agg #[.int .u64 (limb 0 y), .int .u64 (limb 1 y), .int .u64 (limb 2 y), .int .u64 (limb 3 y)]) rfl rfl (fun w hSw => by (obtain ⟨q0, q1, q2, q3, q4, q5, q6, q7, q8, qf⟩ := (bp.belowAll hSw).cells; clear hSw; go_simp)) HS0.out ?_
 refine zo 5 rfl (fun K hK => ?_)
 go_simp
 refine (HN.out w0.drew (HG.out.below (HS0.out)).1).mono ?_
 rintro e wK1 ⟨rfl, hbK1⟩
 have hSK1 := bStep HS0.out hbK1
 go_wp2_with fail
 refine hK.out _ _ (fun _ => hSK1) ?_
 clear hK K
 refine zs 6 11 (.agg #[.int .u64 (limb 0 x), .int .u64 (limb 1 x), .int .u64 (limb 2 x), .int .u64 (limb 3 x), .int .u64 (limb 0 ny), .int .u64 (limb 1 ny), .int .u64 (limb 2 ny), .int .u64 (limb 3 ny), .bool false]) hSK1 ?_
 refine zo 7 rfl (fun K hK => ?_)
 obtain ⟨r0, r1, r2, r3, r4, r5, r6, r7, r8, rf⟩ := (br.belowAll (hSK1)).cells
 go_simp
 refine hK.out _ _ (fun h => absurd rfl h) ?_
 clear hK K
 refine zd ?_ _
 go_wp2
 refine bodyPost_ret (v := .agg #[.int .u64 (limb 0 x), .int .u64 (limb 1 x), .int .u64 (limb 2 x), .int .u64 (limb 3 x), .int .u64 (limb 0 ny), .int .u64 (limb 1 ny), .int .u64 (limb 2 ny), .int .u64 (limb 3 ny), .bool false]) (by simp [results, Tryz.results43, go_sem, r0, r1, r2, r3, r4, r5, r6, r7, r8]) rfl ⟨rfl, ?_⟩
 exact bSet9 (bStep hbw0 (hSK1)) hrw _ _ _ _ _ _ _ _ _
end Go.Proofs.YtokoknacolmhgaaGreatDoor
namespace Go.Proofs.YtokoknacolmhgaaGreatDoor
open Go.RowKit
set_option maxRecDepth 20000 in
theorem slope_any (c x y u v : Nat) (hc : c < 4) (hx : x < 115792089237316195423570985008687907853269984665640564039457584007913129639936) (hy : y < 115792089237316195423570985008687907853269984665640564039457584007913129639936) (hu : u < 115792089237316195423570985008687907853269984665640564039457584007913129639936) (hv : v < 115792089237316195423570985008687907853269984665640564039457584007913129639936) (w : World) (hg : GlobC w) :
  Calls Tryz.prog 44 #[.int .i64 (c : Int), .agg #[.int .u64 (limb 0 x), .int .u64 (limb 1 x), .int .u64 (limb 2 x), .int .u64 (limb 3 x), .int .u64 (limb 0 y), .int .u64 (limb 1 y), .int .u64 (limb 2 y), .int .u64 (limb 3 y), .bool false], .agg #[.int .u64 (limb 0 u), .int .u64 (limb 1 u), .int .u64 (limb 2 u), .int .u64 (limb 3 u), .int .u64 (limb 0 v), .int .u64 (limb 1 v), .int .u64 (limb 2 v), .int .u64 (limb 3 v), .bool false]] w fun e w' => e = .returned (.agg #[.int .u64 (limb 0 (slopeC c x y u v (decide (x = u ∧ y = v)))), .int .u64 (limb 1 (slopeC c x y u v (decide (x = u ∧ y = v)))), .int .u64 (limb 2 (slopeC c x y u v (decide (x = u ∧ y = v)))), .int .u64 (limb 3 (slopeC c x y u v (decide (x = u ∧ y = v))))]) ∧ Below w.heap.size w w' := by
 have HG0 : Hid (GlobC w) := hg
 have HS1 : Hid (∀ w, Glob w → _) := fun w hg => fSub_any c v y hc hv hy w hg
 have HS2 : Hid (∀ w, Glob w → _) := fun w hg => fSub_any c u x hc hu hx w hg
 have HM1 : Hid (∀ w, Glob w → _) := fun w hg => fMul_any c x x hc hx hx w hg
 have HM2 : Hid (∀ w, Glob w → _) := fun w hg => fMul_any c 3 (mulP c x x) hc (by decide) (mulP_M _ _ _) w hg
 rw [three_agg] at HM2
 have HA : Hid (∀ w, Glob w → _) := fun w hg => fAdd_any c y y hc hy hy w hg
 have QI := fun w => eqlP x y u v false false hx hy hu hv w
 have RT : Hid (slopeC c x y u v true = mulP c (mulP c 3 (mulP c x x)) (invC c (addP c y y))) := rfl
 have RF : Hid (slopeC c x y u v false = mulP c (subP c v y) (invC c (subP c u x))) := rfl
 have HIT : Hid (∀ w, Glob w → _) := fun w hg => inv_c c (addP c y y) hc (addP_M _ _ _) w hg
 have HIF : Hid (∀ w, Glob w → _) := fun w hg => inv_c c (subP c u x) hc (subP_M _ _ _) w hg
 have HLT : Hid (∀ w, Glob w → _) := fun w hg => fMul_any c (mulP c 3 (mulP c x x)) (invC c (addP c y y)) hc (mulP_M _ _ _) (lt_M c _ (invC_lt _ _)) w hg
 have HLF : Hid (∀ w, Glob w → _) := fun w hg => fMul_any c (subP c v y) (invC c (subP c u x)) hc (subP_M _ _ _) (lt_M c _ (invC_lt _ _)) w hg
 obtain ⟨d1, e1⟩ : ∃ z, z = subP c v y := ⟨_, rfl⟩
 obtain ⟨d2, e2⟩ : ∃ z, z = subP c u x := ⟨_, rfl⟩
 obtain ⟨xx, e3⟩ : ∃ z, z = mulP c x x := ⟨_, rfl⟩
 rw [← e3] at HM1 HM2 RT HLT
 obtain ⟨x3, e4⟩ : ∃ z, z = mulP c 3 xx := ⟨_, rfl⟩
 obtain ⟨yy, e5⟩ : ∃ z, z = addP c y y := ⟨_, rfl⟩
 rw [← e1] at HS1 RF HLF
 rw [← e2] at HS2 RF HIF HLF
 rw [← e4] at HM2 RT HLT
 rw [← e5] at HA RT HIT HLT
 obtain ⟨i1, e6⟩ : ∃ z, z = invC c yy := ⟨_, rfl⟩
 obtain ⟨i2, e7⟩ : ∃ z, z = invC c d2 := ⟨_, rfl⟩
 rw [← e6] at HIT RT HLT
 rw [← e7] at HIF RF HLF
 obtain ⟨s1, e8⟩ : ∃ z, z = mulP c x3 i1 := ⟨_, rfl⟩
 obtain ⟨s2, e9⟩ : ∃ z, z = mulP c d1 i2 := ⟨_, rfl⟩
 rw [← e8] at RT HLT
 rw [← e9] at RF HLF
 clear hg e1 e2 e3 e4 e5 e6 e7 e8 e9
 obtain ⟨ans, eans⟩ : ∃ z, z = slopeC c x y u v (decide (x = u ∧ y = v)) := ⟨_, rfl⟩
 rw [← eans]
 have EA : Hid (ans = slopeC c x y u v (decide (x = u ∧ y = v))) := eans
 clear eans
 go_enter Tryz.func44, Tryz.ntmps44
 go_upto_region 1 with fail
 obtain ⟨w0, hw0⟩ : ∃ w0 : World, w0 = ((w.alloc (.cells #[.int .u64 (limb 0 x), .int .u64 (limb 1 x), .int .u64 (limb 2 x), .int .u64 (limb 3 x), .int .u64 (limb 0 y), .int .u64 (limb 1 y), .int .u64 (limb 2 y), .int .u64 (limb 3 y), .bool false] 30)).alloc (.cells #[.int .u64 (limb 0 u), .int .u64 (limb 1 u), .int .u64 (limb 2 u), .int .u64 (limb 3 u), .int .u64 (limb 0 v), .int .u64 (limb 1 v), .int .u64 (limb 2 v), .int .u64 (limb 3 v), .bool false] 30)).alloc (.cells #[.int .u64 0, .int .u64 0, .int .u64 0, .int .u64 0] 28) := ⟨_, rfl⟩
 have bp : Pt w0 w.heap.size x y false := by rw [hw0]; exact ((Pt.newAt _ _ _ _ _ rfl).alloc _).alloc _
 have bq : Pt w0 (w.heap.size + 1) u v false := by rw [hw0]; exact (Pt.newAt _ _ _ _ _ (by simp)).alloc _
 have br : Blk w0 28 (w.heap.size + 1 + 1) (fun _ => 0) := by rw [hw0]; exact Blk.newAt _ _ _ (fun _ => 0) (by simp)
 have hbw0 : Below w.heap.size w w0 := by rw [hw0]; exact bAlloc (bAlloc ((Below.refl _ _).alloc (Nat.le_refl _) _) _) _
 have hrw : w.heap.size ≤ w.heap.size + 1 + 1 := by omega
 rw [← hw0]
 clear hw0
 have HG : Hid (GlobC w0) := HG0.out.below hbw0
 go_cut [7, 8] (fun p7 p8 wx => ∃ N7 N8 : Nat, p7 = .pointer (some ⟨N7, 0, none⟩) ∧ p8 = .pointer (some ⟨N8, 0, none⟩) ∧ N7 ≠ N8 ∧ w0.heap.size ≤ N7 ∧ w0.heap.size ≤ N8 ∧ Blk wx 28 N7 (fun i => limb i d1) ∧ Blk wx 28 N8 (fun i => limb i d2) ∧ Below w0.heap.size w0 wx)
 case first =>
  have HS0 : Hid (Below w0.heap.size w0 w0.drew) := (Below.refl _ _).drew
  refine wp_region_Z (fun w' => Kp w0 w') 99 (by kernel_rfl) ?_
  refine zs 0 11 (.int .i64 (c : Int)) (HS0.out) ?_
  refine zs 1 12 (.pointer (some ⟨(w.heap.size + 1), 4, none⟩)) (HS0.out) ?_
  refine zT 2 13 (.agg #[.int .u64 (limb 0 v), .int .u64 (limb 1 v), .int .u64 (limb 2 v), .int .u64 (limb 3 v)]) rfl rfl (fun w hSw => by (obtain ⟨q0, q1, q2, q3, q4, q5, q6, q7, q8, qf⟩ := (bq.belowAll hSw).cells; clear hSw; go_simp)) (HS0.out) ?_
  refine zs 3 14 (.pointer (some ⟨w.heap.size, 4, none⟩)) (HS0.out) ?_
  refine zT 4 15 (.agg #[.int .u64 (limb 0 y), .int .u64 (limb 1 y), .int .u64 (limb 2 y), .int .u64 (limb 3 y)]) rfl rfl (fun w hSw => by (obtain ⟨q0, q1, q2, q3, q4, q5, q6, q7, q8, qf⟩ := (bp.belowAll hSw).cells; clear hSw; go_simp)) (HS0.out) ?_
  refine zs 6 17 (.int .i64 (c : Int)) (HS0.out) ?_
  refine zs 7 18 (.pointer (some ⟨(w.heap.size + 1), 0, none⟩)) (HS0.out) ?_
  refine zT 8 19 (.agg #[.int .u64 (limb 0 u), .int .u64 (limb 1 u), .int .u64 (limb 2 u), .int .u64 (limb 3 u)]) rfl rfl (fun w hSw => by (obtain ⟨q0, q1, q2, q3, q4, q5, q6, q7, q8, qf⟩ := (bq.belowAll hSw).cells; clear hSw; go_simp)) (HS0.out) ?_
  refine zs 9 20 (.pointer (some ⟨w.heap.size, 0, none⟩)) (HS0.out) ?_
  refine zT 10 21 (.agg #[.int .u64 (limb 0 x), .int .u64 (limb 1 x), .int .u64 (limb 2 x), .int .u64 (limb 3 x)]) rfl rfl (fun w hSw => by (obtain ⟨q0, q1, q2, q3, q4, q5, q6, q7, q8, qf⟩ := (bp.belowAll hSw).cells; clear hSw; go_simp)) (HS0.out) ?_
  refine wpZ_three (i := 5) (j := 12) (l := 13) (by kernel_rfl) rfl rfl rfl (fun K hK => ?_) (fun K hK => ?_) (fun K hK => ?_) 
  ·go_simp
   refine (HS1.out w0.drew (HG.out.below (HS0.out)).1).mono ?_
   rintro e wK1 ⟨rfl, hbK1⟩
   have hSK1 := bStep HS0.out hbK1
   go_wp2_with fail
   refine hK.out _ _ (fun _ => hSK1) ?_
   clear hK K
   refine wpZ_three (i := 11) (j := 12) (l := 13) (by kernel_rfl) rfl rfl rfl (fun K hK => ?_) (fun K hK => ?_) (fun K hK => ?_) 
   ·go_simp
    refine (HS2.out wK1 (HG.out.below (hSK1)).1).mono ?_
    rintro e wK2 ⟨rfl, hbK2⟩
    have hSK2 := bStep hSK1 hbK2
    go_wp2_with fail
    refine hK.out _ _ (fun _ => hSK2) ?_
    clear hK K
    refine zw 12 13 rfl rfl (fun K hK => ?_) (fun K hK => ?_) 
    ·go_simp
     obtain ⟨N7_3, wK3, hN, hw, hSK3, b7_3, lN7_3, hx⟩ := pkA hSK2
     rw [hw, hN]
     refine hK.out _ _ (fun _ => hSK3) ?_
     clear hK K hw hN hx
     refine zo 13 rfl (fun K hK => ?_)
     go_simp
     obtain ⟨N8_4, wK4, hN, hw, hSK4, b8_4, lN8_4, hx⟩ := pkA hSK3
     rw [hw, hN]
     refine hK.out _ _ (fun _ => hSK4) ?_
     have b7_4 := b7_3.belowAll hx
     have neN7_3_N8_4 : N7_3 ≠ N8_4 := by have := b7_3.lt; omega
     clear hK K hw hN hx
     refine zo 14 rfl (fun K hK => ?_)
     have cS := b7_4.cell; have fS := b7_4.frozen
     go_simp
     obtain ⟨wK5, hw, hSK5, b7_5, hx⟩ := pkS b7_4 (hSK4) lN7_3 d1
     rw [hw]
     refine hK.out _ _ (fun _ => hSK5) ?_
     have b8_5 := hx b8_4 (by omega)
     clear hK K cS fS hw hx
     refine zo 15 rfl (fun K hK => ?_)
     have cS := b8_5.cell; have fS := b8_5.frozen
     go_simp
     obtain ⟨wK6, hw, hSK6, b8_6, hx⟩ := pkS b8_5 (hSK5) lN8_4 d2
     rw [hw]
     refine hK.out _ _ (fun _ => hSK6) ?_
     have b7_6 := hx b7_5 (by omega)
     clear hK K cS fS hw hx
     refine zd ?_ _
     go_wp2_with fail
     go_meet
     exact ⟨_, _, rfl, rfl, by omega, lN7_3, lN8_4, b7_6, b8_6, hSK6⟩
    ·go_simp
     obtain ⟨N8_3, wK3, hN, hw, hSK3, b8_3, lN8_3, hx⟩ := pkA hSK2
     rw [hw, hN]
     refine hK.out _ _ (fun _ => hSK3) ?_
     clear hK K hw hN hx
     refine zo 12 rfl (fun K hK => ?_)
     go_simp
     obtain ⟨N7_4, wK4, hN, hw, hSK4, b7_4, lN7_4, hx⟩ := pkA hSK3
     rw [hw, hN]
     refine hK.out _ _ (fun _ => hSK4) ?_
     have b8_4 := b8_3.belowAll hx
     have neN8_3_N7_4 : N8_3 ≠ N7_4 := by have := b8_3.lt; omega
     clear hK K hw hN hx
     refine zo 14 rfl (fun K hK => ?_)
     have cS := b7_4.cell; have fS := b7_4.frozen
     go_simp
     obtain ⟨wK5, hw, hSK5, b7_5, hx⟩ := pkS b7_4 (hSK4) lN7_4 d1
     rw [hw]
     refine hK.out _ _ (fun _ => hSK5) ?_
     have b8_5 := hx b8_4 (by omega)
     clear hK K cS fS hw hx
     refine zo 15 rfl (fun K hK => ?_)
     have cS := b8_5.cell; have fS := b8_5.frozen
     go_simp
     obtain ⟨wK6, hw, hSK6, b8_6, hx⟩ := pkS b8_5 (hSK5) lN8_3 d2
     rw [hw]
     refine hK.out _ _ (fun _ => hSK6) ?_
     have b7_6 := hx b7_5 (by omega)
     clear hK K cS fS hw hx
     refine zd ?_ _
     go_wp2_with fail
     go_meet
     exact ⟨_, _, rfl, rfl, by omega, lN7_4, lN8_3, b7_6, b8_6, hSK6⟩
   ·go_simp
    obtain ⟨N7_2, wK2, hN, hw, hSK2, b7_2, lN7_2, hx⟩ := pkA hSK1
    rw [hw, hN]
    refine hK.out _ _ (fun _ => hSK2) ?_
    clear hK K hw hN hx
    refine zw 11 13 rfl rfl (fun K hK => ?_) (fun K hK => ?_) 
    ·go_simp
     refine (HS2.out wK2 (HG.out.below (hSK2)).1).mono ?_
     rintro e wK3 ⟨rfl, hbK3⟩
     have hSK3 := bStep hSK2 hbK3
     go_wp2_with fail
     refine hK.out _ _ (fun _ => hSK3) ?_
     clear hK K
     have b7_3 := b7_2.belowAll hbK3
     refine zo 13 rfl (fun K hK => ?_)
     go_simp
     obtain ⟨N8_4, wK4, hN, hw, hSK4, b8_4, lN8_4, hx⟩ := pkA hSK3
     rw [hw, hN]
     refine hK.out _ _ (fun _ => hSK4) ?_
     have b7_4 := b7_3.belowAll hx
     have neN7_2_N8_4 : N7_2 ≠ N8_4 := by have := b7_3.lt; omega
     clear hK K hw hN hx
     refine zo 14 rfl (fun K hK => ?_)
     have cS := b7_4.cell; have fS := b7_4.frozen
     go_simp
     obtain ⟨wK5, hw, hSK5, b7_5, hx⟩ := pkS b7_4 (hSK4) lN7_2 d1
     rw [hw]
     refine hK.out _ _ (fun _ => hSK5) ?_
     have b8_5 := hx b8_4 (by omega)
     clear hK K cS fS hw hx
     refine zo 15 rfl (fun K hK => ?_)
     have cS := b8_5.cell; have fS := b8_5.frozen
     go_simp
     obtain ⟨wK6, hw, hSK6, b8_6, hx⟩ := pkS b8_5 (hSK5) lN8_4 d2
     rw [hw]
     refine hK.out _ _ (fun _ => hSK6) ?_
     have b7_6 := hx b7_5 (by omega)
     clear hK K cS fS hw hx
     refine zd ?_ _
     go_wp2_with fail
     go_meet
     exact ⟨_, _, rfl, rfl, by omega, lN7_2, lN8_4, b7_6, b8_6, hSK6⟩
    ·go_simp
     obtain ⟨N8_3, wK3, hN, hw, hSK3, b8_3, lN8_3, hx⟩ := pkA hSK2
     rw [hw, hN]
     refine hK.out _ _ (fun _ => hSK3) ?_
     have b7_3 := b7_2.belowAll hx
     have neN7_2_N8_3 : N7_2 ≠ N8_3 := by have := b7_2.lt; omega
     clear hK K hw hN hx
     refine zo 11 rfl (fun K hK => ?_)
     go_simp
     refine (HS2.out wK3 (HG.out.below (hSK3)).1).mono ?_
     rintro e wK4 ⟨rfl, hbK4⟩
     have hSK4 := bStep hSK3 hbK4
     go_wp2_with fail
     refine hK.out _ _ (fun _ => hSK4) ?_
     clear hK K
     have b7_4 := b7_3.belowAll hbK4
     have b8_4 := b8_3.belowAll hbK4
     refine zo 14 rfl (fun K hK => ?_)
     have cS := b7_4.cell; have fS := b7_4.frozen
     go_simp
     obtain ⟨wK5, hw, hSK5, b7_5, hx⟩ := pkS b7_4 (hSK4) lN7_2 d1
     rw [hw]
     refine hK.out _ _ (fun _ => hSK5) ?_
     have b8_5 := hx b8_4 (by omega)
     clear hK K cS fS hw hx
     refine zo 15 rfl (fun K hK => ?_)
     have cS := b8_5.cell; have fS := b8_5.frozen
     go_simp
     obtain ⟨wK6, hw, hSK6, b8_6, hx⟩ := pkS b8_5 (hSK5) lN8_3 d2
     rw [hw]
     refine hK.out _ _ (fun _ => hSK6) ?_
     have b7_6 := hx b7_5 (by omega)
     clear hK K cS fS hw hx
     refine zd ?_ _
     go_wp2_with fail
     go_meet
     exact ⟨_, _, rfl, rfl, by omega, lN7_2, lN8_3, b7_6, b8_6, hSK6⟩
   ·go_simp
    obtain ⟨N8_2, wK2, hN, hw, hSK2, b8_2, lN8_2, hx⟩ := pkA hSK1
    rw [hw, hN]
    refine hK.out _ _ (fun _ => hSK2) ?_
    clear hK K hw hN hx
    refine zw 11 12 rfl rfl (fun K hK => ?_) (fun K hK => ?_) 
    ·go_simp
     refine (HS2.out wK2 (HG.out.below (hSK2)).1).mono ?_
     rintro e wK3 ⟨rfl, hbK3⟩
     have hSK3 := bStep hSK2 hbK3
     go_wp2_with fail
     refine hK.out _ _ (fun _ => hSK3) ?_
     clear hK K
     have b8_3 := b8_2.belowAll hbK3
     refine zo 12 rfl (fun K hK => ?_)
     go_simp
     obtain ⟨N7_4, wK4, hN, hw, hSK4, b7_4, lN7_4, hx⟩ := pkA hSK3
     rw [hw, hN]
     refine hK.out _ _ (fun _ => hSK4) ?_
     have b8_4 := b8_3.belowAll hx
     have neN8_2_N7_4 : N8_2 ≠ N7_4 := by have := b8_3.lt; omega
     clear hK K hw hN hx
     refine zo 14 rfl (fun K hK => ?_)
     have cS := b7_4.cell; have fS := b7_4.frozen
     go_simp
     obtain ⟨wK5, hw, hSK5, b7_5, hx⟩ := pkS b7_4 (hSK4) lN7_4 d1
     rw [hw]
     refine hK.out _ _ (fun _ => hSK5) ?_
     have b8_5 := hx b8_4 (by omega)
     clear hK K cS fS hw hx
     refine zo 15 rfl (fun K hK => ?_)
     have cS := b8_5.cell; have fS := b8_5.frozen
     go_simp
     obtain ⟨wK6, hw, hSK6, b8_6, hx⟩ := pkS b8_5 (hSK5) lN8_2 d2
     rw [hw]
     refine hK.out _ _ (fun _ => hSK6) ?_
     have b7_6 := hx b7_5 (by omega)
     clear hK K cS fS hw hx
     refine zd ?_ _
     go_wp2_with fail
     go_meet
     exact ⟨_, _, rfl, rfl, by omega, lN7_4, lN8_2, b7_6, b8_6, hSK6⟩
    ·go_simp
     obtain ⟨N7_3, wK3, hN, hw, hSK3, b7_3, lN7_3, hx⟩ := pkA hSK2
     rw [hw, hN]
     refine hK.out _ _ (fun _ => hSK3) ?_
     have b8_3 := b8_2.belowAll hx
     have neN8_2_N7_3 : N8_2 ≠ N7_3 := by have := b8_2.lt; omega
     clear hK K hw hN hx
     refine zo 11 rfl (fun K hK => ?_)
     go_simp
     refine (HS2.out wK3 (HG.out.below (hSK3)).1).mono ?_
     rintro e wK4 ⟨rfl, hbK4⟩
     have hSK4 := bStep hSK3 hbK4
     go_wp2_with fail
     refine hK.out _ _ (fun _ => hSK4) ?_
     clear hK K
     have b8_4 := b8_3.belowAll hbK4
     have b7_4 := b7_3.belowAll hbK4
     refine zo 14 rfl (fun K hK => ?_)
     have cS := b7_4.cell; have fS := b7_4.frozen
     go_simp
     obtain ⟨wK5, hw, hSK5, b7_5, hx⟩ := pkS b7_4 (hSK4) lN7_3 d1
     rw [hw]
     refine hK.out _ _ (fun _ => hSK5) ?_
     have b8_5 := hx b8_4 (by omega)
     clear hK K cS fS hw hx
     refine zo 15 rfl (fun K hK => ?_)
     have cS := b8_5.cell; have fS := b8_5.frozen
     go_simp
     obtain ⟨wK6, hw, hSK6, b8_6, hx⟩ := pkS b8_5 (hSK5) lN8_2 d2
     rw [hw]
     refine hK.out _ _ (fun _ => hSK6) ?_
     have b7_6 := hx b7_5 (by omega)
     clear hK K cS fS hw hx
     refine zd ?_ _
     go_wp2_with fail
     go_meet
     exact ⟨_, _, rfl, rfl, by omega, lN7_3, lN8_2, b7_6, b8_6, hSK6⟩
  ·go_simp
   obtain ⟨N7_1, wK1, hN, hw, hSK1, b7_1, lN7_1, hx⟩ := pkD w0
   rw [hw, hN]
   refine hK.out _ _ (fun _ => hSK1) ?_
   clear hK K hw hN hx
   refine zw 5 13 rfl rfl (fun K hK => ?_) (fun K hK => ?_) 
   ·go_simp
    refine (HS1.out wK1 (HG.out.below (hSK1)).1).mono ?_
    rintro e wK2 ⟨rfl, hbK2⟩
    have hSK2 := bStep hSK1 hbK2
    go_wp2_with fail
    refine hK.out _ _ (fun _ => hSK2) ?_
    clear hK K
    have b7_2 := b7_1.belowAll hbK2
    refine zw 11 13 rfl rfl (fun K hK => ?_) (fun K hK => ?_) 
    ·go_simp
     refine (HS2.out wK2 (HG.out.below (hSK2)).1).mono ?_
     rintro e wK3 ⟨rfl, hbK3⟩
     have hSK3 := bStep hSK2 hbK3
     go_wp2_with fail
     refine hK.out _ _ (fun _ => hSK3) ?_
     clear hK K
     have b7_3 := b7_2.belowAll hbK3
     refine zo 13 rfl (fun K hK => ?_)
     go_simp
     obtain ⟨N8_4, wK4, hN, hw, hSK4, b8_4, lN8_4, hx⟩ := pkA hSK3
     rw [hw, hN]
     refine hK.out _ _ (fun _ => hSK4) ?_
     have b7_4 := b7_3.belowAll hx
     have neN7_1_N8_4 : N7_1 ≠ N8_4 := by have := b7_3.lt; omega
     clear hK K hw hN hx
     refine zo 14 rfl (fun K hK => ?_)
     have cS := b7_4.cell; have fS := b7_4.frozen
     go_simp
     obtain ⟨wK5, hw, hSK5, b7_5, hx⟩ := pkS b7_4 (hSK4) lN7_1 d1
     rw [hw]
     refine hK.out _ _ (fun _ => hSK5) ?_
     have b8_5 := hx b8_4 (by omega)
     clear hK K cS fS hw hx
     refine zo 15 rfl (fun K hK => ?_)
     have cS := b8_5.cell; have fS := b8_5.frozen
     go_simp
     obtain ⟨wK6, hw, hSK6, b8_6, hx⟩ := pkS b8_5 (hSK5) lN8_4 d2
     rw [hw]
     refine hK.out _ _ (fun _ => hSK6) ?_
     have b7_6 := hx b7_5 (by omega)
     clear hK K cS fS hw hx
     refine zd ?_ _
     go_wp2_with fail
     go_meet
     exact ⟨_, _, rfl, rfl, by omega, lN7_1, lN8_4, b7_6, b8_6, hSK6⟩
    ·go_simp
     obtain ⟨N8_3, wK3, hN, hw, hSK3, b8_3, lN8_3, hx⟩ := pkA hSK2
     rw [hw, hN]
     refine hK.out _ _ (fun _ => hSK3) ?_
     have b7_3 := b7_2.belowAll hx
     have neN7_1_N8_3 : N7_1 ≠ N8_3 := by have := b7_2.lt; omega
     clear hK K hw hN hx
     refine zo 11 rfl (fun K hK => ?_)
     go_simp
     refine (HS2.out wK3 (HG.out.below (hSK3)).1).mono ?_
     rintro e wK4 ⟨rfl, hbK4⟩
     have hSK4 := bStep hSK3 hbK4
     go_wp2_with fail
     refine hK.out _ _ (fun _ => hSK4) ?_
     clear hK K
     have b7_4 := b7_3.belowAll hbK4
     have b8_4 := b8_3.belowAll hbK4
     refine zo 14 rfl (fun K hK => ?_)
     have cS := b7_4.cell; have fS := b7_4.frozen
     go_simp
     obtain ⟨wK5, hw, hSK5, b7_5, hx⟩ := pkS b7_4 (hSK4) lN7_1 d1
     rw [hw]
     refine hK.out _ _ (fun _ => hSK5) ?_
     have b8_5 := hx b8_4 (by omega)
     clear hK K cS fS hw hx
     refine zo 15 rfl (fun K hK => ?_)
     have cS := b8_5.cell; have fS := b8_5.frozen
     go_simp
     obtain ⟨wK6, hw, hSK6, b8_6, hx⟩ := pkS b8_5 (hSK5) lN8_3 d2
     rw [hw]
     refine hK.out _ _ (fun _ => hSK6) ?_
     have b7_6 := hx b7_5 (by omega)
     clear hK K cS fS hw hx
     refine zd ?_ _
     go_wp2_with fail
     go_meet
     exact ⟨_, _, rfl, rfl, by omega, lN7_1, lN8_3, b7_6, b8_6, hSK6⟩
   ·go_simp
    obtain ⟨N8_2, wK2, hN, hw, hSK2, b8_2, lN8_2, hx⟩ := pkA hSK1
    rw [hw, hN]
    refine hK.out _ _ (fun _ => hSK2) ?_
    have b7_2 := b7_1.belowAll hx
    have neN7_1_N8_2 : N7_1 ≠ N8_2 := by have := b7_1.lt; omega
    clear hK K hw hN hx
    refine zo 5 rfl (fun K hK => ?_)
    go_simp
    refine (HS1.out wK2 (HG.out.below (hSK2)).1).mono ?_
    rintro e wK3 ⟨rfl, hbK3⟩
    have hSK3 := bStep hSK2 hbK3
    go_wp2_with fail
    refine hK.out _ _ (fun _ => hSK3) ?_
    clear hK K
    have b7_3 := b7_2.belowAll hbK3
    have b8_3 := b8_2.belowAll hbK3
    refine zo 11 rfl (fun K hK => ?_)
    go_simp
    refine (HS2.out wK3 (HG.out.below (hSK3)).1).mono ?_
    rintro e wK4 ⟨rfl, hbK4⟩
    have hSK4 := bStep hSK3 hbK4
    go_wp2_with fail
    refine hK.out _ _ (fun _ => hSK4) ?_
    clear hK K
    have b7_4 := b7_3.belowAll hbK4
    have b8_4 := b8_3.belowAll hbK4
    refine zo 14 rfl (fun K hK => ?_)
    have cS := b7_4.cell; have fS := b7_4.frozen
    go_simp
    obtain ⟨wK5, hw, hSK5, b7_5, hx⟩ := pkS b7_4 (hSK4) lN7_1 d1
    rw [hw]
    refine hK.out _ _ (fun _ => hSK5) ?_
    have b8_5 := hx b8_4 (by omega)
    clear hK K cS fS hw hx
    refine zo 15 rfl (fun K hK => ?_)
    have cS := b8_5.cell; have fS := b8_5.frozen
    go_simp
    obtain ⟨wK6, hw, hSK6, b8_6, hx⟩ := pkS b8_5 (hSK5) lN8_2 d2
    rw [hw]
    refine hK.out _ _ (fun _ => hSK6) ?_
    have b7_6 := hx b7_5 (by omega)
    clear hK K cS fS hw hx
    refine zd ?_ _
    go_wp2_with fail
    go_meet
    exact ⟨_, _, rfl, rfl, by omega, lN7_1, lN8_2, b7_6, b8_6, hSK6⟩
  ·go_simp
   obtain ⟨N8_1, wK1, hN, hw, hSK1, b8_1, lN8_1, hx⟩ := pkD w0
   rw [hw, hN]
   refine hK.out _ _ (fun _ => hSK1) ?_
   clear hK K hw hN hx
   refine zw 5 12 rfl rfl (fun K hK => ?_) (fun K hK => ?_) 
   ·go_simp
    refine (HS1.out wK1 (HG.out.below (hSK1)).1).mono ?_
    rintro e wK2 ⟨rfl, hbK2⟩
    have hSK2 := bStep hSK1 hbK2
    go_wp2_with fail
    refine hK.out _ _ (fun _ => hSK2) ?_
    clear hK K
    have b8_2 := b8_1.belowAll hbK2
    refine zw 11 12 rfl rfl (fun K hK => ?_) (fun K hK => ?_) 
    ·go_simp
     refine (HS2.out wK2 (HG.out.below (hSK2)).1).mono ?_
     rintro e wK3 ⟨rfl, hbK3⟩
     have hSK3 := bStep hSK2 hbK3
     go_wp2_with fail
     refine hK.out _ _ (fun _ => hSK3) ?_
     clear hK K
     have b8_3 := b8_2.belowAll hbK3
     refine zo 12 rfl (fun K hK => ?_)
     go_simp
     obtain ⟨N7_4, wK4, hN, hw, hSK4, b7_4, lN7_4, hx⟩ := pkA hSK3
     rw [hw, hN]
     refine hK.out _ _ (fun _ => hSK4) ?_
     have b8_4 := b8_3.belowAll hx
     have neN8_1_N7_4 : N8_1 ≠ N7_4 := by have := b8_3.lt; omega
     clear hK K hw hN hx
     refine zo 14 rfl (fun K hK => ?_)
     have cS := b7_4.cell; have fS := b7_4.frozen
     go_simp
     obtain ⟨wK5, hw, hSK5, b7_5, hx⟩ := pkS b7_4 (hSK4) lN7_4 d1
     rw [hw]
     refine hK.out _ _ (fun _ => hSK5) ?_
     have b8_5 := hx b8_4 (by omega)
     clear hK K cS fS hw hx
     refine zo 15 rfl (fun K hK => ?_)
     have cS := b8_5.cell; have fS := b8_5.frozen
     go_simp
     obtain ⟨wK6, hw, hSK6, b8_6, hx⟩ := pkS b8_5 (hSK5) lN8_1 d2
     rw [hw]
     refine hK.out _ _ (fun _ => hSK6) ?_
     have b7_6 := hx b7_5 (by omega)
     clear hK K cS fS hw hx
     refine zd ?_ _
     go_wp2_with fail
     go_meet
     exact ⟨_, _, rfl, rfl, by omega, lN7_4, lN8_1, b7_6, b8_6, hSK6⟩
    ·go_simp
     obtain ⟨N7_3, wK3, hN, hw, hSK3, b7_3, lN7_3, hx⟩ := pkA hSK2
     rw [hw, hN]
     refine hK.out _ _ (fun _ => hSK3) ?_
     have b8_3 := b8_2.belowAll hx
     have neN8_1_N7_3 : N8_1 ≠ N7_3 := by have := b8_2.lt; omega
     clear hK K hw hN hx
     refine zo 11 rfl (fun K hK => ?_)
     go_simp
     refine (HS2.out wK3 (HG.out.below (hSK3)).1).mono ?_
     rintro e wK4 ⟨rfl, hbK4⟩
     have hSK4 := bStep hSK3 hbK4
     go_wp2_with fail
     refine hK.out _ _ (fun _ => hSK4) ?_
     clear hK K
     have b8_4 := b8_3.belowAll hbK4
     have b7_4 := b7_3.belowAll hbK4
     refine zo 14 rfl (fun K hK => ?_)
     have cS := b7_4.cell; have fS := b7_4.frozen
     go_simp
     obtain ⟨wK5, hw, hSK5, b7_5, hx⟩ := pkS b7_4 (hSK4) lN7_3 d1
     rw [hw]
     refine hK.out _ _ (fun _ => hSK5) ?_
     have b8_5 := hx b8_4 (by omega)
     clear hK K cS fS hw hx
     refine zo 15 rfl (fun K hK => ?_)
     have cS := b8_5.cell; have fS := b8_5.frozen
     go_simp
     obtain ⟨wK6, hw, hSK6, b8_6, hx⟩ := pkS b8_5 (hSK5) lN8_1 d2
     rw [hw]
     refine hK.out _ _ (fun _ => hSK6) ?_
     have b7_6 := hx b7_5 (by omega)
     clear hK K cS fS hw hx
     refine zd ?_ _
     go_wp2_with fail
     go_meet
     exact ⟨_, _, rfl, rfl, by omega, lN7_3, lN8_1, b7_6, b8_6, hSK6⟩
   ·go_simp
    obtain ⟨N7_2, wK2, hN, hw, hSK2, b7_2, lN7_2, hx⟩ := pkA hSK1
    rw [hw, hN]
    refine hK.out _ _ (fun _ => hSK2) ?_
    have b8_2 := b8_1.belowAll hx
    have neN8_1_N7_2 : N8_1 ≠ N7_2 := by have := b8_1.lt; omega
    clear hK K hw hN hx
    refine zo 5 rfl (fun K hK => ?_)
    go_simp
    refine (HS1.out wK2 (HG.out.below (hSK2)).1).mono ?_
    rintro e wK3 ⟨rfl, hbK3⟩
    have hSK3 := bStep hSK2 hbK3
    go_wp2_with fail
    refine hK.out _ _ (fun _ => hSK3) ?_
    clear hK K
    have b8_3 := b8_2.belowAll hbK3
    have b7_3 := b7_2.belowAll hbK3
    refine zo 11 rfl (fun K hK => ?_)
    go_simp
    refine (HS2.out wK3 (HG.out.below (hSK3)).1).mono ?_
    rintro e wK4 ⟨rfl, hbK4⟩
    have hSK4 := bStep hSK3 hbK4
    go_wp2_with fail
    refine hK.out _ _ (fun _ => hSK4) ?_
    clear hK K
    have b8_4 := b8_3.belowAll hbK4
    have b7_4 := b7_3.belowAll hbK4
    refine zo 14 rfl (fun K hK => ?_)
    have cS := b7_4.cell; have fS := b7_4.frozen
    go_simp
    obtain ⟨wK5, hw, hSK5, b7_5, hx⟩ := pkS b7_4 (hSK4) lN7_2 d1
    rw [hw]
    refine hK.out _ _ (fun _ => hSK5) ?_
    have b8_5 := hx b8_4 (by omega)
    clear hK K cS fS hw hx
    refine zo 15 rfl (fun K hK => ?_)
    have cS := b8_5.cell; have fS := b8_5.frozen
    go_simp
    obtain ⟨wK6, hw, hSK6, b8_6, hx⟩ := pkS b8_5 (hSK5) lN8_1 d2
    rw [hw]
    refine hK.out _ _ (fun _ => hSK6) ?_
    have b7_6 := hx b7_5 (by omega)
    clear hK K cS fS hw hx
    refine zd ?_ _
    go_wp2_with fail
    go_meet
    exact ⟨_, _, rfl, rfl, by omega, lN7_2, lN8_1, b7_6, b8_6, hSK6⟩
 obtain ⟨N7, N8, rfl, rfl, hne, l7, l8, b7, b8, hbx⟩ := hcut
 have bp1 := bp.belowAll hbx; have bq1 := bq.belowAll hbx; have br1 := br.belowAll hbx
 have lr := br.lt
 have hbw1 := bStep hbw0 hbx
 have HG1 : Hid (GlobC wc) := HG.out.below hbx
 have hN7 : w.heap.size + 1 + 1 < N7 := Nat.lt_of_lt_of_le lr l7
 have hN8 : w.heap.size + 1 + 1 < N8 := Nat.lt_of_lt_of_le lr l8
 clear bp bq br hbw0 hbx HG HS1 HS2 lr l7 l8
 obtain ⟨w1, hw1⟩ : ∃ x, x = wc := ⟨_, rfl⟩
 rw [← hw1] at b7 b8 bp1 bq1 br1 hbw1 HG1 ⊢
 clear hw1
 obtain ⟨q0, q1, q2, q3, q4, q5, q6, q7, q8, qf⟩ := bp1.cells
 obtain ⟨p0, p1, p2, p3, p4, p5, p6, p7, p8, pf⟩ := bq1.cells
 by_cases hs : x = u ∧ y = v
 ·have dS : decide (x = u ∧ y = v ∧ false = false) = true := decide_eq_true ⟨hs.1, hs.2, rfl⟩
  rw [dS] at QI
  have HV : Hid (ans = s1) := by show _ = _; rw [EA.out, decide_eq_true hs, RT.out]
  clear dS hs EA RT RF HIF HLF
  go_wp2_with fail
  refine (HM1.out _ HG1.out.1).mono ?_
  rintro e w2 ⟨rfl, hb2⟩
  have HG2 : Hid (GlobC w2) := HG1.out.below hb2
  clear p0 p1 p2 p3 p4 p5 p6 p7 p8 pf q0 q1 q2 q3 q4 q5 q6 q7 q8 qf
  go_wp2_with fail
  refine (HM2.out _ HG2.out.1).mono ?_
  rintro e w3 ⟨rfl, hb3⟩
  have hb13 : Below w1.heap.size w1 w3 := bStep hb2 hb3
  have c7 := (b7.belowAll hb13).cell; have f7 := (b7.belowAll hb13).frozen
  have hbw3 := bStep hbw1 hb13
  go_upto_region 4 with fail
  obtain ⟨w4, hw4⟩ : ∃ x : World, x = (((w3.setCell ⟨N7, 0, none⟩ (.int .u64 (limb 0 x3))).setCell ⟨N7, 1, none⟩ (.int .u64 (limb 1 x3))).setCell ⟨N7, 2, none⟩ (.int .u64 (limb 2 x3))).setCell ⟨N7, 3, none⟩ (.int .u64 (limb 3 x3)) := ⟨_, rfl⟩
  have b74 : Blk w4 28 N7 (fun i => limb i x3) := by rw [hw4]; exact (b7.belowAll hb13).set4 (fun i => limb i x3)
  have b84 : Blk w4 28 N8 (fun i => limb i d2) := by rw [hw4]; exact (b8.belowAll hb13).other4 (by omega) _ _ _ _
  have br4 : Blk w4 28 (w.heap.size + 1 + 1) (fun _ => 0) := by rw [hw4]; exact (br1.belowAll hb13).other4 (by omega) _ _ _ _
  have bp4 : Pt w4 w.heap.size x y false := by rw [hw4]; exact ((((bp1.belowAll hb13).other (by dsimp only; omega) _).other (by dsimp only; omega) _).other (by dsimp only; omega) _).other (by dsimp only; omega) _
  have hbw4 : Below w.heap.size w w4 := by rw [hw4]; exact bSet4 hbw3 (by omega) _ _ _ _
  have HG4 : Hid (GlobC w4) := HG0.out.below hbw4
  rw [← hw4]
  clear hw4 c7 f7 hb13 hb3 hb2 hbw3 hbw1 b7 b8 br1 bp1 bq1 HG2 HG1 HM1 HM2
  obtain ⟨q0, q1, q2, q3, q4, q5, q6, q7, q8, qf⟩ := bp4.cells
  go_wp2_with fail
  refine (HA.out _ HG4.out.1).mono ?_
  rintro e w5 ⟨rfl, hb5⟩
  have c8 := (b84.belowAll hb5).cell; have f8 := (b84.belowAll hb5).frozen
  have hbw5 := bStep hbw4 hb5
  clear q0 q1 q2 q3 q4 q5 q6 q7 q8 qf
  go_upto_region 5 with fail
  obtain ⟨w6, hw6⟩ : ∃ x : World, x = (((w5.setCell ⟨N8, 0, none⟩ (.int .u64 (limb 0 yy))).setCell ⟨N8, 1, none⟩ (.int .u64 (limb 1 yy))).setCell ⟨N8, 2, none⟩ (.int .u64 (limb 2 yy))).setCell ⟨N8, 3, none⟩ (.int .u64 (limb 3 yy)) := ⟨_, rfl⟩
  have b86 : Blk w6 28 N8 (fun i => limb i yy) := by rw [hw6]; exact (b84.belowAll hb5).set4 (fun i => limb i yy)
  have b76 : Blk w6 28 N7 (fun i => limb i x3) := by rw [hw6]; exact (b74.belowAll hb5).other4 (by omega) _ _ _ _
  have br6 : Blk w6 28 (w.heap.size + 1 + 1) (fun _ => 0) := by rw [hw6]; exact (br4.belowAll hb5).other4 (by omega) _ _ _ _
  have hbw6 : Below w.heap.size w w6 := by rw [hw6]; exact bSet4 hbw5 (by omega) _ _ _ _
  have HG6 : Hid (GlobC w6) := HG0.out.below hbw6
  rw [← hw6]
  clear hw6 c8 f8 hb5 hbw5 hbw4 b74 b84 br4 bp4 HG4 HA
  have c8 := b86.cell
  go_wp2_with fail
  refine (HIT.out _ HG6.out.1).mono ?_
  rintro e w7 ⟨er, rfl, hb7⟩
  have b77 := (b76.belowAll hb7).alloc (.cells #[.int .u64 (limb 0 i1), .int .u64 (limb 1 i1), .int .u64 (limb 2 i1), .int .u64 (limb 3 i1)] 28)
  have br7 := (br6.belowAll hb7).alloc (.cells #[.int .u64 (limb 0 i1), .int .u64 (limb 1 i1), .int .u64 (limb 2 i1), .int .u64 (limb 3 i1)] 28)
  have bi7 : Blk (w7.alloc (.cells #[.int .u64 (limb 0 i1), .int .u64 (limb 1 i1), .int .u64 (limb 2 i1), .int .u64 (limb 3 i1)] 28)) 28 w7.heap.size (fun i => limb i i1) := Blk.newAt _ _ _ (fun i => limb i i1) rfl
  have hbw7 := bAlloc (bStep hbw6 hb7) (.cells #[.int .u64 (limb 0 i1), .int .u64 (limb 1 i1), .int .u64 (limb 2 i1), .int .u64 (limb 3 i1)] 28)
  clear c8 hb7
  go_upto_region 6 with fail
  obtain ⟨w8, hw8⟩ : ∃ x : World, x = w7.alloc (.cells #[.int .u64 (limb 0 i1), .int .u64 (limb 1 i1), .int .u64 (limb 2 i1), .int .u64 (limb 3 i1)] 28) := ⟨_, rfl⟩
  obtain ⟨N9, hN9⟩ : ∃ N, N = w7.heap.size := ⟨_, rfl⟩
  rw [← hw8] at b77 br7 bi7 hbw7 ⊢
  rw [← hN9] at bi7 ⊢
  clear hw8 hN9
  have HG8 : Hid (GlobC w8) := HG0.out.below hbw7
  have c7 := b77.cell; have c9 := bi7.cell
  go_wp2_with fail
  refine (HLT.out _ HG8.out.1).mono ?_
  rintro e w9 ⟨rfl, hb9⟩
  have cR := (br7.belowAll hb9).cell; have fR := (br7.belowAll hb9).frozen
  go_wp2
  refine bodyPost_ret (v := .agg #[.int .u64 (limb 0 s1), .int .u64 (limb 1 s1), .int .u64 (limb 2 s1), .int .u64 (limb 3 s1)]) (by simp [results, Tryz.results44, go_sem, cR]) rfl ⟨by rw [HV.out], ?_⟩
  exact bSet4 (bStep hbw7 hb9) hrw _ _ _ _
 ·have dS : decide (x = u ∧ y = v ∧ false = false) = false := decide_eq_false (fun h => hs ⟨h.1, h.2.1⟩)
  rw [dS] at QI
  have HV : Hid (ans = s2) := by show _ = _; rw [EA.out, decide_eq_false hs, RF.out]
  clear dS hs EA RT RF HIT HLT HM1 HM2 HA
  go_upto_region 5 with fail
  clear p0 p1 p2 p3 p4 p5 p6 p7 p8 pf q0 q1 q2 q3 q4 q5 q6 q7 q8 qf bp1 bq1
  obtain ⟨w6, hw6⟩ : ∃ x, x = w1 := ⟨_, rfl⟩
  rw [← hw6] at b7 b8 br1 hbw1 HG1 ⊢
  have b76 := b7; have b86 := b8; have br6 := br1; have hbw6 := hbw1
  have HG6 : Hid (GlobC w6) := HG1
  clear hw6 b7 b8 br1 hbw1 HG1
  have c8 := b86.cell
  go_wp2_with fail
  refine (HIF.out _ HG6.out.1).mono ?_
  rintro e w7 ⟨er, rfl, hb7⟩
  have b77 := (b76.belowAll hb7).alloc (.cells #[.int .u64 (limb 0 i2), .int .u64 (limb 1 i2), .int .u64 (limb 2 i2), .int .u64 (limb 3 i2)] 28)
  have br7 := (br6.belowAll hb7).alloc (.cells #[.int .u64 (limb 0 i2), .int .u64 (limb 1 i2), .int .u64 (limb 2 i2), .int .u64 (limb 3 i2)] 28)
  have bi7 : Blk (w7.alloc (.cells #[.int .u64 (limb 0 i2), .int .u64 (limb 1 i2), .int .u64 (limb 2 i2), .int .u64 (limb 3 i2)] 28)) 28 w7.heap.size (fun i => limb i i2) := Blk.newAt _ _ _ (fun i => limb i i2) rfl
  have hbw7 := bAlloc (bStep hbw6 hb7) (.cells #[.int .u64 (limb 0 i2), .int .u64 (limb 1 i2), .int .u64 (limb 2 i2), .int .u64 (limb 3 i2)] 28)
  clear c8 hb7
  go_upto_region 6 with fail
  obtain ⟨w8, hw8⟩ : ∃ x : World, x = w7.alloc (.cells #[.int .u64 (limb 0 i2), .int .u64 (limb 1 i2), .int .u64 (limb 2 i2), .int .u64 (limb 3 i2)] 28) := ⟨_, rfl⟩
  obtain ⟨N9, hN9⟩ : ∃ N, N = w7.heap.size := ⟨_, rfl⟩
  rw [← hw8] at b77 br7 bi7 hbw7 ⊢
  rw [← hN9] at bi7 ⊢
  clear hw8 hN9
  have HG8 : Hid (GlobC w8) := HG0.out.below hbw7
  have c7 := b77.cell; have c9 := bi7.cell
  go_wp2_with fail
  refine (HLF.out _ HG8.out.1).mono ?_
  rintro e w9 ⟨rfl, hb9⟩
  have cR := (br7.belowAll hb9).cell; have fR := (br7.belowAll hb9).frozen
  go_wp2
  refine bodyPost_ret (v := .agg #[.int .u64 (limb 0 s2), .int .u64 (limb 1 s2), .int .u64 (limb 2 s2), .int .u64 (limb 3 s2)]) (by simp [results, Tryz.results44, go_sem, cR]) rfl ⟨by rw [HV.out], ?_⟩
  exact bSet4 (bStep hbw7 hb9) hrw _ _ _ _
end Go.Proofs.YtokoknacolmhgaaGreatDoor
namespace Go.Proofs.YtokoknacolmhgaaGreatDoor
open Go.RowKit
set_option maxRecDepth 20000 in
theorem add_in (c x y u v : Nat) (i j : Bool) (hc : c < 4) (hx : x < 115792089237316195423570985008687907853269984665640564039457584007913129639936) (hy : y < 115792089237316195423570985008687907853269984665640564039457584007913129639936) (hu : u < 115792089237316195423570985008687907853269984665640564039457584007913129639936) (hv : v < 115792089237316195423570985008687907853269984665640564039457584007913129639936) (w : World) (hg : GlobC w) :
  Calls Tryz.prog 24 #[.int .i64 (c : Int), .agg #[.int .u64 (limb 0 x), .int .u64 (limb 1 x), .int .u64 (limb 2 x), .int .u64 (limb 3 x), .int .u64 (limb 0 y), .int .u64 (limb 1 y), .int .u64 (limb 2 y), .int .u64 (limb 3 y), .bool i], .agg #[.int .u64 (limb 0 u), .int .u64 (limb 1 u), .int .u64 (limb 2 u), .int .u64 (limb 3 u), .int .u64 (limb 0 v), .int .u64 (limb 1 v), .int .u64 (limb 2 v), .int .u64 (limb 3 v), .bool j]] w fun e w' => e = .returned (.agg #[.int .u64 (limb 0 ((addPt c x y i u v j).1)), .int .u64 (limb 1 ((addPt c x y i u v j).1)), .int .u64 (limb 2 ((addPt c x y i u v j).1)), .int .u64 (limb 3 ((addPt c x y i u v j).1)), .int .u64 (limb 0 ((addPt c x y i u v j).2.1)), .int .u64 (limb 1 ((addPt c x y i u v j).2.1)), .int .u64 (limb 2 ((addPt c x y i u v j).2.1)), .int .u64 (limb 3 ((addPt c x y i u v j).2.1)), .bool (addPt c x y i u v j).2.2]) ∧ Below w.heap.size w w' := by
 have HG0 : Hid (GlobC w) := hg
 have HO1 : Hid (∀ w, GlobC w → _) := fun w hg => on_in c x y i hc hx hy w hg
 have HO2 : Hid (∀ w, GlobC w → _) := fun w hg => on_in c u v j hc hu hv w hg
 have HIN : Hid (∀ w, _) := infinity_any
 have HOP : Hid (∀ w, GlobC w → _) := fun w hg => opposite_any c x y i hc hy w hg
 have HSL : Hid (∀ w, GlobC w → _) := fun w hg => slope_any c x y u v hc hx hy hu hv w hg
 have Q1 := fun w => eqlP x y 0 0 i true hx hy (by decide) (by decide) w
 have Q2 := fun w => eqlP u v 0 0 j true hu hv (by decide) (by decide) w
 have Q3 := fun w => eqlP u v x (subP c 0 y) j false hu hv hx (subP_M _ _ _) w
 have HA1 : Hid (¬ onC c x y i ∨ ¬ onC c u v j → (.agg #[.int .u64 (limb 0 ((addPt c x y i u v j).1)), .int .u64 (limb 1 ((addPt c x y i u v j).1)), .int .u64 (limb 2 ((addPt c x y i u v j).1)), .int .u64 (limb 3 ((addPt c x y i u v j).1)), .int .u64 (limb 0 ((addPt c x y i u v j).2.1)), .int .u64 (limb 1 ((addPt c x y i u v j).2.1)), .int .u64 (limb 2 ((addPt c x y i u v j).2.1)), .int .u64 (limb 3 ((addPt c x y i u v j).2.1)), .bool (addPt c x y i u v j).2.2] : Value) = .agg #[.int .u64 (limb 0 0), .int .u64 (limb 1 0), .int .u64 (limb 2 0), .int .u64 (limb 3 0), .int .u64 (limb 0 0), .int .u64 (limb 1 0), .int .u64 (limb 2 0), .int .u64 (limb 3 0), .bool true]) := fun h => by unfold addPt; rw [if_pos h]
 have HA2 : Hid (¬ (¬ onC c x y i ∨ ¬ onC c u v j) → (x = 0 ∧ y = 0 ∧ i = true) → (.agg #[.int .u64 (limb 0 ((addPt c x y i u v j).1)), .int .u64 (limb 1 ((addPt c x y i u v j).1)), .int .u64 (limb 2 ((addPt c x y i u v j).1)), .int .u64 (limb 3 ((addPt c x y i u v j).1)), .int .u64 (limb 0 ((addPt c x y i u v j).2.1)), .int .u64 (limb 1 ((addPt c x y i u v j).2.1)), .int .u64 (limb 2 ((addPt c x y i u v j).2.1)), .int .u64 (limb 3 ((addPt c x y i u v j).2.1)), .bool (addPt c x y i u v j).2.2] : Value) = .agg #[.int .u64 (limb 0 u), .int .u64 (limb 1 u), .int .u64 (limb 2 u), .int .u64 (limb 3 u), .int .u64 (limb 0 v), .int .u64 (limb 1 v), .int .u64 (limb 2 v), .int .u64 (limb 3 v), .bool j]) := fun h h2 => by unfold addPt; rw [if_neg h, if_pos h2]
 have HA3 : Hid (¬ (¬ onC c x y i ∨ ¬ onC c u v j) → ¬ (x = 0 ∧ y = 0 ∧ i = true) → (u = 0 ∧ v = 0 ∧ j = true) → (.agg #[.int .u64 (limb 0 ((addPt c x y i u v j).1)), .int .u64 (limb 1 ((addPt c x y i u v j).1)), .int .u64 (limb 2 ((addPt c x y i u v j).1)), .int .u64 (limb 3 ((addPt c x y i u v j).1)), .int .u64 (limb 0 ((addPt c x y i u v j).2.1)), .int .u64 (limb 1 ((addPt c x y i u v j).2.1)), .int .u64 (limb 2 ((addPt c x y i u v j).2.1)), .int .u64 (limb 3 ((addPt c x y i u v j).2.1)), .bool (addPt c x y i u v j).2.2] : Value) = .agg #[.int .u64 (limb 0 x), .int .u64 (limb 1 x), .int .u64 (limb 2 x), .int .u64 (limb 3 x), .int .u64 (limb 0 y), .int .u64 (limb 1 y), .int .u64 (limb 2 y), .int .u64 (limb 3 y), .bool i]) := fun h h2 h3 => by unfold addPt; rw [if_neg h, if_neg h2, if_pos h3]
 have HA4 : Hid (¬ (¬ onC c x y i ∨ ¬ onC c u v j) → ¬ (x = 0 ∧ y = 0 ∧ i = true) → ¬ (u = 0 ∧ v = 0 ∧ j = true) → (u = x ∧ v = subP c 0 y ∧ j = false) → (.agg #[.int .u64 (limb 0 ((addPt c x y i u v j).1)), .int .u64 (limb 1 ((addPt c x y i u v j).1)), .int .u64 (limb 2 ((addPt c x y i u v j).1)), .int .u64 (limb 3 ((addPt c x y i u v j).1)), .int .u64 (limb 0 ((addPt c x y i u v j).2.1)), .int .u64 (limb 1 ((addPt c x y i u v j).2.1)), .int .u64 (limb 2 ((addPt c x y i u v j).2.1)), .int .u64 (limb 3 ((addPt c x y i u v j).2.1)), .bool (addPt c x y i u v j).2.2] : Value) = .agg #[.int .u64 (limb 0 0), .int .u64 (limb 1 0), .int .u64 (limb 2 0), .int .u64 (limb 3 0), .int .u64 (limb 0 0), .int .u64 (limb 1 0), .int .u64 (limb 2 0), .int .u64 (limb 3 0), .bool true]) := fun h h2 h3 h4 => by unfold addPt; rw [if_neg h, if_neg h2, if_neg h3, if_pos h4]
 have HA5 : Hid (¬ (¬ onC c x y i ∨ ¬ onC c u v j) → ¬ (x = 0 ∧ y = 0 ∧ i = true) → ¬ (u = 0 ∧ v = 0 ∧ j = true) → ¬ (u = x ∧ v = subP c 0 y ∧ j = false) → (.agg #[.int .u64 (limb 0 ((addPt c x y i u v j).1)), .int .u64 (limb 1 ((addPt c x y i u v j).1)), .int .u64 (limb 2 ((addPt c x y i u v j).1)), .int .u64 (limb 3 ((addPt c x y i u v j).1)), .int .u64 (limb 0 ((addPt c x y i u v j).2.1)), .int .u64 (limb 1 ((addPt c x y i u v j).2.1)), .int .u64 (limb 2 ((addPt c x y i u v j).2.1)), .int .u64 (limb 3 ((addPt c x y i u v j).2.1)), .bool (addPt c x y i u v j).2.2] : Value) = .agg #[.int .u64 (limb 0 ((sumXC c x y u v))), .int .u64 (limb 1 ((sumXC c x y u v))), .int .u64 (limb 2 ((sumXC c x y u v))), .int .u64 (limb 3 ((sumXC c x y u v))), .int .u64 (limb 0 ((sumYC c x y u v))), .int .u64 (limb 1 ((sumYC c x y u v))), .int .u64 (limb 2 ((sumYC c x y u v))), .int .u64 (limb 3 ((sumYC c x y u v))), .bool false]) := fun h h2 h3 h4 => by unfold addPt; rw [if_neg h, if_neg h2, if_neg h3, if_neg h4]
 obtain ⟨V, eV⟩ : ∃ V : Value, V = .agg #[.int .u64 (limb 0 ((addPt c x y i u v j).1)), .int .u64 (limb 1 ((addPt c x y i u v j).1)), .int .u64 (limb 2 ((addPt c x y i u v j).1)), .int .u64 (limb 3 ((addPt c x y i u v j).1)), .int .u64 (limb 0 ((addPt c x y i u v j).2.1)), .int .u64 (limb 1 ((addPt c x y i u v j).2.1)), .int .u64 (limb 2 ((addPt c x y i u v j).2.1)), .int .u64 (limb 3 ((addPt c x y i u v j).2.1)), .bool (addPt c x y i u v j).2.2] := ⟨_, rfl⟩
 rw [← eV] at HA1 HA2 HA3 HA4 HA5 ⊢
 clear eV
 obtain ⟨s, es⟩ : ∃ z, z = slopeC c x y u v (decide (x = u ∧ y = v)) := ⟨_, rfl⟩
 have EX : Hid (sumXC c x y u v = subP c (subP c (mulP c s s) x) u) := by show _ = _; rw [es]; rfl
 have EY : Hid (sumYC c x y u v = subP c (mulP c s (subP c x (sumXC c x y u v))) y) := by show _ = _; rw [es]; rfl
 rw [← es] at HSL
 have ls : s < 115792089237316195423570985008687907853269984665640564039457584007913129639936 := by rw [es]; exact mulP_M _ _ _
 obtain ⟨X, eX⟩ : ∃ z, z = sumXC c x y u v := ⟨_, rfl⟩
 obtain ⟨Y, eY⟩ : ∃ z, z = sumYC c x y u v := ⟨_, rfl⟩
 rw [← eX] at EX EY HA5
 rw [← eY] at EY HA5
 have lX : X < 115792089237316195423570985008687907853269984665640564039457584007913129639936 := by rw [EX.out]; exact subP_M _ _ _
 have HM1 : Hid (∀ w, Glob w → _) := fun w hg => fMul_any c s s hc ls ls w hg
 have HS1 : Hid (∀ w, Glob w → _) := fun w hg => fSub_any c (mulP c s s) x hc (mulP_M _ _ _) hx w hg
 have HS2 : Hid (∀ w, Glob w → _) := fun w hg => fSub_any c (subP c (mulP c s s) x) u hc (subP_M _ _ _) hu w hg
 have HS3 : Hid (∀ w, Glob w → _) := fun w hg => fSub_any c x X hc hx lX w hg
 have HM2 : Hid (∀ w, Glob w → _) := fun w hg => fMul_any c s (subP c x X) hc ls (subP_M _ _ _) w hg
 have HS4 : Hid (∀ w, Glob w → _) := fun w hg => fSub_any c (mulP c s (subP c x X)) y hc (mulP_M _ _ _) hy w hg
 rw [← EX.out] at HS2
 rw [← EY.out] at HS4
 obtain ⟨ss, e1⟩ : ∃ z, z = mulP c s s := ⟨_, rfl⟩
 rw [← e1] at HM1 HS1
 obtain ⟨t1, e2⟩ : ∃ z, z = subP c ss x := ⟨_, rfl⟩
 rw [← e2] at HS1
 have HS2' : Hid (∀ w, Glob w → Calls Tryz.prog 45 #[.int .i64 (c : Int), .agg #[.int .u64 (limb 0 t1), .int .u64 (limb 1 t1), .int .u64 (limb 2 t1), .int .u64 (limb 3 t1)], .agg #[.int .u64 (limb 0 u), .int .u64 (limb 1 u), .int .u64 (limb 2 u), .int .u64 (limb 3 u)]] w fun e w' => e = .returned (.agg #[.int .u64 (limb 0 X), .int .u64 (limb 1 X), .int .u64 (limb 2 X), .int .u64 (limb 3 X)]) ∧ Below w.heap.size w w') := by rw [e2, e1]; exact HS2
 obtain ⟨t2, e3⟩ : ∃ z, z = subP c x X := ⟨_, rfl⟩
 rw [← e3] at HS3 HM2
 obtain ⟨t3, e4⟩ : ∃ z, z = mulP c s t2 := ⟨_, rfl⟩
 rw [← e4] at HM2
 have HS4' : Hid (∀ w, Glob w → Calls Tryz.prog 45 #[.int .i64 (c : Int), .agg #[.int .u64 (limb 0 t3), .int .u64 (limb 1 t3), .int .u64 (limb 2 t3), .int .u64 (limb 3 t3)], .agg #[.int .u64 (limb 0 y), .int .u64 (limb 1 y), .int .u64 (limb 2 y), .int .u64 (limb 3 y)]] w fun e w' => e = .returned (.agg #[.int .u64 (limb 0 Y), .int .u64 (limb 1 Y), .int .u64 (limb 2 Y), .int .u64 (limb 3 Y)]) ∧ Below w.heap.size w w') := by rw [e4, e3]; exact HS4
 obtain ⟨ny, e5⟩ : ∃ z, z = subP c 0 y := ⟨_, rfl⟩
 rw [← e5] at HOP Q3 HA4 HA5
 clear hg es e1 e2 e3 e4 e5 eX eY EX EY HS2 HS4 lX ls
 go_enter Tryz.func24, Tryz.ntmps24
 go_upto_region 1 with fail
 obtain ⟨w0, hw0⟩ : ∃ w0 : World, w0 = ((w.alloc (.cells #[.int .u64 (limb 0 x), .int .u64 (limb 1 x), .int .u64 (limb 2 x), .int .u64 (limb 3 x), .int .u64 (limb 0 y), .int .u64 (limb 1 y), .int .u64 (limb 2 y), .int .u64 (limb 3 y), .bool i] 30)).alloc (.cells #[.int .u64 (limb 0 u), .int .u64 (limb 1 u), .int .u64 (limb 2 u), .int .u64 (limb 3 u), .int .u64 (limb 0 v), .int .u64 (limb 1 v), .int .u64 (limb 2 v), .int .u64 (limb 3 v), .bool j] 30)).alloc (.cells #[.int .u64 0, .int .u64 0, .int .u64 0, .int .u64 0, .int .u64 0, .int .u64 0, .int .u64 0, .int .u64 0, .bool false] 30) := ⟨_, rfl⟩
 have bp0 : Pt w0 w.heap.size x y i := by rw [hw0]; exact ((Pt.newAt _ _ _ _ _ rfl).alloc _).alloc _
 have bq0 : Pt w0 (w.heap.size + 1) u v j := by rw [hw0]; exact (Pt.newAt _ _ _ _ _ (by simp)).alloc _
 have br0 : Pt w0 (w.heap.size + 1 + 1) 0 0 false := by rw [hw0]; exact Pt.zeroAt _ _ (by simp)
 have hbw0 : Below w.heap.size w w0 := by rw [hw0]; exact bAlloc (bAlloc ((Below.refl _ _).alloc (Nat.le_refl _) _) _) _
 have hrw : w.heap.size ≤ w.heap.size + 1 + 1 := by omega
 rw [← hw0]
 clear hw0
 have HG0' : Hid (GlobC w0) := HG0.out.below hbw0
 by_cases ho1 : onC c x y i
 ·rw [decide_eq_true ho1] at HO1
  obtain ⟨q0, q1, q2, q3, q4, q5, q6, q7, q8, qf⟩ := bp0.cells
  obtain ⟨p0, p1, p2, p3, p4, p5, p6, p7, p8, pf⟩ := bq0.cells
  go_wp2_with fail
  refine (HO1.out _ HG0'.out).mono ?_
  rintro e w1 ⟨rfl, hb1⟩
  clear q0 q1 q2 q3 q4 q5 q6 q7 q8 qf p0 p1 p2 p3 p4 p5 p6 p7 p8 pf
  have bp1 := bp0.belowAll hb1; have bq1 := bq0.belowAll hb1; have br1 := br0.belowAll hb1
  have hbw1 := bStep hbw0 hb1
  have HG1' : Hid (GlobC w1) := HG0'.out.below hb1
  clear bp0 bq0 br0 hbw0 HG0' hb1
  obtain ⟨q0, q1, q2, q3, q4, q5, q6, q7, q8, qf⟩ := bp1.cells
  obtain ⟨p0, p1, p2, p3, p4, p5, p6, p7, p8, pf⟩ := bq1.cells
  by_cases ho2 : onC c u v j
  ·rw [decide_eq_true ho2] at HO2
   have hno : ¬ (¬ onC c x y i ∨ ¬ onC c u v j) := fun h => by rcases h with h | h; exact h ho1; exact h ho2
   have HNO := (show Hid _ from hno)
   have HO1' : Hid (onC c x y i) := ho1
   have HO2' : Hid (onC c u v j) := ho2
   clear hno ho1 ho2 HA1
   go_wp2_with fail
   refine (HO2.out _ HG1'.out).mono ?_
   rintro e w2 ⟨rfl, hb2⟩
   clear q0 q1 q2 q3 q4 q5 q6 q7 q8 qf p0 p1 p2 p3 p4 p5 p6 p7 p8 pf
   have bp2 := bp1.belowAll hb2; have bq2 := bq1.belowAll hb2; have br2 := br1.belowAll hb2
   have hbw2 := bStep hbw1 hb2
   have HG2' : Hid (GlobC w2) := HG1'.out.below hb2
   clear bp1 bq1 br1 hbw1 HG1' hb2
   clear HO1 HO2
   go_upto_region 3 with fail
   by_cases hI1 : x = 0 ∧ y = 0 ∧ i = true
   ·rw [decide_eq_true hI1] at Q1
    have HV := HA2.out HNO.out hI1
    have HVV := (show Hid _ from HV)
    clear HV hI1 HA2 HA3 HA4 HA5 HNO Q2 Q3
    go_cut [22] (fun b wx => b = .bool true ∧ Below w2.heap.size w2 wx)
    case first =>
     have HS0 : Hid (Below w2.heap.size w2 w2.drew) := (Below.refl _ _).drew
     refine wp_region_Z (fun w' => Below w2.heap.size w2 w') 99 (by kernel_rfl) ?_
     refine zT 0 23 (.agg #[.int .u64 (limb 0 x), .int .u64 (limb 1 x), .int .u64 (limb 2 x), .int .u64 (limb 3 x), .int .u64 (limb 0 y), .int .u64 (limb 1 y), .int .u64 (limb 2 y), .int .u64 (limb 3 y), .bool i]) rfl rfl (fun w hSw => by (obtain ⟨q0, q1, q2, q3, q4, q5, q6, q7, q8, qf⟩ := (bp2.belowAll hSw).cells; clear hSw; go_simp)) HS0.out ?_
     refine zo 1 rfl (fun K hK => ?_)
     go_simp
     refine (HIN.out w2.drew).mono ?_
     rintro e wK1 ⟨rfl, hbK1⟩
     have hSK1 := bStep HS0.out hbK1
     go_wp2_with fail
     refine hK.out _ _ (fun _ => hSK1) ?_
     clear hK K
     refine zs 2 25 (.bool true) hSK1 ?_
     refine zs 3 22 (.bool true) hSK1 ?_
     refine zd ?_ _
     go_wp2_with fail
     go_meet
     exact ⟨rfl, hSK1⟩
    obtain ⟨rfl, hbx⟩ := hcut
    obtain ⟨w3, hwn⟩ : ∃ x, x = wc := ⟨_, rfl⟩
    rw [← hwn] at hbx ⊢
    clear hwn
    have bp3 := bp2.belowAll hbx; have bq3 := bq2.belowAll hbx; have br3 := br2.belowAll hbx
    have hbw3 := bStep hbw2 hbx
    have HG3' : Hid (GlobC w3) := HG2'.out.below hbx
    clear bp2 bq2 br2 hbw2 HG2' hbx
    obtain ⟨q0, q1, q2, q3, q4, q5, q6, q7, q8, qf⟩ := bp3.cells
    obtain ⟨p0, p1, p2, p3, p4, p5, p6, p7, p8, pf⟩ := bq3.cells
    obtain ⟨r0, r1, r2, r3, r4, r5, r6, r7, r8, rf⟩ := br3.cells
    have hbe := hbw3
    go_wp2
    refine bodyPost_ret (v := .agg #[.int .u64 (limb 0 u), .int .u64 (limb 1 u), .int .u64 (limb 2 u), .int .u64 (limb 3 u), .int .u64 (limb 0 v), .int .u64 (limb 1 v), .int .u64 (limb 2 v), .int .u64 (limb 3 v), .bool j]) (by simp [results, Tryz.results24, go_sem, r0, r1, r2, r3, r4, r5, r6, r7, r8]) rfl ⟨by rw [HVV.out], ?_⟩
    exact bSet9 hbe hrw _ _ _ _ _ _ _ _ _
   ·rw [decide_eq_false hI1] at Q1
    have HI1 := (show Hid _ from hI1)
    have hif := on_fin HO1'.out hI1
    have HIF : Hid (i = false) := hif
    clear hif
    clear hI1
    go_cut [22] (fun b wx => b = .bool false ∧ Below w2.heap.size w2 wx)
    case first =>
     have HS0 : Hid (Below w2.heap.size w2 w2.drew) := (Below.refl _ _).drew
     refine wp_region_Z (fun w' => Below w2.heap.size w2 w') 99 (by kernel_rfl) ?_
     refine zT 0 23 (.agg #[.int .u64 (limb 0 x), .int .u64 (limb 1 x), .int .u64 (limb 2 x), .int .u64 (limb 3 x), .int .u64 (limb 0 y), .int .u64 (limb 1 y), .int .u64 (limb 2 y), .int .u64 (limb 3 y), .bool i]) rfl rfl (fun w hSw => by (obtain ⟨q0, q1, q2, q3, q4, q5, q6, q7, q8, qf⟩ := (bp2.belowAll hSw).cells; clear hSw; go_simp)) HS0.out ?_
     refine zo 1 rfl (fun K hK => ?_)
     go_simp
     refine (HIN.out w2.drew).mono ?_
     rintro e wK1 ⟨rfl, hbK1⟩
     have hSK1 := bStep HS0.out hbK1
     go_wp2_with fail
     refine hK.out _ _ (fun _ => hSK1) ?_
     clear hK K
     refine zs 2 25 (.bool false) hSK1 ?_
     refine zs 3 22 (.bool false) hSK1 ?_
     refine zd ?_ _
     go_wp2_with fail
     go_meet
     exact ⟨rfl, hSK1⟩
    obtain ⟨rfl, hbx⟩ := hcut
    obtain ⟨w3, hwn⟩ : ∃ x, x = wc := ⟨_, rfl⟩
    rw [← hwn] at hbx ⊢
    clear hwn
    have bp3 := bp2.belowAll hbx; have bq3 := bq2.belowAll hbx; have br3 := br2.belowAll hbx
    have hbw3 := bStep hbw2 hbx
    have HG3' : Hid (GlobC w3) := HG2'.out.below hbx
    clear bp2 bq2 br2 hbw2 HG2' hbx
    clear Q1
    go_upto_region 5 with fail
    by_cases hI2 : u = 0 ∧ v = 0 ∧ j = true
    ·rw [decide_eq_true hI2] at Q2
     have HV := HA3.out HNO.out HI1.out hI2
     have HVV := (show Hid _ from HV)
     clear HV hI2 HA2 HA3 HA4 HA5 HNO Q3 HIF
     go_cut [27] (fun b wx => b = .bool true ∧ Below w3.heap.size w3 wx)
     case first =>
      have HS0 : Hid (Below w3.heap.size w3 w3.drew) := (Below.refl _ _).drew
      refine wp_region_Z (fun w' => Below w3.heap.size w3 w') 99 (by kernel_rfl) ?_
      refine zT 0 28 (.agg #[.int .u64 (limb 0 u), .int .u64 (limb 1 u), .int .u64 (limb 2 u), .int .u64 (limb 3 u), .int .u64 (limb 0 v), .int .u64 (limb 1 v), .int .u64 (limb 2 v), .int .u64 (limb 3 v), .bool j]) rfl rfl (fun w hSw => by (obtain ⟨q0, q1, q2, q3, q4, q5, q6, q7, q8, qf⟩ := (bq3.belowAll hSw).cells; clear hSw; go_simp)) HS0.out ?_
      refine zo 1 rfl (fun K hK => ?_)
      go_simp
      refine (HIN.out w3.drew).mono ?_
      rintro e wK1 ⟨rfl, hbK1⟩
      have hSK1 := bStep HS0.out hbK1
      go_wp2_with fail
      refine hK.out _ _ (fun _ => hSK1) ?_
      clear hK K
      refine zs 2 30 (.bool true) hSK1 ?_
      refine zs 3 27 (.bool true) hSK1 ?_
      refine zd ?_ _
      go_wp2_with fail
      go_meet
      exact ⟨rfl, hSK1⟩
     obtain ⟨rfl, hbx⟩ := hcut
     obtain ⟨w4, hwn⟩ : ∃ x, x = wc := ⟨_, rfl⟩
     rw [← hwn] at hbx ⊢
     clear hwn
     have bp4 := bp3.belowAll hbx; have bq4 := bq3.belowAll hbx; have br4 := br3.belowAll hbx
     have hbw4 := bStep hbw3 hbx
     have HG4' : Hid (GlobC w4) := HG3'.out.below hbx
     clear bp3 bq3 br3 hbw3 HG3' hbx
     obtain ⟨q0, q1, q2, q3, q4, q5, q6, q7, q8, qf⟩ := bp4.cells
     obtain ⟨p0, p1, p2, p3, p4, p5, p6, p7, p8, pf⟩ := bq4.cells
     obtain ⟨r0, r1, r2, r3, r4, r5, r6, r7, r8, rf⟩ := br4.cells
     have hbe := hbw4
     go_wp2
     refine bodyPost_ret (v := .agg #[.int .u64 (limb 0 x), .int .u64 (limb 1 x), .int .u64 (limb 2 x), .int .u64 (limb 3 x), .int .u64 (limb 0 y), .int .u64 (limb 1 y), .int .u64 (limb 2 y), .int .u64 (limb 3 y), .bool i]) (by simp [results, Tryz.results24, go_sem, r0, r1, r2, r3, r4, r5, r6, r7, r8]) rfl ⟨by rw [HVV.out], ?_⟩
     exact bSet9 hbe hrw _ _ _ _ _ _ _ _ _
    ·rw [decide_eq_false hI2] at Q2
     have HI2 := (show Hid _ from hI2)
     have hjf := on_fin HO2'.out hI2
     have HJF : Hid (j = false) := hjf
     clear hjf
     clear hI2
     go_cut [27] (fun b wx => b = .bool false ∧ Below w3.heap.size w3 wx)
     case first =>
      have HS0 : Hid (Below w3.heap.size w3 w3.drew) := (Below.refl _ _).drew
      refine wp_region_Z (fun w' => Below w3.heap.size w3 w') 99 (by kernel_rfl) ?_
      refine zT 0 28 (.agg #[.int .u64 (limb 0 u), .int .u64 (limb 1 u), .int .u64 (limb 2 u), .int .u64 (limb 3 u), .int .u64 (limb 0 v), .int .u64 (limb 1 v), .int .u64 (limb 2 v), .int .u64 (limb 3 v), .bool j]) rfl rfl (fun w hSw => by (obtain ⟨q0, q1, q2, q3, q4, q5, q6, q7, q8, qf⟩ := (bq3.belowAll hSw).cells; clear hSw; go_simp)) HS0.out ?_
      refine zo 1 rfl (fun K hK => ?_)
      go_simp
      refine (HIN.out w3.drew).mono ?_
      rintro e wK1 ⟨rfl, hbK1⟩
      have hSK1 := bStep HS0.out hbK1
      go_wp2_with fail
      refine hK.out _ _ (fun _ => hSK1) ?_
      clear hK K
      refine zs 2 30 (.bool false) hSK1 ?_
      refine zs 3 27 (.bool false) hSK1 ?_
      refine zd ?_ _
      go_wp2_with fail
      go_meet
      exact ⟨rfl, hSK1⟩
     obtain ⟨rfl, hbx⟩ := hcut
     obtain ⟨w4, hwn⟩ : ∃ x, x = wc := ⟨_, rfl⟩
     rw [← hwn] at hbx ⊢
     clear hwn
     have bp4 := bp3.belowAll hbx; have bq4 := bq3.belowAll hbx; have br4 := br3.belowAll hbx
     have hbw4 := bStep hbw3 hbx
     have HG4' : Hid (GlobC w4) := HG3'.out.below hbx
     clear bp3 bq3 br3 hbw3 HG3' hbx
     clear Q2
     go_upto_region 7 with fail
     by_cases hO : u = x ∧ v = ny ∧ j = false
     ·rw [decide_eq_true hO] at Q3
      have HV := HA4.out HNO.out HI1.out HI2.out hO
      have HVV := (show Hid _ from HV)
      clear HV hO HA2 HA3 HA4 HA5 HNO HIF HJF
      go_cut [32] (fun b wx => b = .bool true ∧ Below w4.heap.size w4 wx)
      case first =>
       have HS0 : Hid (Below w4.heap.size w4 w4.drew) := (Below.refl _ _).drew
       refine wp_region_Z (fun w' => Below w4.heap.size w4 w') 99 (by kernel_rfl) ?_
       refine zT 0 33 (.agg #[.int .u64 (limb 0 u), .int .u64 (limb 1 u), .int .u64 (limb 2 u), .int .u64 (limb 3 u), .int .u64 (limb 0 v), .int .u64 (limb 1 v), .int .u64 (limb 2 v), .int .u64 (limb 3 v), .bool j]) rfl rfl (fun w hSw => by (obtain ⟨q0, q1, q2, q3, q4, q5, q6, q7, q8, qf⟩ := (bq4.belowAll hSw).cells; clear hSw; go_simp)) HS0.out ?_
       refine zs 1 34 (.int .i64 (c : Int)) HS0.out ?_
       refine zT 2 35 (.agg #[.int .u64 (limb 0 x), .int .u64 (limb 1 x), .int .u64 (limb 2 x), .int .u64 (limb 3 x), .int .u64 (limb 0 y), .int .u64 (limb 1 y), .int .u64 (limb 2 y), .int .u64 (limb 3 y), .bool i]) rfl rfl (fun w hSw => by (obtain ⟨q0, q1, q2, q3, q4, q5, q6, q7, q8, qf⟩ := (bp4.belowAll hSw).cells; clear hSw; go_simp)) HS0.out ?_
       refine zo 3 rfl (fun K hK => ?_)
       go_simp
       refine (HOP.out w4.drew (HG4'.out.below (HS0.out))).mono ?_
       rintro e wK1 ⟨rfl, hbK1⟩
       have hSK1 := bStep HS0.out hbK1
       go_wp2_with fail
       refine hK.out _ _ (fun _ => hSK1) ?_
       clear hK K
       refine zs 4 37 (.bool true) hSK1 ?_
       refine zs 5 32 (.bool true) hSK1 ?_
       refine zd ?_ _
       go_wp2_with fail
       go_meet
       exact ⟨rfl, hSK1⟩
      obtain ⟨rfl, hbx⟩ := hcut
      obtain ⟨w5, hwn⟩ : ∃ x, x = wc := ⟨_, rfl⟩
      rw [← hwn] at hbx ⊢
      clear hwn
      have bp5 := bp4.belowAll hbx; have bq5 := bq4.belowAll hbx; have br5 := br4.belowAll hbx
      have hbw5 := bStep hbw4 hbx
      have HG5' : Hid (GlobC w5) := HG4'.out.below hbx
      clear bp4 bq4 br4 hbw4 HG4' hbx
      obtain ⟨q0, q1, q2, q3, q4, q5, q6, q7, q8, qf⟩ := bp5.cells
      obtain ⟨p0, p1, p2, p3, p4, p5, p6, p7, p8, pf⟩ := bq5.cells
      go_wp2_with fail
      refine (HIN.out _).mono ?_
      rintro e wz ⟨rfl, hbz⟩
      clear q0 q1 q2 q3 q4 q5 q6 q7 q8 qf p0 p1 p2 p3 p4 p5 p6 p7 p8 pf
      obtain ⟨r0, r1, r2, r3, r4, r5, r6, r7, r8, rf⟩ := (br5.belowAll hbz).cells
      have hbe := bStep hbw5 hbz
      go_wp2
      refine bodyPost_ret (v := .agg #[.int .u64 (limb 0 0), .int .u64 (limb 1 0), .int .u64 (limb 2 0), .int .u64 (limb 3 0), .int .u64 (limb 0 0), .int .u64 (limb 1 0), .int .u64 (limb 2 0), .int .u64 (limb 3 0), .bool true]) (by simp [results, Tryz.results24, go_sem, r0, r1, r2, r3, r4, r5, r6, r7, r8]) rfl ⟨by rw [HVV.out], ?_⟩
      exact bSet9 hbe hrw _ _ _ _ _ _ _ _ _
     ·rw [decide_eq_false hO] at Q3
      have HV := HA5.out HNO.out HI1.out HI2.out hO
      have HVV := (show Hid _ from HV)
      clear HV hO HA2 HA3 HA4 HA5 HNO
      go_cut [32] (fun b wx => b = .bool false ∧ Below w4.heap.size w4 wx)
      case first =>
       have HS0 : Hid (Below w4.heap.size w4 w4.drew) := (Below.refl _ _).drew
       refine wp_region_Z (fun w' => Below w4.heap.size w4 w') 99 (by kernel_rfl) ?_
       refine zT 0 33 (.agg #[.int .u64 (limb 0 u), .int .u64 (limb 1 u), .int .u64 (limb 2 u), .int .u64 (limb 3 u), .int .u64 (limb 0 v), .int .u64 (limb 1 v), .int .u64 (limb 2 v), .int .u64 (limb 3 v), .bool j]) rfl rfl (fun w hSw => by (obtain ⟨q0, q1, q2, q3, q4, q5, q6, q7, q8, qf⟩ := (bq4.belowAll hSw).cells; clear hSw; go_simp)) HS0.out ?_
       refine zs 1 34 (.int .i64 (c : Int)) HS0.out ?_
       refine zT 2 35 (.agg #[.int .u64 (limb 0 x), .int .u64 (limb 1 x), .int .u64 (limb 2 x), .int .u64 (limb 3 x), .int .u64 (limb 0 y), .int .u64 (limb 1 y), .int .u64 (limb 2 y), .int .u64 (limb 3 y), .bool i]) rfl rfl (fun w hSw => by (obtain ⟨q0, q1, q2, q3, q4, q5, q6, q7, q8, qf⟩ := (bp4.belowAll hSw).cells; clear hSw; go_simp)) HS0.out ?_
       refine zo 3 rfl (fun K hK => ?_)
       go_simp
       refine (HOP.out w4.drew (HG4'.out.below (HS0.out))).mono ?_
       rintro e wK1 ⟨rfl, hbK1⟩
       have hSK1 := bStep HS0.out hbK1
       go_wp2_with fail
       refine hK.out _ _ (fun _ => hSK1) ?_
       clear hK K
       refine zs 4 37 (.bool false) hSK1 ?_
       refine zs 5 32 (.bool false) hSK1 ?_
       refine zd ?_ _
       go_wp2_with fail
       go_meet
       exact ⟨rfl, hSK1⟩
      obtain ⟨rfl, hbx⟩ := hcut
      obtain ⟨w5, hwn⟩ : ∃ x, x = wc := ⟨_, rfl⟩
      rw [← hwn] at hbx ⊢
      clear hwn
      have bp5 := bp4.belowAll hbx; have bq5 := bq4.belowAll hbx; have br5 := br4.belowAll hbx
      have hbw5 := bStep hbw4 hbx
      have HG5' : Hid (GlobC w5) := HG4'.out.below hbx
      clear bp4 bq4 br4 hbw4 HG4' hbx
      clear Q3 HOP HIN HI1 HI2 HO1' HO2'
      have hif := HIF.out; have hjf := HJF.out
      clear HIF HJF
      subst hif hjf
      go_upto_region 9 with fail
      obtain ⟨q0, q1, q2, q3, q4, q5, q6, q7, q8, qf⟩ := bp5.cells
      obtain ⟨p0, p1, p2, p3, p4, p5, p6, p7, p8, pf⟩ := bq5.cells
      go_wp2_with fail
      refine (HSL.out _ HG5'.out).mono ?_
      rintro e w6 ⟨rfl, hb6⟩
      clear q0 q1 q2 q3 q4 q5 q6 q7 q8 qf p0 p1 p2 p3 p4 p5 p6 p7 p8 pf
      have bp6 := bp5.belowAll hb6; have bq6 := bq5.belowAll hb6; have br6 := br5.belowAll hb6
      have hbw6 := bStep hbw5 hb6
      have HG6' : Hid (GlobC w6) := HG5'.out.below hb6
      clear bp5 bq5 br5 hbw5 HG5' hb6
      clear HSL
      have hal : Below w6.heap.size w6 (w6.alloc (.cells #[.int .u64 (limb 0 s), .int .u64 (limb 1 s), .int .u64 (limb 2 s), .int .u64 (limb 3 s)] 28)) := (Below.refl _ _).alloc (Nat.le_refl _) _
      have b7 : Blk (w6.alloc (.cells #[.int .u64 (limb 0 s), .int .u64 (limb 1 s), .int .u64 (limb 2 s), .int .u64 (limb 3 s)] 28)) 28 w6.heap.size (fun i => limb i s) := Blk.newAt _ _ _ (fun i => limb i s) rfl
      go_upto_region 10 with fail
      obtain ⟨w7, hw7⟩ : ∃ x : World, x = w6.alloc (.cells #[.int .u64 (limb 0 s), .int .u64 (limb 1 s), .int .u64 (limb 2 s), .int .u64 (limb 3 s)] 28) := ⟨_, rfl⟩
      obtain ⟨N7, hN7⟩ : ∃ N, N = w6.heap.size := ⟨_, rfl⟩
      have lr7 : w.heap.size + 1 + 1 < N7 := by rw [hN7]; exact br6.lt
      rw [← hw7] at hal b7 ⊢
      rw [← hN7] at b7 ⊢
      have bp7 := bp6.belowAll hal; have bq7 := bq6.belowAll hal; have br7 := br6.belowAll hal
      have hbw7 := bStep hbw6 hal
      have HG7' : Hid (GlobC w7) := HG6'.out.below hal
      clear bp6 bq6 br6 hbw6 HG6' hal
      clear hw7 hN7
      go_cut [8] (fun p wx => ∃ N : Nat, p = .pointer (some ⟨N, 0, none⟩) ∧ w7.heap.size ≤ N ∧ Blk wx 28 N (fun i => limb i X) ∧ Below w7.heap.size w7 wx)
      case first =>
       have HS0 : Hid (Below w7.heap.size w7 w7.drew) := (Below.refl _ _).drew
       refine wp_region_Z (fun w' => Kp w7 w') 99 (by kernel_rfl) ?_
       refine zs 0 43 (.int .i64 (c : Int)) (HS0.out) ?_
       refine zs 1 44 (.int .i64 (c : Int)) (HS0.out) ?_
       refine zs 2 45 (.int .i64 (c : Int)) (HS0.out) ?_
       refine zT 3 46 (.agg #[.int .u64 (limb 0 s), .int .u64 (limb 1 s), .int .u64 (limb 2 s), .int .u64 (limb 3 s)]) rfl rfl (fun w hSw => by (have qq := (b7.belowAll hSw).cell; clear hSw; go_simp)) (HS0.out) ?_
       refine zT 4 47 (.agg #[.int .u64 (limb 0 s), .int .u64 (limb 1 s), .int .u64 (limb 2 s), .int .u64 (limb 3 s)]) rfl rfl (fun w hSw => by (have qq := (b7.belowAll hSw).cell; clear hSw; go_simp)) (HS0.out) ?_
       refine zs 6 49 (.pointer (some ⟨w.heap.size, 0, none⟩)) (HS0.out) ?_
       refine zT 7 50 (.agg #[.int .u64 (limb 0 x), .int .u64 (limb 1 x), .int .u64 (limb 2 x), .int .u64 (limb 3 x)]) rfl rfl (fun w hSw => by (obtain ⟨q0, q1, q2, q3, q4, q5, q6, q7, q8, qf⟩ := (bp7.belowAll hSw).cells; clear hSw; go_simp)) (HS0.out) ?_
       refine zs 9 52 (.pointer (some ⟨(w.heap.size + 1), 0, none⟩)) (HS0.out) ?_
       refine zT 10 53 (.agg #[.int .u64 (limb 0 u), .int .u64 (limb 1 u), .int .u64 (limb 2 u), .int .u64 (limb 3 u)]) rfl rfl (fun w hSw => by (obtain ⟨q0, q1, q2, q3, q4, q5, q6, q7, q8, qf⟩ := (bq7.belowAll hSw).cells; clear hSw; go_simp)) (HS0.out) ?_
       refine zw 5 12 rfl rfl (fun K hK => ?_) (fun K hK => ?_) 
       ·go_simp
        refine (HM1.out w7.drew (HG7'.out.below (HS0.out)).1).mono ?_
        rintro e wK1 ⟨rfl, hbK1⟩
        have hSK1 := bStep HS0.out hbK1
        go_wp2_with fail
        refine hK.out _ _ (fun _ => hSK1) ?_
        clear hK K
        refine zw 8 12 rfl rfl (fun K hK => ?_) (fun K hK => ?_) 
        ·go_simp
         refine (HS1.out wK1 (HG7'.out.below (hSK1)).1).mono ?_
         rintro e wK2 ⟨rfl, hbK2⟩
         have hSK2 := bStep hSK1 hbK2
         go_wp2_with fail
         refine hK.out _ _ (fun _ => hSK2) ?_
         clear hK K
         refine zw 11 12 rfl rfl (fun K hK => ?_) (fun K hK => ?_) 
         ·go_simp
          refine (HS2'.out wK2 (HG7'.out.below (hSK2)).1).mono ?_
          rintro e wK3 ⟨rfl, hbK3⟩
          have hSK3 := bStep hSK2 hbK3
          go_wp2_with fail
          refine hK.out _ _ (fun _ => hSK3) ?_
          clear hK K
          refine zo 12 rfl (fun K hK => ?_)
          go_simp
          obtain ⟨N8_4, wK4, hN, hw, hSK4, b8_4, lN8_4, hx⟩ := pkA hSK3
          rw [hw, hN]
          refine hK.out _ _ (fun _ => hSK4) ?_
          clear hK K hw hN hx
          refine zo 13 rfl (fun K hK => ?_)
          have cS := b8_4.cell; have fS := b8_4.frozen
          go_simp
          obtain ⟨wK5, hw, hSK5, b8_5, hx⟩ := pkS b8_4 (hSK4) lN8_4 X
          rw [hw]
          refine hK.out _ _ (fun _ => hSK5) ?_
          clear hK K cS fS hw hx
          refine zd ?_ _
          go_wp2_with fail
          go_meet
          exact ⟨_, rfl, lN8_4, b8_5, hSK5⟩
         ·go_simp
          obtain ⟨N8_3, wK3, hN, hw, hSK3, b8_3, lN8_3, hx⟩ := pkA hSK2
          rw [hw, hN]
          refine hK.out _ _ (fun _ => hSK3) ?_
          clear hK K hw hN hx
          refine zo 11 rfl (fun K hK => ?_)
          go_simp
          refine (HS2'.out wK3 (HG7'.out.below (hSK3)).1).mono ?_
          rintro e wK4 ⟨rfl, hbK4⟩
          have hSK4 := bStep hSK3 hbK4
          go_wp2_with fail
          refine hK.out _ _ (fun _ => hSK4) ?_
          clear hK K
          have b8_4 := b8_3.belowAll hbK4
          refine zo 13 rfl (fun K hK => ?_)
          have cS := b8_4.cell; have fS := b8_4.frozen
          go_simp
          obtain ⟨wK5, hw, hSK5, b8_5, hx⟩ := pkS b8_4 (hSK4) lN8_3 X
          rw [hw]
          refine hK.out _ _ (fun _ => hSK5) ?_
          clear hK K cS fS hw hx
          refine zd ?_ _
          go_wp2_with fail
          go_meet
          exact ⟨_, rfl, lN8_3, b8_5, hSK5⟩
        ·go_simp
         obtain ⟨N8_2, wK2, hN, hw, hSK2, b8_2, lN8_2, hx⟩ := pkA hSK1
         rw [hw, hN]
         refine hK.out _ _ (fun _ => hSK2) ?_
         clear hK K hw hN hx
         refine zo 8 rfl (fun K hK => ?_)
         go_simp
         refine (HS1.out wK2 (HG7'.out.below (hSK2)).1).mono ?_
         rintro e wK3 ⟨rfl, hbK3⟩
         have hSK3 := bStep hSK2 hbK3
         go_wp2_with fail
         refine hK.out _ _ (fun _ => hSK3) ?_
         clear hK K
         have b8_3 := b8_2.belowAll hbK3
         refine zo 11 rfl (fun K hK => ?_)
         go_simp
         refine (HS2'.out wK3 (HG7'.out.below (hSK3)).1).mono ?_
         rintro e wK4 ⟨rfl, hbK4⟩
         have hSK4 := bStep hSK3 hbK4
         go_wp2_with fail
         refine hK.out _ _ (fun _ => hSK4) ?_
         clear hK K
         have b8_4 := b8_3.belowAll hbK4
         refine zo 13 rfl (fun K hK => ?_)
         have cS := b8_4.cell; have fS := b8_4.frozen
         go_simp
         obtain ⟨wK5, hw, hSK5, b8_5, hx⟩ := pkS b8_4 (hSK4) lN8_2 X
         rw [hw]
         refine hK.out _ _ (fun _ => hSK5) ?_
         clear hK K cS fS hw hx
         refine zd ?_ _
         go_wp2_with fail
         go_meet
         exact ⟨_, rfl, lN8_2, b8_5, hSK5⟩
       ·go_simp
        obtain ⟨N8_1, wK1, hN, hw, hSK1, b8_1, lN8_1, hx⟩ := pkD w7
        rw [hw, hN]
        refine hK.out _ _ (fun _ => hSK1) ?_
        clear hK K hw hN hx
        refine zo 5 rfl (fun K hK => ?_)
        go_simp
        refine (HM1.out wK1 (HG7'.out.below (hSK1)).1).mono ?_
        rintro e wK2 ⟨rfl, hbK2⟩
        have hSK2 := bStep hSK1 hbK2
        go_wp2_with fail
        refine hK.out _ _ (fun _ => hSK2) ?_
        clear hK K
        have b8_2 := b8_1.belowAll hbK2
        refine zo 8 rfl (fun K hK => ?_)
        go_simp
        refine (HS1.out wK2 (HG7'.out.below (hSK2)).1).mono ?_
        rintro e wK3 ⟨rfl, hbK3⟩
        have hSK3 := bStep hSK2 hbK3
        go_wp2_with fail
        refine hK.out _ _ (fun _ => hSK3) ?_
        clear hK K
        have b8_3 := b8_2.belowAll hbK3
        refine zo 11 rfl (fun K hK => ?_)
        go_simp
        refine (HS2'.out wK3 (HG7'.out.below (hSK3)).1).mono ?_
        rintro e wK4 ⟨rfl, hbK4⟩
        have hSK4 := bStep hSK3 hbK4
        go_wp2_with fail
        refine hK.out _ _ (fun _ => hSK4) ?_
        clear hK K
        have b8_4 := b8_3.belowAll hbK4
        refine zo 13 rfl (fun K hK => ?_)
        have cS := b8_4.cell; have fS := b8_4.frozen
        go_simp
        obtain ⟨wK5, hw, hSK5, b8_5, hx⟩ := pkS b8_4 (hSK4) lN8_1 X
        rw [hw]
        refine hK.out _ _ (fun _ => hSK5) ?_
        clear hK K cS fS hw hx
        refine zd ?_ _
        go_wp2_with fail
        go_meet
        exact ⟨_, rfl, lN8_1, b8_5, hSK5⟩
      obtain ⟨N8, rfl, lN8, bN8, hbx⟩ := hcut
      obtain ⟨w8, hwn⟩ : ∃ x, x = wc := ⟨_, rfl⟩
      rw [← hwn] at hbx bN8 ⊢
      clear hwn
      have b7' := b7.belowAll hbx
      clear b7
      have b7 := b7'
      clear b7'
      have bp8 := bp7.belowAll hbx; have bq8 := bq7.belowAll hbx; have br8 := br7.belowAll hbx
      have hbw8 := bStep hbw7 hbx
      have HG8' : Hid (GlobC w8) := HG7'.out.below hbx
      clear bp7 bq7 br7 hbw7 HG7' hbx
      clear HM1 HS1 HS2'
      go_upto_region 11 with fail
      go_cut [9] (fun p wx => ∃ N : Nat, p = .pointer (some ⟨N, 0, none⟩) ∧ w8.heap.size ≤ N ∧ Blk wx 28 N (fun i => limb i Y) ∧ Below w8.heap.size w8 wx)
      case first =>
       have HS0 : Hid (Below w8.heap.size w8 w8.drew) := (Below.refl _ _).drew
       refine wp_region_Z (fun w' => Kp w8 w') 99 (by kernel_rfl) ?_
       refine zs 0 55 (.int .i64 (c : Int)) (HS0.out) ?_
       refine zs 1 56 (.int .i64 (c : Int)) (HS0.out) ?_
       refine zT 2 57 (.agg #[.int .u64 (limb 0 s), .int .u64 (limb 1 s), .int .u64 (limb 2 s), .int .u64 (limb 3 s)]) rfl rfl (fun w hSw => by (have qq := (b7.belowAll hSw).cell; clear hSw; go_simp)) (HS0.out) ?_
       refine zs 3 58 (.int .i64 (c : Int)) (HS0.out) ?_
       refine zs 4 59 (.pointer (some ⟨w.heap.size, 0, none⟩)) (HS0.out) ?_
       refine zT 5 60 (.agg #[.int .u64 (limb 0 x), .int .u64 (limb 1 x), .int .u64 (limb 2 x), .int .u64 (limb 3 x)]) rfl rfl (fun w hSw => by (obtain ⟨q0, q1, q2, q3, q4, q5, q6, q7, q8, qf⟩ := (bp8.belowAll hSw).cells; clear hSw; go_simp)) (HS0.out) ?_
       refine zT 6 61 (.agg #[.int .u64 (limb 0 X), .int .u64 (limb 1 X), .int .u64 (limb 2 X), .int .u64 (limb 3 X)]) rfl rfl (fun w hSw => by (have qq := (bN8.belowAll hSw).cell; clear hSw; go_simp)) (HS0.out) ?_
       refine zs 9 64 (.pointer (some ⟨w.heap.size, 4, none⟩)) (HS0.out) ?_
       refine zT 10 65 (.agg #[.int .u64 (limb 0 y), .int .u64 (limb 1 y), .int .u64 (limb 2 y), .int .u64 (limb 3 y)]) rfl rfl (fun w hSw => by (obtain ⟨q0, q1, q2, q3, q4, q5, q6, q7, q8, qf⟩ := (bp8.belowAll hSw).cells; clear hSw; go_simp)) (HS0.out) ?_
       refine zw 7 12 rfl rfl (fun K hK => ?_) (fun K hK => ?_) 
       ·go_simp
        refine (HS3.out w8.drew (HG8'.out.below (HS0.out)).1).mono ?_
        rintro e wK1 ⟨rfl, hbK1⟩
        have hSK1 := bStep HS0.out hbK1
        go_wp2_with fail
        refine hK.out _ _ (fun _ => hSK1) ?_
        clear hK K
        refine zw 8 12 rfl rfl (fun K hK => ?_) (fun K hK => ?_) 
        ·go_simp
         refine (HM2.out wK1 (HG8'.out.below (hSK1)).1).mono ?_
         rintro e wK2 ⟨rfl, hbK2⟩
         have hSK2 := bStep hSK1 hbK2
         go_wp2_with fail
         refine hK.out _ _ (fun _ => hSK2) ?_
         clear hK K
         refine zw 11 12 rfl rfl (fun K hK => ?_) (fun K hK => ?_) 
         ·go_simp
          refine (HS4'.out wK2 (HG8'.out.below (hSK2)).1).mono ?_
          rintro e wK3 ⟨rfl, hbK3⟩
          have hSK3 := bStep hSK2 hbK3
          go_wp2_with fail
          refine hK.out _ _ (fun _ => hSK3) ?_
          clear hK K
          refine zo 12 rfl (fun K hK => ?_)
          go_simp
          obtain ⟨N9_4, wK4, hN, hw, hSK4, b9_4, lN9_4, hx⟩ := pkA hSK3
          rw [hw, hN]
          refine hK.out _ _ (fun _ => hSK4) ?_
          clear hK K hw hN hx
          refine zo 13 rfl (fun K hK => ?_)
          have cS := b9_4.cell; have fS := b9_4.frozen
          go_simp
          obtain ⟨wK5, hw, hSK5, b9_5, hx⟩ := pkS b9_4 (hSK4) lN9_4 Y
          rw [hw]
          refine hK.out _ _ (fun _ => hSK5) ?_
          clear hK K cS fS hw hx
          refine zd ?_ _
          go_wp2_with fail
          go_meet
          exact ⟨_, rfl, lN9_4, b9_5, hSK5⟩
         ·go_simp
          obtain ⟨N9_3, wK3, hN, hw, hSK3, b9_3, lN9_3, hx⟩ := pkA hSK2
          rw [hw, hN]
          refine hK.out _ _ (fun _ => hSK3) ?_
          clear hK K hw hN hx
          refine zo 11 rfl (fun K hK => ?_)
          go_simp
          refine (HS4'.out wK3 (HG8'.out.below (hSK3)).1).mono ?_
          rintro e wK4 ⟨rfl, hbK4⟩
          have hSK4 := bStep hSK3 hbK4
          go_wp2_with fail
          refine hK.out _ _ (fun _ => hSK4) ?_
          clear hK K
          have b9_4 := b9_3.belowAll hbK4
          refine zo 13 rfl (fun K hK => ?_)
          have cS := b9_4.cell; have fS := b9_4.frozen
          go_simp
          obtain ⟨wK5, hw, hSK5, b9_5, hx⟩ := pkS b9_4 (hSK4) lN9_3 Y
          rw [hw]
          refine hK.out _ _ (fun _ => hSK5) ?_
          clear hK K cS fS hw hx
          refine zd ?_ _
          go_wp2_with fail
          go_meet
          exact ⟨_, rfl, lN9_3, b9_5, hSK5⟩
        ·go_simp
         obtain ⟨N9_2, wK2, hN, hw, hSK2, b9_2, lN9_2, hx⟩ := pkA hSK1
         rw [hw, hN]
         refine hK.out _ _ (fun _ => hSK2) ?_
         clear hK K hw hN hx
         refine zo 8 rfl (fun K hK => ?_)
         go_simp
         refine (HM2.out wK2 (HG8'.out.below (hSK2)).1).mono ?_
         rintro e wK3 ⟨rfl, hbK3⟩
         have hSK3 := bStep hSK2 hbK3
         go_wp2_with fail
         refine hK.out _ _ (fun _ => hSK3) ?_
         clear hK K
         have b9_3 := b9_2.belowAll hbK3
         refine zo 11 rfl (fun K hK => ?_)
         go_simp
         refine (HS4'.out wK3 (HG8'.out.below (hSK3)).1).mono ?_
         rintro e wK4 ⟨rfl, hbK4⟩
         have hSK4 := bStep hSK3 hbK4
         go_wp2_with fail
         refine hK.out _ _ (fun _ => hSK4) ?_
         clear hK K
         have b9_4 := b9_3.belowAll hbK4
         refine zo 13 rfl (fun K hK => ?_)
         have cS := b9_4.cell; have fS := b9_4.frozen
         go_simp
         obtain ⟨wK5, hw, hSK5, b9_5, hx⟩ := pkS b9_4 (hSK4) lN9_2 Y
         rw [hw]
         refine hK.out _ _ (fun _ => hSK5) ?_
         clear hK K cS fS hw hx
         refine zd ?_ _
         go_wp2_with fail
         go_meet
         exact ⟨_, rfl, lN9_2, b9_5, hSK5⟩
       ·go_simp
        obtain ⟨N9_1, wK1, hN, hw, hSK1, b9_1, lN9_1, hx⟩ := pkD w8
        rw [hw, hN]
        refine hK.out _ _ (fun _ => hSK1) ?_
        clear hK K hw hN hx
        refine zo 7 rfl (fun K hK => ?_)
        go_simp
        refine (HS3.out wK1 (HG8'.out.below (hSK1)).1).mono ?_
        rintro e wK2 ⟨rfl, hbK2⟩
        have hSK2 := bStep hSK1 hbK2
        go_wp2_with fail
        refine hK.out _ _ (fun _ => hSK2) ?_
        clear hK K
        have b9_2 := b9_1.belowAll hbK2
        refine zo 8 rfl (fun K hK => ?_)
        go_simp
        refine (HM2.out wK2 (HG8'.out.below (hSK2)).1).mono ?_
        rintro e wK3 ⟨rfl, hbK3⟩
        have hSK3 := bStep hSK2 hbK3
        go_wp2_with fail
        refine hK.out _ _ (fun _ => hSK3) ?_
        clear hK K
        have b9_3 := b9_2.belowAll hbK3
        refine zo 11 rfl (fun K hK => ?_)
        go_simp
        refine (HS4'.out wK3 (HG8'.out.below (hSK3)).1).mono ?_
        rintro e wK4 ⟨rfl, hbK4⟩
        have hSK4 := bStep hSK3 hbK4
        go_wp2_with fail
        refine hK.out _ _ (fun _ => hSK4) ?_
        clear hK K
        have b9_4 := b9_3.belowAll hbK4
        refine zo 13 rfl (fun K hK => ?_)
        have cS := b9_4.cell; have fS := b9_4.frozen
        go_simp
        obtain ⟨wK5, hw, hSK5, b9_5, hx⟩ := pkS b9_4 (hSK4) lN9_1 Y
        rw [hw]
        refine hK.out _ _ (fun _ => hSK5) ?_
        clear hK K cS fS hw hx
        refine zd ?_ _
        go_wp2_with fail
        go_meet
        exact ⟨_, rfl, lN9_1, b9_5, hSK5⟩
      obtain ⟨N9, rfl, lN9, bN9, hbx⟩ := hcut
      obtain ⟨w9, hwn⟩ : ∃ x, x = wc := ⟨_, rfl⟩
      rw [← hwn] at hbx bN9 ⊢
      clear hwn
      have bN8' := bN8.belowAll hbx
      clear bN8
      have bp9 := bp8.belowAll hbx; have bq9 := bq8.belowAll hbx; have br9 := br8.belowAll hbx
      have hbw9 := bStep hbw8 hbx
      have HG9' : Hid (GlobC w9) := HG8'.out.below hbx
      clear bp8 bq8 br8 hbw8 HG8' hbx
      have c8 := bN8'.cell; have c9 := bN9.cell
      obtain ⟨r0, r1, r2, r3, r4, r5, r6, r7, r8, rf⟩ := br9.cells
      go_wp2
      refine bodyPost_ret (v := .agg #[.int .u64 (limb 0 X), .int .u64 (limb 1 X), .int .u64 (limb 2 X), .int .u64 (limb 3 X), .int .u64 (limb 0 Y), .int .u64 (limb 1 Y), .int .u64 (limb 2 Y), .int .u64 (limb 3 Y), .bool false]) (by simp [results, Tryz.results24, go_sem, r0, r1, r2, r3, r4, r5, r6, r7, r8]) rfl ⟨by rw [HVV.out], ?_⟩
      exact bSet9 hbw9 hrw _ _ _ _ _ _ _ _ _
  ·rw [decide_eq_false ho2] at HO2
   have HV := HA1.out (Or.inr ho2)
   have HVV := (show Hid _ from HV)
   clear HV ho1 ho2 HA1 HA2 HA3 HA4 HA5 Q1 Q2 Q3
   go_wp2_with fail
   refine (HO2.out _ HG1'.out).mono ?_
   rintro e w2 ⟨rfl, hb2⟩
   clear q0 q1 q2 q3 q4 q5 q6 q7 q8 qf p0 p1 p2 p3 p4 p5 p6 p7 p8 pf
   have bp2 := bp1.belowAll hb2; have bq2 := bq1.belowAll hb2; have br2 := br1.belowAll hb2
   have hbw2 := bStep hbw1 hb2
   have HG2' : Hid (GlobC w2) := HG1'.out.below hb2
   clear bp1 bq1 br1 hbw1 HG1' hb2
   obtain ⟨q0, q1, q2, q3, q4, q5, q6, q7, q8, qf⟩ := bp2.cells
   obtain ⟨p0, p1, p2, p3, p4, p5, p6, p7, p8, pf⟩ := bq2.cells
   go_wp2_with fail
   refine (HIN.out _).mono ?_
   rintro e wz ⟨rfl, hbz⟩
   clear q0 q1 q2 q3 q4 q5 q6 q7 q8 qf p0 p1 p2 p3 p4 p5 p6 p7 p8 pf
   obtain ⟨r0, r1, r2, r3, r4, r5, r6, r7, r8, rf⟩ := (br2.belowAll hbz).cells
   have hbe := bStep hbw2 hbz
   go_wp2
   refine bodyPost_ret (v := .agg #[.int .u64 (limb 0 0), .int .u64 (limb 1 0), .int .u64 (limb 2 0), .int .u64 (limb 3 0), .int .u64 (limb 0 0), .int .u64 (limb 1 0), .int .u64 (limb 2 0), .int .u64 (limb 3 0), .bool true]) (by simp [results, Tryz.results24, go_sem, r0, r1, r2, r3, r4, r5, r6, r7, r8]) rfl ⟨by rw [HVV.out], ?_⟩
   exact bSet9 hbe hrw _ _ _ _ _ _ _ _ _
 ·rw [decide_eq_false ho1] at HO1
  have HV := HA1.out (Or.inl ho1)
  have HVV := (show Hid _ from HV)
  clear HV ho1 HA1 HA2 HA3 HA4 HA5 Q1 Q2 Q3
  obtain ⟨q0, q1, q2, q3, q4, q5, q6, q7, q8, qf⟩ := bp0.cells
  obtain ⟨p0, p1, p2, p3, p4, p5, p6, p7, p8, pf⟩ := bq0.cells
  go_wp2_with fail
  refine (HO1.out _ HG0'.out).mono ?_
  rintro e w1 ⟨rfl, hb1⟩
  clear q0 q1 q2 q3 q4 q5 q6 q7 q8 qf p0 p1 p2 p3 p4 p5 p6 p7 p8 pf
  have bp1 := bp0.belowAll hb1; have bq1 := bq0.belowAll hb1; have br1 := br0.belowAll hb1
  have hbw1 := bStep hbw0 hb1
  have HG1' : Hid (GlobC w1) := HG0'.out.below hb1
  clear bp0 bq0 br0 hbw0 HG0' hb1
  obtain ⟨q0, q1, q2, q3, q4, q5, q6, q7, q8, qf⟩ := bp1.cells
  obtain ⟨p0, p1, p2, p3, p4, p5, p6, p7, p8, pf⟩ := bq1.cells
  go_wp2_with fail
  refine (HIN.out _).mono ?_
  rintro e wz ⟨rfl, hbz⟩
  clear q0 q1 q2 q3 q4 q5 q6 q7 q8 qf p0 p1 p2 p3 p4 p5 p6 p7 p8 pf
  obtain ⟨r0, r1, r2, r3, r4, r5, r6, r7, r8, rf⟩ := (br1.belowAll hbz).cells
  have hbe := bStep hbw1 hbz
  go_wp2
  refine bodyPost_ret (v := .agg #[.int .u64 (limb 0 0), .int .u64 (limb 1 0), .int .u64 (limb 2 0), .int .u64 (limb 3 0), .int .u64 (limb 0 0), .int .u64 (limb 1 0), .int .u64 (limb 2 0), .int .u64 (limb 3 0), .bool true]) (by simp [results, Tryz.results24, go_sem, r0, r1, r2, r3, r4, r5, r6, r7, r8]) rfl ⟨by rw [HVV.out], ?_⟩
  exact bSet9 hbe hrw _ _ _ _ _ _ _ _ _
end Go.Proofs.YtokoknacolmhgaaGreatDoor
