import Derived.Test.YtokoknacolmhgaaGreatDoorWSW
import Derived.Test.YtokoknacolmhgaaGreatDoorWSL
import Derived.Test.YtokoknacolmhgaaGreatDoorWXF
namespace Go.Proofs.YtokoknacolmhgaaGreatDoor
open Go.RowKit
theorem own_not_blk {w : World} {base n b : Nat} {v : Value} {xs : List Value} {f : Nat → Nat} (h : w.ownsRow base 43 13 v n xs) (hB : Blk w 28 b f) : v.ownBlock ≠ some b := by
 rcases h.2 with ⟨rfl, _⟩ | ⟨g, cap, cur, rfl, _, hg, _⟩
 ·intro e; cases e
 ·intro e
  have e2 : g = b := Option.some.inj e
  subst e2
  unfold Blk at hB
  rw [hB] at hg
  cases hg
def sclT (s k : Nat) (T : Nat → Nat × Nat × Nat × Bool) (i : Nat) : Nat × Nat × Nat × Bool := (mulP s (T i).1 k, (T i).2)
theorem scl_put (s k : Nat) (T : Nat → Nat × Nat × Nat × Bool) (j K X Y : Nat) (I : Bool) (hE : T j = (K, X, Y, I)) : trs (sclT s k T) j ++ trs (fun _ => (mulP s K k, X, Y, I)) 1 = trs (sclT s k T) (j + 1) := by
 rw [trs_put]
 refine trs_congr (fun i hi => ?_)
 unfold put
 split
 ·rfl
 ·rw [show i = j from by omega]
  unfold sclT
  rw [hE]
set_option maxHeartbeats 8000000 in
set_option maxRecDepth 20000 in
theorem rscale_any (c s k n cn : Nat) (oa : Option Addr) (T : Nat → Nat × Nat × Nat × Bool) (hxo : bits BinOp.xor IntKind.i64 (c : Int) 1 = (s : Int)) (hs : s < 4) (hk : k < 115792089237316195423570985008687907853269984665640564039457584007913129639936) (hn : n ≤ 1000) (hT : ∀ i, i < n → (T i).1 < 115792089237316195423570985008687907853269984665640564039457584007913129639936 ∧ (T i).2.1 < 115792089237316195423570985008687907853269984665640564039457584007913129639936 ∧ (T i).2.2.1 < 115792089237316195423570985008687907853269984665640564039457584007913129639936) (w : World) (hv : Rs w (.slice oa n cn) 13 n (fun i => tC (T i))) :
  Calls Tryz.prog 19 #[.int .i64 (c : Int), .slice oa n cn, .agg #[.int .u64 (limb 0 k), .int .u64 (limb 1 k), .int .u64 (limb 2 k), .int .u64 (limb 3 k)]] w fun e w' => ∃ v', e = .returned v' ∧ w'.ownsRow w.heap.size 43 13 v' n (trs (sclT s k T) n) ∧ Below w.heap.size w w' := by
 have HMU : Hid (∀ a, a < 115792089237316195423570985008687907853269984665640564039457584007913129639936 → ∀ w, Calls Tryz.prog 38 #[.int .i64 (s : Int), .agg #[.int .u64 (limb 0 a), .int .u64 (limb 1 a), .int .u64 (limb 2 a), .int .u64 (limb 3 a)], .agg #[.int .u64 (limb 0 k), .int .u64 (limb 1 k), .int .u64 (limb 2 k), .int .u64 (limb 3 k)]] w fun e w' => e = .returned (.agg #[.int .u64 (limb 0 (mulP s a k)), .int .u64 (limb 1 (mulP s a k)), .int .u64 (limb 2 (mulP s a k)), .int .u64 (limb 3 (mulP s a k))]) ∧ Below w.heap.size w w') := fun a ha w => ref2Mul_any s a k hs ha hk w
 have HT := (show Hid _ from hT)
 have HV : Hid (Rs w (.slice oa n cn) 13 n (fun i => tC (T i))) := hv
 have HXO : Hid (bits BinOp.xor IntKind.i64 (c : Int) 1 = (s : Int)) := hxo
 obtain ⟨i0, hi, hz0, hz1, hz2⟩ := termInfo
 have HI := (show Hid _ from hi); have HZ := (show Hid _ from And.intro hz0 (And.intro hz1 hz2)); clear hi hz0 hz1 hz2
 clear hs hk hT hv hxo
 go_enter Tryz.func19, Tryz.ntmps19
 go_upto_region 2 with fail
 obtain ⟨N5, eN5⟩ : ∃ N, N = w.heap.size := ⟨_, rfl⟩
 obtain ⟨N9, eN9⟩ : ∃ N, N = w.heap.size + 1 := ⟨_, rfl⟩
 obtain ⟨w0, hw0⟩ : ∃ w0 : World, w0 = (w.alloc (.cells #[.int .u64 (limb 0 k), .int .u64 (limb 1 k), .int .u64 (limb 2 k), .int .u64 (limb 3 k)] 28)).alloc (.cells #[] 43) := ⟨_, rfl⟩
 have bk0 : Blk w0 28 N5 (fun i => limb i k) := by rw [hw0, eN5]; exact (Blk.newAt _ _ _ (fun i => limb i k) (by simp)).alloc _
 have hb0 : Below w.heap.size w w0 := by rw [hw0]; exact bAlloc ((Below.refl _ _).alloc (Nat.le_refl _) _) _
 have HO0 : Hid (w0.ownsRow w.heap.size 43 13 (.slice (some ⟨N9, 0, none⟩) 0 0) 0 (trs (sclT s k T) 0)) := by
  refine ⟨rfl, Or.inr ⟨N9, 0, #[], rfl, by omega, ?_, Nat.le_refl _, by decide, rfl, rfl⟩⟩
  rw [hw0, eN9]
  have := new_blockT (w.alloc (.cells #[.int .u64 (limb 0 k), .int .u64 (limb 1 k), .int .u64 (limb 2 k), .int .u64 (limb 3 k)] 28)) (.cells #[] 43)
  rw [World.size_alloc] at this
  exact this
 rw [← hw0]
 rw [← eN9, ← eN5]
 clear hw0 eN5 eN9
 go_wp2
 go_loopw [7, 8] (fun xv iv wr => ∃ (j cx : Nat) (ox : Option Addr), iv = .int .i64 (j : Int) ∧ xv = .slice ox j cx ∧ j ≤ n ∧ Hid (wr.ownsRow w.heap.size 43 13 (.slice ox j cx) j (trs (sclT s k T) j)) ∧ Below w.heap.size w wr ∧ Blk wr 28 N5 (fun i => limb i k)) (fun _ iv _ => n - (intOf iv).toNat)
 case atStart => exact ⟨0, _, _, rfl, rfl, by omega, HO0, hb0, bk0⟩
 case round =>
  obtain ⟨j, cx, ox, rfl, rfl, hj, HO, hbr, bk⟩ := hrel
  clear bk0 hb0 HO0
  by_cases hlt : j < n
  ·have hki : (j : Int) < (n : Int) := by omega
   obtain ⟨ab, ao, rfl, lab, hcell⟩ := HV.out.at hlt
   have hTE : ∃ KK X Y I, T j = (KK, X, Y, I) := ⟨_, _, _, _, rfl⟩
   obtain ⟨KK, X, Y, I, hE⟩ := hTE
   have HXY : Hid ((T j).1 < 115792089237316195423570985008687907853269984665640564039457584007913129639936 ∧ (T j).2.1 < 115792089237316195423570985008687907853269984665640564039457584007913129639936 ∧ (T j).2.2.1 < 115792089237316195423570985008687907853269984665640564039457584007913129639936) := HT.out j hlt
   have ca : ∀ l, l < 13 → w.cell? ⟨ab, ao + j * 13 + l, none⟩ = some (tC (T j) l) := hcell
   rw [hE] at ca HXY
   have HE := (show Hid _ from hE)
   clear hE hcell
   obtain ⟨t0, t1, t2, t3, t4, t5, t6, t7, t8, t9, t10, t11, t12⟩ := tC_cells KK X Y I
   have a0 := ca 0 (by decide)
   rw [t0] at a0
   have a1 := ca 1 (by decide)
   rw [t1] at a1
   have a2 := ca 2 (by decide)
   rw [t2] at a2
   have a3 := ca 3 (by decide)
   rw [t3] at a3
   have a4 := ca 4 (by decide)
   rw [t4] at a4
   have a5 := ca 5 (by decide)
   rw [t5] at a5
   have a6 := ca 6 (by decide)
   rw [t6] at a6
   have a7 := ca 7 (by decide)
   rw [t7] at a7
   have a8 := ca 8 (by decide)
   rw [t8] at a8
   have a9 := ca 9 (by decide)
   rw [t9] at a9
   have a10 := ca 10 (by decide)
   rw [t10] at a10
   have a11 := ca 11 (by decide)
   rw [t11] at a11
   have a12 := ca 12 (by decide)
   rw [t12] at a12
   clear ca t0 t1 t2 t3 t4 t5 t6 t7 t8 t9 t10 t11 t12
   rw [Nat.add_zero] at a0
   have HC : Hid (∀ w', Below w.heap.size w w' → w'.cell? ⟨ab, ao + j * 13, none⟩ = some (.int .u64 (limb 0 KK)) ∧ w'.cell? ⟨ab, ao + j * 13 + 1, none⟩ = some (.int .u64 (limb 1 KK)) ∧ w'.cell? ⟨ab, ao + j * 13 + 2, none⟩ = some (.int .u64 (limb 2 KK)) ∧ w'.cell? ⟨ab, ao + j * 13 + 3, none⟩ = some (.int .u64 (limb 3 KK)) ∧ w'.cell? ⟨ab, ao + j * 13 + 4, none⟩ = some (.int .u64 (limb 0 X)) ∧ w'.cell? ⟨ab, ao + j * 13 + 5, none⟩ = some (.int .u64 (limb 1 X)) ∧ w'.cell? ⟨ab, ao + j * 13 + 6, none⟩ = some (.int .u64 (limb 2 X)) ∧ w'.cell? ⟨ab, ao + j * 13 + 7, none⟩ = some (.int .u64 (limb 3 X)) ∧ w'.cell? ⟨ab, ao + j * 13 + 8, none⟩ = some (.int .u64 (limb 0 Y)) ∧ w'.cell? ⟨ab, ao + j * 13 + 9, none⟩ = some (.int .u64 (limb 1 Y)) ∧ w'.cell? ⟨ab, ao + j * 13 + 10, none⟩ = some (.int .u64 (limb 2 Y)) ∧ w'.cell? ⟨ab, ao + j * 13 + 11, none⟩ = some (.int .u64 (limb 3 Y)) ∧ w'.cell? ⟨ab, ao + j * 13 + 12, none⟩ = some (.bool I)) := cells_keepM lab a0 a1 a2 a3 a4 a5 a6 a7 a8 a9 a10 a11 a12
   clear a0 a1 a2 a3 a4 a5 a6 a7 a8 a9 a10 a11 a12
   go_upto_region 5 with fail
   refine wp_region_Z (fun w' => Below w.heap.size w w' ∧ Blk w' 28 N5 (fun i => limb i k)) 99 (by kernel_rfl) ?_
   obtain ⟨wD, hD⟩ : ∃ x : World, x = wr.drew := ⟨_, rfl⟩
   rw [← hD]
   have hp0_0 : Below w.heap.size w wD := by rw [hD]; exact hbr.drew
   have hp1_0 : Blk wD 28 N5 (fun i => limb i k) := by rw [hD]; exact bk
   have hlow0 : Below wr.heap.size wr wD := by rw [hD]; exact (Below.refl _ _).drew
   clear hD
   refine zs 0 16 (.slice ox j cx) ⟨hp0_0, hp1_0⟩ ?_
   refine zs 1 17 (.int .i64 (c : Int)) ⟨hp0_0, hp1_0⟩ ?_
   refine zT 2 18 (.int .i64 (s : Int)) rfl rfl (fun w hSw => by (have hx := HXO.out; go_simp)) ⟨hp0_0, hp1_0⟩ ?_
   refine zs 3 19 (.slice (some ⟨ab, ao, none⟩) n cn) ⟨hp0_0, hp1_0⟩ ?_
   refine zs 4 20 (.int .i64 (j : Int)) ⟨hp0_0, hp1_0⟩ ?_
   refine zs 5 21 (.pointer (some ⟨ab, ao + j * 13, none⟩)) ⟨hp0_0, hp1_0⟩ ?_
   refine zs 6 22 (.pointer (some ⟨ab, ao + j * 13, none⟩)) ⟨hp0_0, hp1_0⟩ ?_
   refine zT 7 23 (.agg #[.int .u64 (limb 0 KK), .int .u64 (limb 1 KK), .int .u64 (limb 2 KK), .int .u64 (limb 3 KK)]) rfl rfl (fun w hSw => by (obtain ⟨a0, a1, a2, a3, a4, a5, a6, a7, a8, a9, a10, a11, a12⟩ := HC.out _ hSw.1; clear hSw; go_simp)) ⟨hp0_0, hp1_0⟩ ?_
   refine zT 8 24 (.agg #[.int .u64 (limb 0 k), .int .u64 (limb 1 k), .int .u64 (limb 2 k), .int .u64 (limb 3 k)]) rfl rfl (fun w hSw => by (have qq := (hSw.2).cell; clear hSw; go_simp)) ⟨hp0_0, hp1_0⟩ ?_
   refine zs 10 26 (.slice (some ⟨ab, ao, none⟩) n cn) ⟨hp0_0, hp1_0⟩ ?_
   refine zs 11 27 (.int .i64 (j : Int)) ⟨hp0_0, hp1_0⟩ ?_
   refine zs 12 28 (.pointer (some ⟨ab, ao + j * 13, none⟩)) ⟨hp0_0, hp1_0⟩ ?_
   refine zs 13 29 (.pointer (some ⟨ab, ao + j * 13 + 4, none⟩)) ⟨hp0_0, hp1_0⟩ ?_
   refine zT 14 30 (.agg #[.int .u64 (limb 0 X), .int .u64 (limb 1 X), .int .u64 (limb 2 X), .int .u64 (limb 3 X), .int .u64 (limb 0 Y), .int .u64 (limb 1 Y), .int .u64 (limb 2 Y), .int .u64 (limb 3 Y), .bool I]) rfl rfl (fun w hSw => by (obtain ⟨a0, a1, a2, a3, a4, a5, a6, a7, a8, a9, a10, a11, a12⟩ := HC.out _ hSw.1; clear hSw; go_simp)) ⟨hp0_0, hp1_0⟩ ?_
   refine zo 9 rfl (fun K hK => ?_)
   go_simp
   refine (HMU.out KK HXY.out.1 wD).mono ?_
   rintro e wK1 ⟨rfl, hbK1⟩
   have hlow1 := bStep hlow0 hbK1
   have hp0_1 : Below w.heap.size w wK1 := bStep hp0_0 hbK1
   have hp1_1 := (hp1_0).belowAll hbK1
   obtain ⟨kk, ekk⟩ : ∃ z, z = mulP s KK k := ⟨_, rfl⟩
   rw [← ekk]
   have HKV : Hid (kk = mulP s KK k) := ekk
   clear ekk
   go_wp2_with fail
   refine hK.out _ _ (fun _ => ⟨hp0_1, hp1_1⟩) ?_
   clear hK K
   refine zs 15 31 (.agg #[.int .u64 (limb 0 kk), .int .u64 (limb 1 kk), .int .u64 (limb 2 kk), .int .u64 (limb 3 kk), .int .u64 (limb 0 X), .int .u64 (limb 1 X), .int .u64 (limb 2 X), .int .u64 (limb 3 X), .int .u64 (limb 0 Y), .int .u64 (limb 1 Y), .int .u64 (limb 2 Y), .int .u64 (limb 3 Y), .bool I]) ⟨hp0_1, hp1_1⟩ ?_
   refine zo 16 rfl (fun K hK => ?_)
   go_simp
   obtain ⟨NS, eNS⟩ : ∃ N, N = wK1.heap.size := ⟨_, rfl⟩
   obtain ⟨wB, hwB⟩ : ∃ zz : World, zz = wK1.alloc (.cells #[.int .u64 (limb 0 kk), .int .u64 (limb 1 kk), .int .u64 (limb 2 kk), .int .u64 (limb 3 kk), .int .u64 (limb 0 X), .int .u64 (limb 1 X), .int .u64 (limb 2 X), .int .u64 (limb 3 X), .int .u64 (limb 0 Y), .int .u64 (limb 1 Y), .int .u64 (limb 2 Y), .int .u64 (limb 3 Y), .bool I] 43) := ⟨_, rfl⟩
   have hp0_2 : Below w.heap.size w wB := by rw [hwB]; exact bAlloc hp0_1 _
   have hp1_2 : Blk wB 28 N5 (fun i => limb i k) := by rw [hwB]; exact (hp1_1).alloc _
   have hrow : ∀ j u, (trs (fun _ => (kk, X, Y, I)) 1)[j]? = some u → wB.cell? ((⟨NS, 0, none⟩ : Addr).add j) = some u := by rw [hwB]; exact one_row wK1 NS kk X Y I eNS
   have hlow2 : Below wr.heap.size wr wB := by rw [hwB]; exact bAlloc hlow1 _
   rw [← hwB]
   rw [← eNS]
   refine hK.out _ _ (fun _ => ⟨hp0_2, hp1_2⟩) ?_
   clear hK K hwB eNS
   refine zo 17 rfl (fun K hK => ?_)
   have hownB : wB.ownsRow w.heap.size 43 13 (.slice ox j cx) j (trs (sclT s k T) j) := own_belowAll HO.out hlow2
   rw [if_pos (show Region.wanted _ _ = true from rfl)]
   refine wp_append_own wB _ _ 22 rfl w.heap.size 43 i0 (.agg #[.int .u64 0, .int .u64 0, .int .u64 0, .int .u64 0, .int .u64 0, .int .u64 0, .int .u64 0, .int .u64 0, .int .u64 0, .int .u64 0, .int .u64 0, .int .u64 0, .bool false]) 13 104 Tryz.underlying22 HI.out HZ.out.1 HZ.out.2.1 HZ.out.2.2 rfl (by decide) (.slice ox j cx) j (trs (sclT s k T) j) rfl hownB ⟨NS, 0, none⟩ 1 1 (trs (fun _ => (kk, X, Y, I)) 1) rfl (trs_len _ _) hrow (trs_one _ _) ?c1 ?c2 ?c3 ?_
   case c1 => unfold maxLen; omega
   case c2 => omega
   case c3 => exact (hp0_2).size
   intro v' wA hownA hgrow _
   rw [HKV.out, scl_put s k T j KK X Y I HE.out] at hownA
   have hn5 : some N5 ≠ (Value.slice ox j cx).ownBlock := fun h => own_not_blk hownB (hp1_2) h.symm
   have hr0 : Below w.heap.size w wA := (hp0_2).grown hgrow (hp0_2).size (fun j hj => own_ge hownB hj)
   have hr1 : Blk wA 28 N5 (fun i => limb i k) := (hp1_2).of_block (hgrow.block N5 (hp1_2).lt hn5)
   have hV' : ∃ oy cy, v' = .slice oy (j + 1) cy := by
    rcases hownA.2 with ⟨rfl, h⟩ | ⟨g, cap, cur, rfl, _⟩
    ·omega
    ·exact ⟨_, _, rfl⟩
   obtain ⟨oy, cy, rfl⟩ := hV'
   have HOA := (show Hid _ from hownA)
   clear hownA hgrow hownB hrow hn5
   go_simp
   refine hK.out _ _ (fun _ => ⟨hr0, hr1⟩) ?_
   clear hK K
   refine zs 18 7 (.slice oy (j + 1) cy) ⟨hr0, hr1⟩ ?_
   refine zd ?_ _
   go_wp2
   go_roundw
   case measure => simp [intOf]; omega
   case rel => exact ⟨j + 1, cy, oy, by go_num, rfl, by omega, HOA.out, hr0, hr1⟩
  ·have hki : ¬ (j : Int) < (n : Int) := by omega
   have hjn : j = n := by omega
   subst hjn
   go_wp2
   go_ret
   exact ⟨_, rfl, HO.out, hbr⟩
end Go.Proofs.YtokoknacolmhgaaGreatDoor
