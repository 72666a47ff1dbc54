/- What (*blake.Digest).Sum does. -/
import Derived.Test.YtolaofoffakddaaDoorB11
namespace Go.Proofs.YtolaofoffakddaaDoor
open Go.RowKit

set_option maxHeartbeats 4000000 in
set_option maxRecDepth 20000 in
/-- (*blake.Digest).Sum. -/
theorem sumD_any (d L N : Nat) (st B : Nat → Nat) (hst : ∀ i, st i < 18446744073709551616) (hN : N ≤ 100000) (hL1 : 1 ≤ L) (hL2 : L ≤ 64) (w : World) (hg : GlobB w) (hD : Dg w d L st B N) :
    Calls Tryd.prog 14 #[.pointer (some ⟨d, 0, none⟩)] w fun e w' => ∃ g, e = .returned (.slice (some ⟨g, 0, none⟩) L L) ∧ w.heap.size ≤ g ∧ BlkB w' 5 g L (outB (fin st B N)) ∧ Below w.heap.size w w' := by
  obtain ⟨i0, hi, hz0, hz1, hz2⟩ := byteInfo
  have HI := (show Hid _ from hi); have HZ := (show Hid _ from And.intro hz0 (And.intro hz1 hz2)); clear hi hz0 hz1 hz2
  obtain ⟨k, hd, b, hNk, hd128, hz, bD, hb1, hb2⟩ := hD
  have hdl := bD.lt
  have HG : Hid (GlobB w) := hg
  have ek : (N - 1) / 128 = k := by omega
  -- the block with noughts behind what waits
  obtain ⟨c, ec⟩ : ∃ c : Nat → Nat, c = fun j => if j < hd then b j else 0 := ⟨_, rfl⟩
  have hc2 : ∀ j, j < 128 → c j < 256 := fun j hj => by rw [ec]; dsimp only; split; exact hb2 j hj; decide
  have EF : Hid (comp (hsB st B k) (wrd c) N true = fin st B N) := by
    show _ = _
    unfold fin
    rw [ek]
    rw [wrd_congr (f := c) (g := fun j => if 128 * k + j < N then B (128 * k + j) else 0) (fun j hj => by
      rw [ec]; dsimp only
      by_cases h1 : j < hd
      · rw [if_pos h1, if_pos (by omega), hb1 j h1]
      · rw [if_neg h1, if_neg (by omega)])]
  have HWO : Hid (∀ w, _) := wordsOf_any (blkA c) c (blkA_size c) (blkA_get c) hc2
  have HCW : Hid (∀ w, GlobB w → _) := fun w hg => compress_any (hsB st B k) (wrd c) N true (hsB_lt st B hst k (by omega)) (by omega) w hg
  rw [blkA_L] at HWO
  obtain ⟨h, eh⟩ : ∃ h, h = hsB st B k := ⟨_, rfl⟩
  rw [← eh] at HCW EF bD
  obtain ⟨M, eM⟩ : ∃ M, M = wrd c := ⟨_, rfl⟩
  rw [← eM] at HCW HWO EF
  obtain ⟨z, ez⟩ : ∃ z, z = comp h M N true := ⟨_, rfl⟩
  rw [← ez] at HCW EF
  obtain ⟨T, eT⟩ : ∃ T, T = 128 * k := ⟨_, rfl⟩
  rw [← eT] at bD hNk
  have hTH : (T : Int) + (hd : Int) = (N : Int) := by omega
  have EC := (show Hid _ from ec)
  have EN := (show Hid _ from hNk)
  have HL := (show Hid _ from And.intro hL1 hL2)
  have hT : T ≤ 100000 := by omega
  clear hg hst hz hb1 hb2 ek ec eh eM ez eT hNk hc2
  have c138 : w.cell? ⟨d, 138, none⟩ = some (.int .i64 (hd : Int)) := bD.cell 138 (by decide)
  have rD : w.rangeAt d 10 (blkL b) := range_blkL bD (by decide) (fun j hj => by rw [digV_byte _ _ _ _ _ _ (by omega) (by omega), Nat.add_sub_cancel_left])
  have ZV := zero128
  obtain ⟨Zs, eZ⟩ : ∃ Zs : Array Value, Zs = Array.replicate 128 (.int .u8 0) := ⟨_, rfl⟩
  rw [← eZ] at ZV
  have bZ : BlkV (w.alloc (.cells Zs 46)) 46 w.heap.size 128 (fun _ => .int .u8 0) := BlkV.newAt _ _ _ 128 _ _ rfl (by rw [eZ]; simp) (fun i hi => by rw [eZ]; simp [hi])
  have tZ : (w.alloc (.cells Zs 46)).there w.heap.size 0 (blkL b).toArray.size := fun j hj => by
    rw [List.size_toArray, blkL_len] at hj
    exact ⟨by rw [bZ.cell (0 + j) (by omega)]; rfl, bZ.frozen _⟩
  have b1 := (BlkV.setCells (blkL b) 0 _ _ bZ (by rw [blkL_len]; decide)).congr (g' := fun i => .int .u8 ((b i : Nat) : Int)) (fun i hi => by
    rw [blkL_len, if_pos (by omega), Nat.sub_zero, List.getD_eq_getElem?_getD, blkL_get b i hi]; rfl)
  have bD1 := BlkV.setCellsOther (e := w.heap.size) (Nat.ne_of_lt hdl) (blkL b) 0 _ (bD.alloc (.cells Zs 46))
  have hb1 : Below w.heap.size w ((w.alloc (.cells Zs 46)).setCells w.heap.size 0 (blkL b)) := belowSetCells (Nat.le_refl _) _ _ _ ((Below.refl _ _).alloc (Nat.le_refl _) _)
  have i128 := info128 b
  have one := blkL_one b
  have i128' : (Tryd.prog.info? 46).map (·.size) = some (blkL b).toArray.size := by rw [List.size_toArray]; exact i128
  obtain ⟨Lb, eLb⟩ : ∃ Lb, Lb = blkL b := ⟨_, rfl⟩
  rw [← eLb] at rD tZ b1 bD1 hb1 i128 i128' one
  have HTZ := (show Hid _ from tZ); have HI128 := (show Hid _ from And.intro i128 i128'); have HONE := (show Hid _ from one); have HRD := (show Hid _ from rD)
  obtain ⟨NB, eNB⟩ : ∃ NB, NB = w.heap.size := ⟨_, rfl⟩
  obtain ⟨w1, hw1⟩ : ∃ w1 : World, w1 = (w.alloc (.cells Zs 46)).setCells w.heap.size 0 Lb := ⟨_, rfl⟩
  have HW1 := (show Hid _ from hw1)
  rw [← hw1] at b1 bD1 hb1
  rw [← eNB] at b1
  have ENB := (show Hid _ from eNB)
  clear eZ bZ tZ eLb i128 i128' one rD hw1 eNB
  go_enter Tryd.func14, Tryd.ntmps14
  go_upto_region 2 with (first
    | (refine wpList_load_mid rfl 46 _ rfl d 10 rfl Lb _ HRD.out Tryd.underlying46 rfl HI128.out.1 ?_)
    | (refine wpList_store_mid rfl 46 _ _ rfl w.heap.size 0 Lb.toArray rfl rfl HTZ.out HI128.out.2 (all_oneCell_toArray HONE.out) ?_)
    | fail)
  simp only [Act.put]
  (try rw [List.toList_toArray])
  rw [← HW1.out, ← ENB.out]
  have lNB : NB < w1.heap.size := b1.lt
  have lw1 := hb1.size
  have hNB : w.heap.size ≤ NB := by rw [ENB.out]; exact Nat.le_refl _
  have dNB : d ≠ NB := by omega
  clear c138 bD HRD HTZ HI128 HONE ZV HW1
  go_cut [] (fun wx => BlkV wx 46 NB 128 (fun i => .int .u8 ((c i : Nat) : Int)) ∧ BlkV wx 48 d 139 (digV L h T b hd) ∧ Below w.heap.size w wx)
  case first =>
    have c138 : w1.cell? ⟨d, 138, none⟩ = some (.int .i64 (hd : Int)) := bD1.cell 138 (by decide)
    by_cases h128 : hd = 128
    · have bc := b1.congr (g' := fun i => .int .u8 ((c i : Nat) : Int)) (fun i hi => by rw [EC.out]; dsimp only; rw [if_pos (by omega)])
      have CL := clear_none w1
      subst h128
      clear b1
      go_wp2
      go_meet
      exact ⟨bc, bD1, hb1⟩
    · have hlt : hd < 128 := by omega
      have CL := clear_some w1 46 NB hd _ b1 hlt
      have bc := (BlkV.setCells (List.replicate (128 - hd) (Value.int .u8 0)) hd _ _ b1 (by rw [List.length_replicate]; omega)).congr (g' := fun i => .int .u8 ((c i : Nat) : Int)) (fun i hi => by
        rw [EC.out, List.length_replicate]; dsimp only
        by_cases h1 : i < hd
        · rw [if_pos h1, if_neg (by omega)]
        · rw [if_neg h1, if_pos (by omega), List.getD_eq_getElem?_getD, List.getElem?_replicate, if_pos (by omega)]; rfl)
      have bd := BlkV.setCellsOther dNB (List.replicate (128 - hd) (Value.int .u8 0)) hd _ bD1
      have hbc := belowSetCells hNB (List.replicate (128 - hd) (Value.int .u8 0)) hd _ hb1
      obtain ⟨wx, hwx⟩ : ∃ wx : World, wx = w1.setCells NB hd (List.replicate (128 - hd) (Value.int .u8 0)) := ⟨_, rfl⟩
      rw [← hwx] at CL bc bd hbc
      have hI0 : (0 : Int) ≤ (hd : Int) := by omega
      have hI1 : (hd : Int) ≤ 128 := by omega
      have hq : ¬ 128 = hd := by omega
      clear hwx h128 b1 EC
      go_wp2
      go_meet
      exact ⟨bc, bd, hbc⟩
  obtain ⟨bL2, bD2, hbw2⟩ := hcut
  obtain ⟨w2, rfl⟩ : ∃ w2 : World, w2 = wc := ⟨_, rfl⟩
  have G2 : Hid (GlobB w2) := HG.out.below hbw2
  have rL : w2.rangeAt NB 0 (blkL c) := range_blkL bL2 (by decide) (fun j _ => by rw [Nat.zero_add])
  have HU := Tryd.underlying46
  have hiL := info128 c
  obtain ⟨q1, q2, q3, q4, q5, q6, q7, q8, q9, fD⟩ := dig_cells bD2
  have q10 : w2.cell? ⟨d, 138, none⟩ = some (.int .i64 (hd : Int)) := bD2.cell 138 (by decide)
  obtain ⟨Lc, eLc⟩ : ∃ Lc, Lc = blkL c := ⟨_, rfl⟩
  rw [← eLc] at rL hiL HWO
  have wH : IntKind.u64.wrap (hd : Int) = (hd : Int) := by rw [IntKind.wrap_u64]; omega
  have ld2 := bD2.lt; have lN2 := bL2.lt
  have wN : IntKind.u64.wrap (N : Int) = (N : Int) := by rw [IntKind.wrap_u64]; omega
  have HS0 : Hid (Below w2.heap.size w2 w2.drew ∧ w2.drew.rangeAt NB 0 (Lc) ∧ w2.drew.cell? ⟨d, 1, none⟩ = some (.int .u64 ((h 0 : Nat) : Int)) ∧ w2.drew.cell? ⟨d, 2, none⟩ = some (.int .u64 ((h 1 : Nat) : Int)) ∧ w2.drew.cell? ⟨d, 3, none⟩ = some (.int .u64 ((h 2 : Nat) : Int)) ∧ w2.drew.cell? ⟨d, 4, none⟩ = some (.int .u64 ((h 3 : Nat) : Int)) ∧ w2.drew.cell? ⟨d, 5, none⟩ = some (.int .u64 ((h 4 : Nat) : Int)) ∧ w2.drew.cell? ⟨d, 6, none⟩ = some (.int .u64 ((h 5 : Nat) : Int)) ∧ w2.drew.cell? ⟨d, 7, none⟩ = some (.int .u64 ((h 6 : Nat) : Int)) ∧ w2.drew.cell? ⟨d, 8, none⟩ = some (.int .u64 ((h 7 : Nat) : Int)) ∧ w2.drew.cell? ⟨d, 9, none⟩ = some (.int .u64 ((T : Nat) : Int)) ∧ w2.drew.cell? ⟨d, 138, none⟩ = some (.int .i64 ((hd : Nat) : Int))) := ⟨(Below.refl _ _).drew, rL, q1, q2, q3, q4, q5, q6, q7, q8, q9, q10⟩
  have HS2 : Below w2.heap.size w2 w2 ∧ w2.rangeAt NB 0 (Lc) ∧ w2.cell? ⟨d, 1, none⟩ = some (.int .u64 ((h 0 : Nat) : Int)) ∧ w2.cell? ⟨d, 2, none⟩ = some (.int .u64 ((h 1 : Nat) : Int)) ∧ w2.cell? ⟨d, 3, none⟩ = some (.int .u64 ((h 2 : Nat) : Int)) ∧ w2.cell? ⟨d, 4, none⟩ = some (.int .u64 ((h 3 : Nat) : Int)) ∧ w2.cell? ⟨d, 5, none⟩ = some (.int .u64 ((h 4 : Nat) : Int)) ∧ w2.cell? ⟨d, 6, none⟩ = some (.int .u64 ((h 5 : Nat) : Int)) ∧ w2.cell? ⟨d, 7, none⟩ = some (.int .u64 ((h 6 : Nat) : Int)) ∧ w2.cell? ⟨d, 8, none⟩ = some (.int .u64 ((h 7 : Nat) : Int)) ∧ w2.cell? ⟨d, 9, none⟩ = some (.int .u64 ((T : Nat) : Int)) ∧ w2.cell? ⟨d, 138, none⟩ = some (.int .i64 ((hd : Nat) : Int)) := ⟨Below.refl _ _, rL, q1, q2, q3, q4, q5, q6, q7, q8, q9, q10⟩
  have HS1 : Hid (∀ o : Obj, Below w2.heap.size w2 (w2.alloc o).drew ∧ (w2.alloc o).drew.rangeAt NB 0 (Lc) ∧ (w2.alloc o).drew.cell? ⟨d, 1, none⟩ = some (.int .u64 ((h 0 : Nat) : Int)) ∧ (w2.alloc o).drew.cell? ⟨d, 2, none⟩ = some (.int .u64 ((h 1 : Nat) : Int)) ∧ (w2.alloc o).drew.cell? ⟨d, 3, none⟩ = some (.int .u64 ((h 2 : Nat) : Int)) ∧ (w2.alloc o).drew.cell? ⟨d, 4, none⟩ = some (.int .u64 ((h 3 : Nat) : Int)) ∧ (w2.alloc o).drew.cell? ⟨d, 5, none⟩ = some (.int .u64 ((h 4 : Nat) : Int)) ∧ (w2.alloc o).drew.cell? ⟨d, 6, none⟩ = some (.int .u64 ((h 5 : Nat) : Int)) ∧ (w2.alloc o).drew.cell? ⟨d, 7, none⟩ = some (.int .u64 ((h 6 : Nat) : Int)) ∧ (w2.alloc o).drew.cell? ⟨d, 8, none⟩ = some (.int .u64 ((h 7 : Nat) : Int)) ∧ (w2.alloc o).drew.cell? ⟨d, 9, none⟩ = some (.int .u64 ((T : Nat) : Int)) ∧ (w2.alloc o).drew.cell? ⟨d, 138, none⟩ = some (.int .i64 ((hd : Nat) : Int))) := fun o => by
    have k := keepAl o HS2
    exact ⟨k.1.drew, k.2⟩
  clear HS2
  have ELC := (show Hid _ from eLc)
  have kN : w2.heap.size ≠ NB := by omega
  have kD : w2.heap.size ≠ d := by omega
  have kR : w2.heap.size ≤ w2.heap.size := Nat.le_refl _
  clear q1 q2 q3 q4 q5 q6 q7 q8 q9 q10 fD rL eLc bD1 b1 hb1 lNB lw1
  go_upto_region 3 with fail
  go_cut [4] (fun pr wx => ∃ E : Nat, pr = .pointer (some ⟨E, 0, none⟩) ∧ w2.heap.size ≤ E ∧ BlkN wx 44 E 8 z ∧ Below w2.heap.size w2 wx)
  case first =>
    go_region_held3 (fun w' => Below w2.heap.size w2 w' ∧ w'.rangeAt NB 0 (Lc) ∧ w'.cell? ⟨d, 1, none⟩ = some (.int .u64 ((h 0 : Nat) : Int)) ∧ w'.cell? ⟨d, 2, none⟩ = some (.int .u64 ((h 1 : Nat) : Int)) ∧ w'.cell? ⟨d, 3, none⟩ = some (.int .u64 ((h 2 : Nat) : Int)) ∧ w'.cell? ⟨d, 4, none⟩ = some (.int .u64 ((h 3 : Nat) : Int)) ∧ w'.cell? ⟨d, 5, none⟩ = some (.int .u64 ((h 4 : Nat) : Int)) ∧ w'.cell? ⟨d, 6, none⟩ = some (.int .u64 ((h 5 : Nat) : Int)) ∧ w'.cell? ⟨d, 7, none⟩ = some (.int .u64 ((h 6 : Nat) : Int)) ∧ w'.cell? ⟨d, 8, none⟩ = some (.int .u64 ((h 7 : Nat) : Int)) ∧ w'.cell? ⟨d, 9, none⟩ = some (.int .u64 ((T : Nat) : Int)) ∧ w'.cell? ⟨d, 138, none⟩ = some (.int .i64 ((hd : Nat) : Int)))
      (first | with_reducible exact keepSe8 _ _ _ _ _ _ _ _ _ (by with_reducible assumption) (by with_reducible assumption) (by with_reducible assumption) (by with_reducible assumption) | with_reducible exact keepBe hbB (by with_reducible assumption) | with_reducible exact keepBe hbA (by with_reducible assumption) | with_reducible exact keepAl _ (by with_reducible assumption) | with_reducible exact keepRe _ _ (by omega) (by omega) (by omega) (by with_reducible assumption) | with_reducible exact HS0.out | with_reducible exact HS1.out _)
      (first
        | (go_at_call 20; with_reducible refine (HWO.out _).mono ?_; rintro e wA ⟨rfl, hbA⟩; obtain ⟨hcA, hfA⟩ := bcell hbA; have hzA := hbA.size; (try simp at hzA); have kA1 : wA.heap.size ≠ NB := (by omega); have kA2 : wA.heap.size ≠ d := (by omega); have kA3 : w2.heap.size ≤ wA.heap.size := (by omega))
        | (go_at_call 19; with_reducible refine (HCW.out _ (G2.out.below (by (go_split_ands; with_reducible assumption)))).mono ?_; rintro e wB ⟨rfl, hbB⟩; obtain ⟨hcB, hfB⟩ := bcell hbB; have hzB := hbB.size; (try simp at hzB); (try (have k4 : w2.heap.size < wA.heap.size := by omega)))
        | fail)
    all_goals (go_wp2_with fail; go_meet)
    all_goals (with_reducible refine ⟨_, rfl, by omega, ?_, ?_⟩)
    all_goals (first
      | (with_reducible refine BlkN.set8 (f := fun _ => 0) ?_ z; exact (BlkN.newAt wA _ _ 8 (fun _ => 0) _ rfl rfl (case8 rfl rfl rfl rfl rfl rfl rfl rfl)).belowAll hbB)
      | (with_reducible refine BlkN.set8 (f := fun _ => 0) ?_ z; exact ((BlkN.newAt w2 _ _ 8 (fun _ => 0) _ rfl rfl (case8 rfl rfl rfl rfl rfl rfl rfl rfl)).drew.belowAll hbA).belowAll hbB)
      | (with_reducible refine bAlloc ?_ _; exact bStep (bStep (Below.refl _ _).drew hbA) hbB)
      | (with_reducible refine bSet8 ?_ (by omega) _ _ _ _ _ _ _ _; exact bStep (bAlloc (bStep (Below.refl _ _).drew hbA) _) hbB)
      | (with_reducible refine bSet8 ?_ (by omega) _ _ _ _ _ _ _ _; exact bStep (bStep (bAlloc (Below.refl _ _) _).drew hbA) hbB)
      | exact BlkN.newAt _ _ _ 8 z _ rfl rfl (case8 rfl rfl rfl rfl rfl rfl rfl rfl)
      | fail)
  obtain ⟨E, rfl, hE, bE, hb3⟩ := hcut
  obtain ⟨w3, rfl⟩ : ∃ w3 : World, w3 = wc := ⟨_, rfl⟩
  have bD3 := bD2.belowAll hb3
  have hbw3 := bStep hbw2 hb3
  have cL : w3.cell? ⟨d, 0, none⟩ = some (.int .i64 (L : Int)) := bD3.cell 0 (by decide)
  have lE := bE.lt
  have l3 := hbw3.size
  have lw2 := hbw2.size
  have hlw := HL.out
  clear bD2 bL2 hbw2 hb3 HS0 HWO HCW G2 wN wH hTH bD3 hiL HU
  go_wp2_with (first
    | (at_make; refine wpList_make_full _ rfl _ _ 22 rfl w3.heap.size 5 i0 (.int .u8 0) 1 Tryd.underlying22 HI.out HZ.out.1 HZ.out.2.1 .i64 .i64 L L L rfl rfl rfl rfl ?c1 ?c2 (Nat.le_refl _) ?_)
    | go_in)
  case c1 => rw [HZ.out.2.2]; omega
  case c2 => unfold maxLen; omega
  intro w5 hown hgrow
  obtain ⟨bS, _⟩ := own_blkV (f := fun _ => 0) hown (by intro i hi; simp [madeCells]; exact ⟨i, by simp [hi], by rw [Nat.mod_one]; rfl⟩) (by omega)
  have hbe : Below w3.heap.size w3 w5 := (Below.refl _ w3).grown hgrow (Nat.le_refl _) (fun j hj => by cases hj)
  have bE5 := bE.belowAll hbe
  have hbw5 := bStep hbw3 hbe
  clear hown hgrow bE hbw3 hbe cL
  obtain ⟨G, eG⟩ : ∃ G, G = w3.heap.size := ⟨_, rfl⟩
  rw [← eG] at bS lE l3
  have hEG := (show Hid _ from eG)
  rw [← eG]
  have HZL : Hid (∀ i, outB z i = z (i / 8) / 2 ^ (8 * (i % 8)) % 256) := fun i => rfl
  clear eG
  go_wp2
  go_loopw [40] (fun iv wr => ∃ k : Nat, iv = .int .i64 (k : Int) ∧ k ≤ L ∧ Below w.heap.size w wr ∧ BlkN wr 44 E 8 z ∧ BlkB wr 5 G L (fun j => if j < k then outB z j else 0)) (fun iv _ => L - (intOf iv).toNat)
  case atStart => exact ⟨0, rfl, Nat.zero_le _, hbw5, bE5, bS.congr (fun i _ => by simp)⟩
  case round =>
    obtain ⟨k, rfl, hk, hbr, bx, bG⟩ := hrel
    clear bE5 bS hbw5
    by_cases hlt : k < L
    · have hR := sum_run (outB z k) (z (k / 8)) (8 * (k % 8)) (HZL.out k).symm
      obtain ⟨iv, eiv⟩ : ∃ iv : Int, iv = (k : Int) := ⟨_, rfl⟩
      rw [← eiv]
      have h0 : 0 ≤ iv := by omega
      have h32 : iv < (L : Int) := by omega
      have hq : iv / 8 = ((k / 8 : Nat) : Int) := by omega
      have hr : iv % 8 = ((k % 8 : Nat) : Int) := by omega
      have ht : ((k % 8 : Nat) : Int) * 8 = ((8 * (k % 8) : Nat) : Int) := by omega
      have tN : iv.toNat = k := by omega
      have q4 : k / 8 < 8 := by omega
      have t64 : 8 * (k % 8) < 64 := by omega
      have cx := bx.cell (k / 8) q4
      have cG := bG.cell k hlt; have fG := bG.frozen
      have HIV := (show Hid _ from eiv)
      obtain ⟨q, eq⟩ : ∃ q, q = k / 8 := ⟨_, rfl⟩
      obtain ⟨r, er⟩ : ∃ r, r = k % 8 := ⟨_, rfl⟩
      rw [← eq] at hR hq q4 cx
      rw [← er] at hR hr ht t64
      obtain ⟨t, et⟩ : ∃ t, t = 8 * r := ⟨_, rfl⟩
      rw [← et] at hR ht t64
      obtain ⟨X, eX⟩ : ∃ X : Int, X = ((z q : Nat) : Int) := ⟨_, rfl⟩
      rw [← eX] at hR cx
      obtain ⟨y, ey⟩ : ∃ b, b = outB z k := ⟨_, rfl⟩
      rw [← ey] at hR
      have EB := (show Hid _ from ey)
      clear eiv eq er et eX ey
      go_wp2
      go_roundw
      case measure => rw [HIV.out]; simp [intOf]; omega
      case rel =>
        refine ⟨k + 1, by rw [HIV.out]; go_num, by omega, hbr.setCell (by dsimp only; omega) _, bx.other (by dsimp only; omega) _, (bG.set k hlt y).congr ?_⟩
        intro j _
        by_cases hj : j = k
        · subst hj; simp [EB.out]
        · by_cases hj2 : j < k
          · simp [hj, hj2, show j < k + 1 from by omega]
          · simp [hj, hj2, show ¬ j < k + 1 from by omega]
    · have hki : ¬ (k : Int) < (L : Int) := by omega
      have hkL : k = L := by omega
      subst hkL
      have bG' := bG.congr (g := outB z) (fun i hi => by rw [if_pos hi])
      clear bG bx hlt hk
      go_wp2
      go_ret
      refine ⟨G, rfl, by omega, ?_, hbr⟩
      rw [← EF.out]
      exact bG'

end Go.Proofs.YtolaofoffakddaaDoor
