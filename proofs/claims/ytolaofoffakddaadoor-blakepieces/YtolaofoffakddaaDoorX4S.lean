/- The reference's Sum, of a slice that is there. -/
import Derived.Test.YtolaofoffakddaaDoorX4
namespace Go.Proofs.YtolaofoffakddaaDoor
open Go.RowKit Go.Lib

set_option maxHeartbeats 8000000 in
set_option maxRecDepth 20000 in
theorem rsum_some (s : ByteArray) (L : Nat) (a : Addr) (n c : Nat) (f : Nat → Nat) (hL1 : 1 ≤ L) (hL2 : L ≤ 64) (hs : s.size ≤ 16) (hf : ∀ i, f i < 256) (w : World) (hn : n ≤ 100000) (hc : n ≤ c) (hal : a.block < w.heap.size) (hv : ∀ i, i < n → w.cell? (a.add i) = some (.int .u8 ((f i : Nat) : Int))) :
    Calls Tryd.prog 9 #[.string s, .int .i64 (L : Int), .slice (some a) n c] w fun e w' => ∃ o, e = .returned (.tuple #[o, .int .i64 0]) ∧ w'.ownsRow w.heap.size 5 1 o L (bys (outB (fin (bgS L (pS s) s.size) f n)) L) ∧ Below w.heap.size w w' := by
  obtain ⟨i0, hi, hz0, hz1, hz2⟩ := byteInfo
  have HI := (show Hid _ from hi); have HZ := (show Hid _ from And.intro hz0 (And.intro hz1 hz2)); clear hi hz0 hz1 hz2
  have HIV := (show Hid _ from riv_any)
  have HW6 : Hid (∀ (cp : Nat) (w : World), Calls Tryd.prog 16 #[.slice (some ⟨w.heap.size, 0, none⟩) s.size cp, .int .i64 0] (bytesWorld w 5 s) fun e w' => e = .returned (.int .u64 ((limb 0 (leN (pS s) s.size) : Nat) : Int)) ∧ w' = bytesWorld w 5 s) := fun cp w => rword_str s 0 hs (by decide) cp w _ rfl
  have HW7 : Hid (∀ (cp : Nat) (w : World), Calls Tryd.prog 16 #[.slice (some ⟨w.heap.size, 0, none⟩) s.size cp, .int .i64 8] (bytesWorld w 5 s) fun e w' => e = .returned (.int .u64 ((limb 1 (leN (pS s) s.size) : Nat) : Int)) ∧ w' = bytesWorld w 5 s) := fun cp w => rword_str s 1 hs (by decide) cp w _ rfl
  have HCV : Hid (∀ w : World, (convert 9 22 (.string s)).run Tryd.prog w = .ok (.slice (some ⟨w.heap.size, 0, none⟩) s.size (grownCap w s.size 0 5)) (bytesWorld w 5 s)) := fun w => Go.Lib.run_convert_string_bytes w _ _ _ s Tryd.underlying9 Tryd.underlying22 Tryd.underlying5
  have HST : Hid (∀ i, bgS L (pS s) s.size i < 18446744073709551616) := bgS_lt L (pS s) s.size (by omega)
  have EST : Hid (∀ i, i < 8 → upd (upd (upd ivW 0 (ivW 0 ^^^ (16842752 + L))) 6 (ivW 6 ^^^ limb 0 (leN (pS s) s.size))) 7 (ivW 7 ^^^ limb 1 (leN (pS s) s.size)) i = bgS L (pS s) s.size i) := case8 (by rw [key_sum L hL2]; rfl) rfl rfl rfl rfl rfl rfl rfl
  have X0 := xor_run (ivW 0) (16842752 + L) (ivW_lt 0) (by omega)
  have X6 := xor_run (ivW 6) (limb 0 (leN (pS s) s.size)) (ivW_lt 6) (limb_lt _ _)
  have X7 := xor_run (ivW 7) (limb 1 (leN (pS s) s.size)) (ivW_lt 7) (limb_lt _ _)
  obtain ⟨st, est⟩ : ∃ st, st = bgS L (pS s) s.size := ⟨_, rfl⟩
  rw [← est] at HST EST ⊢
  obtain ⟨p6, ep6⟩ : ∃ p, p = limb 0 (leN (pS s) s.size) := ⟨_, rfl⟩
  obtain ⟨p7, ep7⟩ : ∃ p, p = limb 1 (leN (pS s) s.size) := ⟨_, rfl⟩
  rw [← ep6] at HW6 X6 EST
  rw [← ep7] at HW7 X7 EST
  obtain ⟨kL, ekL⟩ : ∃ p, p = 16842752 + L := ⟨_, rfl⟩
  have hkL : (16842752 : Int) + (L : Int) = (kL : Int) := by omega
  have hkl : kL ≤ 20000000 := by omega
  rw [← ekL] at X0 EST
  obtain ⟨J, eJ⟩ : ∃ J : Nat → Nat, J = ivW := ⟨_, rfl⟩
  rw [← eJ] at HIV X0 X6 X7 EST
  obtain ⟨y0, ey0⟩ : ∃ y, y = J 0 ^^^ kL := ⟨_, rfl⟩
  obtain ⟨y6, ey6⟩ : ∃ y, y = J 6 ^^^ p6 := ⟨_, rfl⟩
  obtain ⟨y7, ey7⟩ : ∃ y, y = J 7 ^^^ p7 := ⟨_, rfl⟩
  rw [← ey0] at X0 EST
  rw [← ey6] at X6 EST
  rw [← ey7] at X7 EST
  obtain ⟨sn, esn⟩ : ∃ sn, sn = s.size := ⟨_, rfl⟩
  have hsz : s.size = sn := esn.symm
  have h1 : ¬ (16 : Int) < (sn : Int) := by omega
  have h2 : ¬ (L : Int) < 1 := by omega
  have h3 : ¬ (64 : Int) < (L : Int) := by omega
  have HL := (show Hid _ from And.intro hL1 hL2)
  have HF := (show Hid _ from hf)
  rw [← esn] at HW6 HW7 HCV
  have HV := (show Hid _ from hv); clear hv
  clear est ep6 ep7 ekL eJ ey0 ey6 ey7 esn hL1 hL2 hf hs
  go_enter Tryd.func9, Tryd.ntmps9
  go_wp2_with fail
  refine (HIV.out _).mono ?_
  rintro e w1 ⟨rfl, hb1⟩
  obtain ⟨H, eH⟩ : ∃ H, H = w1.heap.size := ⟨_, rfl⟩
  have hHw : w.heap.size ≤ H := by rw [eH]; exact hb1.size
  have bA : BlkN (w1.alloc (.cells #[.int .u64 ((J 0 : Nat) : Int), .int .u64 ((J 1 : Nat) : Int), .int .u64 ((J 2 : Nat) : Int), .int .u64 ((J 3 : Nat) : Int), .int .u64 ((J 4 : Nat) : Int), .int .u64 ((J 5 : Nat) : Int), .int .u64 ((J 6 : Nat) : Int), .int .u64 ((J 7 : Nat) : Int)] 39)) 39 H 8 J := BlkN.newAt _ _ _ 8 J _ eH rfl (case8 rfl rfl rfl rfl rfl rfl rfl rfl)
  have hbA : Below w.heap.size w (w1.alloc (.cells #[.int .u64 ((J 0 : Nat) : Int), .int .u64 ((J 1 : Nat) : Int), .int .u64 ((J 2 : Nat) : Int), .int .u64 ((J 3 : Nat) : Int), .int .u64 ((J 4 : Nat) : Int), .int .u64 ((J 5 : Nat) : Int), .int .u64 ((J 6 : Nat) : Int), .int .u64 ((J 7 : Nat) : Int)] 39)) := bAlloc hb1 _
  go_upto_region 4 with fail
  obtain ⟨w2, hw2⟩ : ∃ x : World, x = w1.alloc (.cells #[.int .u64 ((J 0 : Nat) : Int), .int .u64 ((J 1 : Nat) : Int), .int .u64 ((J 2 : Nat) : Int), .int .u64 ((J 3 : Nat) : Int), .int .u64 ((J 4 : Nat) : Int), .int .u64 ((J 5 : Nat) : Int), .int .u64 ((J 6 : Nat) : Int), .int .u64 ((J 7 : Nat) : Int)] 39) := ⟨_, rfl⟩
  rw [← hw2] at bA hbA ⊢
  rw [← eH]
  clear hw2 eH hb1 h1 h2 h3
  have c0 := bA.cell 0 (by decide); have fA := bA.frozen
  go_upto_region 5 with fail
  have bB : BlkN (w2.setCell ⟨H, 0, none⟩ (.int .u64 (y0 : Int))) 39 H 8 (upd J 0 y0) := bA.put 0 (by decide) y0
  have hbB : Below w.heap.size w (w2.setCell ⟨H, 0, none⟩ (.int .u64 (y0 : Int))) := hbA.setCell hHw _
  obtain ⟨w3, hw3⟩ : ∃ x : World, x = w2.setCell ⟨H, 0, none⟩ (.int .u64 (y0 : Int)) := ⟨_, rfl⟩
  rw [← hw3] at bB hbB ⊢
  clear hw3 bA hbA c0 fA X0
  go_cut [] (fun wx => Below w.heap.size w wx ∧ BlkN wx 39 H 8 (upd (upd J 0 y0) 6 y6))
  case first =>
    have HS0 : Hid (BlkN w3.drew 39 H 8 (upd J 0 y0)) := bB.drew
    have HB0 : Hid (Below w.heap.size w w3.drew) := hbB.drew
    clear bB hbB
    refine wp_region_Z (fun w' => BlkN w' 39 H 8 (upd J 0 y0)) 7 (by kernel_rfl) ?_
    refine wpZ_take (i := 0) (v := .pointer (some ⟨H, 6, none⟩)) 31 rfl rfl (by kernel_rfl) (by kernel_rfl) (by kernel_rfl) (by kernel_rfl) (fun _ _ _ h => h) (Or.inl ⟨by rfl, fun w hSw => by go_simp⟩) HS0.out ?_
    simp only [Act.put, List.setIfInBounds_toArray, List.set_cons_zero, List.set_cons_succ]
    refine wpZ_take (i := 1) (v := .int .u64 ((J 6 : Nat) : Int)) 32 rfl rfl (by kernel_rfl) (by kernel_rfl) (by kernel_rfl) (by kernel_rfl) (fun _ _ _ h => h) (Or.inl ⟨by rfl, fun w hSw => by (have qq : w.cell? ⟨H, 6, none⟩ = some (.int .u64 ((J 6 : Nat) : Int)) := hSw.cell 6 (by decide); clear hSw; go_simp)⟩) HS0.out ?_
    simp only [Act.put, List.setIfInBounds_toArray, List.set_cons_zero, List.set_cons_succ]
    refine wpZ_take (i := 2) (v := .string s) 33 rfl rfl (by kernel_rfl) (by kernel_rfl) (by kernel_rfl) (by kernel_rfl) (fun _ _ _ h => h) (Or.inl ⟨by rfl, fun w hSw => by go_simp⟩) HS0.out ?_
    simp only [Act.put, List.setIfInBounds_toArray, List.set_cons_zero, List.set_cons_succ]
    refine wpZ_one (i := 3) (by kernel_rfl) rfl (fun K hK => ?_)
    have CV := HCV.out w3.drew
    go_simp
    have hby : Below w3.drew.heap.size w3.drew (bytesWorld w3.drew 5 s) := below_bytes _ _ _
    have HS1 := HS0.out.belowAll hby
    have HB1 := bStep HB0.out hby
    refine hK.out _ _ (fun _ => HS1) ?_
    clear hK K CV
    refine wpZ_one (i := 4) (by kernel_rfl) rfl (fun K hK => ?_)
    go_simp
    refine (HW6.out _ w3.drew).mono ?_
    rintro e w7 ⟨rfl, hw7⟩
    rw [hw7]
    clear hw7
    go_wp2_with fail
    refine hK.out _ _ (fun _ => HS1) ?_
    clear hK K
    obtain ⟨w7, hw7⟩ : ∃ x : World, x = bytesWorld w3.drew 5 s := ⟨_, rfl⟩
    rw [← hw7] at HS1 HB1 ⊢
    clear hw7 hby
    refine wpZ_one (i := 5) (by kernel_rfl) rfl (fun K hK => ?_)
    go_simp
    refine hK.out _ _ (fun _ => HS1) ?_
    clear hK K
    refine wpZ_one (i := 6) (by kernel_rfl) rfl (fun K hK => ?_)
    go_simp
    refine hK.out _ _ (fun _ => HS1) ?_
    clear hK K
    have qs := HS1.cell 6 (by decide); have fs := HS1.frozen
    refine wpZ_one (i := 7) (by kernel_rfl) rfl (fun K hK => ?_)
    go_simp
    refine hK.out _ _ (fun h => absurd rfl h) ?_
    clear hK K
    refine wpZ_done (by kernel_rfl) ?_ _
    go_wp2_with fail
    go_meet
    exact ⟨HB1.setCell hHw _, HS1.put 6 (by decide) y6⟩
  obtain ⟨hbC, bC⟩ := hcut
  obtain ⟨w4, hw4⟩ : ∃ x, x = wc := ⟨_, rfl⟩
  rw [← hw4] at hbC bC ⊢
  clear hw4 bB hbB X6 HW6
  go_upto_region 6 with fail
  go_cut [] (fun wx => Below w.heap.size w wx ∧ BlkN wx 39 H 8 (upd (upd (upd J 0 y0) 6 y6) 7 y7))
  case first =>
    have HS0 : Hid (BlkN w4.drew 39 H 8 (upd (upd J 0 y0) 6 y6)) := bC.drew
    have HB0 : Hid (Below w.heap.size w w4.drew) := hbC.drew
    clear bC hbC
    refine wp_region_Z (fun w' => BlkN w' 39 H 8 (upd (upd J 0 y0) 6 y6)) 7 (by kernel_rfl) ?_
    refine wpZ_take (i := 0) (v := .pointer (some ⟨H, 7, none⟩)) 38 rfl rfl (by kernel_rfl) (by kernel_rfl) (by kernel_rfl) (by kernel_rfl) (fun _ _ _ h => h) (Or.inl ⟨by rfl, fun w hSw => by go_simp⟩) HS0.out ?_
    simp only [Act.put, List.setIfInBounds_toArray, List.set_cons_zero, List.set_cons_succ]
    refine wpZ_take (i := 1) (v := .int .u64 ((J 7 : Nat) : Int)) 39 rfl rfl (by kernel_rfl) (by kernel_rfl) (by kernel_rfl) (by kernel_rfl) (fun _ _ _ h => h) (Or.inl ⟨by rfl, fun w hSw => by (have qq : w.cell? ⟨H, 7, none⟩ = some (.int .u64 ((J 7 : Nat) : Int)) := hSw.cell 7 (by decide); clear hSw; go_simp)⟩) HS0.out ?_
    simp only [Act.put, List.setIfInBounds_toArray, List.set_cons_zero, List.set_cons_succ]
    refine wpZ_take (i := 2) (v := .string s) 40 rfl rfl (by kernel_rfl) (by kernel_rfl) (by kernel_rfl) (by kernel_rfl) (fun _ _ _ h => h) (Or.inl ⟨by rfl, fun w hSw => by go_simp⟩) HS0.out ?_
    simp only [Act.put, List.setIfInBounds_toArray, List.set_cons_zero, List.set_cons_succ]
    refine wpZ_one (i := 3) (by kernel_rfl) rfl (fun K hK => ?_)
    have CV := HCV.out w4.drew
    go_simp
    have hby : Below w4.drew.heap.size w4.drew (bytesWorld w4.drew 5 s) := below_bytes _ _ _
    have HS1 := HS0.out.belowAll hby
    have HB1 := bStep HB0.out hby
    refine hK.out _ _ (fun _ => HS1) ?_
    clear hK K CV
    refine wpZ_one (i := 4) (by kernel_rfl) rfl (fun K hK => ?_)
    go_simp
    refine (HW7.out _ w4.drew).mono ?_
    rintro e w7 ⟨rfl, hw7⟩
    rw [hw7]
    clear hw7
    go_wp2_with fail
    refine hK.out _ _ (fun _ => HS1) ?_
    clear hK K
    obtain ⟨w7, hw7⟩ : ∃ x : World, x = bytesWorld w4.drew 5 s := ⟨_, rfl⟩
    rw [← hw7] at HS1 HB1 ⊢
    clear hw7 hby
    refine wpZ_one (i := 5) (by kernel_rfl) rfl (fun K hK => ?_)
    go_simp
    refine hK.out _ _ (fun _ => HS1) ?_
    clear hK K
    refine wpZ_one (i := 6) (by kernel_rfl) rfl (fun K hK => ?_)
    go_simp
    refine hK.out _ _ (fun _ => HS1) ?_
    clear hK K
    have qs := HS1.cell 7 (by decide); have fs := HS1.frozen
    refine wpZ_one (i := 7) (by kernel_rfl) rfl (fun K hK => ?_)
    go_simp
    refine hK.out _ _ (fun h => absurd rfl h) ?_
    clear hK K
    refine wpZ_done (by kernel_rfl) ?_ _
    go_wp2_with fail
    go_meet
    exact ⟨HB1.setCell hHw _, HS1.put 7 (by decide) y7⟩
  obtain ⟨hbD, bD⟩ := hcut
  obtain ⟨w5, hw5⟩ : ∃ x, x = wc := ⟨_, rfl⟩
  rw [← hw5] at hbD bD ⊢
  clear hw5 bC hbC X7 HW7
  go_upto_region 7 with fail
  have bS : BlkN w5 39 H 8 st := bD.congr (fun i hi => (EST.out i hi).symm)
  clear bD EST HCV
  go_wp2
  go_loopw [9] (fun av wr => ∃ k : Nat, av = .int .i64 ((128 * k : Nat) : Int) ∧ 128 * k ≤ n ∧ (k = 0 ∨ 128 * k < n) ∧ Below w.heap.size w wr ∧ BlkN wr 39 H 8 (hsB st f k)) (fun av _ => n - (intOf av).toNat)
  case atStart => exact ⟨0, rfl, Nat.zero_le _, Or.inl rfl, hbD, bS⟩
  case round =>
    obtain ⟨k, rfl, hk, hk2, hbr, bH⟩ := hrel
    clear hbD bS
    have HK2 := (show Hid _ from hk2); clear hk2
    have EH := hs_pad st f k
    have EF := fin_pad st f n k hk
    obtain ⟨p, ep⟩ : ∃ p, p = 128 * k := ⟨_, rfl⟩
    have EP := (show Hid _ from ep)
    rw [← ep] at EH EF hk ⊢
    have HEH := (show Hid _ from EH); have HEF := (show Hid _ from EF)
    have hlt0 : ∀ i, hsB st f k i < 18446744073709551616 := hsB_lt st f HST.out k (by omega)
    obtain ⟨h0, eh0⟩ : ∃ h0, h0 = hsB st f k := ⟨_, rfl⟩
    rw [← eh0] at bH HEH HEF hlt0
    have HLT := (show Hid _ from hlt0)
    have EH0 := (show Hid _ from eh0)
    clear ep EH EF eh0 hlt0
    have hp0 : (0 : Int) ≤ (p : Int) := by omega
    have hpn : (p : Int) ≤ (n : Int) := by omega
    have hnc : (n : Int) ≤ (c : Int) := by omega
    by_cases hgo : 128 < n - p
    · have hcond : (128 : Int) < (n : Int) - (p : Int) := by omega
      obtain ⟨p1, ep1⟩ : ∃ p1, p1 = p + 128 := ⟨_, rfl⟩
      have hadd : (p : Int) + 128 = (p1 : Int) := by omega
      have hp1c : (p1 : Int) ≤ (c : Int) := by omega
      have hp10 : (p : Int) ≤ (p1 : Int) := by omega
      have hp1s : p1 - p = 128 := by omega
      have hpc : ¬ c = p := by omega
      have hp1l : p1 ≤ 200000 := by omega
      have hwp : IntKind.i64.wrap (p1 : Int) = (p1 : Int) := by rw [IntKind.wrap_i64]; omega
      have hwu : IntKind.u64.wrap (p1 : Int) = (p1 : Int) := by rw [IntKind.wrap_u64]; omega
      have HBK : Hid (∀ W : World, Below w.heap.size w W → Calls Tryd.prog 17 #[.agg #[.int .u64 ((h0 0 : Nat) : Int), .int .u64 ((h0 1 : Nat) : Int), .int .u64 ((h0 2 : Nat) : Int), .int .u64 ((h0 3 : Nat) : Int), .int .u64 ((h0 4 : Nat) : Int), .int .u64 ((h0 5 : Nat) : Int), .int .u64 ((h0 6 : Nat) : Int), .int .u64 ((h0 7 : Nat) : Int)], .slice (some (a.add p)) 128 (c - p), .int .u64 (p1 : Int), .bool false] W fun e w' => e = .returned (.agg #[.int .u64 (((hsB st f (k + 1)) 0 : Nat) : Int), .int .u64 (((hsB st f (k + 1)) 1 : Nat) : Int), .int .u64 (((hsB st f (k + 1)) 2 : Nat) : Int), .int .u64 (((hsB st f (k + 1)) 3 : Nat) : Int), .int .u64 (((hsB st f (k + 1)) 4 : Nat) : Int), .int .u64 (((hsB st f (k + 1)) 5 : Nat) : Int), .int .u64 (((hsB st f (k + 1)) 6 : Nat) : Int), .int .u64 (((hsB st f (k + 1)) 7 : Nat) : Int)]) ∧ Below W.heap.size W w') := fun W hb => by
        have := rblock_any h0 (some (a.add p)) 128 (c - p) p1 (fun j => f (p + j)) false HLT.out (by omega) (fun i _ => HF.out _) W (fun i hi => ⟨_, rfl, by rw [add_block]; exact Nat.lt_of_lt_of_le hal hb.size, by
          rw [Addr.add_add, hb.cell (p := a.add (p + i)) (by rw [add_block]; exact hal)]; exact HV.out (p + i) (by omega)⟩)
        rw [ep1, HEH.out, ← ep1] at this
        exact this
      clear ep1 hk
      go_wp2_with fail
      go_cut [] (fun wx => Below w.heap.size w wx ∧ BlkN wx 39 H 8 (hsB st f (k + 1)))
      case first =>
        have HS0 : Hid (BlkN wr.drew 39 H 8 h0) := bH.drew
        have HB0 : Hid (Below w.heap.size w wr.drew) := hbr.drew
        clear bH hbr
        refine wp_region_Z (fun w' => BlkN w' 39 H 8 h0) 10 (by kernel_rfl) ?_
        refine wpZ_take (i := 0) (v := .agg #[.int .u64 ((h0 0 : Nat) : Int), .int .u64 ((h0 1 : Nat) : Int), .int .u64 ((h0 2 : Nat) : Int), .int .u64 ((h0 3 : Nat) : Int), .int .u64 ((h0 4 : Nat) : Int), .int .u64 ((h0 5 : Nat) : Int), .int .u64 ((h0 6 : Nat) : Int), .int .u64 ((h0 7 : Nat) : Int)]) 50 rfl rfl (by kernel_rfl) (by kernel_rfl) (by kernel_rfl) (by kernel_rfl) (fun _ _ _ h => h) (Or.inl ⟨by rfl, fun w hSw => by (obtain ⟨q0, q1, q2, q3, q4, q5, q6, q7, fD⟩ := hSw.cells8; clear hSw; go_simp)⟩) HS0.out ?_
        simp only [Act.put, List.setIfInBounds_toArray, List.set_cons_zero, List.set_cons_succ]
        refine wpZ_take (i := 1) (v := .slice (some a) n c) 51 rfl rfl (by kernel_rfl) (by kernel_rfl) (by kernel_rfl) (by kernel_rfl) (fun _ _ _ h => h) (Or.inl ⟨by rfl, fun w hSw => by go_simp⟩) HS0.out ?_
        simp only [Act.put, List.setIfInBounds_toArray, List.set_cons_zero, List.set_cons_succ]
        refine wpZ_take (i := 2) (v := .int .i64 (p : Int)) 52 rfl rfl (by kernel_rfl) (by kernel_rfl) (by kernel_rfl) (by kernel_rfl) (fun _ _ _ h => h) (Or.inl ⟨by rfl, fun w hSw => by go_simp⟩) HS0.out ?_
        simp only [Act.put, List.setIfInBounds_toArray, List.set_cons_zero, List.set_cons_succ]
        refine wpZ_take (i := 3) (v := .int .i64 (p : Int)) 53 rfl rfl (by kernel_rfl) (by kernel_rfl) (by kernel_rfl) (by kernel_rfl) (fun _ _ _ h => h) (Or.inl ⟨by rfl, fun w hSw => by go_simp⟩) HS0.out ?_
        simp only [Act.put, List.setIfInBounds_toArray, List.set_cons_zero, List.set_cons_succ]
        refine wpZ_take (i := 4) (v := .int .i64 (p1 : Int)) 54 rfl rfl (by kernel_rfl) (by kernel_rfl) (by kernel_rfl) (by kernel_rfl) (fun _ _ _ h => h) (Or.inl ⟨by rfl, fun w hSw => by go_simp⟩) HS0.out ?_
        simp only [Act.put, List.setIfInBounds_toArray, List.set_cons_zero, List.set_cons_succ]
        refine wpZ_take (i := 5) (v := .slice (some (a.add p)) 128 (c - p)) 55 rfl rfl (by kernel_rfl) (by kernel_rfl) (by kernel_rfl) (by kernel_rfl) (fun _ _ _ h => h) (Or.inl ⟨by rfl, fun w hSw => by go_simp⟩) HS0.out ?_
        simp only [Act.put, List.setIfInBounds_toArray, List.set_cons_zero, List.set_cons_succ]
        refine wpZ_take (i := 6) (v := .int .i64 (p : Int)) 56 rfl rfl (by kernel_rfl) (by kernel_rfl) (by kernel_rfl) (by kernel_rfl) (fun _ _ _ h => h) (Or.inl ⟨by rfl, fun w hSw => by go_simp⟩) HS0.out ?_
        simp only [Act.put, List.setIfInBounds_toArray, List.set_cons_zero, List.set_cons_succ]
        refine wpZ_take (i := 7) (v := .int .i64 (p1 : Int)) 57 rfl rfl (by kernel_rfl) (by kernel_rfl) (by kernel_rfl) (by kernel_rfl) (fun _ _ _ h => h) (Or.inl ⟨by rfl, fun w hSw => by go_simp⟩) HS0.out ?_
        simp only [Act.put, List.setIfInBounds_toArray, List.set_cons_zero, List.set_cons_succ]
        refine wpZ_take (i := 8) (v := .int .u64 (p1 : Int)) 58 rfl rfl (by kernel_rfl) (by kernel_rfl) (by kernel_rfl) (by kernel_rfl) (fun _ _ _ h => h) (Or.inl ⟨by rfl, fun w hSw => by go_simp⟩) HS0.out ?_
        simp only [Act.put, List.setIfInBounds_toArray, List.set_cons_zero, List.set_cons_succ]
        refine wpZ_one (i := 9) (by kernel_rfl) rfl (fun K hK => ?_)
        go_simp
        refine (HBK.out _ HB0.out).mono ?_
        rintro e w7 ⟨rfl, hb7⟩
        have HS1 := HS0.out.belowAll hb7
        have HB1 := bStep HB0.out hb7
        go_wp2_with fail
        refine hK.out _ _ (fun _ => HS1) ?_
        clear hK K HBK
        have END : Hid (∀ g : Nat → Nat, _) := fun g => And.intro (bSet8 HB1 hHw (.int .u64 ((g 0 : Nat) : Int)) (.int .u64 ((g 1 : Nat) : Int)) (.int .u64 ((g 2 : Nat) : Int)) (.int .u64 ((g 3 : Nat) : Int)) (.int .u64 ((g 4 : Nat) : Int)) (.int .u64 ((g 5 : Nat) : Int)) (.int .u64 ((g 6 : Nat) : Int)) (.int .u64 ((g 7 : Nat) : Int))) (HS1.set8 g)
        obtain ⟨g, eg⟩ : ∃ g, g = hsB st f (k + 1) := ⟨_, rfl⟩
        rw [← eg]
        have EG := (show Hid _ from eg)
        clear eg
        obtain ⟨q0, q1, q2, q3, q4, q5, q6, q7, fD⟩ := HS1.cells8
        clear HS1 HB1
        refine wpZ_one (i := 10) (by kernel_rfl) rfl (fun K hK => ?_)
        go_simp
        refine hK.out _ _ (fun h => absurd rfl h) ?_
        clear hK K
        refine wpZ_done (by kernel_rfl) ?_ _
        go_wp2_with fail
        go_meet
        rw [← EG.out]
        exact END.out g
      obtain ⟨hbn, bN⟩ := hcut
      go_wp2
      go_roundw
      case measure => simp [intOf]; omega
      case rel =>
        have e1 := EP.out
        have e2 : (p1 : Int) = ((128 * (k + 1) : Nat) : Int) := by omega
        exact ⟨k + 1, by rw [e2], by omega, Or.inr (by omega), hbn, bN⟩
    · have hcond : ¬ (128 : Int) < (n : Int) - (p : Int) := by omega
      have HBK : Hid (∀ W : World, Below w.heap.size w W → Calls Tryd.prog 17 #[.agg #[.int .u64 ((h0 0 : Nat) : Int), .int .u64 ((h0 1 : Nat) : Int), .int .u64 ((h0 2 : Nat) : Int), .int .u64 ((h0 3 : Nat) : Int), .int .u64 ((h0 4 : Nat) : Int), .int .u64 ((h0 5 : Nat) : Int), .int .u64 ((h0 6 : Nat) : Int), .int .u64 ((h0 7 : Nat) : Int)], .slice (if c = p then some a else some (a.add p)) (n - p) (c - p), .int .u64 (n : Int), .bool true] W fun e w' => e = .returned (.agg #[.int .u64 (((fin st f n) 0 : Nat) : Int), .int .u64 (((fin st f n) 1 : Nat) : Int), .int .u64 (((fin st f n) 2 : Nat) : Int), .int .u64 (((fin st f n) 3 : Nat) : Int), .int .u64 (((fin st f n) 4 : Nat) : Int), .int .u64 (((fin st f n) 5 : Nat) : Int), .int .u64 (((fin st f n) 6 : Nat) : Int), .int .u64 (((fin st f n) 7 : Nat) : Int)]) ∧ Below W.heap.size W w') := fun W hb => by
        have := rblock_any h0 (if c = p then some a else some (a.add p)) (n - p) (c - p) n (fun j => f (p + j)) true HLT.out (by omega) (fun i _ => HF.out _) W (fun i hi => ⟨a.add p, by rw [if_neg (by omega)], by rw [add_block]; exact Nat.lt_of_lt_of_le hal hb.size, by
          rw [Addr.add_add, hb.cell (p := a.add (p + i)) (by rw [add_block]; exact hal)]; exact HV.out (p + i) (by omega)⟩)
        rw [HEF.out (by omega) (by have := HK2.out; have := EP.out; omega)] at this
        exact this
      clear hgo
      have hwn : IntKind.u64.wrap (n : Int) = (n : Int) := by rw [IntKind.wrap_u64]; omega
      obtain ⟨oo, eoo⟩ : ∃ oo, oo = (if c = p then some a else some (a.add p)) := ⟨_, rfl⟩
      rw [← eoo] at HBK
      have EOO := (show Hid _ from eoo)
      clear eoo
      go_upto_region 11 with fail
      go_cut [] (fun wx => Below w.heap.size w wx ∧ BlkN wx 39 H 8 (fin st f n))
      case first =>
        have HS0 : Hid (BlkN wr.drew 39 H 8 h0) := bH.drew
        have HB0 : Hid (Below w.heap.size w wr.drew) := hbr.drew
        clear bH hbr
        refine wp_region_Z (fun w' => BlkN w' 39 H 8 h0) 8 (by kernel_rfl) ?_
        refine wpZ_take (i := 0) (v := .agg #[.int .u64 ((h0 0 : Nat) : Int), .int .u64 ((h0 1 : Nat) : Int), .int .u64 ((h0 2 : Nat) : Int), .int .u64 ((h0 3 : Nat) : Int), .int .u64 ((h0 4 : Nat) : Int), .int .u64 ((h0 5 : Nat) : Int), .int .u64 ((h0 6 : Nat) : Int), .int .u64 ((h0 7 : Nat) : Int)]) 62 rfl rfl (by kernel_rfl) (by kernel_rfl) (by kernel_rfl) (by kernel_rfl) (fun _ _ _ h => h) (Or.inl ⟨by rfl, fun w hSw => by (obtain ⟨q0, q1, q2, q3, q4, q5, q6, q7, fD⟩ := hSw.cells8; clear hSw; go_simp)⟩) HS0.out ?_
        simp only [Act.put, List.setIfInBounds_toArray, List.set_cons_zero, List.set_cons_succ]
        refine wpZ_take (i := 1) (v := .slice (some a) n c) 63 rfl rfl (by kernel_rfl) (by kernel_rfl) (by kernel_rfl) (by kernel_rfl) (fun _ _ _ h => h) (Or.inl ⟨by rfl, fun w hSw => by go_simp⟩) HS0.out ?_
        simp only [Act.put, List.setIfInBounds_toArray, List.set_cons_zero, List.set_cons_succ]
        refine wpZ_take (i := 2) (v := .int .i64 (p : Int)) 64 rfl rfl (by kernel_rfl) (by kernel_rfl) (by kernel_rfl) (by kernel_rfl) (fun _ _ _ h => h) (Or.inl ⟨by rfl, fun w hSw => by go_simp⟩) HS0.out ?_
        simp only [Act.put, List.setIfInBounds_toArray, List.set_cons_zero, List.set_cons_succ]
        refine wpZ_take (i := 3) (v := .slice oo (n - p) (c - p)) 65 rfl rfl (by kernel_rfl) (by kernel_rfl) (by kernel_rfl) (by kernel_rfl) (fun _ _ _ h => h) (Or.inl ⟨by rfl, fun w hSw => by (rw [EOO.out]; go_simp)⟩) HS0.out ?_
        simp only [Act.put, List.setIfInBounds_toArray, List.set_cons_zero, List.set_cons_succ]
        refine wpZ_take (i := 4) (v := .slice (some a) n c) 66 rfl rfl (by kernel_rfl) (by kernel_rfl) (by kernel_rfl) (by kernel_rfl) (fun _ _ _ h => h) (Or.inl ⟨by rfl, fun w hSw => by go_simp⟩) HS0.out ?_
        simp only [Act.put, List.setIfInBounds_toArray, List.set_cons_zero, List.set_cons_succ]
        refine wpZ_take (i := 5) (v := .int .i64 (n : Int)) 67 rfl rfl (by kernel_rfl) (by kernel_rfl) (by kernel_rfl) (by kernel_rfl) (fun _ _ _ h => h) (Or.inl ⟨by rfl, fun w hSw => by go_simp⟩) HS0.out ?_
        simp only [Act.put, List.setIfInBounds_toArray, List.set_cons_zero, List.set_cons_succ]
        refine wpZ_take (i := 6) (v := .int .u64 (n : Int)) 68 rfl rfl (by kernel_rfl) (by kernel_rfl) (by kernel_rfl) (by kernel_rfl) (fun _ _ _ h => h) (Or.inl ⟨by rfl, fun w hSw => by go_simp⟩) HS0.out ?_
        simp only [Act.put, List.setIfInBounds_toArray, List.set_cons_zero, List.set_cons_succ]
        refine wpZ_one (i := 7) (by kernel_rfl) rfl (fun K hK => ?_)
        go_simp
        refine (HBK.out _ HB0.out).mono ?_
        rintro e w7 ⟨rfl, hb7⟩
        have HS1 := HS0.out.belowAll hb7
        have HB1 := bStep HB0.out hb7
        go_wp2_with fail
        refine hK.out _ _ (fun _ => HS1) ?_
        clear hK K HBK
        have END : Hid (∀ g : Nat → Nat, _) := fun g => And.intro (bSet8 HB1 hHw (.int .u64 ((g 0 : Nat) : Int)) (.int .u64 ((g 1 : Nat) : Int)) (.int .u64 ((g 2 : Nat) : Int)) (.int .u64 ((g 3 : Nat) : Int)) (.int .u64 ((g 4 : Nat) : Int)) (.int .u64 ((g 5 : Nat) : Int)) (.int .u64 ((g 6 : Nat) : Int)) (.int .u64 ((g 7 : Nat) : Int))) (HS1.set8 g)
        obtain ⟨g, eg⟩ : ∃ g, g = fin st f n := ⟨_, rfl⟩
        rw [← eg]
        have EG := (show Hid _ from eg)
        clear eg
        obtain ⟨q0, q1, q2, q3, q4, q5, q6, q7, fD⟩ := HS1.cells8
        clear HS1 HB1
        refine wpZ_one (i := 8) (by kernel_rfl) rfl (fun K hK => ?_)
        go_simp
        refine hK.out _ _ (fun h => absurd rfl h) ?_
        clear hK K
        refine wpZ_done (by kernel_rfl) ?_ _
        go_wp2_with fail
        go_meet
        rw [← EG.out]
        exact END.out g
      obtain ⟨hbw4, ba4⟩ := hcut
      obtain ⟨z, ez⟩ : ∃ z, z = fin st f n := ⟨_, rfl⟩
      rw [← ez] at ba4
      have EZ := (show Hid _ from ez)
      clear ez
      obtain ⟨w6, hw6⟩ : ∃ x, x = wc := ⟨_, rfl⟩
      rw [← hw6] at hbw4 ba4 ⊢
      clear hw6
      have hl4 := ba4.lt
      have hown0 : (w6.alloc (.cells #[] 5)).ownsRow (H + 1) 5 1 (.slice (some ⟨w6.heap.size, 0, none⟩) 0 0) 0 (bys (outB z) 0) :=
        ⟨rfl, Or.inr ⟨w6.heap.size, 0, #[], rfl, hl4, new_block' _ _, Nat.le_refl _, by decide, rfl, rfl⟩⟩
      have HO : Hid ((w6.alloc (.cells #[] 5)).ownsRow (H + 1) 5 1 (.slice (some ⟨w6.heap.size, 0, none⟩) 0 0) 0 (bys (outB z) 0)) := hown0
      clear hown0
      go_wp2
      go_loopw [10, 11] (fun out i wr => ∃ k : Nat, i = .int .i64 (k : Int) ∧ k ≤ L ∧ Below w.heap.size w wr ∧ BlkN wr 39 H 8 z ∧ wr.ownsRow (H + 1) 5 1 out k (bys (outB z) k)) (fun _ i _ => L - (intOf i).toNat)
      case atStart => exact ⟨0, rfl, Nat.zero_le _, bAlloc hbw4 _, ba4.alloc _, HO.out⟩
      case round =>
        obtain ⟨k, rfl, hk, hbr, bx, hown2⟩ := hrel
        clear ba4 hbw4 HO hl4
        by_cases hlt : k < L
        · have hR := sum_run (outB z k) (z (k / 8)) (8 * (k % 8)) rfl
          have hLL := HL.out.2
          obtain ⟨iv, eiv⟩ : ∃ iv : Int, iv = (k : Int) := ⟨_, rfl⟩
          rw [← eiv]
          have h0' : 0 ≤ iv := by omega
          have h32 : iv < (L : Int) := by omega
          have hq : iv / 8 = ((k / 8 : Nat) : Int) := by omega
          have hr : iv % 8 = ((k % 8 : Nat) : Int) := by omega
          have ht : 8 * ((k % 8 : Nat) : Int) = ((8 * (k % 8) : Nat) : Int) := by omega
          have tN : iv.toNat = k := by omega
          have q4 : k / 8 < 8 := by omega
          have t64 : 8 * (k % 8) < 64 := by omega
          have cx := bx.cell (k / 8) q4
          have HIW := (show Hid _ from eiv)
          obtain ⟨q, eq⟩ : ∃ q, q = k / 8 := ⟨_, rfl⟩
          obtain ⟨r, er⟩ : ∃ r, r = k % 8 := ⟨_, rfl⟩
          rw [← eq] at hR hq q4 cx
          rw [← er] at hR hr ht t64
          obtain ⟨t, et⟩ : ∃ t, t = 8 * r := ⟨_, rfl⟩
          rw [← et] at hR ht t64
          obtain ⟨X, eX⟩ : ∃ X : Int, X = ((z q : Nat) : Int) := ⟨_, rfl⟩
          rw [← eX] at hR cx
          obtain ⟨b, eb⟩ : ∃ b, b = outB z k := ⟨_, rfl⟩
          rw [← eb] at hR
          have EB := (show Hid _ from eb)
          clear eiv eq er et eX eb
          have hsz2 := bx.lt
          go_wp2_with (first
            | (at_builtin; refine wpList_append_own _ rfl _ _ 22 rfl (H + 1) 5 i0 (.int .u8 0) 1 1 Tryd.underlying22 HI.out HZ.out.1 HZ.out.2.1 HZ.out.2.2 rfl (by decide) _ _ _ rfl (hown2.alloc _) ⟨wr.heap.size, 0, none⟩ 1 1 [.int .u8 (b : Int)] rfl rfl ?c1 ?c2 ?c3 ?c4 ?c5 ?_)
            | go_in)
          case c1 =>
            intro j u hj
            match j, hj with
            | 0, hj => simp at hj; subst hj; simp [Addr.add]
          case c2 => intro u hu; simp at hu; subst hu; rfl
          case c3 => unfold maxLen; omega
          case c4 => omega
          case c5 => simp; omega
          intro v' w8 hown' hgrow _
          go_wp2
          go_roundw
          case measure => rw [HIW.out]; simp [intOf]; omega
          case rel =>
            have hB : Below (H + 1) wr w8 := ((Below.refl _ wr).alloc hsz2 _).grown hgrow (by simp; omega) (fun j hj => own_block_ge' hown2 hj)
            refine ⟨k + 1, by rw [HIW.out]; go_num, by omega, hbr.trans (hB.mono (by omega)), bx.below hB (by omega), ?_⟩
            rw [bys_succ, ← EB.out]
            exact hown'
        · have hki : ¬ (k : Int) < (L : Int) := by omega
          have hkL : k = L := by omega
          subst hkL
          go_wp2
          go_ret2
          refine ⟨_, rfl, ?_, hbr⟩
          rw [← EZ.out]
          obtain ⟨h1, h2⟩ := hown2
          refine ⟨h1, ?_⟩
          rcases h2 with h2 | ⟨g, c, cur, h3, h4, h5⟩
          · exact Or.inl h2
          · exact Or.inr ⟨g, c, cur, h3, by omega, h5⟩

end Go.Proofs.YtolaofoffakddaaDoor
