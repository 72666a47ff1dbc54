/- permute: what a chunk's product takes in. -/
import Derived.Test.YtfbfenljfdnggaaGreatDoorVRP2
import Derived.Test.YtfbfenljfdnggaaGreatDoorVWD
namespace Go.Proofs.YtfbfenljfdnggaaGreatDoor
open Go.RowKit
theorem CelS.from {w : World} {b m f n : Nat} {A B D : Nat → Nat} (h : CelS w b 0 m A B D) (hn : f + n ≤ m) : CelS w b (f * 12) n (fun i => A (f + i)) (fun i => B (f + i)) (fun i => D (f + i)) := by
  refine ⟨h.1, fun i hi => ?_⟩
  have e : f * 12 + i * 12 = 0 + (f + i) * 12 := by omega
  rw [e]
  exact h.2 (f + i) (by omega)
/-- What chunk p takes in: the factors above, below, in a row. -/
def upV (s be ga f n : Nat) (A B : Nat → Nat) : Nat := pW s (fun i => lbP s be ga (A (f + i)) (B (f + i))) n
theorem upV_M (s be ga f n : Nat) (A B : Nat → Nat) : upV s be ga f n A B < 115792089237316195423570985008687907853269984665640564039457584007913129639936 := pW_M _ _ _
set_option maxHeartbeats 8000000 in
set_option maxRecDepth 100000 in
theorem ratios_any (s u m p f n H be ga : Nat) (ag : Array Value) (sv : Value) (G : Nat → Nat) (A B D : Nat → Nat → Nat) (hs : s < 4) (hu : u ≤ 900) (hm : m ≤ 1000) (hf : f = 2 * p) (hlt : f < m) (hn : n = min (f + 2) m - f) (hA : AgP ag (s : Int) be ga sv) (hbe : be < 115792089237316195423570985008687907853269984665640564039457584007913129639936) (hga : ga < 115792089237316195423570985008687907853269984665640564039457584007913129639936)
    (hAM : ∀ r i, i < m → A r i < 115792089237316195423570985008687907853269984665640564039457584007913129639936) (hBM : ∀ r i, i < m → B r i < 115792089237316195423570985008687907853269984665640564039457584007913129639936) (hDM : ∀ r i, i < m → D r i < 115792089237316195423570985008687907853269984665640564039457584007913129639936) (w : World) (hg : Glob w) (hS : SlT 122 w H u (fun r => .slice (some ⟨G r, 0, none⟩) m m)) (hC : ∀ r, r < u → CelK w (G r) m (A r) (B r) (D r)) :
    Calls Tryz.prog 62 #[.agg ag, .slice (some ⟨H, 0, none⟩) u u, .int .i64 (p : Int)] w fun e w' => (∃ Z, e = .returned (.slice (some ⟨Z, 0, none⟩) u u) ∧ w.heap.size ≤ Z ∧ RtK w' Z u (fun r => upV s be ga f n (A r) (B r)) (fun r => upV s be ga f n (A r) (D r))) ∧ Below w.heap.size w w' := by
  obtain ⟨r0, hr0, hy0, hy1, hy2⟩ := ratInfo
  have HI := (show Hid _ from hr0); have HZ := (show Hid _ from And.intro hy0 (And.intro hy1 hy2)); clear hr0 hy0 hy1 hy2
  obtain ⟨Up, eUp⟩ : ∃ z : Nat → Nat, z = fun r => upV s be ga f n (A r) (B r) := ⟨_, rfl⟩
  obtain ⟨Dn, eDn⟩ : ∃ z : Nat → Nat, z = fun r => upV s be ga f n (A r) (D r) := ⟨_, rfl⟩
  obtain ⟨fo, efo⟩ : ∃ z, z = f * 12 := ⟨_, rfl⟩
  obtain ⟨cn, ecn⟩ : ∃ z, z = m - f := ⟨_, rfl⟩
  have hfn : f + n ≤ m := by omega
  have HCK : Hid (∀ g w, Calls Tryz.prog 102 #[.slice (some ⟨g, 0, none⟩) m m, .int .i64 (p : Int)] w fun e w' => e = .returned (.slice (some ⟨g, fo, none⟩) n cn) ∧ w' = w) := fun g w => by
    rw [efo, ecn, hn]
    exact chunk_any g m p f (min (f + 2) m) hm hf hlt rfl w
  have HOW : Hid (∀ r, r < u → ∀ g w', Glob w' → CelK w' g m (A r) (B r) (D r) → Calls Tryz.prog 103 #[.agg ag, .slice (some ⟨g, fo, none⟩) n cn] w' fun e w'' => e = .returned (.agg #[.int .u64 ((limb 0 (Up r) : Nat) : Int), .int .u64 ((limb 1 (Up r) : Nat) : Int), .int .u64 ((limb 2 (Up r) : Nat) : Int), .int .u64 ((limb 3 (Up r) : Nat) : Int)]) ∧ Below w'.heap.size w' w'') := fun r hr g w' hg' hc => by
    rw [eUp, efo]
    exact byOwn_any s g (f * 12) n cn ag be ga sv (fun i => A r (f + i)) (fun i => B r (f + i)) (fun i => D r (f + i)) hs (by omega) hA hbe hga (fun i hi => hAM r _ (by omega)) (fun i hi => hBM r _ (by omega)) w' hg' (hc.celS.from hfn)
  have HNX : Hid (∀ r, r < u → ∀ g w', Glob w' → CelK w' g m (A r) (B r) (D r) → Calls Tryz.prog 104 #[.agg ag, .slice (some ⟨g, fo, none⟩) n cn] w' fun e w'' => e = .returned (.agg #[.int .u64 ((limb 0 (Dn r) : Nat) : Int), .int .u64 ((limb 1 (Dn r) : Nat) : Int), .int .u64 ((limb 2 (Dn r) : Nat) : Int), .int .u64 ((limb 3 (Dn r) : Nat) : Int)]) ∧ Below w'.heap.size w' w'') := fun r hr g w' hg' hc => by
    rw [eDn, efo]
    exact byNext_any s g (f * 12) n cn ag be ga sv (fun i => A r (f + i)) (fun i => B r (f + i)) (fun i => D r (f + i)) hs (by omega) hA hbe hga (fun i hi => hAM r _ (by omega)) (fun i hi => hDM r _ (by omega)) w' hg' (hc.celS.from hfn)
  rw [← eUp, ← eDn]
  have HGW : Hid (Glob w) := hg
  have HSC : Hid (SlT 122 w H u (fun r => .slice (some ⟨G r, 0, none⟩) m m) ∧ ∀ r, r < u → CelK w (G r) m (A r) (B r) (D r)) := ⟨hS, hC⟩
  have HS10 : Hid ((Tryz.prog.info? 75).map (·.size) = some ag.size) := by rw [hA.1]; exact sizG
  clear hg hS hC hA hbe hga hAM hBM hDM hs hf hlt hn hfn efo ecn eUp eDn
  go_enter Tryz.func62, Tryz.ntmps62
  go_upto_region 1 with fail
  obtain ⟨N3, e0⟩ : ∃ z, z = w.heap.size := ⟨_, rfl⟩
  obtain ⟨w1, hw1⟩ : ∃ z : World, z = w.alloc (.cells ag 75) := ⟨_, rfl⟩
  have b3 : Lay w1 75 N3 ag := by rw [hw1]; exact Lay.newAt _ _ _ e0
  have hb1 : Below w.heap.size w w1 := by rw [hw1]; exact bAlloc (Below.refl _ _) _
  rw [← hw1]
  try rw [← e0]
  clear hw1 e0
  go_wp2_with (first
    | (at_make; refine wpList_make_full _ rfl _ _ 126 rfl w1.heap.size 170 r0 (.agg #[.int .u64 0, .int .u64 0, .int .u64 0, .int .u64 0, .int .u64 0, .int .u64 0, .int .u64 0, .int .u64 0]) 8 Tryz.underlying126 HI.out HZ.out.1 HZ.out.2.1 .i64 .i64 u u u rfl rfl rfl rfl ?c1 ?c2 (Nat.le_refl _) ?_)
    | go_in)
  case c1 => rw [HZ.out.2.2]; omega
  case c2 => unfold maxLen; omega
  intro w5 hown hgrow
  obtain ⟨Z, eZ⟩ : ∃ Z, Z = w1.heap.size := ⟨_, rfl⟩
  rw [← eZ] at hown ⊢
  have bo := (own_rtK hown).1
  have hbe := (Below.refl _ w1).grown hgrow (Nat.le_refl _) (fun j hj => by cases hj)
  have hb5 := bStep hb1 hbe
  have lZ : w.heap.size ≤ Z := by rw [eZ]; exact hb1.size
  have d3 := b3.belowAll hbe
  have n3Z : N3 ≠ Z := by have := b3.lt; omega
  clear hown hgrow hbe b3 hb1 eZ HI HZ
  go_wp2
  go_loopw [16] (fun iv wr => ∃ r : Nat, iv = .int .i64 (r : Int) ∧ r ≤ u ∧ RtK wr Z u (fun i => if i < r then Up i else 0) (fun i => if i < r then Dn i else 0) ∧ Below w.heap.size w wr ∧ Lay wr 75 N3 ag) (fun iv _ => u - (intOf iv).toNat)
  case atStart => exact ⟨0, rfl, Nat.zero_le _, bo.congr (fun i _ => by rw [if_neg (Nat.not_lt_zero i), if_neg (Nat.not_lt_zero i)]; exact ⟨rfl, rfl⟩), hb5, d3⟩
  case round =>
    obtain ⟨r, rfl, hr, bg, hbr, p3⟩ := hrel
    clear bo hb5 d3
    by_cases hlt2 : r < u
    · have hri : (r : Int) < (u : Int) := by omega
      have hr0 : (0 : Int) ≤ (r : Int) := by omega
      obtain ⟨Gr, eGr⟩ : ∃ z, z = G r := ⟨_, rfl⟩
      have a0 := (HSC.out.1.belowAll hbr).cell r hlt2
      have bC := (HSC.out.2 r hlt2).belowAll hbr
      rw [← eGr] at a0 bC
      have HBC : Hid (∀ w', Below wr.heap.size wr w' → CelK w' Gr m (A r) (B r) (D r)) := fun w' hb => bC.belowAll hb
      have HO1 : Hid (∀ g w', Glob w' → CelK w' g m (A r) (B r) (D r) → _) := HOW.out r hlt2
      have HN1 : Hid (∀ g w', Glob w' → CelK w' g m (A r) (B r) (D r) → _) := HNX.out r hlt2
      obtain ⟨x, ex⟩ : ∃ z, z = Up r := ⟨_, rfl⟩
      obtain ⟨y, ey⟩ : ∃ z, z = Dn r := ⟨_, rfl⟩
      rw [← ex] at HO1
      rw [← ey] at HN1
      have HXY : Hid (x = Up r ∧ y = Dn r) := ⟨ex, ey⟩
      have HGr : Hid (Glob wr) := HGW.out.below hbr
      clear eGr ex ey bC
      go_wp2_with fail
      refine (HCK.out Gr wr).mono ?_
      rintro e wq ⟨rfl, e9⟩
      rw [e9]
      clear e9 wq a0
      go_upto_region 6 with fail
      refine wp_region_Z (fun w' => Below wr.heap.size wr w') 10 (by kernel_rfl) ?_
      obtain ⟨wD, hD⟩ : ∃ x : World, x = wr.drew := ⟨_, rfl⟩
      rw [← hD]
      have hp0_0 : Below wr.heap.size wr wD := by rw [hD]; exact (Below.refl _ _).drew
      have hlow0 : Below wr.heap.size wr wD := by rw [hD]; exact (Below.refl _ _).drew
      clear hD
      refine wpZ_take (i := 0) (v := .slice (some ⟨Z, 0, none⟩) u u) 24 rfl rfl (by kernel_rfl) (by kernel_rfl) (by kernel_rfl) (Or.inl (by kernel_rfl)) (fun _ _ _ h => h) (Or.inl ⟨by rfl, fun w hSw => by go_simp⟩) hp0_0 ?_
      simp only [Act.put, List.setIfInBounds_toArray]
      dsimp only [List.set_cons_zero, List.set_cons_succ]
      refine wpZ_take (i := 1) (v := .int .i64 (r : Int)) 25 rfl rfl (by kernel_rfl) (by kernel_rfl) (by kernel_rfl) (Or.inl (by kernel_rfl)) (fun _ _ _ h => h) (Or.inl ⟨by rfl, fun w hSw => by go_simp⟩) hp0_0 ?_
      simp only [Act.put, List.setIfInBounds_toArray]
      dsimp only [List.set_cons_zero, List.set_cons_succ]
      refine wpZ_take (i := 2) (v := .agg ag) 26 rfl rfl (by kernel_rfl) (by kernel_rfl) (by kernel_rfl) (Or.inl (by kernel_rfl)) (fun _ _ _ h => h) (yLd undG rfl _ rfl N3 rfl ag HS10.out (fun w hSw => p3.belowAll hSw)) hp0_0 ?_
      simp only [Act.put, List.setIfInBounds_toArray]
      dsimp only [List.set_cons_zero, List.set_cons_succ]
      refine wpZ_take (i := 3) (v := .slice (some ⟨Gr, fo, none⟩) n cn) 27 rfl rfl (by kernel_rfl) (by kernel_rfl) (by kernel_rfl) (Or.inl (by kernel_rfl)) (fun _ _ _ h => h) (Or.inl ⟨by rfl, fun w hSw => by go_simp⟩) hp0_0 ?_
      simp only [Act.put, List.setIfInBounds_toArray]
      dsimp only [List.set_cons_zero, List.set_cons_succ]
      refine wpZ_take (i := 5) (v := .agg ag) 29 rfl rfl (by kernel_rfl) (by kernel_rfl) (by kernel_rfl) (Or.inl (by kernel_rfl)) (fun _ _ _ h => h) (yLd undG rfl _ rfl N3 rfl ag HS10.out (fun w hSw => p3.belowAll hSw)) hp0_0 ?_
      simp only [Act.put, List.setIfInBounds_toArray]
      dsimp only [List.set_cons_zero, List.set_cons_succ]
      refine wpZ_take (i := 6) (v := .slice (some ⟨Gr, fo, none⟩) n cn) 30 rfl rfl (by kernel_rfl) (by kernel_rfl) (by kernel_rfl) (Or.inl (by kernel_rfl)) (fun _ _ _ h => h) (Or.inl ⟨by rfl, fun w hSw => by go_simp⟩) hp0_0 ?_
      simp only [Act.put, List.setIfInBounds_toArray]
      dsimp only [List.set_cons_zero, List.set_cons_succ]
      refine wpZ_one (i := 4) (by kernel_rfl) rfl (fun K hK => ?_)
      go_simp
      refine (HO1.out Gr wD (HGr.out.below hlow0) (HBC.out wD hlow0)).mono ?_
      rintro e wT1 ⟨rfl, hbT1⟩
      have hlowT1 := bStep hlow0 hbT1
      go_wp2_with fail
      refine hK.out _ _ (fun _ => hlowT1) ?_
      clear hK K hbT1
      refine wpZ_one (i := 7) (by kernel_rfl) rfl (fun K hK => ?_)
      go_simp
      refine (HN1.out Gr wT1 (HGr.out.below hlowT1) (HBC.out wT1 hlowT1)).mono ?_
      rintro e wT2 ⟨rfl, hbT2⟩
      have hlowT2 := bStep hlowT1 hbT2
      go_wp2_with fail
      refine hK.out _ _ (fun _ => hlowT2) ?_
      clear hK K hbT2
      refine wpZ_take (i := 8) (v := .agg #[.int .u64 ((limb 0 x : Nat) : Int), .int .u64 ((limb 1 x : Nat) : Int), .int .u64 ((limb 2 x : Nat) : Int), .int .u64 ((limb 3 x : Nat) : Int), .int .u64 ((limb 0 y : Nat) : Int), .int .u64 ((limb 1 y : Nat) : Int), .int .u64 ((limb 2 y : Nat) : Int), .int .u64 ((limb 3 y : Nat) : Int)]) 32 rfl rfl (by kernel_rfl) (by kernel_rfl) (by kernel_rfl) (Or.inl (by kernel_rfl)) (fun _ _ _ h => h) (Or.inl ⟨by rfl, fun w hSw => by go_simp⟩) hlowT2 ?_
      simp only [Act.put, List.setIfInBounds_toArray]
      dsimp only [List.set_cons_zero, List.set_cons_succ]
      refine wpZ_take (i := 9) (v := .pointer (some ⟨Z, r * 8, none⟩)) 33 rfl rfl (by kernel_rfl) (by kernel_rfl) (by kernel_rfl) (Or.inl (by kernel_rfl)) (fun _ _ _ h => h) (Or.inl ⟨by rfl, fun w hSw => by go_simp⟩) hlowT2 ?_
      simp only [Act.put, List.setIfInBounds_toArray]
      dsimp only [List.set_cons_zero, List.set_cons_succ]
      refine wpZ_one (i := 10) (by kernel_rfl) rfl (fun K hK => ?_)
      have bS := bg.belowAll hlowT2
      have fS := bS.frozen
      obtain ⟨v0, cS0⟩ := bS.cell8 hlt2 0 (by decide)
      obtain ⟨v1, cS1⟩ := bS.cell8 hlt2 1 (by decide)
      obtain ⟨v2, cS2⟩ := bS.cell8 hlt2 2 (by decide)
      obtain ⟨v3, cS3⟩ := bS.cell8 hlt2 3 (by decide)
      obtain ⟨v4, cS4⟩ := bS.cell8 hlt2 4 (by decide)
      obtain ⟨v5, cS5⟩ := bS.cell8 hlt2 5 (by decide)
      obtain ⟨v6, cS6⟩ := bS.cell8 hlt2 6 (by decide)
      obtain ⟨v7, cS7⟩ := bS.cell8 hlt2 7 (by decide)
      rw [Nat.add_zero] at cS0
      obtain ⟨w6, hw6, s7, hk6⟩ := bS.put hlt2 x y
      go_simp
      refine hK.out _ _ (fun h => absurd rfl h) ?_
      clear hK K
      refine wpZ_done (by kernel_rfl) ?_ _
      have hbw6 := bKept (bStep hbr hlowT2) lZ hk6
      have t3 := (p3.belowAll hlowT2).kept n3Z hk6
      have HRK : Hid (RtK w6 Z u (fun q => if q < r + 1 then Up q else 0) (fun q => if q < r + 1 then Dn q else 0)) := s7.congr (fun q hq => by
        obtain ⟨rfl, rfl⟩ := HXY.out
        by_cases h1 : q = r
        · subst h1; rw [if_pos (Nat.lt_succ_self q), if_pos rfl, if_pos (Nat.lt_succ_self q), if_pos rfl]; exact ⟨rfl, rfl⟩
        · by_cases h2 : q < r
          · rw [if_pos (show q < r + 1 by omega), if_neg h1, if_pos h2, if_pos (show q < r + 1 by omega), if_neg h1, if_pos h2]; exact ⟨rfl, rfl⟩
          · rw [if_neg (show ¬ q < r + 1 by omega), if_neg h1, if_neg h2, if_neg (show ¬ q < r + 1 by omega), if_neg h1, if_neg h2]; exact ⟨rfl, rfl⟩)
      clear bS fS cS0 cS1 cS2 cS3 cS4 cS5 cS6 cS7 hk6 s7 hbr p3 bg hlowT2
      go_wp2
      go_roundw
      case measure => simp [intOf]; omega
      case rel => exact ⟨r + 1, by go_num, by omega, HRK.out, hbw6, t3⟩
    · have hri : ¬ (r : Int) < (u : Int) := by omega
      obtain rfl : u = r := by omega
      have HRK : Hid (RtK wr Z u Up Dn) := bg.congr (fun q hq => by rw [if_pos hq, if_pos hq]; exact ⟨rfl, rfl⟩)
      clear bg p3
      go_wp2
      refine bodyPost_ret (v := .slice (some ⟨Z, 0, none⟩) u u) (by simp [results, Tryz.results62, go_sem]) rfl ⟨⟨Z, rfl, lZ, HRK.out⟩, hbr⟩
end Go.Proofs.YtfbfenljfdnggaaGreatDoor

/- permute: the products along the columns, by what ratios and Along answer. -/
namespace Go.Proofs.YtfbfenljfdnggaaGreatDoor
open Go.RowKit
theorem KU.toKept {b : Nat} {w w' : World} (h : KU w.heap.size b w w') : Kept b w w' := ⟨h.1, h.2.1, h.2.2.1, h.2.2.2.1, fun k hk hne => h.2.2.2.2 k hk hne⟩
theorem listInfo : ∃ i : TypeInfo, Tryz.prog.info? 26 = some i ∧ i.zero = some (.slice none 0 0) ∧ i.size = 1 ∧ i.bytes = 24 := by
  match h : Tryz.prog.info? 26 with
  | some i => exact ⟨i, rfl, by have e : (Tryz.prog.info? 26).bind (·.zero) = some (.slice none 0 0) := by kernel_rfl
                                rw [h] at e; exact e, by have e : (Tryz.prog.info? 26).map (·.size) = some 1 := by kernel_rfl
                                                         rw [h] at e; exact Option.some.inj e, by have e : (Tryz.prog.info? 26).map (·.bytes) = some 24 := by kernel_rfl
                                                                                                  rw [h] at e; exact Option.some.inj e⟩
  | none => have e : (Tryz.prog.info? 26).map (·.size) = some 1 := by kernel_rfl
            rw [h] at e; cases e
/-- What products answers. -/
def PrsE (w w' : World) (C m b : Nat) (bad : Nat → Prop) (zl : Nat → List Nat) (el f : Nat → Nat) (e : Ending) : Prop :=
  (∃ (j : Nat) (er : Int), j < C ∧ (∀ i, i < j → ¬ bad i) ∧ 3 * j ≤ m ∧ ((bad j ∧ er = 100) ∨ (¬ bad j ∧ m < 3 * j + 3 ∧ er = 81)) ∧ e = .returned (.tuple #[.slice none 0 0, .int .i64 er])) ∨
  ((∀ i, i < C → ¬ bad i) ∧ 3 * C ≤ m ∧ ∃ (T : Nat) (zs : Nat → Value), e = .returned (.tuple #[.slice (some ⟨T, 0, none⟩) C C, .int .i64 0]) ∧ w.heap.size ≤ T ∧ SlT 26 w' T C zs ∧ (∀ j, j < C → OwnL w' w.heap.size (zs j) (zl j ++ coinL el (fun i => f (i + 3 * j)) 3)) ∧ PurseS w' w.heap.size b (m - 3 * C) (fun i => f (i + 3 * C)))
set_option maxHeartbeats 8000000 in
set_option maxRecDepth 100000 in
theorem prods_any (s u n C m b H cc g be ga : Nat) (ag : Array Value) (bad : Nat → Prop) (zl : Nat → List Nat) (el f sv : Nat → Nat) (Up Dn : Nat → Nat → Nat) (hu : u ≤ 900) (hn : n ≤ 1000) (hC : C = (n + 1) / 2) (hA : AgP ag (s : Int) be ga (.slice (some ⟨g, 0, none⟩) n cc)) (hzl : ∀ j, (zl j).length = u + 1) (hsv : ∀ j, (zl j).getD u 0 = sv (j + 1)) (h0 : sv 0 = 1) (w : World) (hp : PurseS w w.heap.size b m f)
    (hra : ∀ j, j < C → ∀ w', KU w.heap.size b w w' → Calls Tryz.prog 62 #[.agg ag, .slice (some ⟨H, 0, none⟩) u u, .int .i64 (j : Int)] w' fun e w'' => (∃ Z, e = .returned (.slice (some ⟨Z, 0, none⟩) u u) ∧ w'.heap.size ≤ Z ∧ RtK w'' Z u (Up j) (Dn j)) ∧ Below w'.heap.size w' w'') (hal : ∀ j, j < C → 3 * j ≤ m → ∀ Z w', KU w.heap.size b w w' → RtK w' Z u (Up j) (Dn j) → PurseS w' w.heap.size b (m - 3 * j) (fun i => f (i + 3 * j)) → Calls Tryz.prog 61 #[.int .i64 (s : Int), .agg #[.int .u64 ((limb 0 (sv j) : Nat) : Int), .int .u64 ((limb 1 (sv j) : Nat) : Int), .int .u64 ((limb 2 (sv j) : Nat) : Int), .int .u64 ((limb 3 (sv j) : Nat) : Int)], .slice (some ⟨Z, 0, none⟩) u u, .pointer (some ⟨b, 0, none⟩)] w' fun e w'' => ((bad j ∧ e = .returned (.tuple #[.slice none 0 0, .int .i64 100])) ∨ (¬ bad j ∧ HidE w'.heap.size w.heap.size b (m - 3 * j) (zl j) el (fun i => f (i + 3 * j)) e w'')) ∧ KU w'.heap.size b w' w'') :
    Calls Tryz.prog 27 #[.agg ag, .slice (some ⟨H, 0, none⟩) u u, .pointer (some ⟨b, 0, none⟩)] w fun e w' => PrsE w w' C m b bad zl el f e ∧ KU w.heap.size b w w' := by
  obtain ⟨i1, hr0, hy0, hy1, hy2⟩ := listInfo
  have HI := (show Hid _ from hr0); have HZ := (show Hid _ from And.intro hy0 (And.intro hy1 hy2)); clear hr0 hy0 hy1 hy2
  have HRA : Hid (∀ j, j < C → ∀ w', KU w.heap.size b w w' → _) := hra
  have HAL : Hid (∀ j, j < C → 3 * j ≤ m → ∀ Z w', KU w.heap.size b w w' → _) := hal
  have hbb : b < w.heap.size := by obtain ⟨_, _, _, _, h, _⟩ := hp; exact h
  have HBB : Hid (b < w.heap.size ∧ C ≤ 501) := by show _ ∧ _; omega
  have HCH : Hid (∀ w, Calls Tryz.prog 60 #[.int .i64 (n : Int)] w fun e w' => e = .returned (.int .i64 (C : Int)) ∧ w' = w) := fun w => by rw [hC]; exact chunks_any n hn w
  have HSV : Hid ((∀ j, (zl j).length = u + 1) ∧ (∀ j, (zl j).getD u 0 = sv (j + 1)) ∧ sv 0 = 1) := ⟨hzl, hsv, h0⟩
  have HAV : Hid (AgP ag (s : Int) be ga (.slice (some ⟨g, 0, none⟩) n cc)) := hA
  have HS10 : Hid ((Tryz.prog.info? 75).map (·.size) = some ag.size) := by show _ = _; rw [hA.1]; exact sizG
  have HPW : Hid (PurseS w w.heap.size b m f) := hp
  obtain ⟨si, esi⟩ : ∃ z : Int, z = (s : Int) := ⟨_, rfl⟩
  rw [← esi] at HAV HAL
  clear hra hal hbb hC hn hzl hsv h0 hA hp esi
  go_enter Tryz.func27, Tryz.ntmps27
  go_upto_region 1 with fail
  obtain ⟨N3, e0⟩ : ∃ z, z = w.heap.size := ⟨_, rfl⟩
  obtain ⟨w1, hw1⟩ : ∃ z : World, z = w.alloc (.cells ag 75) := ⟨_, rfl⟩
  have b3 : Lay w1 75 N3 ag := by rw [hw1]; exact Lay.newAt _ _ _ e0
  have hb1 : Below w.heap.size w w1 := by rw [hw1]; exact bAlloc (Below.refl _ _) _
  have l3w : w.heap.size ≤ N3 := by omega
  rw [← hw1]
  try rw [← e0]
  clear hw1 e0
  have c9 := b3.at HAV.out.2.2.2.2
  go_wp2_with fail
  refine (HCH.out w1).mono ?_
  rintro e w2 ⟨rfl, e3⟩
  rw [e3]
  clear e3 w2 c9 HCH
  have hC5 : C ≤ 501 := HBB.out.2
  go_wp2_with (first
    | (at_make; refine wpList_make_full _ rfl _ _ 22 rfl w1.heap.size 26 i1 (.slice none 0 0) 1 Tryz.underlying22 HI.out HZ.out.1 HZ.out.2.1 .i64 .i64 C C C rfl rfl rfl rfl ?c1 ?c2 (Nat.le_refl _) ?_)
    | go_in)
  case c1 => rw [HZ.out.2.2]; omega
  case c2 => unfold maxLen; omega
  intro w5 hown hgrow
  obtain ⟨T, eT⟩ : ∃ T, T = w1.heap.size := ⟨_, rfl⟩
  rw [← eT] at hown ⊢
  have bT5 : SlT 26 w5 T C (fun _ => .slice none 0 0) := (own_SlT (c := fun _ => .slice none 0 0) hown (fun i hi => made_nil C i hi)).1
  have hbe := (Below.refl _ w1).grown hgrow (Nat.le_refl _) (fun j hj => by cases hj)
  have hb5 := bStep hb1 hbe
  have b35 := b3.belowAll hbe
  have lTw : w.heap.size ≤ T := by rw [eT]; exact hb1.size
  have n3T : N3 ≠ T := by have := b3.lt; omega
  clear hown hgrow hbe b3 hb1 eT HI HZ
  obtain ⟨N9, e9⟩ : ∃ n, n = w5.heap.size := ⟨_, rfl⟩
  go_upto_region 3 with fail
  generalize hw6' : World.alloc w5 _ = w6
  have hw6 := hw6'.symm
  clear hw6'
  have hbn : Below w5.heap.size w5 w6 := by rw [hw6]; exact bAlloc (Below.refl _ _) _
  have b9 : Blk w6 25 N9 (fun i => limb i 1) := by rw [hw6]; exact Blk.newAt _ _ _ (fun i => limb i 1) e9
  have b36 := b35.belowAll hbn
  have bT6 := bT5.belowAll hbn
  have hb6 := bStep hb5 hbn
  have nT9 : T ≠ N9 := by have := bT5.lt; omega
  have n39 : N3 ≠ N9 := by have := b35.lt; omega
  have l9w : w.heap.size ≤ N9 := by rw [e9]; exact hb5.size
  try rw [← e9]
  clear hw6 e9 hbn b35 bT5 hb5
  have HNN : Hid (N3 ≠ T ∧ N3 ≠ N9 ∧ T ≠ N9 ∧ w.heap.size ≤ N3 ∧ w.heap.size ≤ T ∧ w.heap.size ≤ N9) := ⟨n3T, n39, nT9, l3w, lTw, l9w⟩
  have HBS : Hid (T < w6.heap.size ∧ N9 < w6.heap.size ∧ w.heap.size ≤ w6.heap.size) := ⟨bT6.lt, b9.lt, hb6.size⟩
  clear n3T n39 nT9 l3w lTw l9w
  go_wp2
  go_loopw [21] (fun iv wr => ∃ (j : Nat) (zs : Nat → Value), iv = .int .i64 (j : Int) ∧ j ≤ C ∧ Hid (∀ i, i < j → ¬ bad i) ∧ 3 * j ≤ m ∧ KU w.heap.size b w wr ∧ PurseS wr w.heap.size b (m - 3 * j) (fun i => f (i + 3 * j)) ∧ Lay wr 75 N3 ag ∧ Blk wr 25 N9 (fun i => limb i (sv j)) ∧ SlT 26 wr T C (fun i => if i < j then zs i else .slice none 0 0) ∧ Hid (∀ j', j' < j → OwnL wr w6.heap.size (zs j') (zl j' ++ coinL el (fun i => f (i + 3 * j')) 3)) ∧ w6.heap.size ≤ wr.heap.size) (fun iv _ => C - (intOf iv).toNat)
  case atStart => exact ⟨0, fun _ => .slice none 0 0, rfl, Nat.zero_le _, fun i hi => absurd hi (by omega), Nat.zero_le _, (KU.refl _ _ _).below hb6, HPW.out.below hb6, b36, by rw [HSV.out.2.2]; exact b9, bT6.congr (fun i _ => if_neg (by omega)), fun i hi => absurd hi (by omega), Nat.le_refl _⟩
  case round =>
    obtain ⟨j, zs, rfl, hj, HGD, h3j, hku, hpr, r3, r9, bT, HOL, hw6r⟩ := hrel
    clear b36 bT6 hb6 b9
    by_cases hlt : j < C
    · have hji : (j : Int) < (C : Int) := by omega
      have hj0 : (0 : Int) ≤ (j : Int) := by omega
      have hC5 : C ≤ 501 := HBB.out.2
      obtain ⟨st, est⟩ : ∃ z, z = sv j := ⟨_, rfl⟩
      have HA1 : Hid (∀ Z w', KU w.heap.size b w w' → _) := HAL.out j hlt h3j
      rw [← est] at r9 HA1
      have h9 : Rd4 wr N9 0 st := ⟨r9.cell 0 (by decide), r9.cell 1 (by decide), r9.cell 2 (by decide), r9.cell 3 (by decide)⟩
      have l3 := r3.lt; have l9 := r9.lt
      have hwr : w.heap.size ≤ wr.heap.size := Nat.le_trans HBS.out.2.2 hw6r
      have HR1 : Hid (∀ w', KU w.heap.size b w w' → _) := HRA.out j hlt
      clear est
      go_upto_region 6 with fail
      refine wp_region_Z (fun w' => Lay w' 75 N3 ag ∧ Rd4 w' N9 0 st) 99 (by kernel_rfl) ?_
      obtain ⟨wD, hD⟩ : ∃ z : World, z = wr.drew := ⟨_, rfl⟩
      rw [← hD]
      have lowD : Below wr.heap.size wr wD := by rw [hD]; exact (Below.refl _ _).drew
      clear hD
      have HS0 : Lay wD 75 N3 ag ∧ Rd4 wD N9 0 st := ⟨r3.below lowD l3, h9.below lowD l9⟩
      refine wpZ_take (i := 0) (v := .pointer (some ⟨N3, 0, none⟩)) 25 rfl rfl (by kernel_rfl) (by kernel_rfl) (by kernel_rfl) (Or.inr (by decide)) (fun _ _ _ h => h) (Or.inl ⟨by rfl, fun w hSw => by go_simp⟩) HS0 ?_
      simp only [Act.put, List.setIfInBounds_toArray]
      try dsimp only [List.set_cons_zero, List.set_cons_succ]
      refine wpZ_take (i := 1) (v := .int .i64 si) 26 rfl rfl (by kernel_rfl) (by kernel_rfl) (by kernel_rfl) (Or.inr (by decide)) (fun _ _ _ h => h) (Or.inl ⟨by rfl, fun w hSw => by (have qq := hSw.1.at HAV.out.2.1; clear hSw; go_simp)⟩) HS0 ?_
      simp only [Act.put, List.setIfInBounds_toArray]
      try dsimp only [List.set_cons_zero, List.set_cons_succ]
      refine wpZ_take (i := 2) (v := .agg #[.int .u64 ((limb 0 (st) : Nat) : Int), .int .u64 ((limb 1 (st) : Nat) : Int), .int .u64 ((limb 2 (st) : Nat) : Int), .int .u64 ((limb 3 (st) : Nat) : Int)]) 27 rfl rfl (by kernel_rfl) (by kernel_rfl) (by kernel_rfl) (Or.inr (by decide)) (fun _ _ _ h => h) (Or.inl ⟨by rfl, fun w hSw => by (obtain ⟨q0, q1, q2, q3⟩ : w.cell? ⟨N9, 0, none⟩ = _ ∧ w.cell? ⟨N9, 1, none⟩ = _ ∧ w.cell? ⟨N9, 2, none⟩ = _ ∧ w.cell? ⟨N9, 3, none⟩ = _ := hSw.2; clear hSw; go_simp)⟩) HS0 ?_
      simp only [Act.put, List.setIfInBounds_toArray]
      try dsimp only [List.set_cons_zero, List.set_cons_succ]
      refine wpZ_take (i := 3) (v := .agg ag) 28 rfl rfl (by kernel_rfl) (by kernel_rfl) (by kernel_rfl) (Or.inr (by decide)) (fun _ _ _ h => h) (yLd undG rfl _ rfl N3 rfl ag HS10.out (fun w hSw => hSw.1)) HS0 ?_
      simp only [Act.put, List.setIfInBounds_toArray]
      try dsimp only [List.set_cons_zero, List.set_cons_succ]
      refine wpZ_take (i := 4) (v := .slice (some ⟨H, 0, none⟩) u u) 29 rfl rfl (by kernel_rfl) (by kernel_rfl) (by kernel_rfl) (Or.inr (by decide)) (fun _ _ _ h => h) (Or.inl ⟨by rfl, fun w hSw => by go_simp⟩) HS0 ?_
      simp only [Act.put, List.setIfInBounds_toArray]
      try dsimp only [List.set_cons_zero, List.set_cons_succ]
      refine wpZ_take (i := 5) (v := .int .i64 (j : Int)) 30 rfl rfl (by kernel_rfl) (by kernel_rfl) (by kernel_rfl) (Or.inr (by decide)) (fun _ _ _ h => h) (Or.inl ⟨by rfl, fun w hSw => by go_simp⟩) HS0 ?_
      simp only [Act.put, List.setIfInBounds_toArray]
      try dsimp only [List.set_cons_zero, List.set_cons_succ]
      refine wpZ_take (i := 7) (v := .pointer (some ⟨b, 0, none⟩)) 32 rfl rfl (by kernel_rfl) (by kernel_rfl) (by kernel_rfl) (Or.inr (by decide)) (fun _ _ _ h => h) (Or.inl ⟨by rfl, fun w hSw => by go_simp⟩) HS0 ?_
      simp only [Act.put, List.setIfInBounds_toArray]
      try dsimp only [List.set_cons_zero, List.set_cons_succ]
      refine wpZ_one (i := 6) (by kernel_rfl) rfl (fun K hK => ?_)
      go_simp
      refine (HR1.out wD (hku.below (lowD.mono hwr))).mono ?_
      rintro e wE1 ⟨⟨Z, rfl, lZ, rZ⟩, hbx1⟩
      have lowwE1 := bStep lowD hbx1
      have SwE1 : Lay wE1 75 N3 ag ∧ Rd4 wE1 N9 0 st := ⟨r3.below lowwE1 l3, h9.below lowwE1 l9⟩
      clear lZ
      go_wp2_with fail
      refine hK.out _ _ (fun _ => SwE1) ?_
      clear hK K hbx1
      refine wpZ_one (i := 8) (by kernel_rfl) rfl (fun K hK => ?_)
      go_simp
      have hkE := hku.below (lowwE1.mono hwr)
      refine (HA1.out Z wE1 hkE rZ (hpr.below (lowwE1.mono hwr))).mono ?_
      rintro e wP ⟨hpd, hkA⟩
      have hkk := hkA.toKept
      have hszE : w.heap.size ≤ wE1.heap.size := hkE.2.2.2.1
      have SP : Lay wP 75 N3 ag ∧ Rd4 wP N9 0 st := ⟨SwE1.1.kept (by have := HNN.out; have := HBB.out; omega) hkk, SwE1.2.kept (Nat.lt_of_lt_of_le l9 lowwE1.size) (by have := HNN.out; have := HBB.out; omega) hkk⟩
      have hkP : KU w.heap.size b w wP := hkE.kept (Nat.le_refl _) hkk
      have bTP := (bT.belowAll lowwE1).kept (by have := HNN.out; have := HBB.out; omega) hkk
      have b9P := (r9.belowAll lowwE1).kept (by have := HNN.out; have := HBB.out; omega) hkk
      have HOP : Hid (∀ j', j' < j → OwnL wP w6.heap.size (zs j') (zl j' ++ coinL el (fun i => f (i + 3 * j')) 3)) := fun i hi => ((HOL.out i hi).below lowwE1).keptB (by have := HBB.out; have := HBS.out; omega) hkk
      have hwP : w6.heap.size ≤ wP.heap.size := Nat.le_trans hw6r (Nat.le_trans lowwE1.size hkk.size)
      have hwE : w6.heap.size ≤ wE1.heap.size := Nat.le_trans hw6r lowwE1.size
      have HKP : Hid (KU w.heap.size b w wP) := hkP
      clear hkk hkA hkP hkE hku bT r9 HOL hpr rZ
      rcases hpd with ⟨hbad, rfl⟩ | ⟨hgood, ⟨hm3, rfl⟩ | ⟨h3m, z, rfl, hoz, hpz⟩⟩
      · go_wp2_with fail
        refine hK.out _ _ (fun _ => SP) ?_
        clear hK K
        refine wpZ_take (i := 9) (v := .tuple #[.slice none 0 0, .int .i64 100]) 24 rfl rfl (by kernel_rfl) (by kernel_rfl) (by kernel_rfl) (Or.inr (by decide)) (fun _ _ _ h => h) (Or.inl ⟨by rfl, fun w hSw => by go_simp⟩) SP ?_
        simp only [Act.put, List.setIfInBounds_toArray]
        try dsimp only [List.set_cons_zero, List.set_cons_succ]
        refine wpZ_take (i := 10) (v := .slice none 0 0) 34 rfl rfl (by kernel_rfl) (by kernel_rfl) (by kernel_rfl) (Or.inr (by decide)) (fun _ _ _ h => h) (Or.inl ⟨by rfl, fun w hSw => by go_simp⟩) SP ?_
        simp only [Act.put, List.setIfInBounds_toArray]
        try dsimp only [List.set_cons_zero, List.set_cons_succ]
        refine wpZ_take (i := 11) (v := .int .i64 100) 35 rfl rfl (by kernel_rfl) (by kernel_rfl) (by kernel_rfl) (Or.inr (by decide)) (fun _ _ _ h => h) (Or.inl ⟨by rfl, fun w hSw => by go_simp⟩) SP ?_
        simp only [Act.put, List.setIfInBounds_toArray]
        try dsimp only [List.set_cons_zero, List.set_cons_succ]
        refine wpZ_take (i := 12) (v := .slice none 0 0) 11 rfl rfl (by kernel_rfl) (by kernel_rfl) (by kernel_rfl) (Or.inr (by decide)) (fun _ _ _ h => h) (Or.inl ⟨by rfl, fun w hSw => by go_simp⟩) SP ?_
        simp only [Act.put, List.setIfInBounds_toArray]
        try dsimp only [List.set_cons_zero, List.set_cons_succ]
        refine wpZ_take (i := 13) (v := .int .i64 100) 12 rfl rfl (by kernel_rfl) (by kernel_rfl) (by kernel_rfl) (Or.inr (by decide)) (fun _ _ _ h => h) (Or.inl ⟨by rfl, fun w hSw => by go_simp⟩) SP ?_
        simp only [Act.put, List.setIfInBounds_toArray]
        try dsimp only [List.set_cons_zero, List.set_cons_succ]
        refine wpZ_done (by kernel_rfl) ?_ _
        have HX : Hid (PrsE w wP C m b bad zl el f (.returned (.tuple #[.slice none 0 0, .int .i64 100]))) := Or.inl ⟨j, 100, hlt, HGD.out, h3j, Or.inl ⟨hbad, rfl⟩, rfl⟩
        clear SP h9 r3 bTP b9P
        go_wp2
        refine bodyPost_ret (v := .tuple #[.slice none 0 0, .int .i64 100]) (by simp [results, Tryz.results27, go_sem]) rfl ⟨HX.out, HKP.out⟩
      · go_wp2_with fail
        refine hK.out _ _ (fun _ => SP) ?_
        clear hK K
        refine wpZ_take (i := 9) (v := .tuple #[.slice none 0 0, .int .i64 81]) 24 rfl rfl (by kernel_rfl) (by kernel_rfl) (by kernel_rfl) (Or.inr (by decide)) (fun _ _ _ h => h) (Or.inl ⟨by rfl, fun w hSw => by go_simp⟩) SP ?_
        simp only [Act.put, List.setIfInBounds_toArray]
        try dsimp only [List.set_cons_zero, List.set_cons_succ]
        refine wpZ_take (i := 10) (v := .slice none 0 0) 34 rfl rfl (by kernel_rfl) (by kernel_rfl) (by kernel_rfl) (Or.inr (by decide)) (fun _ _ _ h => h) (Or.inl ⟨by rfl, fun w hSw => by go_simp⟩) SP ?_
        simp only [Act.put, List.setIfInBounds_toArray]
        try dsimp only [List.set_cons_zero, List.set_cons_succ]
        refine wpZ_take (i := 11) (v := .int .i64 81) 35 rfl rfl (by kernel_rfl) (by kernel_rfl) (by kernel_rfl) (Or.inr (by decide)) (fun _ _ _ h => h) (Or.inl ⟨by rfl, fun w hSw => by go_simp⟩) SP ?_
        simp only [Act.put, List.setIfInBounds_toArray]
        try dsimp only [List.set_cons_zero, List.set_cons_succ]
        refine wpZ_take (i := 12) (v := .slice none 0 0) 11 rfl rfl (by kernel_rfl) (by kernel_rfl) (by kernel_rfl) (Or.inr (by decide)) (fun _ _ _ h => h) (Or.inl ⟨by rfl, fun w hSw => by go_simp⟩) SP ?_
        simp only [Act.put, List.setIfInBounds_toArray]
        try dsimp only [List.set_cons_zero, List.set_cons_succ]
        refine wpZ_take (i := 13) (v := .int .i64 81) 12 rfl rfl (by kernel_rfl) (by kernel_rfl) (by kernel_rfl) (Or.inr (by decide)) (fun _ _ _ h => h) (Or.inl ⟨by rfl, fun w hSw => by go_simp⟩) SP ?_
        simp only [Act.put, List.setIfInBounds_toArray]
        try dsimp only [List.set_cons_zero, List.set_cons_succ]
        refine wpZ_done (by kernel_rfl) ?_ _
        have HX : Hid (PrsE w wP C m b bad zl el f (.returned (.tuple #[.slice none 0 0, .int .i64 81]))) := Or.inl ⟨j, 81, hlt, HGD.out, h3j, Or.inr ⟨hgood, by omega, rfl⟩, rfl⟩
        clear SP h9 r3 bTP b9P
        go_wp2
        refine bodyPost_ret (v := .tuple #[.slice none 0 0, .int .i64 81]) (by simp [results, Tryz.results27, go_sem]) rfl ⟨HX.out, HKP.out⟩
      · have ez := hoz.es
        have hln : (zl j ++ coinL el (fun i => f (i + 3 * j)) 3).length = u + 4 := by rw [List.length_append, HSV.out.1 j, coinL_len]
        obtain ⟨P, eP⟩ : ∃ P, P = (zl j ++ coinL el (fun i => f (i + 3 * j)) 3).length := ⟨_, rfl⟩
        rw [← eP] at ez hln
        obtain ⟨oz, cz, rfl⟩ := ez.shape
        rcases ez.open with ⟨_, h0, _⟩ | ⟨zb, zo, rfl, _, _, lz, hzc⟩
        · omega
        have hgu : (zl j ++ coinL el (fun i => f (i + 3 * j)) 3).getD u 0 = sv (j + 1) := by
          have h := HSV.out.2.1 j
          have hl := HSV.out.1 j
          rw [List.getD_eq_getElem?_getD] at h ⊢
          rw [List.getElem?_append_left (by omega)]
          exact h
        obtain ⟨y, ey⟩ : ∃ y, y = sv (j + 1) := ⟨_, rfl⟩
        have z0 := hzc u (by omega) 0 (by decide); have z1 := hzc u (by omega) 1 (by decide); have z2 := hzc u (by omega) 2 (by decide); have z3 := hzc u (by omega) 3 (by decide)
        rw [hgu, ← ey] at z0 z1 z2 z3
        rw [Nat.add_zero] at z0
        have hui : (u : Int) < (P : Int) := by omega
        have hu0 : (0 : Int) ≤ (u : Int) := by omega
        have HEY : Hid (y = sv (j + 1)) := ey
        have HOZ : Hid (OwnL wP w6.heap.size (.slice (some ⟨zb, zo, none⟩) P cz) (zl j ++ coinL el (fun i => f (i + 3 * j)) 3)) := ownL_base hoz hwE
        have HPZ : Hid (PurseS wP w.heap.size b (m - 3 * j - 3) (fun i => f (i + 3 + 3 * j))) := hpz
        have HGN : Hid (∀ i, i < j + 1 → ¬ bad i) := fun i hi => by
          by_cases c : i = j
          · rw [c]; exact hgood
          · exact HGD.out i (by omega)
        have h3n : 3 * (j + 1) ≤ m := by omega
        clear eP ez hzc lz hgu ey hoz hpz hgood hln HGD h3m h3j
        go_wp2_with fail
        refine hK.out _ _ (fun _ => SP) ?_
        clear hK K
        refine wpZ_take (i := 9) (v := .tuple #[.slice (some ⟨zb, zo, none⟩) P cz, .int .i64 0]) 24 rfl rfl (by kernel_rfl) (by kernel_rfl) (by kernel_rfl) (Or.inr (by decide)) (fun _ _ _ h => h) (Or.inl ⟨by rfl, fun w hSw => by go_simp⟩) SP ?_
        simp only [Act.put, List.setIfInBounds_toArray]
        try dsimp only [List.set_cons_zero, List.set_cons_succ]
        refine wpZ_take (i := 10) (v := .slice (some ⟨zb, zo, none⟩) P cz) 34 rfl rfl (by kernel_rfl) (by kernel_rfl) (by kernel_rfl) (Or.inr (by decide)) (fun _ _ _ h => h) (Or.inl ⟨by rfl, fun w hSw => by go_simp⟩) SP ?_
        simp only [Act.put, List.setIfInBounds_toArray]
        try dsimp only [List.set_cons_zero, List.set_cons_succ]
        refine wpZ_take (i := 11) (v := .int .i64 0) 35 rfl rfl (by kernel_rfl) (by kernel_rfl) (by kernel_rfl) (Or.inr (by decide)) (fun _ _ _ h => h) (Or.inl ⟨by rfl, fun w hSw => by go_simp⟩) SP ?_
        simp only [Act.put, List.setIfInBounds_toArray]
        try dsimp only [List.set_cons_zero, List.set_cons_succ]
        refine wpZ_take (i := 12) (v := .slice (some ⟨zb, zo, none⟩) P cz) 11 rfl rfl (by kernel_rfl) (by kernel_rfl) (by kernel_rfl) (Or.inr (by decide)) (fun _ _ _ h => h) (Or.inl ⟨by rfl, fun w hSw => by go_simp⟩) SP ?_
        simp only [Act.put, List.setIfInBounds_toArray]
        try dsimp only [List.set_cons_zero, List.set_cons_succ]
        refine wpZ_take (i := 13) (v := .int .i64 0) 12 rfl rfl (by kernel_rfl) (by kernel_rfl) (by kernel_rfl) (Or.inr (by decide)) (fun _ _ _ h => h) (Or.inl ⟨by rfl, fun w hSw => by go_simp⟩) SP ?_
        simp only [Act.put, List.setIfInBounds_toArray]
        try dsimp only [List.set_cons_zero, List.set_cons_succ]
        refine wpZ_done (by kernel_rfl) ?_ _
        have aT := bTP.cell j hlt
        have fT := bTP.frozen
        rw [if_neg (Nat.lt_irrefl j)] at aT
        obtain ⟨w7, hw7, bT7, hk7⟩ := bTP.put hlt (.slice (some ⟨zb, zo, none⟩) P cz)
        have b97 := b9P.kept (fun h => HNN.out.2.2.1 h.symm) hk7
        have c9 := b97.cell; have f9 := b97.frozen
        obtain ⟨w8, hw8, b98, hk8⟩ := b97.put y
        have r38 := (SP.1.kept HNN.out.1 hk7).kept HNN.out.2.1 hk8
        have bT8 := bT7.kept HNN.out.2.2.1 hk8
        have hsz7 := hk7.size; have hsz8 := hk8.size
        have hlw : w.heap.size ≤ wP.heap.size := Nat.le_trans HBS.out.2.2 hwP
        have q7 : Below w.heap.size wP w7 := hk7.below HNN.out.2.2.2.2.1 hlw
        have q8 : Below w.heap.size w7 w8 := hk8.below HNN.out.2.2.2.2.2 (Nat.le_trans hlw hsz7)
        have HK8 : Hid (KU w.heap.size b w w8) := (HKP.out.below q7).below q8
        have HP8 : Hid (PurseS w8 w.heap.size b (m - 3 * (j + 1)) (fun i => f (i + 3 * (j + 1)))) := by
          have h := (HPZ.out.below q7).below q8
          have e1 : m - 3 * (j + 1) = m - 3 * j - 3 := by omega
          have e2 : (fun i => f (i + 3 * (j + 1))) = fun i => f (i + 3 + 3 * j) := by funext i; congr 1; omega
          show PurseS _ _ _ _ _
          rw [e1, e2]; exact h
        have HO8 : Hid (∀ j', j' < j + 1 → OwnL w8 w6.heap.size (if j' = j then .slice (some ⟨zb, zo, none⟩) P cz else zs j') (zl j' ++ coinL el (fun i => f (i + 3 * j')) 3)) := fun i hi => by
          by_cases c : i = j
          · rw [if_pos c, c]
            exact (HOZ.out.keptB HBS.out.1 hk7).keptB HBS.out.2.1 hk8
          · rw [if_neg c]
            exact ((HOP.out i (by omega)).keptB HBS.out.1 hk7).keptB HBS.out.2.1 hk8
        have HT8 : Hid (SlT 26 w8 T C (fun i => if i < j + 1 then (if i = j then .slice (some ⟨zb, zo, none⟩) P cz else zs i) else .slice none 0 0)) := bT8.congr (fun i hi => by
          by_cases c : i = j
          · simp only [if_pos c, if_pos (show i < j + 1 by omega)]
          · by_cases d : i < j
            · simp only [if_neg c, if_pos d, if_pos (show i < j + 1 by omega)]
            · simp only [if_neg c, if_neg d, if_neg (show ¬ i < j + 1 by omega)])
        have H98 : Hid (Blk w8 25 N9 (fun i => limb i (sv (j + 1)))) := by show Blk _ _ _ _; rw [← HEY.out]; exact b98
        have hw8r : w6.heap.size ≤ w8.heap.size := by omega
        have HR8 : Hid (Lay w8 75 N3 ag) := r38
        clear bTP bT7 b97 hk7 hk8 b98 r38 bT8 q7 q8 SP h9 r3 b9P
        go_upto_region 10 with fail
        clear hw7 hw8 z0 z1 z2 z3 aT fT c9 f9
        go_wp2
        go_roundw
        case measure => simp [intOf]; omega
        case rel => exact ⟨j + 1, fun i => if i = j then .slice (some ⟨zb, zo, none⟩) P cz else zs i, by go_num, by omega, HGN, h3n, HK8.out, HP8.out, HR8.out, H98.out, HT8.out, HO8, hw8r⟩
    · have hji : ¬ (j : Int) < (C : Int) := by omega
      obtain rfl : C = j := by omega
      have HX : Hid (PrsE w wr C m b bad zl el f (.returned (.tuple #[.slice (some ⟨T, 0, none⟩) C C, .int .i64 0]))) := Or.inr ⟨HGD.out, h3j, T, zs, rfl, HNN.out.2.2.2.2.1, bT.congr (fun i hi => (if_pos hi).symm), fun i hi => ownL_base (HOL.out i hi) HBS.out.2.2, hpr⟩
      have HKF : Hid (KU w.heap.size b w wr) := hku
      clear bT r9 r3 hpr hku
      go_wp2
      refine bodyPost_ret (v := .tuple #[.slice (some ⟨T, 0, none⟩) C C, .int .i64 0]) (by simp [results, Tryz.results27, go_sem]) rfl ⟨HX.out, HKF.out⟩
end Go.Proofs.YtfbfenljfdnggaaGreatDoor

