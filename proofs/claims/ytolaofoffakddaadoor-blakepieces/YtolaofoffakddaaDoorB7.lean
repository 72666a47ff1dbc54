/- What blake.begin and blake.New do. -/
import Derived.Test.YtolaofoffakddaaDoorB4
import Derived.KernelRfl
namespace Go.Proofs.YtolaofoffakddaaDoor
open Go.RowKit

theorem limb_xor (f : Nat → Nat) (k j : Nat) (h : ∀ i, i < k + 1 → f i < 256) (e : j = k / 8) : limb j (leN f (k + 1)) = limb j (leN f k) ^^^ (f k * 2 ^ (8 * (k % 8)) % 18446744073709551616) := by
  rw [leN_limb f k j h, if_pos e]
  apply Nat.eq_of_testBit_eq
  intro t
  have h1 := leN_lt f k (fun i hi => h i (by omega))
  rw [show (256 : Nat) = 2 ^ 8 from by decide, ← Nat.pow_mul] at h1
  rw [Nat.testBit_or, Nat.testBit_xor, limb_test, show (18446744073709551616 : Nat) = 2 ^ 64 from by decide, Nat.testBit_mod_two_pow, Nat.testBit_mul_two_pow]
  by_cases h2 : 8 * (k % 8) ≤ t
  · have h3 : (leN f k).testBit (64 * j + t) = false := Nat.testBit_lt_two_pow (Nat.lt_of_lt_of_le h1 (Nat.pow_le_pow_right (by decide) (by omega)))
    simp [h3]
  · simp [h2]
theorem le_xor_run (x b t : Nat) (hx : x < 18446744073709551616) : bits BinOp.xor IntKind.u64 (x : Int) (IntKind.u64.wrap ((b : Int) * 2 ^ t)) = ((x ^^^ (b * 2 ^ t % 18446744073709551616) : Nat) : Int) := by
  have h1 : IntKind.u64.wrap ((b : Int) * 2 ^ t) = ((b * 2 ^ t % 18446744073709551616 : Nat) : Int) := by
    have e : (b : Int) * 2 ^ t = ((b * 2 ^ t : Nat) : Int) := by simp
    rw [e, IntKind.wrap_u64]
    generalize b * 2 ^ t = y
    omega
  rw [h1, xor_run _ _ hx (Nat.mod_lt _ (by decide))]

/-- The bytes of a string. -/
def pS (s : ByteArray) (i : Nat) : Nat := match s[i]? with
  | some b => b.toNat
  | none => 0
theorem pS_lt (s : ByteArray) (i : Nat) : pS s i < 256 := by
  unfold pS
  split
  · rename_i b _; exact b.toNat_lt
  · decide
theorem idxS (s : ByteArray) (k : Nat) (hk : k < s.size) (w : World) : (Instr.index 9 (.string s) (.int .i64 (k : Int))).run Tryd.prog w = .ok (.int .u8 ((pS s k : Nat) : Int)) w := by
  have h1 : s[k]? = some s[k] := getElem?_pos s k hk
  have h2 : pS s k = s[k].toNat := by unfold pS; rw [h1]
  rw [h2]
  unfold Instr.index
  simp [asIntOf, run_underlying Tryd.underlying9, h1]

/-- The state ahead of all blocks. -/
def bgS (L : Nat) (f : Nat → Nat) (n i : Nat) : Nat :=
  if i = 0 then ivW 0 ^^^ (16842752 ^^^ L) else if i = 6 then ivW 6 ^^^ limb 0 (leN f n) else if i = 7 then ivW 7 ^^^ limb 1 (leN f n) else ivW i
theorem bgS_lt (L : Nat) (f : Nat → Nat) (n : Nat) (hL : L < 18446744073709551616) (i : Nat) : bgS L f n i < 18446744073709551616 := by
  unfold bgS
  split
  · exact xor_lt _ _ (ivW_lt _) (xor_lt _ _ (by decide) hL)
  · split
    · exact xor_lt _ _ (ivW_lt _) (limb_lt _ _)
    · split
      · exact xor_lt _ _ (ivW_lt _) (limb_lt _ _)
      · exact ivW_lt _
theorem bgS_step (L : Nat) (f : Nat → Nat) (k : Nat) (hf : ∀ i, f i < 256) (hk : k < 16) (i : Nat) :
    bgS L f (k + 1) i = if i = 6 + k / 8 then bgS L f k (6 + k / 8) ^^^ (f k * 2 ^ (8 * (k % 8)) % 18446744073709551616) else bgS L f k i := by
  have h0 : limb 0 (leN f (k + 1)) = if 0 = k / 8 then limb 0 (leN f k) ^^^ (f k * 2 ^ (8 * (k % 8)) % 18446744073709551616) else limb 0 (leN f k) := by
    by_cases e : 0 = k / 8
    · rw [if_pos e]; exact limb_xor f k 0 (fun i _ => hf i) e
    · rw [leN_limb f k 0 (fun i _ => hf i), if_neg e, if_neg e]
  have h1 : limb 1 (leN f (k + 1)) = if 1 = k / 8 then limb 1 (leN f k) ^^^ (f k * 2 ^ (8 * (k % 8)) % 18446744073709551616) else limb 1 (leN f k) := by
    by_cases e : 1 = k / 8
    · rw [if_pos e]; exact limb_xor f k 1 (fun i _ => hf i) e
    · rw [leN_limb f k 1 (fun i _ => hf i), if_neg e, if_neg e]
  have hq : k / 8 = 0 ∨ k / 8 = 1 := by omega
  generalize f k * 2 ^ (8 * (k % 8)) % 18446744073709551616 = y at *
  unfold bgS
  rw [h0, h1]
  rcases hq with hq | hq
  · rw [hq]
    by_cases e0 : i = 0
    · subst e0; rfl
    · by_cases e6 : i = 6
      · subst e6; simp [Nat.xor_assoc]
      · simp [e0, e6]
  · rw [hq]
    by_cases e0 : i = 0
    · subst e0; rfl
    · by_cases e6 : i = 6
      · subst e6; simp
      · by_cases e7 : i = 7
        · subst e7; simp [Nat.xor_assoc]
        · simp [e0, e6, e7]

set_option maxHeartbeats 4000000 in
set_option maxRecDepth 20000 in
/-- blake.begin. -/
theorem begin_any (s : ByteArray) (L : Nat) (hL : L < 18446744073709551616) (hL2 : L ≤ 64) (hs : s.size ≤ 16) (w : World) (hg : GlobB w) :
    Calls Tryd.prog 18 #[.string s, .int .i64 (L : Int)] w fun e w' => e = .returned (.agg #[.int .u64 ((bgS L (pS s) s.size 0 : Nat) : Int), .int .u64 ((bgS L (pS s) s.size 1 : Nat) : Int), .int .u64 ((bgS L (pS s) s.size 2 : Nat) : Int), .int .u64 ((bgS L (pS s) s.size 3 : Nat) : Int), .int .u64 ((bgS L (pS s) s.size 4 : Nat) : Int), .int .u64 ((bgS L (pS s) s.size 5 : Nat) : Int), .int .u64 ((bgS L (pS s) s.size 6 : Nat) : Int), .int .u64 ((bgS L (pS s) s.size 7 : Nat) : Int)]) ∧ Below w.heap.size w w' := by
  have HG : Hid (GlobB w) := hg
  have HP : Hid (∀ k, k < s.size → ∀ w : World, (Instr.index 9 (.string s) (.int .i64 (k : Int))).run Tryd.prog w = .ok (.int .u8 ((pS s k : Nat) : Int)) w) := fun k hk w => idxS s k hk w
  have HST : Hid (∀ k, k < 16 → ∀ i, bgS L (pS s) (k + 1) i = if i = 6 + k / 8 then bgS L (pS s) k (6 + k / 8) ^^^ (pS s k * 2 ^ (8 * (k % 8)) % 18446744073709551616) else bgS L (pS s) k i) := fun k hk => bgS_step L (pS s) k (pS_lt s) hk
  have HLT : Hid (∀ k i, bgS L (pS s) k i < 18446744073709551616) := fun k i => bgS_lt L (pS s) k hL i
  have wL : IntKind.u64.wrap (L : Int) = (L : Int) := by rw [IntKind.wrap_u64]; omega
  have X1 : bits BinOp.xor IntKind.u64 16842752 (L : Int) = ((16842752 ^^^ L : Nat) : Int) := xor_run 16842752 L (by decide) hL
  have X0 := xor_run (ivW 0) (16842752 ^^^ L) (ivW_lt 0) (xor_lt _ _ (by decide) hL)
  obtain ⟨xl, exl⟩ : ∃ x, x = 16842752 ^^^ L := ⟨_, rfl⟩
  rw [← exl] at X1 X0
  obtain ⟨i0, ei0⟩ : ∃ x, x = ivW 0 := ⟨_, rfl⟩
  rw [← ei0] at X0
  obtain ⟨y0, ey0⟩ : ∃ x, x = i0 ^^^ xl := ⟨_, rfl⟩
  rw [← ey0] at X0
  have EY0 : Hid (y0 = ivW 0 ^^^ (16842752 ^^^ L)) := by show _ = _; rw [ey0, ei0, exl]
  have EI0 := (show Hid _ from ei0)
  obtain ⟨n, en⟩ : ∃ n, n = s.size := ⟨_, rfl⟩
  have hn16 : n ≤ 16 := by omega
  have hsz : s.size = n := en.symm
  clear hg exl ei0 ey0 hL hL2 hs en
  go_enter Tryd.func18, Tryd.ntmps18
  go_upto_region 2 with fail
  obtain ⟨w0, hw0⟩ : ∃ w0 : World, w0 = (w.alloc (.cells #[.int .u64 0, .int .u64 0, .int .u64 0, .int .u64 0, .int .u64 0, .int .u64 0, .int .u64 0, .int .u64 0] 44)).alloc (.cells #[.int .u64 0, .int .u64 0, .int .u64 0, .int .u64 0, .int .u64 0, .int .u64 0, .int .u64 0, .int .u64 0] 44) := ⟨_, rfl⟩
  have bR0 : BlkN w0 44 w.heap.size 8 (fun _ => 0) := by rw [hw0]; exact (BlkN.newAt _ _ _ 8 (fun _ => 0) _ (by simp) rfl (case8 rfl rfl rfl rfl rfl rfl rfl rfl)).alloc _
  have bH0 : BlkN w0 44 (w.heap.size + 1) 8 (fun _ => 0) := by rw [hw0]; exact BlkN.newAt _ _ _ 8 (fun _ => 0) _ (by simp) rfl (case8 rfl rfl rfl rfl rfl rfl rfl rfl)
  have hb0 : Below w.heap.size w w0 := by rw [hw0]; exact bAlloc ((Below.refl _ _).alloc (Nat.le_refl _) _) _
  rw [← hw0]
  clear hw0
  go_wp2
  go_loopw [8] (fun iv wr => ∃ k : Nat, iv = .int .i64 (k : Int) ∧ k ≤ 8 ∧ Below w.heap.size w wr ∧ BlkN wr 44 w.heap.size 8 (fun _ => 0) ∧ BlkN wr 44 (w.heap.size + 1) 8 (fun i => if i < k then ivW i else 0)) (fun iv _ => 8 - (intOf iv).toNat)
  case atStart => exact ⟨0, rfl, by decide, hb0, bR0, bH0.congr (fun i _ => rfl)⟩
  case round =>
    obtain ⟨k, rfl, hk, hbr, bR, bH⟩ := hrel
    clear hb0 bR0 bH0
    by_cases hlt : k < 8
    · have hki : (k : Int) < 8 := by omega
      have c0 := (HG.out.below hbr).2.1 k hlt
      have cH := bH.cell k hlt
      have fH := bH.frozen
      obtain ⟨y, ey⟩ : ∃ y, y = ivW k := ⟨_, rfl⟩
      rw [← ey] at c0
      have EY := (show Hid _ from ey)
      clear ey
      go_wp2
      go_roundw
      case measure => simp [intOf]; omega
      case rel =>
        refine ⟨k + 1, by go_num, by omega, hbr.setCell (by dsimp only; omega) _, bR.other (by dsimp only; omega) _, (bH.set k hlt y).congr ?_⟩
        intro i _
        by_cases h1 : i = k
        · subst h1; rw [if_pos (by omega), if_pos rfl, EY.out]
        · rw [if_neg h1]
          by_cases h2 : i < k
          · rw [if_pos h2, if_pos (by omega)]
          · rw [if_neg h2, if_neg (by omega)]
    · have hki : ¬ (k : Int) < 8 := by omega
      have hk8 : k = 8 := by omega
      subst hk8
      clear hlt hk
      have bH := bH.congr (g := ivW) (fun i hi => by rw [if_pos hi])
      have c0 := bH.cell 0 (by decide)
      rw [← EI0.out] at c0
      have fH := bH.frozen
      go_upto_region 8 with fail
      have bH2 := (bH.set 0 (by decide) y0).congr (g := bgS L (pS s) 0) (fun i _ => by
        rw [EY0.out]
        unfold bgS
        have hz : ∀ j, limb j (leN (pS s) 0) = 0 := fun j => limbz j
        rw [hz, hz, Nat.xor_zero, Nat.xor_zero]
        by_cases h0 : i = 0
        · simp [h0]
        · by_cases h6 : i = 6
          · simp [h6]
          · by_cases h7 : i = 7
            · simp [h7]
            · simp [h0, h6, h7])
      have hb2 := hbr.setCell (p := ⟨w.heap.size + 1, 0, none⟩) (by dsimp only; omega) (.int .u64 (y0 : Int))
      have bR2 := bR.other (a := ⟨w.heap.size + 1, 0, none⟩) (by dsimp only; omega) (.int .u64 (y0 : Int))
      obtain ⟨w2, hw2⟩ : ∃ w2 : World, w2 = wr.setCell ⟨w.heap.size + 1, 0, none⟩ (.int .u64 (y0 : Int)) := ⟨_, rfl⟩
      rw [← hw2] at bH2 hb2 bR2 ⊢
      clear hw2 hbr bR bH c0 fH EY0 hki
      go_wp2
      go_loopw [26] (fun iv wr => ∃ k : Nat, iv = .int .i64 (k : Int) ∧ k ≤ n ∧ Below w.heap.size w wr ∧ BlkN wr 44 w.heap.size 8 (fun _ => 0) ∧ BlkN wr 44 (w.heap.size + 1) 8 (bgS L (pS s) k)) (fun iv _ => n - (intOf iv).toNat)
      case atStart => exact ⟨0, rfl, Nat.zero_le _, hb2, bR2, bH2⟩
      case round =>
        obtain ⟨k, rfl, hk, hbr, bR, bH⟩ := hrel
        clear hb2 bR2 bH2
        by_cases hlt : k < n
        · have hki : (k : Int) < (n : Int) := by omega
          have HSk := HST.out k (by omega)
          have hv := HSk (6 + k / 8)
          rw [if_pos rfl] at hv
          have HSK := (show Hid _ from HSk)
          have hR := le_xor_run (bgS L (pS s) k (6 + k / 8)) (pS s k) (8 * (k % 8)) (HLT.out _ _)
          rw [← hv] at hR
          have cb := HP.out k (by rw [hsz]; exact hlt)
          have hfk := pS_lt s k
          obtain ⟨iv, eiv⟩ : ∃ iv : Int, iv = (k : Int) := ⟨_, rfl⟩
          rw [← eiv] at cb ⊢
          have h0 : 0 ≤ iv := by omega
          have h1 : iv < (n : Int) := by omega
          have hq : iv / 8 = ((k / 8 : Nat) : Int) := by omega
          have hr : iv % 8 = ((k % 8 : Nat) : Int) := by omega
          have ht : ((k % 8 : Nat) : Int) * 8 = ((8 * (k % 8) : Nat) : Int) := by omega
          have tN : iv.toNat = k := by omega
          have q8 : 6 + k / 8 < 8 := by omega
          have hq6 : (6 : Int) + ((k / 8 : Nat) : Int) = ((6 + k / 8 : Nat) : Int) := by omega
          have t64 : 8 * (k % 8) < 64 := by omega
          have cH := bH.cell (6 + k / 8) q8; have fH := bH.frozen
          have HIV := (show Hid _ from eiv)
          have wv : IntKind.u64.wrap ((pS s k : Nat) : Int) = ((pS s k : Nat) : Int) := by rw [IntKind.wrap_u64]; omega
          obtain ⟨q6, eq6⟩ : ∃ q, q = 6 + k / 8 := ⟨_, rfl⟩
          obtain ⟨q, eq⟩ : ∃ q, q = k / 8 := ⟨_, rfl⟩
          obtain ⟨r, er⟩ : ∃ r, r = k % 8 := ⟨_, rfl⟩
          have EQ := (show Hid _ from eq6)
          rw [← eq6] at hR cH q8 hq6
          rw [← eq] at hq hq6
          rw [← er] at hR hr ht t64
          have qs : q < 2 := by omega
          obtain ⟨t, et⟩ : ∃ t, t = 8 * r := ⟨_, rfl⟩
          rw [← et] at hR ht t64
          obtain ⟨X, eX⟩ : ∃ X : Int, X = ((bgS L (pS s) k q6 : Nat) : Int) := ⟨_, rfl⟩
          rw [← eX] at hR cH
          obtain ⟨B, eB⟩ : ∃ B : Int, B = ((pS s k : Nat) : Int) := ⟨_, rfl⟩
          rw [← eB] at hR cb wv
          have hB0 : 0 ≤ B := by omega
          have hB1 : B < 256 := by omega
          obtain ⟨Y, eY⟩ : ∃ Y, Y = bgS L (pS s) (k + 1) q6 := ⟨_, rfl⟩
          rw [← eY] at hR
          have EY := (show Hid _ from eY)
          clear eiv eq eq6 er et eX eB eY hfk HSk hv
          go_wp2_with fail
          go_region
          go_wp2
          go_roundw
          case measure => rw [HIV.out]; simp [intOf]; omega
          case rel =>
            refine ⟨k + 1, by rw [HIV.out]; go_num, by omega, (hbr.setCell (by dsimp only; omega) _).drew, (bR.other (by dsimp only; omega) _).drew, BlkN.drew ((bH.set q6 q8 Y).congr ?_)⟩
            intro j _
            by_cases hj : j = q6
            · subst hj; rw [if_pos rfl, EY.out]
            · rw [if_neg hj, HSK.out j, if_neg (by rw [← EQ.out]; exact hj)]
        · have hki : ¬ (k : Int) < (n : Int) := by omega
          have hkn : k = n := by omega
          subst hkn
          clear hlt hk
          have cE := bH.cell; have cr := bR.cell; have fr := bR.frozen
          obtain ⟨z, ez⟩ : ∃ z, z = bgS L (pS s) k := ⟨_, rfl⟩
          rw [← ez] at cE
          have EZ := (show Hid _ from ez)
          clear bH ez
          go_wp2
          refine bodyPost_ret (v := .agg #[.int .u64 ((z 0 : Nat) : Int), .int .u64 ((z 1 : Nat) : Int), .int .u64 ((z 2 : Nat) : Int), .int .u64 ((z 3 : Nat) : Int), .int .u64 ((z 4 : Nat) : Int), .int .u64 ((z 5 : Nat) : Int), .int .u64 ((z 6 : Nat) : Int), .int .u64 ((z 7 : Nat) : Int)]) (by simp [results, Tryd.results18, go_sem, cr]) rfl ⟨by rw [EZ.out], ?_⟩
          repeat (first | with_reducible exact hbr | with_reducible refine Below.setCell ?_ (by first | omega | (simp; omega) | simp) _)

end Go.Proofs.YtolaofoffakddaaDoor
