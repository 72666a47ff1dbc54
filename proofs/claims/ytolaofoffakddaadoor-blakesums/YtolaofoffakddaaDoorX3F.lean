/- The reference's block, where it isn't the last. -/
import Derived.Test.YtolaofoffakddaaDoorX3R
import Derived.Test.YtolaofoffakddaaDoorX3Q
namespace Go.Proofs.YtolaofoffakddaaDoor
open Go.RowKit

set_option maxHeartbeats 16000000 in
set_option maxRecDepth 20000 in
theorem rblock_false (h : Nat → Nat) (oa : Option Addr) (n c t : Nat) (f : Nat → Nat) (hh : ∀ i, h i < 18446744073709551616) (ht : t < 18446744073709551616) (hf : ∀ i, i < n → f i < 256) (w : World)
    (hv : ∀ i, i < n → ∃ a, oa = some a ∧ a.block < w.heap.size ∧ w.cell? (a.add i) = some (.int .u8 ((f i : Nat) : Int))) :
    Calls Tryd.prog 17 #[.agg #[.int .u64 ((h 0 : Nat) : Int), .int .u64 ((h 1 : Nat) : Int), .int .u64 ((h 2 : Nat) : Int), .int .u64 ((h 3 : Nat) : Int), .int .u64 ((h 4 : Nat) : Int), .int .u64 ((h 5 : Nat) : Int), .int .u64 ((h 6 : Nat) : Int), .int .u64 ((h 7 : Nat) : Int)], .slice oa n c, .int .u64 (t : Int), .bool false] w fun e w' => e = .returned (.agg #[.int .u64 ((comp h (wrd (padB n f)) t false 0 : Nat) : Int), .int .u64 ((comp h (wrd (padB n f)) t false 1 : Nat) : Int), .int .u64 ((comp h (wrd (padB n f)) t false 2 : Nat) : Int), .int .u64 ((comp h (wrd (padB n f)) t false 3 : Nat) : Int), .int .u64 ((comp h (wrd (padB n f)) t false 4 : Nat) : Int), .int .u64 ((comp h (wrd (padB n f)) t false 5 : Nat) : Int), .int .u64 ((comp h (wrd (padB n f)) t false 6 : Nat) : Int), .int .u64 ((comp h (wrd (padB n f)) t false 7 : Nat) : Int)]) ∧ Below w.heap.size w w' := by
  have HH := (show Hid _ from hh); have HT := (show Hid _ from ht)
  have HB : Hid (∀ i, beg h t false i < 18446744073709551616) := beg_lt h t false hh ht
  have HG : Hid (∀ i, padB n f i < 256) := padB_lt n f hf
  have HW : Hid (∀ (W : World), Below w.heap.size w W → ∀ j, j < 16 → Calls Tryd.prog 16 #[.slice oa n c, .int .i64 ((8 * j : Nat) : Int)] W fun e w' => e = .returned (.int .u64 ((wrd (padB n f) j : Nat) : Int)) ∧ w' = W) := fun W hb j hj => by
    have k := rword_any oa n c (8 * j) f (by omega) hf W (fun i hi => by
      obtain ⟨a, e, hl, hc⟩ := hv i hi
      exact ⟨a, e, by rw [hb.cell (p := a.add i) (by rw [add_block]; exact hl)]; exact hc⟩)
    rw [wd_wrd _ (padB_lt n f hf) j hj] at k
    exact k
  obtain ⟨m, em⟩ : ∃ m, m = wrd (padB n f) := ⟨_, rfl⟩
  rw [← em] at HW ⊢
  have HIV := (show Hid _ from riv_any); have HRW := (show Hid _ from rrows_any)
  clear hh ht hf hv em
  go_enter Tryd.func17, Tryd.ntmps17
  go_wp2_with fail
  refine (HIV.out _).mono ?_
  rintro e w1 ⟨rfl, hb1⟩
  go_upto_region 3 with fail
  obtain ⟨w0, hw0⟩ : ∃ w0 : World, w0 = (w.alloc (.cells #[.int .u64 ((h 0 : Nat) : Int), .int .u64 ((h 1 : Nat) : Int), .int .u64 ((h 2 : Nat) : Int), .int .u64 ((h 3 : Nat) : Int), .int .u64 ((h 4 : Nat) : Int), .int .u64 ((h 5 : Nat) : Int), .int .u64 ((h 6 : Nat) : Int), .int .u64 ((h 7 : Nat) : Int)] 39)).alloc (.cells #[.int .u64 0, .int .u64 0, .int .u64 0, .int .u64 0, .int .u64 0, .int .u64 0, .int .u64 0, .int .u64 0] 39) := ⟨_, rfl⟩
  rw [← hw0] at hb1
  have bA : Below w.heap.size w w0 := by rw [hw0]; exact bAlloc ((Below.refl _ _).alloc (Nat.le_refl _) _) _
  have bHz : BlkN w0 39 w.heap.size 8 h := by rw [hw0]; exact (BlkN.newAt _ _ _ 8 h _ rfl rfl (case8 rfl rfl rfl rfl rfl rfl rfl rfl)).alloc _
  have bRz : BlkN w0 39 (w.heap.size + 1) 8 (fun _ => 0) := by rw [hw0]; exact BlkN.newAt _ _ _ 8 (fun _ => 0) _ (by simp) rfl (case8 rfl rfl rfl rfl rfl rfl rfl rfl)
  have hsz : w.heap.size + 1 < w0.heap.size := bRz.lt
  have hsz1 : w0.heap.size ≤ w1.heap.size := hb1.size
  clear hw0
  obtain ⟨F, eF⟩ : ∃ F, F = w1.heap.size := ⟨_, rfl⟩
  obtain ⟨q0, hq0⟩ : ∃ q : World, q = (w1.alloc (.cells #[.int .u64 ((ivW 0 : Nat) : Int), .int .u64 ((ivW 1 : Nat) : Int), .int .u64 ((ivW 2 : Nat) : Int), .int .u64 ((ivW 3 : Nat) : Int), .int .u64 ((ivW 4 : Nat) : Int), .int .u64 ((ivW 5 : Nat) : Int), .int .u64 ((ivW 6 : Nat) : Int), .int .u64 ((ivW 7 : Nat) : Int)] 39)).alloc (.cells #[.int .u64 0, .int .u64 0, .int .u64 0, .int .u64 0, .int .u64 0, .int .u64 0, .int .u64 0, .int .u64 0, .int .u64 0, .int .u64 0, .int .u64 0, .int .u64 0, .int .u64 0, .int .u64 0, .int .u64 0, .int .u64 0] 50) := ⟨_, rfl⟩
  have R0 : Rs w q0 (F + 1) h (fun _ => 0) := by
    rw [hq0, eF]
    exact Rs.mk (bAlloc (bAlloc (bStep bA hb1) _) _) (((bHz.belowAll hb1).alloc _).alloc _) (((bRz.belowAll hb1).alloc _).alloc _) (BlkN.newAt _ _ _ 16 (fun _ => 0) _ (by simp) rfl (case16 rfl rfl rfl rfl rfl rfl rfl rfl rfl rfl rfl rfl rfl rfl rfl rfl)) (by omega)
  have bF0 : BlkN q0 39 F 8 ivW := by rw [hq0, eF]; exact (BlkN.newAt _ _ _ 8 ivW _ rfl rfl (case8 rfl rfl rfl rfl rfl rfl rfl rfl)).alloc _
  rw [← hq0, ← eF]
  have HF : Hid (w.heap.size + 1 < F) := by rw [eF]; exact Nat.lt_of_lt_of_le hsz hsz1
  clear hq0 bA bHz bRz hsz hsz1 hb1 eF
  go_wp2
  go_loopw [11] (fun iv wr => ∃ k : Nat, iv = .int .i64 (k : Int) ∧ k ≤ 8 ∧ Rs w wr (F + 1) h (fun i => if i < 8 then (if i < k then h i else 0) else (if i < 8 + k then ivW (i - 8) else 0)) ∧ BlkN wr 39 F 8 ivW) (fun iv _ => 8 - (intOf iv).toNat)
  case atStart => exact ⟨0, rfl, by decide, R0.congr (fun i _ => by split <;> simp <;> omega), bF0⟩
  case round =>
    obtain ⟨k, rfl, hk, R, bF⟩ := hrel
    clear R0 bF0
    by_cases hlt : k < 8
    · have hki : (k : Int) < 8 := by omega
      have cF := bF.cell k hlt
      have cH := R.bH.cell k hlt
      have fV := R.bV.frozen
      have cV := R.bV.cell k (by omega)
      have cV8 := R.bV.cell (k + 8) (by omega)
      obtain ⟨x, ex⟩ : ∃ x, x = h k := ⟨_, rfl⟩
      obtain ⟨y, ey⟩ : ∃ y, y = ivW k := ⟨_, rfl⟩
      rw [← ex] at cH
      rw [← ey] at cF
      have EX := (show Hid _ from ex); have EY := (show Hid _ from ey)
      have hFV : F ≠ F + 1 := by omega
      clear ex ey
      go_wp2
      go_roundw
      case measure => simp [intOf]; omega
      case rel =>
        refine ⟨k + 1, by go_num, by omega, ((R.setV k x (by omega)).setV (k + 8) y (by omega)).congr ?_, (bF.other (by dsimp only; omega) _).other (by dsimp only; omega) _⟩
        intro i _
        rw [EX.out, EY.out]
        by_cases h1 : i = k + 8
        · subst h1; rw [if_neg (by omega), if_pos (by omega), if_pos rfl, Nat.add_sub_cancel]
        · rw [if_neg h1]
          by_cases h2 : i = k
          · subst h2; rw [if_pos (by omega), if_pos (by omega), if_pos rfl]
          · rw [if_neg h2]
            by_cases h3 : i < 8
            · rw [if_pos h3, if_pos h3]
              by_cases h4 : i < k
              · rw [if_pos h4, if_pos (by omega)]
              · rw [if_neg h4, if_neg (by omega)]
            · rw [if_neg h3, if_neg h3]
              by_cases h4 : i < 8 + k
              · rw [if_pos h4, if_pos (by omega)]
              · rw [if_neg h4, if_neg (by omega)]
    · have hki : ¬ (k : Int) < 8 := by omega
      have hk8 : k = 8 := by omega
      subst hk8
      clear hlt hk bF
      have R1 := R.congr (u := fun i => if i < 8 then h i else ivW (i - 8)) (fun i hi => by
        by_cases h3 : i < 8
        · rw [if_pos h3, if_pos h3, if_pos h3]
        · rw [if_neg h3, if_neg h3, if_pos (by omega)])
      clear R
      have c12 : wr.cell? ⟨F + 1, 12, none⟩ = some (.int .u64 ((ivW 4 : Nat) : Int)) := R1.bV.cell 12 (by decide)
      have fV := R1.bV.frozen
      have X12 := xor_run (ivW 4) t (ivW_lt 4) HT.out
      obtain ⟨i4, e4⟩ : ∃ i4, i4 = ivW 4 := ⟨_, rfl⟩
      rw [← e4] at c12 X12
      obtain ⟨y4, ey4⟩ : ∃ y4, y4 = i4 ^^^ t := ⟨_, rfl⟩
      rw [← ey4] at X12
      have E4 : Hid (y4 = ivW 4 ^^^ t) := by show _ = _; rw [ey4, e4]
      clear ey4 e4 hki
      go_upto_region 9 with fail
      have R2 := R1.setV 12 y4 (by decide)
      obtain ⟨w2, hw2⟩ : ∃ w2 : World, w2 = wr.setCell ⟨F + 1, 12, none⟩ (.int .u64 (y4 : Int)) := ⟨_, rfl⟩
      rw [← hw2] at R2 ⊢
      clear hw2 R1 c12 fV X12
      have R2' := R2.congr (u := beg h t false) (fun i _ => by
        unfold beg
        rw [E4.out]
        by_cases h1 : i = 12
        · subst h1; rfl
        · by_cases h2 : i < 8
          · simp [h2, h1]
          · simp [h2, h1])
      have c14 : w2.cell? ⟨F + 1, 14, none⟩ = some (.int .u64 ((ivW 6 : Nat) : Int)) := R2.bV.cell 14 (by decide)
      have fV := R2.bV.frozen
      have N14 := xor14
      obtain ⟨i6, e6⟩ : ∃ i6, i6 = ivW 6 := ⟨_, rfl⟩
      rw [← e6] at c14 N14
      obtain ⟨y6, ey6⟩ : ∃ y6, y6 = 18446744073709551616 - 1 - i6 := ⟨_, rfl⟩
      rw [← ey6] at N14
      have E6 : Hid (y6 = 18446744073709551616 - 1 - ivW 6) := by show _ = _; rw [ey6, e6]
      clear ey6 e6 R2
      have R3 : Rs w w2 (F + 1) h (beg h t false) := R2'
      clear R2' c14 fV N14 E6 E4
      go_upto_region 11 with fail
      obtain ⟨wc, hwc⟩ : ∃ wc, wc = w2 := ⟨_, rfl⟩
      rw [← hwc] at R3 ⊢
      clear hwc
      obtain ⟨v0, ev0⟩ : ∃ v0, v0 = beg h t false := ⟨_, rfl⟩
      have HV0 : Hid (∀ i, v0 i < 18446744073709551616) := by rw [ev0]; exact HB
      rw [← ev0] at R3
      have EV0 := (show Hid _ from ev0)
      clear ev0 HB
      go_upto_region 12 with fail
      obtain ⟨M, eM⟩ : ∃ M, M = wc.heap.size := ⟨_, rfl⟩
      have hM : F + 1 < M := by rw [eM]; exact R3.bV.lt
      obtain ⟨q1, hq1⟩ : ∃ q : World, q = wc.alloc (.cells #[.int .u64 0, .int .u64 0, .int .u64 0, .int .u64 0, .int .u64 0, .int .u64 0, .int .u64 0, .int .u64 0, .int .u64 0, .int .u64 0, .int .u64 0, .int .u64 0, .int .u64 0, .int .u64 0, .int .u64 0, .int .u64 0] 50) := ⟨_, rfl⟩
      have R4 : Rs w q1 (F + 1) h v0 := by rw [hq1]; exact R3.step ((Below.refl _ _).alloc (Nat.le_refl _) _)
      have bM0 : BlkN q1 50 M 16 (fun _ => 0) := by rw [hq1, eM]; exact BlkN.newAt _ _ _ 16 (fun _ => 0) _ rfl rfl (case16 rfl rfl rfl rfl rfl rfl rfl rfl rfl rfl rfl rfl rfl rfl rfl rfl)
      rw [← hq1, ← eM]
      clear hq1 eM R3
      go_wp2
      go_loopw [13] (fun iv wr => ∃ k : Nat, iv = .int .i64 (k : Int) ∧ k ≤ 16 ∧ Rs w wr (F + 1) h v0 ∧ BlkN wr 50 M 16 (fun i => if i < k then m i else 0)) (fun iv _ => 16 - (intOf iv).toNat)
      case atStart => exact ⟨0, rfl, by decide, R4, bM0.congr (fun i _ => by rw [if_neg (by omega)])⟩
      case round =>
        obtain ⟨k, rfl, hk, R, bM⟩ := hrel
        clear R4 bM0
        by_cases hlt : k < 16
        · have hki : (k : Int) < 16 := by omega
          have cM := bM.cell k hlt
          have fM := bM.frozen
          have C := HW.out wr R.below k hlt
          have h8 : (8 : Int) * (k : Int) = ((8 * k : Nat) : Int) := by omega
          obtain ⟨p, ep⟩ : ∃ p, p = 8 * k := ⟨_, rfl⟩
          rw [← ep] at C h8
          obtain ⟨x, ex⟩ : ∃ x, x = m k := ⟨_, rfl⟩
          rw [← ex] at C
          have EX := (show Hid _ from ex)
          have HC := (show Hid _ from fun (_ : Unit) => C)
          have hp : p ≤ 128 := by omega
          clear ex C ep
          go_wp2_with fail
          refine (HC.out ()).mono ?_
          rintro e wz ⟨rfl, hwz⟩
          rw [hwz]
          clear hwz HC
          go_wp2
          go_roundw
          case measure => simp [intOf]; omega
          case rel =>
            iterate 11 apply Exists.intro
            refine ⟨?_, rfl⟩
            refine ⟨k + 1, by go_num, by omega, ?_, (bM.set k hlt x).congr ?_⟩
            · have hRV := R.hV
              exact Rs.mk (R.below.setCell (by dsimp only; omega) _) (R.bH.other (by dsimp only; omega) _) (R.bR.other (by dsimp only; omega) _) (R.bV.other (by dsimp only; omega) _) R.hV
            · intro i _
              by_cases h1 : i = k
              · subst h1; rw [if_pos (by omega), if_pos rfl, EX.out]
              · rw [if_neg h1]
                by_cases h2 : i < k
                · rw [if_pos h2, if_pos (by omega)]
                · rw [if_neg h2, if_neg (by omega)]
        · have hki : ¬ (k : Int) < 16 := by omega
          have hk16 : k = 16 := by omega
          subst hk16
          clear hlt hk
          have bM1 := bM.congr (g := m) (fun i hi => by rw [if_pos hi])
          clear bM
          go_wp2_with fail
          refine (HRW.out _).mono ?_
          rintro e w3 ⟨rfl, hb3⟩
          have R5 := R.step hb3
          have bM3 := bM1.belowAll hb3
          clear R bM1 hb3 hki
          obtain ⟨A, eA⟩ : ∃ A, A = w3.heap.size := ⟨_, rfl⟩
          have hA : M < A := by rw [eA]; exact bM3.lt
          have ZV := zero160
          obtain ⟨Zs, eZ⟩ : ∃ Zs : Array Value, Zs = Array.replicate 160 (.int .i64 0) := ⟨_, rfl⟩
          rw [← eZ] at ZV
          have bZ : BlkV (w3.alloc (.cells Zs 54)) 54 w3.heap.size 160 (fun _ => .int .i64 0) := BlkV.newAt _ _ _ 160 _ _ rfl (by rw [eZ]; simp) (fun i hi => by rw [eZ]; simp [hi])
          have tZ : (w3.alloc (.cells Zs 54)).there w3.heap.size 0 rowL.toArray.size := fun j hj => by
            rw [List.size_toArray, rowL_len] at hj
            exact ⟨by rw [bZ.cell (0 + j) (by omega)]; rfl, bZ.frozen _⟩
          have bA := (BlkV.setCells rowL 0 _ _ bZ (by rw [rowL_len]; decide)).congr (g' := fun i => rowL.getD i undef) (fun i hi => by
            rw [rowL_len, if_pos (by omega), Nat.sub_zero, List.getD_eq_getElem?_getD, List.getD_eq_getElem?_getD, List.getElem?_eq_getElem (by rw [rowL_len]; exact hi)]; rfl)
          have hbA : Below w3.heap.size w3 ((w3.alloc (.cells Zs 54)).setCells w3.heap.size 0 rowL) := belowSetCells (Nat.le_refl _) _ _ _ ((Below.refl _ _).alloc (Nat.le_refl _) _)
          have R6 := R5.step hbA
          have bM4 := bM3.belowAll hbA
          have i160 : (Tryd.prog.info? 54).map (·.size) = some rowL.toArray.size := by rw [List.size_toArray, rowL_len]; exact info160
          have one := rowL_one
          have HRL : Hid (∀ r i, r < 10 → i < 16 → rowL[r * 16 + i]? = some (.int .i64 ((sig r i : Nat) : Int))) := rowL_get
          obtain ⟨Lb, eLb⟩ : ∃ Lb, Lb = rowL := ⟨_, rfl⟩
          rw [← eLb] at tZ bA hbA i160 one R6 bM4 HRL ⊢
          have HTZ := (show Hid _ from tZ); have HI := (show Hid _ from i160); have HO := (show Hid _ from one)
          clear eZ bZ tZ eLb i160 one hbA R5 bM3
          go_upto_region 17 with (refine wpList_store_mid rfl 54 _ _ rfl w3.heap.size 0 Lb.toArray rfl rfl HTZ.out HI.out (all_oneCell_toArray HO.out) ?_; simp only [Act.put])
          obtain ⟨q2, hq2⟩ : ∃ q : World, q = (w3.alloc (.cells Zs 54)).setCells w3.heap.size 0 Lb := ⟨_, rfl⟩
          rw [← hq2] at bA R6 bM4 ⊢
          rw [← eA] at bA ⊢
          clear hq2 HTZ HI HO eA
          go_wp2
          go_loopw [15] (fun rv wr => ∃ k : Nat, rv = .int .i64 (k : Int) ∧ k ≤ 12 ∧ Rs w wr (F + 1) h (rnds m v0 k) ∧ BlkN wr 50 M 16 m ∧ BlkV wr 54 A 160 (fun i => Lb.getD i undef)) (fun rv _ => 12 - (intOf rv).toNat)
          case atStart => exact ⟨0, rfl, by decide, R6, bM4, bA⟩
          case round =>
            obtain ⟨k, rfl, hk, R, bM, bA⟩ := hrel
            clear R6 bM4
            by_cases hlt : k < 12
            · have hki : (k : Int) < 12 := by omega
              have hr0 : (0 : Int) ≤ (k : Int) := by omega
              obtain ⟨q, eq⟩ : ∃ q, q = k % 10 := ⟨_, rfl⟩
              have hq : (k : Int) % 10 = (q : Int) := by omega
              have hq2 : (k : Int).tmod 10 = (q : Int) := by rw [Int.tmod_eq_emod_of_nonneg hr0]; exact hq
              have hq10 : (q : Int) < 10 := by omega
              obtain ⟨s, es⟩ : ∃ s, s = sig q := ⟨_, rfl⟩
              have hq0 : (0 : Int) ≤ (q : Int) := by omega
              have HS16 : Hid (∀ i, s i < 16) := fun i => by rw [es]; exact sig_lt q i
              have HSG : Hid (∀ j, j < 16 → ([.int .i64 ((s 0 : Nat) : Int), .int .i64 ((s 1 : Nat) : Int), .int .i64 ((s 2 : Nat) : Int), .int .i64 ((s 3 : Nat) : Int), .int .i64 ((s 4 : Nat) : Int), .int .i64 ((s 5 : Nat) : Int), .int .i64 ((s 6 : Nat) : Int), .int .i64 ((s 7 : Nat) : Int), .int .i64 ((s 8 : Nat) : Int), .int .i64 ((s 9 : Nat) : Int), .int .i64 ((s 10 : Nat) : Int), .int .i64 ((s 11 : Nat) : Int), .int .i64 ((s 12 : Nat) : Int), .int .i64 ((s 13 : Nat) : Int), .int .i64 ((s 14 : Nat) : Int), .int .i64 ((s 15 : Nat) : Int)] : List Value)[j]? = some (.int .i64 ((s j : Nat) : Int))) := case16 rfl rfl rfl rfl rfl rfl rfl rfl rfl rfl rfl rfl rfl rfl rfl rfl
              have HRG : Hid (wr.rangeAt A (q * 16) [.int .i64 ((s 0 : Nat) : Int), .int .i64 ((s 1 : Nat) : Int), .int .i64 ((s 2 : Nat) : Int), .int .i64 ((s 3 : Nat) : Int), .int .i64 ((s 4 : Nat) : Int), .int .i64 ((s 5 : Nat) : Int), .int .i64 ((s 6 : Nat) : Int), .int .i64 ((s 7 : Nat) : Int), .int .i64 ((s 8 : Nat) : Int), .int .i64 ((s 9 : Nat) : Int), .int .i64 ((s 10 : Nat) : Int), .int .i64 ((s 11 : Nat) : Int), .int .i64 ((s 12 : Nat) : Int), .int .i64 ((s 13 : Nat) : Int), .int .i64 ((s 14 : Nat) : Int), .int .i64 ((s 15 : Nat) : Int)]) := by
                intro j v hv
                have hj : j < 16 := by
                  have := (List.getElem?_eq_some_iff.1 hv).1
                  simpa using this
                have h1 : wr.cell? ⟨A, q * 16 + j, none⟩ = _ := bA.cell (q * 16 + j) (by omega)
                rw [h1, List.getD_eq_getElem?_getD, HRL.out q j (by omega) hj, Option.getD_some, ← es, ← hv]
                exact (HSG.out j hj).symm
              have HI16 : Hid ((Tryd.prog.info? 53).map (·.size) = some ([.int .i64 ((s 0 : Nat) : Int), .int .i64 ((s 1 : Nat) : Int), .int .i64 ((s 2 : Nat) : Int), .int .i64 ((s 3 : Nat) : Int), .int .i64 ((s 4 : Nat) : Int), .int .i64 ((s 5 : Nat) : Int), .int .i64 ((s 6 : Nat) : Int), .int .i64 ((s 7 : Nat) : Int), .int .i64 ((s 8 : Nat) : Int), .int .i64 ((s 9 : Nat) : Int), .int .i64 ((s 10 : Nat) : Int), .int .i64 ((s 11 : Nat) : Int), .int .i64 ((s 12 : Nat) : Int), .int .i64 ((s 13 : Nat) : Int), .int .i64 ((s 14 : Nat) : Int), .int .i64 ((s 15 : Nat) : Int)] : List Value).length) := by show _ = _; rw [show ([.int .i64 ((s 0 : Nat) : Int), .int .i64 ((s 1 : Nat) : Int), .int .i64 ((s 2 : Nat) : Int), .int .i64 ((s 3 : Nat) : Int), .int .i64 ((s 4 : Nat) : Int), .int .i64 ((s 5 : Nat) : Int), .int .i64 ((s 6 : Nat) : Int), .int .i64 ((s 7 : Nat) : Int), .int .i64 ((s 8 : Nat) : Int), .int .i64 ((s 9 : Nat) : Int), .int .i64 ((s 10 : Nat) : Int), .int .i64 ((s 11 : Nat) : Int), .int .i64 ((s 12 : Nat) : Int), .int .i64 ((s 13 : Nat) : Int), .int .i64 ((s 14 : Nat) : Int), .int .i64 ((s 15 : Nat) : Int)] : List Value).length = 16 from rfl]; kernel_rfl
              have EQ := (show Hid _ from eq); have ES := (show Hid _ from es)
              clear eq es
              go_upto_region 21 with (refine wpList_load_mid rfl 53 _ rfl A (q * 16) rfl [.int .i64 ((s 0 : Nat) : Int), .int .i64 ((s 1 : Nat) : Int), .int .i64 ((s 2 : Nat) : Int), .int .i64 ((s 3 : Nat) : Int), .int .i64 ((s 4 : Nat) : Int), .int .i64 ((s 5 : Nat) : Int), .int .i64 ((s 6 : Nat) : Int), .int .i64 ((s 7 : Nat) : Int), .int .i64 ((s 8 : Nat) : Int), .int .i64 ((s 9 : Nat) : Int), .int .i64 ((s 10 : Nat) : Int), .int .i64 ((s 11 : Nat) : Int), .int .i64 ((s 12 : Nat) : Int), .int .i64 ((s 13 : Nat) : Int), .int .i64 ((s 14 : Nat) : Int), .int .i64 ((s 15 : Nat) : Int)] _ HRG.out Tryd.underlying53 rfl HI16.out ?_)
              obtain ⟨SB, eSB⟩ : ∃ SB, SB = wr.heap.size := ⟨_, rfl⟩
              have hSB : A < SB := by rw [eSB]; exact bA.lt
              obtain ⟨p0, hp0⟩ : ∃ p : World, p = wr.alloc (.cells #[.int .i64 ((s 0 : Nat) : Int), .int .i64 ((s 1 : Nat) : Int), .int .i64 ((s 2 : Nat) : Int), .int .i64 ((s 3 : Nat) : Int), .int .i64 ((s 4 : Nat) : Int), .int .i64 ((s 5 : Nat) : Int), .int .i64 ((s 6 : Nat) : Int), .int .i64 ((s 7 : Nat) : Int), .int .i64 ((s 8 : Nat) : Int), .int .i64 ((s 9 : Nat) : Int), .int .i64 ((s 10 : Nat) : Int), .int .i64 ((s 11 : Nat) : Int), .int .i64 ((s 12 : Nat) : Int), .int .i64 ((s 13 : Nat) : Int), .int .i64 ((s 14 : Nat) : Int), .int .i64 ((s 15 : Nat) : Int)] 53) := ⟨_, rfl⟩
              have hal : Below wr.heap.size wr p0 := by rw [hp0]; exact (Below.refl _ _).alloc (Nat.le_refl _) _
              obtain ⟨x0, ex0⟩ : ∃ x, x = rnds m v0 k := ⟨_, rfl⟩
              have HX0 : Hid (∀ i, x0 i < 18446744073709551616) := by rw [ex0]; exact rnds_lt m v0 HV0.out k
              have T0 : Rt w p0 (F + 1) M A SB h x0 m s Lb := ⟨by rw [ex0]; exact R.step hal, bM.belowAll hal, bA.belowAll hal, by rw [hp0, eSB]; exact BlkV.newAt _ _ _ 16 _ _ rfl rfl (case16 rfl rfl rfl rfl rfl rfl rfl rfl rfl rfl rfl rfl rfl rfl rfl rfl)⟩
              rw [← hp0, ← eSB]
              have EX0 := (show Hid _ from ex0)
              clear ex0 hp0 hal R bM bA HRG HI16 HSG eSB hq hq2 hq10 hq0
              go_cut [] (fun wx => Rt w wx (F + 1) M A SB h (mixAt 0 4 8 12 (m (s 0)) (m (s 1)) x0) m s Lb)
              case first =>
                refine mixreg_0 _ w p0 F M A SB h x0 m s Lb (fun _ _ _ _ _ h => h) HX0 HS16 hM hA hSB T0 (fun v0' v1' v2' v3' v4' v5' v6' v7' v8' v9' wx HT => ?_)
                go_wp2_with fail
                go_meet
                exact HT
              obtain ⟨p1, hp1⟩ : ∃ p, p = wc := ⟨_, rfl⟩
              rw [← hp1] at hcut ⊢
              obtain ⟨x1, ex1⟩ : ∃ x, x = mixAt 0 4 8 12 (m (s 0)) (m (s 1)) x0 := ⟨_, rfl⟩
              have T1 : Rt w p1 (F + 1) M A SB h x1 m s Lb := by rw [ex1]; exact hcut
              have HX1 : Hid (∀ i, x1 i < 18446744073709551616) := by rw [ex1]; exact mixAt_lt _ _ _ _ _ _ _ HX0.out
              have EX1 := (show Hid _ from ex1)
              clear hcut hp1 ex1 T0
              go_upto_region 22 with fail
              go_cut [] (fun wx => Rt w wx (F + 1) M A SB h (mixAt 1 5 9 13 (m (s 2)) (m (s 3)) x1) m s Lb)
              case first =>
                refine mixreg_1 _ w p1 F M A SB h x1 m s Lb (fun _ _ _ _ _ h => h) HX1 HS16 hM hA hSB T1 (fun v0' v1' v2' v3' v4' v5' v6' v7' v8' v9' wx HT => ?_)
                go_wp2_with fail
                go_meet
                exact HT
              obtain ⟨p2, hp2⟩ : ∃ p, p = wc := ⟨_, rfl⟩
              rw [← hp2] at hcut ⊢
              obtain ⟨x2, ex2⟩ : ∃ x, x = mixAt 1 5 9 13 (m (s 2)) (m (s 3)) x1 := ⟨_, rfl⟩
              have T2 : Rt w p2 (F + 1) M A SB h x2 m s Lb := by rw [ex2]; exact hcut
              have HX2 : Hid (∀ i, x2 i < 18446744073709551616) := by rw [ex2]; exact mixAt_lt _ _ _ _ _ _ _ HX1.out
              have EX2 := (show Hid _ from ex2)
              clear hcut hp2 ex2 T1
              go_upto_region 23 with fail
              go_cut [] (fun wx => Rt w wx (F + 1) M A SB h (mixAt 2 6 10 14 (m (s 4)) (m (s 5)) x2) m s Lb)
              case first =>
                refine mixreg_2 _ w p2 F M A SB h x2 m s Lb (fun _ _ _ _ _ h => h) HX2 HS16 hM hA hSB T2 (fun v0' v1' v2' v3' v4' v5' v6' v7' v8' v9' wx HT => ?_)
                go_wp2_with fail
                go_meet
                exact HT
              obtain ⟨p3, hp3⟩ : ∃ p, p = wc := ⟨_, rfl⟩
              rw [← hp3] at hcut ⊢
              obtain ⟨x3, ex3⟩ : ∃ x, x = mixAt 2 6 10 14 (m (s 4)) (m (s 5)) x2 := ⟨_, rfl⟩
              have T3 : Rt w p3 (F + 1) M A SB h x3 m s Lb := by rw [ex3]; exact hcut
              have HX3 : Hid (∀ i, x3 i < 18446744073709551616) := by rw [ex3]; exact mixAt_lt _ _ _ _ _ _ _ HX2.out
              have EX3 := (show Hid _ from ex3)
              clear hcut hp3 ex3 T2
              go_upto_region 24 with fail
              go_cut [] (fun wx => Rt w wx (F + 1) M A SB h (mixAt 3 7 11 15 (m (s 6)) (m (s 7)) x3) m s Lb)
              case first =>
                refine mixreg_3 _ w p3 F M A SB h x3 m s Lb (fun _ _ _ _ _ h => h) HX3 HS16 hM hA hSB T3 (fun v0' v1' v2' v3' v4' v5' v6' v7' v8' v9' wx HT => ?_)
                go_wp2_with fail
                go_meet
                exact HT
              obtain ⟨p4, hp4⟩ : ∃ p, p = wc := ⟨_, rfl⟩
              rw [← hp4] at hcut ⊢
              obtain ⟨x4, ex4⟩ : ∃ x, x = mixAt 3 7 11 15 (m (s 6)) (m (s 7)) x3 := ⟨_, rfl⟩
              have T4 : Rt w p4 (F + 1) M A SB h x4 m s Lb := by rw [ex4]; exact hcut
              have HX4 : Hid (∀ i, x4 i < 18446744073709551616) := by rw [ex4]; exact mixAt_lt _ _ _ _ _ _ _ HX3.out
              have EX4 := (show Hid _ from ex4)
              clear hcut hp4 ex4 T3
              go_upto_region 25 with fail
              go_cut [] (fun wx => Rt w wx (F + 1) M A SB h (mixAt 0 5 10 15 (m (s 8)) (m (s 9)) x4) m s Lb)
              case first =>
                refine mixreg_4 _ w p4 F M A SB h x4 m s Lb (fun _ _ _ _ _ h => h) HX4 HS16 hM hA hSB T4 (fun v0' v1' v2' v3' v4' v5' v6' v7' v8' v9' wx HT => ?_)
                go_wp2_with fail
                go_meet
                exact HT
              obtain ⟨p5, hp5⟩ : ∃ p, p = wc := ⟨_, rfl⟩
              rw [← hp5] at hcut ⊢
              obtain ⟨x5, ex5⟩ : ∃ x, x = mixAt 0 5 10 15 (m (s 8)) (m (s 9)) x4 := ⟨_, rfl⟩
              have T5 : Rt w p5 (F + 1) M A SB h x5 m s Lb := by rw [ex5]; exact hcut
              have HX5 : Hid (∀ i, x5 i < 18446744073709551616) := by rw [ex5]; exact mixAt_lt _ _ _ _ _ _ _ HX4.out
              have EX5 := (show Hid _ from ex5)
              clear hcut hp5 ex5 T4
              go_upto_region 26 with fail
              go_cut [] (fun wx => Rt w wx (F + 1) M A SB h (mixAt 1 6 11 12 (m (s 10)) (m (s 11)) x5) m s Lb)
              case first =>
                refine mixreg_5 _ w p5 F M A SB h x5 m s Lb (fun _ _ _ _ _ h => h) HX5 HS16 hM hA hSB T5 (fun v0' v1' v2' v3' v4' v5' v6' v7' v8' v9' wx HT => ?_)
                go_wp2_with fail
                go_meet
                exact HT
              obtain ⟨p6, hp6⟩ : ∃ p, p = wc := ⟨_, rfl⟩
              rw [← hp6] at hcut ⊢
              obtain ⟨x6, ex6⟩ : ∃ x, x = mixAt 1 6 11 12 (m (s 10)) (m (s 11)) x5 := ⟨_, rfl⟩
              have T6 : Rt w p6 (F + 1) M A SB h x6 m s Lb := by rw [ex6]; exact hcut
              have HX6 : Hid (∀ i, x6 i < 18446744073709551616) := by rw [ex6]; exact mixAt_lt _ _ _ _ _ _ _ HX5.out
              have EX6 := (show Hid _ from ex6)
              clear hcut hp6 ex6 T5
              go_upto_region 27 with fail
              go_cut [] (fun wx => Rt w wx (F + 1) M A SB h (mixAt 2 7 8 13 (m (s 12)) (m (s 13)) x6) m s Lb)
              case first =>
                refine mixreg_6 _ w p6 F M A SB h x6 m s Lb (fun _ _ _ _ _ h => h) HX6 HS16 hM hA hSB T6 (fun v0' v1' v2' v3' v4' v5' v6' v7' v8' v9' wx HT => ?_)
                go_wp2_with fail
                go_meet
                exact HT
              obtain ⟨p7, hp7⟩ : ∃ p, p = wc := ⟨_, rfl⟩
              rw [← hp7] at hcut ⊢
              obtain ⟨x7, ex7⟩ : ∃ x, x = mixAt 2 7 8 13 (m (s 12)) (m (s 13)) x6 := ⟨_, rfl⟩
              have T7 : Rt w p7 (F + 1) M A SB h x7 m s Lb := by rw [ex7]; exact hcut
              have HX7 : Hid (∀ i, x7 i < 18446744073709551616) := by rw [ex7]; exact mixAt_lt _ _ _ _ _ _ _ HX6.out
              have EX7 := (show Hid _ from ex7)
              clear hcut hp7 ex7 T6
              go_upto_region 28 with fail
              refine mixreg_7 _ w p7 F M A SB h x7 m s Lb (fun _ _ _ _ _ h => h) HX7 HS16 hM hA hSB T7 (fun v0' v1' v2' v3' v4' v5' v6' v7' v8' v9' wx HT => ?_)
              obtain ⟨y, ey⟩ : ∃ x, x = mixAt 3 4 9 14 (m (s 14)) (m (s 15)) x7 := ⟨_, rfl⟩
              rw [← ey] at HT
              have EY := (show Hid _ from ey)
              clear ey T7
              go_wp2
              go_roundw
              case measure => simp [intOf]; omega
              case rel =>
                have e8 : y = rnds m v0 (k + 1) := by
                  rw [EY.out, EX7.out, EX6.out, EX5.out, EX4.out, EX3.out, EX2.out, EX1.out, EX0.out]
                  show _ = rndP (ord m k) (rnds m v0 k)
                  have eo : ∀ i, ord m k i = m (s i) := fun i => by unfold ord; rw [ES.out]; unfold sig; rw [EQ.out, Nat.mod_mod]
                  unfold rndP
                  simp only [eo]
                refine ⟨k + 1, by go_num, by omega, ?_, HT.2.1, HT.2.2.1⟩
                rw [← e8]
                exact HT.1
            · have hki : ¬ (k : Int) < 12 := by omega
              have hk12 : k = 12 := by omega
              subst hk12
              clear hlt hk bA bM
              go_wp2
              go_loopw [17] (fun iv wr => ∃ k : Nat, iv = .int .i64 (k : Int) ∧ k ≤ 8 ∧ Below w.heap.size w wr ∧ BlkN wr 39 w.heap.size 8 (fun i => if i < k then comp h m t false i else h i) ∧ BlkN wr 39 (w.heap.size + 1) 8 (fun _ => 0) ∧ BlkN wr 50 (F + 1) 16 (rnds m v0 12)) (fun iv _ => 8 - (intOf iv).toNat)
              case atStart => exact ⟨0, rfl, by decide, R.below, R.bH.congr (fun i _ => by rw [if_neg (by omega)]), R.bR, R.bV⟩
              case round =>
                obtain ⟨k, rfl, hk, hbr, bH, bR, bV⟩ := hrel
                clear R
                have hFF := HF.out
                by_cases hlt : k < 8
                · have hki : (k : Int) < 8 := by omega
                  have cH := bH.cell k hlt
                  rw [if_neg (by omega)] at cH
                  have cV := bV.cell k (by omega)
                  have cV8 := bV.cell (k + 8) (by omega)
                  have fH := bH.frozen
                  have X1 := xor_run (rnds m v0 12 k) (rnds m v0 12 (k + 8)) (rnds_lt m v0 HV0.out 12 k) (rnds_lt m v0 HV0.out 12 (k + 8))
                  have X2 := xor_run (h k) (rnds m v0 12 k ^^^ rnds m v0 12 (k + 8)) (HH.out k) (xor_lt _ _ (rnds_lt m v0 HV0.out 12 k) (rnds_lt m v0 HV0.out 12 (k + 8)))
                  have EC : Hid (h k ^^^ (rnds m v0 12 k ^^^ rnds m v0 12 (k + 8)) = comp h m t false k) := by rw [EV0.out]; rfl
                  obtain ⟨a, ea⟩ : ∃ a, a = rnds m v0 12 k := ⟨_, rfl⟩
                  obtain ⟨b, eb⟩ : ∃ b, b = rnds m v0 12 (k + 8) := ⟨_, rfl⟩
                  obtain ⟨x, ex⟩ : ∃ x, x = h k := ⟨_, rfl⟩
                  rw [← ea, ← eb] at X1 X2 EC
                  rw [← ex] at X2 EC cH
                  rw [← ea] at cV
                  rw [← eb] at cV8
                  obtain ⟨ab, eab⟩ : ∃ c, c = a ^^^ b := ⟨_, rfl⟩
                  rw [← eab] at X1 X2 EC
                  obtain ⟨y, ey⟩ : ∃ c, c = x ^^^ ab := ⟨_, rfl⟩
                  rw [← ey] at X2 EC
                  clear ea eb ex eab ey
                  go_wp2_with fail
                  go_region
                  go_wp2
                  go_roundw
                  case measure => simp [intOf]; omega
                  case rel =>
                    refine ⟨k + 1, by go_num, by omega, (hbr.setCell (by dsimp only; omega) _).drew, BlkN.drew ((bH.set k hlt y).congr ?_), (bR.other (by dsimp only; omega) _).drew, (bV.other (by dsimp only; omega) _).drew⟩
                    intro i _
                    by_cases h1 : i = k
                    · subst h1; rw [if_pos (by omega), if_pos rfl, EC.out]
                    · rw [if_neg h1]
                      by_cases h2 : i < k
                      · rw [if_pos h2, if_pos (by omega)]
                      · rw [if_neg h2, if_neg (by omega)]
                · have hki : ¬ (k : Int) < 8 := by omega
                  have hk8 : k = 8 := by omega
                  subst hk8
                  clear hlt hk
                  have bE := bH.congr (g := comp h m t false) (fun i hi => by rw [if_pos hi])
                  have cE := bE.cell; have cr := bR.cell; have fr := bR.frozen
                  obtain ⟨z, ez⟩ : ∃ z, z = comp h m t false := ⟨_, rfl⟩
                  rw [← ez] at cE
                  have EZ := (show Hid _ from ez)
                  clear bH bE bV ez
                  go_wp2
                  refine bodyPost_ret (v := .agg #[.int .u64 ((z 0 : Nat) : Int), .int .u64 ((z 1 : Nat) : Int), .int .u64 ((z 2 : Nat) : Int), .int .u64 ((z 3 : Nat) : Int), .int .u64 ((z 4 : Nat) : Int), .int .u64 ((z 5 : Nat) : Int), .int .u64 ((z 6 : Nat) : Int), .int .u64 ((z 7 : Nat) : Int)]) (by simp [results, Tryd.results17, go_sem, cr]) rfl ⟨by rw [EZ.out], ?_⟩
                  repeat (first | with_reducible exact hbr | with_reducible refine Below.setCell ?_ (by first | omega | (simp; omega) | simp) _)

end Go.Proofs.YtolaofoffakddaaDoor
