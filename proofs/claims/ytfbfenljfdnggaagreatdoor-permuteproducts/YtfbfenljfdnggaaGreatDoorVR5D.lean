/- What the second reference's half, halves and Root do. -/
import Derived.Test.YtfbfenljfdnggaaGreatDoorVR1
import Derived.Test.YtfbfenljfdnggaaGreatDoorVWN
namespace Go.Proofs.YtfbfenljfdnggaaGreatDoor
open Go.RowKit
theorem or1_run (x y : Nat) (hx : x < 18446744073709551616) : bits BinOp.or IntKind.u64 ((x / 2 : Nat) : Int) ((y * 9223372036854775808 % 18446744073709551616 : Nat) : Int) = (((x / 2 ^ 1) ||| (y * 2 ^ (64 - 1) % 18446744073709551616) : Nat) : Int) :=
  bits_or_u64_nat (x / 2) (y * 9223372036854775808 % 18446744073709551616) (by omega) (Nat.mod_lt _ (by decide))
theorem shl63_run (y : Nat) : IntKind.u64.wrap ((y : Int) * 9223372036854775808) = ((y * 9223372036854775808 % 18446744073709551616 : Nat) : Int) := by
  rw [IntKind.wrap_u64]; omega
set_option maxHeartbeats 4000000 in
set_option maxRecDepth 20000 in
/-- The second reference's half. -/
theorem ref2Half_any (A : Nat) (hA : A < 115792089237316195423570985008687907853269984665640564039457584007913129639936) (w : World) :
    Calls Tryz.prog 132 #[.agg #[.int .u64 ((limb 0 (A) : Nat) : Int), .int .u64 ((limb 1 (A) : Nat) : Int), .int .u64 ((limb 2 (A) : Nat) : Int), .int .u64 ((limb 3 (A) : Nat) : Int)]] w fun e w' => e = .returned (.agg #[.int .u64 ((limb 0 (A / 2) : Nat) : Int), .int .u64 ((limb 1 (A / 2) : Nat) : Int), .int .u64 ((limb 2 (A / 2) : Nat) : Int), .int .u64 ((limb 3 (A / 2) : Nat) : Int)]) ∧ Below w.heap.size w w' := by
  have H0 := or1_run (limb 0 A) (limb 1 A) (limb_lt _ _); have H1 := or1_run (limb 1 A) (limb 2 A) (limb_lt _ _); have H2 := or1_run (limb 2 A) (limb 3 A) (limb_lt _ _)
  rw [limb_down A 1 0 (by decide)] at H0
  rw [limb_down A 1 1 (by decide)] at H1
  rw [limb_down A 1 2 (by decide)] at H2
  have H3 := limb_down A 1 3 (by decide)
  rw [limb4_zero A hA, Nat.zero_mul, Nat.zero_mod, Nat.or_zero] at H3
  have S1 := shl63_run (limb 1 A); have S2 := shl63_run (limb 2 A); have S3 := shl63_run (limb 3 A)
  have D : ∀ x : Nat, (x : Int) / 2 = ((x / 2 : Nat) : Int) := fun x => by omega
  have D0 := D (limb 0 A); have D1 := D (limb 1 A); have D2 := D (limb 2 A)
  have D3 : ((limb 3 A : Nat) : Int) / 2 = ((limb 3 (A / 2 ^ 1) : Nat) : Int) := by rw [← H3]; exact D (limb 3 A)
  rw [Nat.pow_one] at H0 H1 H2 D3
  obtain ⟨B, eB⟩ : ∃ B, B = A / 2 := ⟨_, rfl⟩
  rw [← eB] at H0 H1 H2 D3 ⊢
  clear eB H3 D hA
  obtain ⟨s1, es1⟩ : ∃ s1, s1 = limb 1 A * 9223372036854775808 % 18446744073709551616 := ⟨_, rfl⟩
  rw [← es1] at H0 S1
  clear es1
  obtain ⟨s2, es2⟩ : ∃ s2, s2 = limb 2 A * 9223372036854775808 % 18446744073709551616 := ⟨_, rfl⟩
  rw [← es2] at H1 S2
  clear es2
  obtain ⟨s3, es3⟩ : ∃ s3, s3 = limb 3 A * 9223372036854775808 % 18446744073709551616 := ⟨_, rfl⟩
  rw [← es3] at H2 S3
  clear es3
  obtain ⟨d0, ed0⟩ : ∃ d0, d0 = limb 0 A / 2 := ⟨_, rfl⟩
  rw [← ed0] at H0 D0
  clear ed0
  obtain ⟨d1, ed1⟩ : ∃ d1, d1 = limb 1 A / 2 := ⟨_, rfl⟩
  rw [← ed1] at H1 D1
  clear ed1
  obtain ⟨d2, ed2⟩ : ∃ d2, d2 = limb 2 A / 2 := ⟨_, rfl⟩
  rw [← ed2] at H2 D2
  clear ed2
  go_enter Tryz.func132, Tryz.ntmps132
  go_wp2
  go_loopw [4] (fun i wr => ∃ k : Nat, i = .int .i64 (k : Int) ∧ k ≤ 4 ∧ Below w.heap.size w wr ∧ Blk wr 25 w.heap.size (fun i => limb i A) ∧ Blk wr 25 (w.heap.size + 1) (fun _ => 0) ∧ Blk wr 25 (w.heap.size + 1 + 1) (upTo B k)) (fun i _ => 4 - (intOf i).toNat)
  case atStart =>
    refine ⟨0, rfl, by decide, ?_, ((Blk.newAt _ _ _ (fun i => limb i A) rfl).alloc _).alloc _, (Blk.newAt _ _ _ (fun _ => 0) (by simp)).alloc _, (Blk.newAt _ _ _ (fun _ => 0) (by simp)).congr (fun i _ => rfl)⟩
    repeat (first | with_reducible exact Below.refl _ _ | with_reducible refine Below.alloc ?_ (by first | omega | (simp; omega) | simp) _)
  case round =>
    obtain ⟨k, rfl, hk, hbr, bA, bR, bO⟩ := hrel
    have h5 : k = 0 ∨ k = 1 ∨ k = 2 ∨ k = 3 ∨ k = 4 := by omega
    rcases h5 with rfl | rfl | rfl | rfl | rfl
    · have cA : wr.cell? ⟨w.heap.size, 0, none⟩ = some (.int .u64 ((limb 0 A : Nat) : Int)) := bA.cell 0 (by decide)
      have cB : wr.cell? ⟨w.heap.size, 1, none⟩ = some (.int .u64 ((limb 1 A : Nat) : Int)) := bA.cell 1 (by decide)
      have cO := bO.cell 0 (by decide); have fO := bO.frozen
      go_wp2
      go_region
      go_wp2
      go_roundw
      case measure => simp [intOf]
      case rel =>
        refine ⟨1, rfl, by decide, ((hbr.setCell (by dsimp only; omega) _).setCell (by dsimp only; omega) _).drew, ((bA.other (by dsimp only; omega) _).other (by dsimp only; omega) _).drew, ((bR.other (by dsimp only; omega) _).other (by dsimp only; omega) _).drew, Blk.drew (((bO.set 0 (by decide) d0).set 0 (by decide) (limb 0 B)).congr ?_)⟩
        intro j _
        rw [upTo_step]
        by_cases hj : j = 0 <;> simp [hj]
    · have cA : wr.cell? ⟨w.heap.size, 1, none⟩ = some (.int .u64 ((limb 1 A : Nat) : Int)) := bA.cell 1 (by decide)
      have cB : wr.cell? ⟨w.heap.size, 2, none⟩ = some (.int .u64 ((limb 2 A : Nat) : Int)) := bA.cell 2 (by decide)
      have cO := bO.cell 1 (by decide); have fO := bO.frozen
      go_wp2
      go_region
      go_wp2
      go_roundw
      case measure => simp [intOf]
      case rel =>
        refine ⟨2, rfl, by decide, ((hbr.setCell (by dsimp only; omega) _).setCell (by dsimp only; omega) _).drew, ((bA.other (by dsimp only; omega) _).other (by dsimp only; omega) _).drew, ((bR.other (by dsimp only; omega) _).other (by dsimp only; omega) _).drew, Blk.drew (((bO.set 1 (by decide) d1).set 1 (by decide) (limb 1 B)).congr ?_)⟩
        intro j _
        rw [upTo_step]
        by_cases hj : j = 1 <;> simp [hj]
    · have cA : wr.cell? ⟨w.heap.size, 2, none⟩ = some (.int .u64 ((limb 2 A : Nat) : Int)) := bA.cell 2 (by decide)
      have cB : wr.cell? ⟨w.heap.size, 3, none⟩ = some (.int .u64 ((limb 3 A : Nat) : Int)) := bA.cell 3 (by decide)
      have cO := bO.cell 2 (by decide); have fO := bO.frozen
      go_wp2
      go_region
      go_wp2
      go_roundw
      case measure => simp [intOf]
      case rel =>
        refine ⟨3, rfl, by decide, ((hbr.setCell (by dsimp only; omega) _).setCell (by dsimp only; omega) _).drew, ((bA.other (by dsimp only; omega) _).other (by dsimp only; omega) _).drew, ((bR.other (by dsimp only; omega) _).other (by dsimp only; omega) _).drew, Blk.drew (((bO.set 2 (by decide) d2).set 2 (by decide) (limb 2 B)).congr ?_)⟩
        intro j _
        rw [upTo_step]
        by_cases hj : j = 2 <;> simp [hj]
    · have cA : wr.cell? ⟨w.heap.size, 3, none⟩ = some (.int .u64 ((limb 3 A : Nat) : Int)) := bA.cell 3 (by decide)
      have cO := bO.cell 3 (by decide); have fO := bO.frozen
      go_wp2
      go_roundw
      case measure => simp [intOf]
      case rel =>
        refine ⟨4, rfl, by decide, hbr.setCell (by dsimp only; omega) _, bA.other (by dsimp only; omega) _, bR.other (by dsimp only; omega) _, (bO.set 3 (by decide) (limb 3 B)).congr ?_⟩
        intro j _
        rw [upTo_step]
    · have bF := bO.congr (g := fun i => limb i B) (fun i hi => by unfold upTo; rw [if_pos hi])
      have cO := bF.cell; have cr := bR.cell; have fr := bR.frozen
      clear bO
      go_wp2
      refine bodyPost_ret (v := .agg #[.int .u64 ((limb 0 (B) : Nat) : Int), .int .u64 ((limb 1 (B) : Nat) : Int), .int .u64 ((limb 2 (B) : Nat) : Int), .int .u64 ((limb 3 (B) : Nat) : Int)]) (by simp [results, Tryz.results132, go_sem, cr]) rfl ⟨rfl, ?_⟩
      repeat (first | with_reducible exact hbr | with_reducible refine Below.setCell ?_ (by first | omega | (simp; omega) | simp) _)
set_option maxHeartbeats 4000000 in
set_option maxRecDepth 20000 in
/-- The second reference's halves. -/
theorem ref2Halves_any (A n : Nat) (hA : A < 115792089237316195423570985008687907853269984665640564039457584007913129639936) (hn : n < 64) (w : World) :
    Calls Tryz.prog 105 #[.agg #[.int .u64 ((limb 0 (A) : Nat) : Int), .int .u64 ((limb 1 (A) : Nat) : Int), .int .u64 ((limb 2 (A) : Nat) : Int), .int .u64 ((limb 3 (A) : Nat) : Int)], .int .i64 (n : Int)] w fun e w' => e = .returned (.agg #[.int .u64 ((limb 0 (A / 2 ^ n) : Nat) : Int), .int .u64 ((limb 1 (A / 2 ^ n) : Nat) : Int), .int .u64 ((limb 2 (A / 2 ^ n) : Nat) : Int), .int .u64 ((limb 3 (A / 2 ^ n) : Nat) : Int)]) ∧ Below w.heap.size w w' := by
  have HH := fun B (hB : B < 115792089237316195423570985008687907853269984665640564039457584007913129639936) w => ref2Half_any B hB w
  go_enter Tryz.func105, Tryz.ntmps105
  go_upto_region 1 with fail
  obtain ⟨w0, hw0⟩ : ∃ w0 : World, w0 = (w.alloc (.cells #[.int .u64 ((limb 0 (A) : Nat) : Int), .int .u64 ((limb 1 (A) : Nat) : Int), .int .u64 ((limb 2 (A) : Nat) : Int), .int .u64 ((limb 3 (A) : Nat) : Int)] 25)).alloc (.cells #[.int .u64 0, .int .u64 0, .int .u64 0, .int .u64 0] 25) := ⟨_, rfl⟩
  have ba0 : Blk w0 25 w.heap.size (fun i => limb i A) := by rw [hw0]; exact (Blk.newAt _ _ _ (fun i => limb i A) (by simp)).alloc _
  have br0 : Blk w0 25 (w.heap.size + 1) (fun _ => 0) := by rw [hw0]; exact Blk.newAt _ _ _ (fun _ => 0) (by simp)
  have hb0 : Below w.heap.size w w0 := by rw [hw0]; exact bAlloc ((Below.refl _ _).alloc (Nat.le_refl _) _) _
  rw [← hw0]
  clear hw0
  go_wp2
  go_loopw [5] (fun i wr => ∃ k : Nat, i = .int .i64 (k : Int) ∧ k ≤ n ∧ Below w.heap.size w wr ∧ Blk wr 25 w.heap.size (fun i => limb i (A / 2 ^ k)) ∧ Blk wr 25 (w.heap.size + 1) (fun _ => 0)) (fun i _ => n - (intOf i).toNat)
  case atStart =>
    refine ⟨0, rfl, by omega, hb0, ?_, br0⟩
    rw [Nat.pow_zero, Nat.div_one]
    exact ba0
  case round =>
    obtain ⟨k, rfl, hk, hbr, ba, br⟩ := hrel
    clear ba0 br0 hb0
    have lo : A / 2 ^ k < 115792089237316195423570985008687907853269984665640564039457584007913129639936 := Nat.lt_of_le_of_lt (Nat.div_le_self _ _) hA
    by_cases hlt : k < n
    · have hki : (k : Int) < (n : Int) := by omega
      have H1 := fun w => HH _ lo w
      rw [Nat.div_div_eq_div_mul, ← Nat.pow_succ] at H1
      obtain ⟨o, eo⟩ : ∃ o, o = A / 2 ^ k := ⟨_, rfl⟩
      obtain ⟨q, eq⟩ : ∃ q, q = A / 2 ^ (k + 1) := ⟨_, rfl⟩
      rw [← eo] at ba H1
      rw [← eq] at H1
      have EQ := (show Hid _ from eq)
      clear eo eq lo HH
      have ca := ba.cell
      go_wp2_with fail
      refine (H1 _).mono ?_
      rintro r w2 ⟨rfl, hb2⟩
      have ba2 := ba.belowAll hb2; have br2 := br.belowAll hb2
      have hbw2 := bStep hbr hb2
      clear ba br hbr hb2 ca H1
      have ca := ba2.cell; have fa := ba2.frozen
      go_wp2
      go_roundw
      case measure => simp [intOf]; omega
      case rel =>
        refine ⟨k + 1, by go_num, by omega, bSet4 hbw2 (by omega) _ _ _ _, ?_, br2.other4 (by omega) _ _ _ _⟩
        rw [← EQ.out]
        exact ba2.set4 (fun i => limb i q)
    · have hkn : k = n := by omega
      subst hkn
      clear hlt HH lo
      obtain ⟨o, eo⟩ : ∃ o, o = A / 2 ^ k := ⟨_, rfl⟩
      rw [← eo] at ba
      have EO := (show Hid _ from eo)
      clear eo
      have ca := ba.cell; have cr := br.cell; have fr := br.frozen
      go_wp2
      refine bodyPost_ret (v := .agg #[.int .u64 ((limb 0 (o) : Nat) : Int), .int .u64 ((limb 1 (o) : Nat) : Int), .int .u64 ((limb 2 (o) : Nat) : Int), .int .u64 ((limb 3 (o) : Nat) : Int)]) (by simp [results, Tryz.results105, go_sem, cr]) rfl ⟨by rw [EO.out], ?_⟩
      repeat (first | with_reducible exact hbr | with_reducible refine Below.setCell ?_ (by first | omega | (simp; omega) | simp) _)
set_option maxHeartbeats 4000000 in
set_option maxRecDepth 20000 in
/-- The second reference's Root of a sort and an order that there are. -/
theorem ref2Root_any (s k : Nat) (hs : s < 4) (hk : k ≤ adicN s) (w : World) :
    Calls Tryz.prog 64 #[.int .i64 (s : Int), .int .i64 (k : Int)] w fun e w' => e = .returned (.tuple #[.agg #[.int .u64 ((limb 0 (rootP s k) : Nat) : Int), .int .u64 ((limb 1 (rootP s k) : Nat) : Int), .int .u64 ((limb 2 (rootP s k) : Nat) : Int), .int .u64 ((limb 3 (rootP s k) : Nat) : Int)], .int .i64 0]) ∧ Below w.heap.size w w' := by
  have ha := adicN_le s
  have hM := modN_lt s
  have h5 := modN_5 s
  have AD := fun w => ref2Adicity_any s hs w
  have MO := fun w => ref2Modulus_any s hs w
  have MN : ∀ w, Calls Tryz.prog 68 #[.agg #[.int .u64 ((limb 0 (modN s) : Nat) : Int), .int .u64 ((limb 1 (modN s) : Nat) : Int), .int .u64 ((limb 2 (modN s) : Nat) : Int), .int .u64 ((limb 3 (modN s) : Nat) : Int)], .agg #[.int .u64 1, .int .u64 0, .int .u64 0, .int .u64 0]] w fun e w' => e = .returned (.agg #[.int .u64 ((limb 0 (modN s - 1) : Nat) : Int), .int .u64 ((limb 1 (modN s - 1) : Nat) : Int), .int .u64 ((limb 2 (modN s - 1) : Nat) : Int), .int .u64 ((limb 3 (modN s - 1) : Nat) : Int)]) ∧ Below w.heap.size w w' := fun w => by
    have h := ref2Minus_any (modN s) 1 hM (by decide) w
    rw [sub256_ge (modN s) 1 hM (by omega), word_agg 1 (by decide)] at h
    exact h
  have HV := fun w => ref2Halves_any (modN s - 1) k (by omega) (by omega) w
  have le : (modN s - 1) / 2 ^ k < 115792089237316195423570985008687907853269984665640564039457584007913129639936 := Nat.lt_of_le_of_lt (Nat.div_le_self _ _) (by omega)
  have EX : ∀ w, Calls Tryz.prog 72 #[.int .i64 (s : Int), .agg #[.int .u64 5, .int .u64 0, .int .u64 0, .int .u64 0], .agg #[.int .u64 ((limb 0 ((modN s - 1) / 2 ^ k) : Nat) : Int), .int .u64 ((limb 1 ((modN s - 1) / 2 ^ k) : Nat) : Int), .int .u64 ((limb 2 ((modN s - 1) / 2 ^ k) : Nat) : Int), .int .u64 ((limb 3 ((modN s - 1) / 2 ^ k) : Nat) : Int)]] w fun e w' => e = .returned (.agg #[.int .u64 ((limb 0 (rootP s k) : Nat) : Int), .int .u64 ((limb 1 (rootP s k) : Nat) : Int), .int .u64 ((limb 2 (rootP s k) : Nat) : Int), .int .u64 ((limb 3 (rootP s k) : Nat) : Int)]) ∧ Below w.heap.size w w' := fun w => by
    have h := ref2Exp_any s 5 ((modN s - 1) / 2 ^ k) hs (by decide) le w
    rw [word_agg 5 (by decide)] at h
    exact h
  obtain ⟨r, er⟩ : ∃ r, r = rootP s k := ⟨_, rfl⟩
  rw [← er] at EX ⊢
  obtain ⟨q, eq⟩ : ∃ q, q = (modN s - 1) / 2 ^ k := ⟨_, rfl⟩
  rw [← eq] at EX HV
  obtain ⟨d, ed⟩ : ∃ d, d = modN s - 1 := ⟨_, rfl⟩
  rw [← ed] at MN HV
  obtain ⟨m, em⟩ : ∃ m, m = modN s := ⟨_, rfl⟩
  rw [← em] at MO MN
  obtain ⟨A, eA⟩ : ∃ A, A = adicN s := ⟨_, rfl⟩
  rw [← eA] at AD hk ha
  clear er eq ed em eA le h5 hM hs
  have hk0 : ¬ (k : Int) < 0 := by omega
  have hkA : ¬ (A : Int) < (k : Int) := by omega
  go_enter Tryz.func64, Tryz.ntmps64
  go_wp2_with fail
  obtain ⟨w0, hw0⟩ : ∃ w0 : World, w0 = w.alloc (.cells #[.int .u64 0, .int .u64 0, .int .u64 0, .int .u64 0] 25) := ⟨_, rfl⟩
  have br0 : Blk w0 25 w.heap.size (fun _ => 0) := by rw [hw0]; exact Blk.newAt _ _ _ (fun _ => 0) (by simp)
  have hb0 : Below w.heap.size w w0 := by rw [hw0]; exact (Below.refl _ _).alloc (Nat.le_refl _) _
  rw [← hw0]
  clear hw0
  refine (AD _).mono ?_
  rintro e w1 ⟨rfl, hb1⟩
  have br1 := br0.belowAll hb1
  have hbw1 := bStep hb0 hb1
  clear br0 hb0 hb1 AD
  go_wp2_with fail
  refine (MO _).mono ?_
  rintro e w2 ⟨rfl, hb2⟩
  have br2 := br1.belowAll hb2
  have hbw2 := bStep hbw1 hb2
  clear br1 hbw1 hb2 MO
  go_wp2_with fail
  refine (MN _).mono ?_
  rintro e w3 ⟨rfl, hb3⟩
  have br3 := (br2.alloc _).belowAll hb3
  have hbw3 := bStep (bAlloc hbw2 _) hb3
  clear br2 hbw2 hb3 MN
  go_wp2_with fail
  refine (HV _).mono ?_
  rintro e w4 ⟨rfl, hb4⟩
  have br4 := br3.belowAll hb4
  have hbw4 := bStep hbw3 hb4
  clear br3 hbw3 hb4 HV
  go_wp2_with fail
  refine (EX _).mono ?_
  rintro e w5 ⟨rfl, hb5⟩
  have br5 := br4.belowAll hb5
  have hbw5 := bStep hbw4 hb5
  have cr := br5.cell; have fr := br5.frozen; have lr := br5.lt
  clear br4 hbw4 hb5 EX
  go_wp2
  refine bodyPost_ret (v := .tuple #[.agg #[.int .u64 ((limb 0 (r) : Nat) : Int), .int .u64 ((limb 1 (r) : Nat) : Int), .int .u64 ((limb 2 (r) : Nat) : Int), .int .u64 ((limb 3 (r) : Nat) : Int)], .int .i64 0]) (by simp [results, Tryz.results64, go_sem, cr]) rfl ⟨rfl, ?_⟩
  repeat (first | with_reducible exact hbw5 | with_reducible refine Below.setCell ?_ (by first | omega | (simp; omega) | simp) _)
end Go.Proofs.YtfbfenljfdnggaaGreatDoor
