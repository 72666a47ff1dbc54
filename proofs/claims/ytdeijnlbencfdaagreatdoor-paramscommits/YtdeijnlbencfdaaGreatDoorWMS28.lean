import Derived.Test.YtdeijnlbencfdaaGreatDoorWK12
namespace Go.Proofs.YtdeijnlbencfdaaGreatDoor
open Go.RowKit
def topX : Nat → Nat
 | 0 => 1023
 | 1 => 1023
 | 2 => 1025
 | _ => 1024
theorem top_ok (c : Nat) (hc : c < 4) : 1023 ≤ topX c ∧ topX c ≤ 1025 ∧ sqY c (topX c) % modN c ≠ 0 ∧ powM (modN c) (sqY c (topX c) % modN c) ((2 * oddH c + 1) * 2 ^ (adicN c - 1)) = 1 := by
 have h : c = 0 ∨ c = 1 ∨ c = 2 ∨ c = 3 := by omega
 rcases h with rfl | rfl | rfl | rfl
 ·exact ⟨by decide, by decide, by decide, pow_one' 16513537 13732822 8256768 256 (by rfl) (by rfl) (by rfl) (by decide) (by decide +kernel)⟩
 ·exact ⟨by decide, by decide, by decide, pow_one' 16521217 13241300 8260608 256 (by rfl) (by rfl) (by rfl) (by decide) (by decide +kernel)⟩
 ·exact ⟨by decide, by decide, by decide, pow_one' 28948022309329048855892746252171976963363056481941560715954676764349967630337 1076890630 14474011154664524427946373126085988481681528240970780357977338382174983815168 256 (by rfl) (by rfl) (by rfl) (by decide) (by decide +kernel)⟩
 ·exact ⟨by decide, by decide, by decide, pow_one' 28948022309329048855892746252171976963363056481941647379679742748393362948097 1073741829 14474011154664524427946373126085988481681528240970823689839871374196681474048 256 (by rfl) (by rfl) (by rfl) (by decide) (by decide +kernel)⟩
theorem small_mod (c : Nat) : 1025 < modN c := by
 match c with
 | 0 => decide
 | 1 => decide
 | 2 => decide
 | _ + 3 => exact (by decide : 1025 < 28948022309329048855892746252171976963363056481941647379679742748393362948097)
theorem int_small (c j : Nat) (hj : j ≤ 1025) : intP c (j : Int) = j := by
 unfold intP intW
 rw [if_neg (by omega), if_neg (by omega), show (((j : Int) % 18446744073709551616).toNat) = j from by omega]
 exact Nat.mod_eq_of_lt (Nat.lt_of_le_of_lt hj (small_mod c))
theorem sqY_lt' (c x : Nat) : sqY c x < modN c := Nat.mod_lt _ (modN_pos c)
def SqE (c a : Nat) (e : Ending) : Prop := (∃ r, r < modN c ∧ mulP c r r = a ∧ e = .returned (.tuple #[.agg #[.int .u64 (limb 0 r), .int .u64 (limb 1 r), .int .u64 (limb 2 r), .int .u64 (limb 3 r)], .int .i64 0])) ∨ (powM (modN c) (a % modN c) ((2 * oddH c + 1) * 2 ^ (adicN c - 1)) ≠ 1 ∧ e = .returned (.tuple #[.agg #[.int .u64 (limb 0 0), .int .u64 (limb 1 0), .int .u64 (limb 2 0), .int .u64 (limb 3 0)], .int .i64 22]))
set_option maxHeartbeats 8000000 in
set_option maxRecDepth 20000 in
theorem rsome_any (c m : Nat) (hc : c < 4) (hm : m ≤ 1023) (w : World) :
  Calls Tryz.prog 19 #[.int .i64 (c : Int), .int .i64 (m : Int)] w fun e w' => (∃ x y, x < 115792089237316195423570985008687907853269984665640564039457584007913129639936 ∧ y < 115792089237316195423570985008687907853269984665640564039457584007913129639936 ∧ onC c x y false ∧ e = .returned (.agg #[.int .u64 (limb 0 x), .int .u64 (limb 1 x), .int .u64 (limb 2 x), .int .u64 (limb 3 x), .int .u64 (limb 0 y), .int .u64 (limb 1 y), .int .u64 (limb 2 y), .int .u64 (limb 3 y), .bool false])) ∧ Below w.heap.size w w' := by
 obtain ⟨ht1, ht2, ht3, ht4⟩ := top_ok c hc
 have HT3 : Hid (sqY c (topX c) % modN c ≠ 0) := ht3
 have HT4 := (show Hid _ from ht4)
 have HI : Hid (∀ j : Nat, j ≤ 1025 → ∀ w, Calls Tryz.prog 41 #[.int .i64 (c : Int), .int .i64 (j : Int)] w fun e w' => e = .returned (.agg #[.int .u64 (limb 0 j), .int .u64 (limb 1 j), .int .u64 (limb 2 j), .int .u64 (limb 3 j)]) ∧ Below w.heap.size w w') := fun j hj w => by
  have h := rInt_any c (j : Int) hc w
  rw [int_small c j hj] at h
  exact h
 have HC : Hid (∀ j : Nat, j ≤ 1025 → ∀ w, Calls Tryz.prog 43 #[.int .i64 (c : Int), .agg #[.int .u64 (limb 0 j), .int .u64 (limb 1 j), .int .u64 (limb 2 j), .int .u64 (limb 3 j)]] w fun e w' => e = .returned (.agg #[.int .u64 (limb 0 (sqY c j)), .int .u64 (limb 1 (sqY c j)), .int .u64 (limb 2 (sqY c j)), .int .u64 (limb 3 (sqY c j))]) ∧ Below w.heap.size w w') := fun j hj w => rcube_any c j hc (Nat.lt_of_le_of_lt hj (by decide)) w
 have HS : Hid (∀ a, a < modN c → ∀ w, Calls Tryz.prog 42 #[.int .i64 (c : Int), .agg #[.int .u64 (limb 0 a), .int .u64 (limb 1 a), .int .u64 (limb 2 a), .int .u64 (limb 3 a)]] w fun e w' => SqE c a e ∧ Below w.heap.size w w') := fun a ha w => by
  refine (ref2Sqrt_any c a hc (lt_M c _ ha) w).mono ?_
  rintro e w' ⟨h | h, hb⟩
  ·obtain ⟨r, h1, _, h3, rfl⟩ := h
   refine ⟨Or.inl ⟨r, h1, ?_, rfl⟩, hb⟩
   unfold mulP
   rw [h3]
   exact Nat.mod_eq_of_lt ha
  ·obtain ⟨_, h2, rfl⟩ := h
   refine ⟨Or.inr ⟨h2, ?_⟩, hb⟩
   rw [zeroElem]
 have HQ : Hid (∀ r, r < 115792089237316195423570985008687907853269984665640564039457584007913129639936 → ∀ w, (binOp .neq 25 (.agg #[.int .u64 (limb 0 r), .int .u64 (limb 1 r), .int .u64 (limb 2 r), .int .u64 (limb 3 r)]) (.agg #[.int .u64 0, .int .u64 0, .int .u64 0, .int .u64 0])).run Tryz.prog w = .ok (.bool (!decide (r = 0))) w) := fun r hr w => neqZ r hr w
 obtain ⟨X0, eX0⟩ : ∃ X0, X0 = topX c := ⟨_, rfl⟩
 rw [← eX0] at ht1 ht2 HT3 HT4
 clear eX0 ht3 ht4
 go_enter Tryz.func19, Tryz.ntmps19
 go_wp2_with fail
 go_loopw [1] (fun nv wr => ∃ j : Nat, nv = .int .i64 (j : Int) ∧ j ≤ X0 ∧ Below w.heap.size w wr ∧ Pt wr w.heap.size 0 0 false) (fun nv _ => X0 - (intOf nv).toNat)
 case atStart => exact ⟨m, rfl, by omega, (Below.refl _ _).alloc (Nat.le_refl _) _, Pt.zeroAt _ _ rfl⟩
 case round =>
  obtain ⟨j, rfl, hj, hbr, br⟩ := hrel
  obtain ⟨x, ex⟩ : ∃ x, x = j := ⟨_, rfl⟩
  have HI1 := (show Hid _ from HI.out j (by omega)); have HC1 := (show Hid _ from HC.out j (by omega))
  have HS1 := (show Hid _ from HS.out (sqY c j) (sqY_lt' c j))
  have HX : Hid (x = j) := ex
  have HXM : Hid (x < 115792089237316195423570985008687907853269984665640564039457584007913129639936) := by rw [ex]; exact (by omega : j < 115792089237316195423570985008687907853269984665640564039457584007913129639936)
  obtain ⟨a, ea⟩ : ∃ a, a = sqY c j := ⟨_, rfl⟩
  have hax : a = sqY c x := by rw [ea, ex]
  have HA : Hid (a = sqY c x) := hax
  rw [← ex] at HI1 HC1
  have HI2 : Hid (∀ w, Calls Tryz.prog 41 #[.int .i64 (c : Int), .int .i64 (j : Int)] w fun e w' => e = .returned (.agg #[.int .u64 (limb 0 x), .int .u64 (limb 1 x), .int .u64 (limb 2 x), .int .u64 (limb 3 x)]) ∧ Below w.heap.size w w') := fun w => by rw [ex]; exact HI.out j (by omega) w
  have HC2 : Hid (∀ w, Calls Tryz.prog 43 #[.int .i64 (c : Int), .agg #[.int .u64 (limb 0 x), .int .u64 (limb 1 x), .int .u64 (limb 2 x), .int .u64 (limb 3 x)]] w fun e w' => e = .returned (.agg #[.int .u64 (limb 0 a), .int .u64 (limb 1 a), .int .u64 (limb 2 a), .int .u64 (limb 3 a)]) ∧ Below w.heap.size w w') := fun w => by rw [ex, ea]; exact HC.out j (by omega) w
  have HS2 : Hid (∀ w, Calls Tryz.prog 42 #[.int .i64 (c : Int), .agg #[.int .u64 (limb 0 a), .int .u64 (limb 1 a), .int .u64 (limb 2 a), .int .u64 (limb 3 a)]] w fun e w' => SqE c a e ∧ Below w.heap.size w w') := fun w => by rw [ea]; exact HS.out (sqY c j) (sqY_lt' c j) w
  have QX := fun w => HQ.out x HXM.out w
  clear ex ea hax HI1 HC1 HS1
  go_wp2_with fail
  refine (HI2.out _).mono ?_
  rintro e w1 ⟨rfl, hb1⟩
  have br1 := (br.belowAll hb1).alloc (.cells #[.int .u64 (limb 0 x), .int .u64 (limb 1 x), .int .u64 (limb 2 x), .int .u64 (limb 3 x)] 25)
  have bx1 : Blk (w1.alloc (.cells #[.int .u64 (limb 0 x), .int .u64 (limb 1 x), .int .u64 (limb 2 x), .int .u64 (limb 3 x)] 25)) 25 w1.heap.size (fun i => limb i x) := Blk.newAt _ _ _ (fun i => limb i x) rfl
  have hbw1 := bAlloc (bStep hbr hb1) (.cells #[.int .u64 (limb 0 x), .int .u64 (limb 1 x), .int .u64 (limb 2 x), .int .u64 (limb 3 x)] 25)
  clear br hbr hb1 HI2
  go_upto_region 2 with fail
  obtain ⟨w2, hw2⟩ : ∃ y : World, y = w1.alloc (.cells #[.int .u64 (limb 0 x), .int .u64 (limb 1 x), .int .u64 (limb 2 x), .int .u64 (limb 3 x)] 25) := ⟨_, rfl⟩
  obtain ⟨N5, hN5⟩ : ∃ N, N = w1.heap.size := ⟨_, rfl⟩
  rw [← hw2] at br1 bx1 hbw1 ⊢
  rw [← hN5] at bx1 ⊢
  clear hw2 hN5
  have cx := bx1.cell
  go_wp2_with fail
  refine (HC2.out _).mono ?_
  rintro e w3 ⟨rfl, hb3⟩
  clear cx
  have br3 := br1.belowAll hb3; have bx3 := bx1.belowAll hb3
  have hbw3 := bStep hbw1 hb3
  clear br1 bx1 hbw1 hb3 HC2
  go_wp2_with fail
  refine (HS2.out _).mono ?_
  rintro e w4 ⟨hE, hb4⟩
  have br4 := br3.belowAll hb4; have bx4 := bx3.belowAll hb4; have hbw4 := bStep hbw3 hb4
  clear br3 bx3 hbw3 hb4 HS2
  have hcase : ∃ (r : Nat) (E : Int), r < 115792089237316195423570985008687907853269984665640564039457584007913129639936 ∧ e = .returned (.tuple #[.agg #[.int .u64 (limb 0 r), .int .u64 (limb 1 r), .int .u64 (limb 2 r), .int .u64 (limb 3 r)], .int .i64 E]) ∧ ((E = 0 ∧ r < modN c ∧ mulP c r r = a) ∨ (E = 22 ∧ j ≠ X0)) := by
   rcases hE with ⟨r, h1, h2, rfl⟩ | ⟨h2, rfl⟩
   ·exact ⟨r, 0, lt_M c _ h1, rfl, Or.inl ⟨rfl, h1, h2⟩⟩
   ·refine ⟨0, 22, by decide, rfl, Or.inr ⟨rfl, fun h => h2 ?_⟩⟩
    rw [HA.out, HX.out, h]
    exact HT4.out
  obtain ⟨r, EE, hrM, rfl, hcc⟩ := hcase
  have HCC := (show Hid _ from hcc)
  have QR := fun w => HQ.out r hrM w
  have HRM : Hid (r < 115792089237316195423570985008687907853269984665640564039457584007913129639936) := hrM
  clear hE hcc hrM
  have br5 := (br4.alloc (.cells #[.int .u64 (limb 0 r), .int .u64 (limb 1 r), .int .u64 (limb 2 r), .int .u64 (limb 3 r)] 25)).alloc (.cells #[.int .u64 0, .int .u64 0, .int .u64 0, .int .u64 0] 25)
  have bx5 := (bx4.alloc (.cells #[.int .u64 (limb 0 r), .int .u64 (limb 1 r), .int .u64 (limb 2 r), .int .u64 (limb 3 r)] 25)).alloc (.cells #[.int .u64 0, .int .u64 0, .int .u64 0, .int .u64 0] 25)
  have by5 : Blk ((w4.alloc (.cells #[.int .u64 (limb 0 r), .int .u64 (limb 1 r), .int .u64 (limb 2 r), .int .u64 (limb 3 r)] 25)).alloc (.cells #[.int .u64 0, .int .u64 0, .int .u64 0, .int .u64 0] 25)) 25 w4.heap.size (fun i => limb i r) := (Blk.newAt _ _ _ (fun i => limb i r) rfl).alloc _
  have bz5 : Blk ((w4.alloc (.cells #[.int .u64 (limb 0 r), .int .u64 (limb 1 r), .int .u64 (limb 2 r), .int .u64 (limb 3 r)] 25)).alloc (.cells #[.int .u64 0, .int .u64 0, .int .u64 0, .int .u64 0] 25)) 25 (w4.heap.size + 1) (fun _ => 0) := Blk.newAt _ _ _ (fun _ => 0) (by simp)
  have hbw5 := bAlloc (bAlloc hbw4 (.cells #[.int .u64 (limb 0 r), .int .u64 (limb 1 r), .int .u64 (limb 2 r), .int .u64 (limb 3 r)] 25)) (.cells #[.int .u64 0, .int .u64 0, .int .u64 0, .int .u64 0] 25)
  clear br4 bx4 hbw4
  go_upto_region 4 with fail
  obtain ⟨w5, hw5⟩ : ∃ y : World, y = (w4.alloc (.cells #[.int .u64 (limb 0 r), .int .u64 (limb 1 r), .int .u64 (limb 2 r), .int .u64 (limb 3 r)] 25)).alloc (.cells #[.int .u64 0, .int .u64 0, .int .u64 0, .int .u64 0] 25) := ⟨_, rfl⟩
  obtain ⟨N6, hN6⟩ : ∃ N, N = w4.heap.size := ⟨_, rfl⟩
  rw [← hw5] at br5 bx5 by5 bz5 hbw5 ⊢
  rw [← hN6] at by5 bz5 ⊢
  clear hw5 hN6
  have cx := bx5.cell; have cy := by5.cell; have cz := bz5.cell
  by_cases hE0 : EE = 0
  ·by_cases hr0 : r = 0
   ·have HNX : Hid (j ≠ X0) := fun h => by
     rcases HCC.out with ⟨_, _, h3⟩ | ⟨h1, _⟩
     ·rw [hr0] at h3
      have h4 : a = 0 := by rw [← h3]; unfold mulP; exact Nat.zero_mod _
      apply HT3.out
      rw [← h, ← HX.out, ← HA.out, h4]
      exact Nat.zero_mod _
     ·omega
    rw [decide_eq_true hr0] at QR
    have HR0 : Hid (r = 0) := hr0
    clear hr0
    go_wp2
    go_roundw
    case measure => have := HNX.out; simp [intOf]; omega
    case rel => exact ⟨j + 1, by go_num, by have := HNX.out; omega, hbw5, br5⟩
   ·rw [decide_eq_false hr0] at QR
    by_cases hx0 : x = 0
    ·rw [decide_eq_true hx0] at QX
     have HNX : Hid (j < 1) := by rw [HX.out] at hx0; exact (by omega : j < 1)
     clear hx0
     go_wp2
     go_roundw
     case measure => have := HNX.out; simp [intOf]; omega
     case rel => exact ⟨j + 1, by go_num, by have := HNX.out; omega, hbw5, br5⟩
    ·rw [decide_eq_false hx0] at QX
     have HON : Hid (onC c x r false) := by
      rcases HCC.out with ⟨_, h2, h3⟩ | ⟨h1, _⟩
      ·exact Or.inr ⟨rfl, by rw [HX.out]; exact Nat.lt_of_le_of_lt (show j ≤ 1025 by omega) (small_mod c), h2, h3.trans HA.out⟩
      ·omega
     clear hx0 hr0
     obtain ⟨r0, r1, r2, r3, r4, r5, r6, r7, r8, rf⟩ := br5.cells
     go_wp2
     (try simp only [Exit.inBlock, Exit.then])
     refine bodyPost_ret (v := .agg #[.int .u64 (limb 0 x), .int .u64 (limb 1 x), .int .u64 (limb 2 x), .int .u64 (limb 3 x), .int .u64 (limb 0 r), .int .u64 (limb 1 r), .int .u64 (limb 2 r), .int .u64 (limb 3 r), .bool false]) (by simp [results, Tryz.results19, go_sem, r0, r1, r2, r3, r4, r5, r6, r7, r8]) rfl ⟨⟨x, r, HXM.out, HRM.out, HON.out, rfl⟩, ?_⟩
     exact bSet9 hbw5 (Nat.le_refl _) _ _ _ _ _ _ _ _ _
  ·have HNX : Hid (j ≠ X0) := by
    rcases HCC.out with ⟨h1, _⟩ | ⟨_, h2⟩
    ·exact absurd h1 hE0
    ·exact h2
   go_wp2
   go_roundw
   case measure => have := HNX.out; simp [intOf]; omega
   case rel => exact ⟨j + 1, by go_num, by have := HNX.out; omega, hbw5, br5⟩
end Go.Proofs.YtdeijnlbencfdaaGreatDoor
