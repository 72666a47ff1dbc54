/- field.shiftDown by any number of bits below 64; field.unityRoot, field.Root. -/
import Derived.Test.YtfbfenljfdnggaaGreatDoorVFD
namespace Go.Proofs.YtfbfenljfdnggaaGreatDoor
open Go.RowKit
theorem limb_down (X n i : Nat) (hn : n < 64) : (limb i X / 2 ^ n) ||| (limb (i + 1) X * 2 ^ (64 - n) % 18446744073709551616) = limb i (X / 2 ^ n) := by
  apply Nat.eq_of_testBit_eq
  intro t
  rw [Nat.testBit_or, Nat.testBit_div_two_pow, limb_test, limb_test, show (18446744073709551616 : Nat) = 2 ^ 64 from by decide, Nat.testBit_mod_two_pow, Nat.testBit_mul_two_pow, limb_test, Nat.testBit_div_two_pow]
  by_cases h1 : t < 64
  · by_cases h2 : t + n < 64
    · have h3 : ¬ 64 - n ≤ t := by omega
      simp [h1, h2, h3]
      congr 1; omega
    · have h3 : 64 - n ≤ t := by omega
      simp [h1, h2, h3, show t - (64 - n) < 64 from by omega]
      congr 1; omega
  · simp [h1, show ¬ t + n < 64 from by omega]
theorem down_run (x y n : Nat) (hx : x < 18446744073709551616) : bits BinOp.or IntKind.u64 ((x : Int) / 2 ^ n) (IntKind.u64.wrap ((y : Int) * 2 ^ (64 - n))) = (((x / 2 ^ n) ||| (y * 2 ^ (64 - n) % 18446744073709551616) : Nat) : Int) := by
  have h1 : IntKind.u64.wrap ((y : Int) * 2 ^ (64 - n)) = ((y * 2 ^ (64 - n) % 18446744073709551616 : Nat) : Int) := by
    have e : (y : Int) * 2 ^ (64 - n) = ((y * 2 ^ (64 - n) : Nat) : Int) := by simp
    rw [e, IntKind.wrap_u64]
    generalize y * 2 ^ (64 - n) = t
    omega
  have h2 : (x : Int) / 2 ^ n = ((x / 2 ^ n : Nat) : Int) := by simp
  rw [h1, h2, bits_or_u64_nat _ _ (Nat.lt_of_le_of_lt (Nat.div_le_self _ _) hx) (Nat.mod_lt _ (by decide))]
theorem limb4_zero (X : Nat) (hX : X < 115792089237316195423570985008687907853269984665640564039457584007913129639936) : limb 4 X = 0 := by
  unfold limb; rw [show (18446744073709551616 : Nat) ^ 4 = 115792089237316195423570985008687907853269984665640564039457584007913129639936 from by decide, Nat.div_eq_of_lt hX]
set_option maxHeartbeats 4000000 in
set_option maxRecDepth 20000 in
theorem shiftDown_any (X n : Nat) (hn : n < 64) (hX : X < 115792089237316195423570985008687907853269984665640564039457584007913129639936) (w : World) :
    Calls Tryz.prog 159 #[.agg #[.int .u64 ((limb 0 (X) : Nat) : Int), .int .u64 ((limb 1 (X) : Nat) : Int), .int .u64 ((limb 2 (X) : Nat) : Int), .int .u64 ((limb 3 (X) : Nat) : Int)], .int .i64 (n : Int)] w fun e w' => e = .returned (.agg #[.int .u64 ((limb 0 (X / 2 ^ n) : Nat) : Int), .int .u64 ((limb 1 (X / 2 ^ n) : Nat) : Int), .int .u64 ((limb 2 (X / 2 ^ n) : Nat) : Int), .int .u64 ((limb 3 (X / 2 ^ n) : Nat) : Int)]) ∧ Below w.heap.size w w' := by
  have e0 := down_run (limb 0 X) (limb 1 X) n (limb_lt _ _)
  have e1 := down_run (limb 1 X) (limb 2 X) n (limb_lt _ _)
  have e2 := down_run (limb 2 X) (limb 3 X) n (limb_lt _ _)
  have e3 : ((limb 3 X : Nat) : Int) / 2 ^ n = ((limb 3 X / 2 ^ n : Nat) : Int) := by simp
  have z3 := limb_down X n 3 hn
  rw [limb4_zero X hX, Nat.zero_mul, Nat.zero_mod, Nat.or_zero] at z3
  rw [limb_down X n 0 hn] at e0
  rw [limb_down X n 1 hn] at e1
  rw [limb_down X n 2 hn] at e2
  rw [z3] at e3
  clear z3
  have hu : (64 : Int) - (n : Int) = ((64 - n : Nat) : Int) := by omega
  obtain ⟨u, eu⟩ : ∃ u, u = 64 - n := ⟨_, rfl⟩
  rw [← eu] at e0 e1 e2 hu
  clear eu
  obtain ⟨Y, eY⟩ : ∃ Y, Y = X / 2 ^ n := ⟨_, rfl⟩
  rw [← eY] at e0 e1 e2 e3 ⊢
  clear eY
  go_enter Tryz.func159, Tryz.ntmps159
  go_upto_region 2 with fail
  obtain ⟨w0, hw0⟩ : ∃ w0 : World, w0 = (w.alloc (.cells #[.int .u64 ((limb 0 (X) : Nat) : Int), .int .u64 ((limb 1 (X) : Nat) : Int), .int .u64 ((limb 2 (X) : Nat) : Int), .int .u64 ((limb 3 (X) : Nat) : Int)] 154)).alloc (.cells #[.int .u64 0, .int .u64 0, .int .u64 0, .int .u64 0] 154) := ⟨_, rfl⟩
  have bx0 : Blk w0 154 w.heap.size (fun i => limb i X) := by rw [hw0]; exact (Blk.newAt _ _ _ (fun i => limb i X) rfl).alloc _
  have br0 : Blk w0 154 (w.heap.size + 1) (fun _ => 0) := by rw [hw0]; exact Blk.newAt _ _ _ (fun _ => 0) (by simp)
  have hb0 : Below w.heap.size w w0 := by
    rw [hw0]
    repeat (first | with_reducible exact Below.refl _ _ | with_reducible refine Below.alloc ?_ (by first | omega | (simp; omega) | simp) _)
  rw [← hw0]
  clear hw0
  have cr := br0.cell; have fr := br0.frozen; have lr := br0.lt
  go_wp2_with fail
  go_region_held3 (fun w' => ∀ i, i < 4 → w'.cell? ⟨w.heap.size, i, none⟩ = some (.int .u64 ((limb i X : Nat) : Int)))
    (first | with_reducible exact bx0.drew.cell | with_reducible exact far1 _ _ _ _ (by omega) bx0.drew.cell | with_reducible exact far1 _ _ _ _ (by omega) bx0.cell | exact far1 _ _ _ _ (by omega) bx0.drew.cell)
    (fail)
  go_wp2
  refine bodyPost_ret (v := .agg #[.int .u64 ((limb 0 (Y) : Nat) : Int), .int .u64 ((limb 1 (Y) : Nat) : Int), .int .u64 ((limb 2 (Y) : Nat) : Int), .int .u64 ((limb 3 (Y) : Nat) : Int)]) (by simp [results, Tryz.results159, go_sem, cr]) rfl ⟨rfl, ?_⟩
  repeat (first | with_reducible exact hb0 | with_reducible refine Below.drew ?_ | with_reducible refine Below.setCell ?_ (by first | omega | (simp; omega) | simp) _)
set_option maxHeartbeats 4000000 in
set_option maxRecDepth 20000 in
/-- field.unityRoot. -/
theorem unityRoot_any (m n : Nat) (hG : GoodMod m) (h5 : 5 < m) (hn : n < 64) (w : World) (hg : Glob w) :
    Calls Tryz.prog 127 #[.agg #[.int .u64 ((limb 0 (m) : Nat) : Int), .int .u64 ((limb 1 (m) : Nat) : Int), .int .u64 ((limb 2 (m) : Nat) : Int), .int .u64 ((limb 3 (m) : Nat) : Int)], .int .i64 (n : Int)] w fun e w' => e = .returned (.agg #[.int .u64 ((limb 0 (powM m 5 ((m - 1) / 2 ^ n)) : Nat) : Int), .int .u64 ((limb 1 (powM m 5 ((m - 1) / 2 ^ n)) : Nat) : Int), .int .u64 ((limb 2 (powM m 5 ((m - 1) / 2 ^ n)) : Nat) : Int), .int .u64 ((limb 3 (powM m 5 ((m - 1) / 2 ^ n)) : Nat) : Int)]) ∧ Below w.heap.size w w' := by
  have hgl := hG.lt
  have DF : ∀ w, Calls Tryz.prog 115 #[.agg #[.int .u64 ((limb 0 (m) : Nat) : Int), .int .u64 ((limb 1 (m) : Nat) : Int), .int .u64 ((limb 2 (m) : Nat) : Int), .int .u64 ((limb 3 (m) : Nat) : Int)], .agg #[.int .u64 0, .int .u64 0, .int .u64 0, .int .u64 0], .agg #[.int .u64 ((limb 0 (1) : Nat) : Int), .int .u64 ((limb 1 (1) : Nat) : Int), .int .u64 ((limb 2 (1) : Nat) : Int), .int .u64 ((limb 3 (1) : Nat) : Int)]] w fun e w' => e = .returned (.agg #[.int .u64 ((limb 0 (m - 1) : Nat) : Int), .int .u64 ((limb 1 (m - 1) : Nat) : Int), .int .u64 ((limb 2 (m - 1) : Nat) : Int), .int .u64 ((limb 3 (m - 1) : Nat) : Int)]) ∧ Below w.heap.size w w' := fun w => by
    have h := difference_any m 0 1 hgl.2.2 (by decide) (by decide) (by omega) w
    rw [show diffN m 0 1 = m - 1 from by unfold diffN; rw [if_pos (by decide)]; omega, limbz, limbz, limbz, limbz] at h
    exact h
  have SD := fun w => shiftDown_any (m - 1) n hn (by omega) w
  have le : (m - 1) / 2 ^ n < 115792089237316195423570985008687907853269984665640564039457584007913129639936 := Nat.lt_of_le_of_lt (Nat.div_le_self _ _) (by omega)
  have PW : ∀ w, Glob w → Calls Tryz.prog 128 #[.agg #[.int .u64 ((limb 0 (m) : Nat) : Int), .int .u64 ((limb 1 (m) : Nat) : Int), .int .u64 ((limb 2 (m) : Nat) : Int), .int .u64 ((limb 3 (m) : Nat) : Int)], .agg #[.int .u64 5, .int .u64 0, .int .u64 0, .int .u64 0], .agg #[.int .u64 ((limb 0 ((m - 1) / 2 ^ n) : Nat) : Int), .int .u64 ((limb 1 ((m - 1) / 2 ^ n) : Nat) : Int), .int .u64 ((limb 2 ((m - 1) / 2 ^ n) : Nat) : Int), .int .u64 ((limb 3 ((m - 1) / 2 ^ n) : Nat) : Int)]] w fun e w' => e = .returned (.agg #[.int .u64 ((limb 0 (powM m 5 ((m - 1) / 2 ^ n)) : Nat) : Int), .int .u64 ((limb 1 (powM m 5 ((m - 1) / 2 ^ n)) : Nat) : Int), .int .u64 ((limb 2 (powM m 5 ((m - 1) / 2 ^ n)) : Nat) : Int), .int .u64 ((limb 3 (powM m 5 ((m - 1) / 2 ^ n)) : Nat) : Int)]) ∧ Below w.heap.size w w' := fun w hg => by
    have h := power_any m 5 ((m - 1) / 2 ^ n) hG (by omega) h5 le w hg
    rw [word_agg 5 (by decide)] at h
    exact h
  obtain ⟨d, ed⟩ : ∃ d, d = m - 1 := ⟨_, rfl⟩
  rw [← ed] at DF SD PW ⊢
  obtain ⟨t, et⟩ : ∃ t, t = d / 2 ^ n := ⟨_, rfl⟩
  rw [← et] at SD PW ⊢
  obtain ⟨r, er⟩ : ∃ r, r = powM m 5 t := ⟨_, rfl⟩
  rw [← er] at PW ⊢
  clear ed et er le hgl hG h5
  have c1 := hg.2.2
  have lg := hg.1
  go_enter Tryz.func127, Tryz.ntmps127
  go_wp2_with fail
  obtain ⟨w0, hw0⟩ : ∃ w0 : World, w0 = (w.alloc (.cells #[.int .u64 ((limb 0 (m) : Nat) : Int), .int .u64 ((limb 1 (m) : Nat) : Int), .int .u64 ((limb 2 (m) : Nat) : Int), .int .u64 ((limb 3 (m) : Nat) : Int)] 154)).alloc (.cells #[.int .u64 0, .int .u64 0, .int .u64 0, .int .u64 0] 154) := ⟨_, rfl⟩
  have bm0 : Blk w0 154 w.heap.size (fun i => limb i m) := by rw [hw0]; exact (Blk.newAt _ _ _ (fun i => limb i m) rfl).alloc _
  have br0 : Blk w0 154 (w.heap.size + 1) (fun _ => 0) := by rw [hw0]; exact Blk.newAt _ _ _ (fun _ => 0) (by simp)
  have hg0 : Glob w0 := by rw [hw0]; exact (hg.alloc _).alloc _
  have hb0 : Below w.heap.size w w0 := by
    rw [hw0]
    repeat (first | with_reducible exact Below.refl _ _ | with_reducible refine Below.alloc ?_ (by first | omega | (simp; omega) | simp) _)
  rw [← hw0]
  clear hw0 hg c1
  have co : ∀ i, i < 4 → w0.drew.cell? ⟨2, i, none⟩ = some (.int .u64 ((limb i 1 : Nat) : Int)) := hg0.2.2
  have hg0d := hg0.drew
  clear hg0
  go_region_held3 (fun w' => (∀ i, i < 4 → w'.cell? ⟨w.heap.size, i, none⟩ = some (.int .u64 ((limb i m : Nat) : Int))) ∧ (∀ i, i < 4 → w'.cell? ⟨2, i, none⟩ = some (.int .u64 ((limb i 1 : Nat) : Int))))
    (first | with_reducible exact far2 _ _ _ _ (by omega) (by omega) (by with_reducible assumption) | with_reducible exact hold2 hb3 (by with_reducible assumption) | with_reducible exact hold2 hb2 (by with_reducible assumption) | with_reducible exact hold2 hb1 (by with_reducible assumption) | with_reducible exact ⟨bm0.drew.cell, co⟩)
    (first | (go_at_call 115; with_reducible refine (DF _).mono ?_; rintro e w1 ⟨rfl, hb1⟩; have hg1 := hg0d.below hb1) | (go_at_call 159; with_reducible refine (SD _).mono ?_; rintro e w2 ⟨rfl, hb2⟩; have hg2 := hg1.below hb2) | (go_at_call 128; with_reducible refine (PW _ hg2).mono ?_; rintro e w3 ⟨rfl, hb3⟩; have br3 := ((br0.drew.belowAll hb1).belowAll hb2).belowAll hb3; have cr := br3.cell; have fr := br3.frozen) | fail)
  all_goals
    have hbw3 := bStep (bStep (bStep hb0.drew hb1) hb2) hb3
    have lr3 := br3.lt
    go_wp2
    refine bodyPost_ret (v := .agg #[.int .u64 ((limb 0 (r) : Nat) : Int), .int .u64 ((limb 1 (r) : Nat) : Int), .int .u64 ((limb 2 (r) : Nat) : Int), .int .u64 ((limb 3 (r) : Nat) : Int)]) (by simp [results, Tryz.results127, go_sem, cr]) rfl ⟨rfl, ?_⟩
    repeat (first | with_reducible exact hbw3 | with_reducible refine Below.setCell ?_ (by first | omega | (simp; omega) | simp) _)
/-- The element of the order 2^k that field.Root answers. -/
def rootP (s k : Nat) : Nat := expP s 5 ((modN s - 1) / 2 ^ k)
theorem rootP_lt (s k : Nat) : rootP s k < modN s := expP_lt _ _ _
theorem modN_5 (s : Nat) : 5 < modN s := by
  match s with
  | 0 => decide
  | 1 => decide
  | 2 => show 5 < 28948022309329048855892746252171976963363056481941560715954676764349967630337; decide
  | _ + 3 => show 5 < 28948022309329048855892746252171976963363056481941647379679742748393362948097; decide
theorem adicN_le (s : Nat) : adicN s ≤ 32 := by
  match s with
  | 0 => decide
  | 1 => decide
  | _ + 2 => exact Nat.le_refl _
set_option maxHeartbeats 4000000 in
set_option maxRecDepth 20000 in
/-- field.Root of a sort and an order that there are. -/
theorem fRoot_any (s k : Nat) (hs : s < 4) (hk : k ≤ adicN s) (w : World) (hg : Glob w) :
    Calls Tryz.prog 95 #[.int .i64 (s : Int), .int .i64 (k : Int)] w fun e w' => e = .returned (.tuple #[.agg #[.int .u64 ((limb 0 (rootP s k) : Nat) : Int), .int .u64 ((limb 1 (rootP s k) : Nat) : Int), .int .u64 ((limb 2 (rootP s k) : Nat) : Int), .int .u64 ((limb 3 (rootP s k) : Nat) : Int)], .int .i64 0]) ∧ Below w.heap.size w w' := by
  have ha := adicN_le s
  have HM := fun w hg => modulus_any s hs w hg
  have UR := fun w hg => unityRoot_any (modN s) k (modN_good s) (modN_5 s) (by omega) w hg
  have ER : Hid (rootP s k = powM (modN s) 5 ((modN s - 1) / 2 ^ k)) := rfl
  obtain ⟨r, er⟩ : ∃ r, r = powM (modN s) 5 ((modN s - 1) / 2 ^ k) := ⟨_, rfl⟩
  rw [← er] at UR ER
  obtain ⟨m, em⟩ : ∃ m, m = modN s := ⟨_, rfl⟩
  rw [← em] at HM UR
  clear er em
  have TE := fun w => toElem_any r w
  have cAd : ∀ w : World, Glob w → w.cell? ⟨1, 5 * s + 4, none⟩ = some (.int .i64 ((adicN s : Nat) : Int)) := fun w hg => (hg.2.1 s hs).2
  obtain ⟨A, eA⟩ : ∃ A, A = adicN s := ⟨_, rfl⟩
  rw [← eA] at cAd hk ha
  clear eA
  have hk0 : ¬ (k : Int) < 0 := by omega
  have hkA : ¬ (A : Int) < (k : Int) := by omega
  have hs4 : s = 0 ∨ s = 1 ∨ s = 2 ∨ s = 3 := by omega
  clear hs
  rcases hs4 with rfl | rfl | rfl | rfl
  all_goals
    go_enter Tryz.func95, Tryz.ntmps95
    go_wp2_with fail
    obtain ⟨w0, hw0⟩ : ∃ w0 : World, w0 = w.alloc (.cells #[.int .u64 0, .int .u64 0, .int .u64 0, .int .u64 0] 25) := ⟨_, rfl⟩
    have br0 : Blk w0 25 w.heap.size (fun _ => 0) := by rw [hw0]; exact Blk.newAt _ _ _ (fun _ => 0) (by simp)
    have hg0 : Glob w0 := by rw [hw0]; exact hg.alloc _
    have hb0 : Below w.heap.size w w0 := by rw [hw0]; exact (Below.refl _ _).alloc (Nat.le_refl _) _
    rw [← hw0]
    clear hw0 hg
    refine (HM _ hg0).mono ?_
    rintro e w1 ⟨rfl, hb1⟩
    have br1 := br0.belowAll hb1; have hg1 := hg0.below hb1
    have hbw1 := bStep hb0 hb1
    have lr1 := br1.lt
    clear br0 hb0 hb1 hg0 HM
    obtain ⟨w2, hw2⟩ : ∃ w2 : World, w2 = w1.alloc (.cells #[.int .u64 ((limb 0 (m) : Nat) : Int), .int .u64 ((limb 1 (m) : Nat) : Int), .int .u64 ((limb 2 (m) : Nat) : Int), .int .u64 ((limb 3 (m) : Nat) : Int)] 154) := ⟨_, rfl⟩
    have br2 : Blk w2 25 w.heap.size (fun _ => 0) := by rw [hw2]; exact br1.alloc _
    have bm2 : Blk w2 154 w1.heap.size (fun i => limb i m) := by rw [hw2]; exact Blk.new w1 _ (fun i => limb i m)
    have hg2 : Glob w2 := by rw [hw2]; exact hg1.alloc _
    have hbw2 : Below w.heap.size w w2 := by rw [hw2]; exact bAlloc hbw1 _
    have cA := cAd w2 hg2
    have lg2 : 1 < w2.heap.size := by have := hg2.1; omega
    go_upto_region 4 with fail
    rw [← hw2]
    clear hw2 br1 hbw1 hg1 cAd
    have cm := bm2.cell
    go_wp2_with fail
    refine (UR _ hg2).mono ?_
    rintro e w3 ⟨rfl, hb3⟩
    have br3 := br2.belowAll hb3
    have hbw3 := bStep hbw2 hb3
    clear br2 bm2 hg2 hbw2 hb3 cm UR cA
    go_wp2_with fail
    refine (TE _).mono ?_
    rintro e w4 ⟨rfl, hb4⟩
    have br4 := br3.belowAll hb4
    have hbw4 := bStep hbw3 hb4
    have cr := br4.cell; have fr := br4.frozen; have lr := br4.lt
    clear br3 hbw3 hb4
    go_wp2
    refine bodyPost_ret (v := .tuple #[.agg #[.int .u64 ((limb 0 (r) : Nat) : Int), .int .u64 ((limb 1 (r) : Nat) : Int), .int .u64 ((limb 2 (r) : Nat) : Int), .int .u64 ((limb 3 (r) : Nat) : Int)], .int .i64 0]) (by simp [results, Tryz.results95, go_sem, cr]) rfl ⟨by rw [ER.out], ?_⟩
    repeat (first | with_reducible exact hbw4 | with_reducible refine Below.setCell ?_ (by first | omega | (simp; omega) | simp) _)
end Go.Proofs.YtfbfenljfdnggaaGreatDoor
