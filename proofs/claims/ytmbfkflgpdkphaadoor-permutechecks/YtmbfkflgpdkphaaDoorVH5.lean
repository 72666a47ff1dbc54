/- Products and powers at a sort that there isn't; the second reference's Exp. -/
import Derived.Test.YtmbfkflgpdkphaaDoorVH4
namespace Go.Proofs.YtmbfkflgpdkphaaDoor
open Go.RowKit
theorem top_less (e j : Nat) (h : e < 2 ^ (j + 1)) (hb : bitN e j = 0) : e < 2 ^ j := by
  unfold bitN at hb
  rcases Nat.lt_or_ge e (2 ^ j) with h1 | h1
  · exact h1
  · have h2 : 1 ≤ e / 2 ^ j := (Nat.le_div_iff_mul_le (Nat.two_pow_pos _)).2 (by omega)
    have h3 : e / 2 ^ j < 2 := (Nat.div_lt_iff_lt_mul (Nat.two_pow_pos _)).2 (by rw [Nat.pow_succ] at h; omega)
    omega
set_option maxHeartbeats 8000000 in
set_option maxRecDepth 20000 in
theorem rexp_gen (s : Int) (a e : Nat) (ha : a < 115792089237316195423570985008687907853269984665640564039457584007913129639936) (he : e < 115792089237316195423570985008687907853269984665640564039457584007913129639936) (mo : Nat → Nat → Nat) (P : Nat → Nat) (hP : ∀ n, P n < 115792089237316195423570985008687907853269984665640564039457584007913129639936) (h2 : ∀ n, mo (P n) (P n) = P (2 * n)) (h3 : ∀ n, mo (P (2 * n)) a = P (2 * n + 1))
    (O : ∀ w, Calls Tryd.prog 23 #[.int .i64 s, .agg #[.int .u64 1, .int .u64 0, .int .u64 0, .int .u64 0]] w fun r w' => r = .returned (.agg #[.int .u64 ((limb 0 (P 0) : Nat) : Int), .int .u64 ((limb 1 (P 0) : Nat) : Int), .int .u64 ((limb 2 (P 0) : Nat) : Int), .int .u64 ((limb 3 (P 0) : Nat) : Int)]) ∧ Below w.heap.size w w')
    (MC : ∀ x y w, x < 115792089237316195423570985008687907853269984665640564039457584007913129639936 → y < 115792089237316195423570985008687907853269984665640564039457584007913129639936 → Calls Tryd.prog 31 #[.int .i64 s, .agg #[.int .u64 ((limb 0 (x) : Nat) : Int), .int .u64 ((limb 1 (x) : Nat) : Int), .int .u64 ((limb 2 (x) : Nat) : Int), .int .u64 ((limb 3 (x) : Nat) : Int)], .agg #[.int .u64 ((limb 0 (y) : Nat) : Int), .int .u64 ((limb 1 (y) : Nat) : Int), .int .u64 ((limb 2 (y) : Nat) : Int), .int .u64 ((limb 3 (y) : Nat) : Int)]] w fun r w' => r = .returned (.agg #[.int .u64 ((limb 0 (mo x y) : Nat) : Int), .int .u64 ((limb 1 (mo x y) : Nat) : Int), .int .u64 ((limb 2 (mo x y) : Nat) : Int), .int .u64 ((limb 3 (mo x y) : Nat) : Int)]) ∧ Below w.heap.size w w') (w : World) :
    Calls Tryd.prog 63 #[.int .i64 s, .agg #[.int .u64 ((limb 0 (a) : Nat) : Int), .int .u64 ((limb 1 (a) : Nat) : Int), .int .u64 ((limb 2 (a) : Nat) : Int), .int .u64 ((limb 3 (a) : Nat) : Int)], .agg #[.int .u64 ((limb 0 (e) : Nat) : Int), .int .u64 ((limb 1 (e) : Nat) : Int), .int .u64 ((limb 2 (e) : Nat) : Int), .int .u64 ((limb 3 (e) : Nat) : Int)]] w fun r w' => r = .returned (.agg #[.int .u64 ((limb 0 (P e) : Nat) : Int), .int .u64 ((limb 1 (P e) : Nat) : Int), .int .u64 ((limb 2 (P e) : Nat) : Int), .int .u64 ((limb 3 (P e) : Nat) : Int)]) ∧ Below w.heap.size w w' := by
  have H2 := (show Hid _ from h2); have H3 := (show Hid _ from h3); have HP := (show Hid _ from hP)
  have HM : Unit → _ := fun _ => MC
  clear h2 h3 hP MC
  go_enter Tryd.func63, Tryd.ntmps63
  go_wp2_with fail
  obtain ⟨w0, hw0⟩ : ∃ w0 : World, w0 = ((w.alloc (.cells #[.int .u64 ((limb 0 (a) : Nat) : Int), .int .u64 ((limb 1 (a) : Nat) : Int), .int .u64 ((limb 2 (a) : Nat) : Int), .int .u64 ((limb 3 (a) : Nat) : Int)] 24)).alloc (.cells #[.int .u64 ((limb 0 (e) : Nat) : Int), .int .u64 ((limb 1 (e) : Nat) : Int), .int .u64 ((limb 2 (e) : Nat) : Int), .int .u64 ((limb 3 (e) : Nat) : Int)] 24)).alloc (.cells #[.int .u64 0, .int .u64 0, .int .u64 0, .int .u64 0] 24) := ⟨_, rfl⟩
  have ba0 : Blk w0 24 (w.heap.size) (fun i => limb i a) := by rw [hw0]; exact (((Blk.newAt _ _ _ (fun i => limb i a) (by simp)).alloc _).alloc _)
  have be0 : Blk w0 24 (w.heap.size + 1) (fun i => limb i e) := by rw [hw0]; exact ((Blk.newAt _ _ _ (fun i => limb i e) (by simp)).alloc _)
  have br0 : Blk w0 24 (w.heap.size + 1 + 1) (fun _ => 0) := by rw [hw0]; exact Blk.newAt _ _ _ (fun _ => 0) (by simp)
  have hb0 : Below w.heap.size w w0 := by
    rw [hw0]
    repeat (first | with_reducible exact Below.refl _ _ | with_reducible refine Below.alloc ?_ (by first | omega | (simp; omega) | simp) _)
  rw [← hw0]
  clear hw0
  refine (O _).mono ?_
  rintro r w1 ⟨rfl, hb1⟩
  have ba1 := ba0.belowAll hb1; have be1 := be0.belowAll hb1; have br1 := br0.belowAll hb1
  have hbw1 := bStep hb0 hb1
  have hr1 := br1.lt
  clear ba0 be0 br0 hb0 hb1 O
  go_upto_block 0 with fail
  obtain ⟨w2, hw2⟩ : ∃ w2 : World, w2 = w1.alloc (.cells #[.int .u64 ((limb 0 (P 0) : Nat) : Int), .int .u64 ((limb 1 (P 0) : Nat) : Int), .int .u64 ((limb 2 (P 0) : Nat) : Int), .int .u64 ((limb 3 (P 0) : Nat) : Int)] 24) := ⟨_, rfl⟩
  have ba2 : Blk w2 24 w.heap.size (fun i => limb i a) := by rw [hw2]; exact ba1.alloc _
  have be2 : Blk w2 24 (w.heap.size + 1) (fun i => limb i e) := by rw [hw2]; exact be1.alloc _
  have br2 : Blk w2 24 (w.heap.size + 1 + 1) (fun _ => 0) := by rw [hw2]; exact br1.alloc _
  have bo2 : Blk w2 24 w1.heap.size (fun i => limb i (P 0)) := by rw [hw2]; exact Blk.new w1 _ (fun i => limb i (P 0))
  have hbw2 : Below w.heap.size w w2 := by rw [hw2]; exact bAlloc hbw1 _
  rw [← hw2]
  clear hw2 ba1 be1 br1 hbw1
  go_cut [8] (fun i wx => ∃ k : Nat, i = .int .i64 ((k : Int) - 1) ∧ k ≤ 256 ∧ Hid (e < 2 ^ k) ∧ wx = w2)
  case first =>
    go_wp2_with fail
    go_loop [8] (fun i => ∃ k : Nat, i = .int .i64 ((k : Int) - 1) ∧ k ≤ 256 ∧ Hid (e < 2 ^ k)) (fun i => (intOf i + 1).toNat)
    case atStart => exact ⟨256, rfl, by decide, he⟩
    case round =>
      obtain ⟨k, rfl, hk, hek⟩ := hrel
      by_cases hk0 : k = 0
      · subst hk0
        go_wp2_with fail
        go_meet
        exact ⟨0, rfl, by decide, hek, rfl⟩
      · obtain ⟨j, rfl⟩ : ∃ j, k = j + 1 := ⟨k - 1, by omega⟩
        obtain ⟨i, ei⟩ : ∃ i : Int, i = ((j + 1 : Nat) : Int) - 1 := ⟨_, rfl⟩
        rw [← ei]
        have hi0 : 0 ≤ i := by omega
        have hq : i / 64 = ((j / 64 : Nat) : Int) := by omega
        have hr : i % 64 = ((j % 64 : Nat) : Int) := by omega
        have hiN : Hid (i - 1 = (j : Int) - 1) := by show _ = _; omega
        have hiE : Hid (i = ((j + 1 : Nat) : Int) - 1) := ei
        have him : Hid ((intOf (.int .i64 i) + 1).toNat = j + 1) := by show (i + 1).toNat = j + 1; omega
        have q4 : j / 64 < 4 := by omega
        have hj : j + 1 ≤ 256 := by omega
        clear ei hk hk0
        have cq := be2.cell (j / 64) q4
        have hA := and_one (limb (j / 64) e) (j % 64) (limb_lt _ _)
        rw [bit_at] at hA
        have hwr : IntKind.u64.wrap ((j % 64 : Nat) : Int) = ((j % 64 : Nat) : Int) := by rw [IntKind.wrap_u64]; omega
        have r6 : j % 64 < 64 := Nat.mod_lt _ (by decide)
        obtain ⟨q, eq⟩ : ∃ q, q = j / 64 := ⟨_, rfl⟩
        obtain ⟨r, er⟩ : ∃ r, r = j % 64 := ⟨_, rfl⟩
        rw [← eq] at cq hA hq q4
        rw [← er] at hA hwr hr r6
        obtain ⟨X, eX⟩ : ∃ X : Int, X = ((limb q e : Nat) : Int) := ⟨_, rfl⟩
        rw [← eX] at cq hA
        clear eq er eX
        rcases bitN_01 e j with hbit | hbit
        · have HL : Hid (e < 2 ^ j) := top_less e j hek.out hbit
          rw [hbit] at hA
          clear hbit hek
          go_wp2
          go_round
          case measure => rw [him.out]; simp [intOf]; have := hiN.out; omega
          case rel => exact ⟨j, by rw [hiN.out], by omega, HL⟩
        · rw [hbit] at hA
          clear hbit
          go_wp2_with fail
          go_meet
          exact ⟨j + 1, by rw [hiE.out], by omega, hek, rfl⟩
  case rest =>
    obtain ⟨k0, rfl, hk0', hek, rfl⟩ := hcut
    go_wp2
    go_loopw [9] (fun i wr => ∃ k : Nat, i = .int .i64 ((k : Int) - 1) ∧ k ≤ 256 ∧ Below w.heap.size w wr ∧ Blk wr 24 w.heap.size (fun i => limb i a) ∧ Blk wr 24 (w.heap.size + 1) (fun i => limb i e) ∧ Blk wr 24 (w.heap.size + 1 + 1) (fun _ => 0) ∧ Blk wr 24 w1.heap.size (fun i => limb i (P (e / 2 ^ k)))) (fun i _ => (intOf i + 1).toNat)
    case atStart =>
      refine ⟨k0, rfl, hk0', hbw2, ba2, be2, br2, ?_⟩
      rw [Nat.div_eq_of_lt hek.out]
      exact bo2
    case round =>
      obtain ⟨k, rfl, hk, hbr, ba, be, br, bo⟩ := hrel
      clear ba2 be2 br2 bo2 hbw2 hek hk0'
      by_cases hk0 : k = 0
      · subst hk0
        rw [Nat.pow_zero, Nat.div_one] at bo
        have lp := HP.out e
        obtain ⟨o, eo⟩ : ∃ o, o = P e := ⟨_, rfl⟩
        rw [← eo] at bo
        have EO := (show Hid _ from eo)
        clear eo lp
        have co := bo.cell; have cr := br.cell; have fr := br.frozen
        go_wp2
        refine bodyPost_ret (v := .agg #[.int .u64 ((limb 0 (o) : Nat) : Int), .int .u64 ((limb 1 (o) : Nat) : Int), .int .u64 ((limb 2 (o) : Nat) : Int), .int .u64 ((limb 3 (o) : Nat) : Int)]) (by simp [results, Tryd.results63, go_sem, cr]) rfl ⟨by rw [EO.out], ?_⟩
        repeat (first | with_reducible exact hbr | with_reducible refine Below.setCell ?_ (by first | omega | (simp; omega) | simp) _)
      · obtain ⟨j, rfl⟩ : ∃ j, k = j + 1 := ⟨k - 1, by omega⟩
        obtain ⟨i, ei⟩ : ∃ i : Int, i = ((j + 1 : Nat) : Int) - 1 := ⟨_, rfl⟩
        rw [← ei]
        have lo := HP.out (e / 2 ^ (j + 1))
        have lq := HP.out (2 * (e / 2 ^ (j + 1)))
        have M1 := fun w => HM () _ _ w lo lo
        rw [H2.out] at M1
        have M2 := fun w => HM () _ _ w lq ha
        rw [H3.out] at M2
        have hbh := bit_halves e j
        have HB := (show Hid _ from hbh)
        clear hbh
        obtain ⟨o, eo⟩ : ∃ o, o = P (e / 2 ^ (j + 1)) := ⟨_, rfl⟩
        rw [← eo] at bo M1
        obtain ⟨d, ed⟩ : ∃ d, d = P (2 * (e / 2 ^ (j + 1))) := ⟨_, rfl⟩
        rw [← ed] at M1 M2
        have ED := (show Hid _ from ed)
        obtain ⟨g, eg⟩ : ∃ g, g = P (2 * (e / 2 ^ (j + 1)) + 1) := ⟨_, rfl⟩
        rw [← eg] at M2
        have EG := (show Hid _ from eg)
        clear eo ed eg lo lq
        have hi0 : 0 ≤ i := by omega
        have hq : i / 64 = ((j / 64 : Nat) : Int) := by omega
        have hr : i % 64 = ((j % 64 : Nat) : Int) := by omega
        have hiN : Hid (i - 1 = (j : Int) - 1) := by show _ = _; omega
        have hiE : Hid (i = ((j + 1 : Nat) : Int) - 1) := ei
        have him : Hid ((intOf (.int .i64 i) + 1).toNat = j + 1) := by show (i + 1).toNat = j + 1; omega
        have q4 : j / 64 < 4 := by omega
        have hj : j + 1 ≤ 256 := by omega
        clear ei hk hk0
        have cq := be.cell (j / 64) q4
        have hA := and_one (limb (j / 64) e) (j % 64) (limb_lt _ _)
        rw [bit_at] at hA
        have hwr : IntKind.u64.wrap ((j % 64 : Nat) : Int) = ((j % 64 : Nat) : Int) := by rw [IntKind.wrap_u64]; omega
        have r6 : j % 64 < 64 := Nat.mod_lt _ (by decide)
        obtain ⟨q, eq⟩ : ∃ q, q = j / 64 := ⟨_, rfl⟩
        obtain ⟨r, er⟩ : ∃ r, r = j % 64 := ⟨_, rfl⟩
        rw [← eq] at cq hA hq q4
        rw [← er] at hA hwr hr r6
        obtain ⟨X, eX⟩ : ∃ X : Int, X = ((limb q e : Nat) : Int) := ⟨_, rfl⟩
        rw [← eX] at cq hA
        have EX := (show Hid _ from eX)
        clear eq er eX
        clear cq
        have co := bo.cell
        go_wp2_with fail
        refine (M1 _).mono ?_
        rintro r' w3 ⟨rfl, hb3⟩
        have ba3 := ba.belowAll hb3; have be3 := be.belowAll hb3; have br3 := br.belowAll hb3; have bo3 := bo.belowAll hb3
        have hbw3 := bStep hbr hb3
        clear ba be br bo hbr hb3 co M1
        have co := bo3.cell; have fo := bo3.frozen
        go_upto_region 9 with fail
        obtain ⟨w4, hw4⟩ : ∃ w4 : World, w4 = (((w3.setCell ⟨w1.heap.size, 0, none⟩ (.int .u64 ((limb 0 (d) : Nat) : Int))).setCell ⟨w1.heap.size, 1, none⟩ (.int .u64 ((limb 1 (d) : Nat) : Int))).setCell ⟨w1.heap.size, 2, none⟩ (.int .u64 ((limb 2 (d) : Nat) : Int))).setCell ⟨w1.heap.size, 3, none⟩ (.int .u64 ((limb 3 (d) : Nat) : Int)) := ⟨_, rfl⟩
        have ba4 : Blk w4 24 w.heap.size (fun i => limb i a) := by rw [hw4]; exact ba3.other4 (by omega) _ _ _ _
        have be4 : Blk w4 24 (w.heap.size + 1) (fun i => limb i e) := by rw [hw4]; exact be3.other4 (by omega) _ _ _ _
        have br4 : Blk w4 24 (w.heap.size + 1 + 1) (fun _ => 0) := by rw [hw4]; exact br3.other4 (by omega) _ _ _ _
        have bo4 : Blk w4 24 w1.heap.size (fun i => limb i d) := by rw [hw4]; exact bo3.set4 (fun i => limb i d)
        have hbw4 : Below w.heap.size w w4 := by rw [hw4]; exact bSet4 hbw3 (by omega) _ _ _ _
        rw [← hw4]
        clear hw4 ba3 be3 br3 bo3 hbw3 co fo
        have cq := be4.cell q q4
        rw [← EX.out] at cq
        rcases bitN_01 e j with hbit | hbit
        · rw [hbit] at hA
          have EF : Hid (P (e / 2 ^ j) = d) := by show _ = _; rw [ED.out, HB.out, hbit, Nat.add_zero]
          clear hbit ED EG HB
          go_wp2
          go_roundw
          case measure => rw [him.out]; simp [intOf]; have := hiN.out; omega
          case rel =>
            refine ⟨j, by rw [hiN.out], by omega, hbw4, ba4, be4, br4, ?_⟩
            rw [EF.out]
            exact bo4
        · rw [hbit] at hA
          have EF : Hid (P (e / 2 ^ j) = g) := by show _ = _; rw [EG.out, HB.out, hbit]
          clear hbit ED EG HB
          have co := bo4.cell; have ca := ba4.cell
          go_wp2_with fail
          refine (M2 _).mono ?_
          rintro r' w5 ⟨rfl, hb5⟩
          have ba5 := ba4.belowAll hb5; have be5 := be4.belowAll hb5; have br5 := br4.belowAll hb5; have bo5 := bo4.belowAll hb5
          have hbw5 := bStep hbw4 hb5
          clear ba4 be4 br4 bo4 hbw4 hb5 co ca cq M2
          have co := bo5.cell; have fo := bo5.frozen
          go_wp2
          go_roundw
          case measure => rw [him.out]; simp [intOf]; have := hiN.out; omega
          case rel =>
            refine ⟨j, by rw [hiN.out], by omega, bSet4 hbw5 (by omega) _ _ _ _, ba5.other4 (by omega) _ _ _ _, be5.other4 (by omega) _ _ _ _, br5.other4 (by omega) _ _ _ _, ?_⟩
            rw [EF.out]
            exact bo5.set4 (fun i => limb i g)
theorem ref2Exp_any (s a e : Nat) (hs : s < 4) (ha : a < 115792089237316195423570985008687907853269984665640564039457584007913129639936) (he : e < 115792089237316195423570985008687907853269984665640564039457584007913129639936) (w : World) :
    Calls Tryd.prog 63 #[.int .i64 (s : Int), .agg #[.int .u64 ((limb 0 (a) : Nat) : Int), .int .u64 ((limb 1 (a) : Nat) : Int), .int .u64 ((limb 2 (a) : Nat) : Int), .int .u64 ((limb 3 (a) : Nat) : Int)], .agg #[.int .u64 ((limb 0 (e) : Nat) : Int), .int .u64 ((limb 1 (e) : Nat) : Int), .int .u64 ((limb 2 (e) : Nat) : Int), .int .u64 ((limb 3 (e) : Nat) : Int)]] w fun r w' => r = .returned (.agg #[.int .u64 ((limb 0 (expP s a e) : Nat) : Int), .int .u64 ((limb 1 (expP s a e) : Nat) : Int), .int .u64 ((limb 2 (expP s a e) : Nat) : Int), .int .u64 ((limb 3 (expP s a e) : Nat) : Int)]) ∧ Below w.heap.size w w' := by
  have hod := (modN_odd s).2
  have hM := modN_lt s
  refine rexp_gen s a e ha he (mulP s) (fun n => expP s a n) (fun n => by have := expP_lt s a n; omega) (fun n => powM_two _ _ _) (fun n => powM_more _ _ _) (fun w => ?_) (fun x y w hx hy => ref2Mul_any s x y hs hx hy w) w
  have h := ref2Of_any s 1 hs (by decide) w
  rw [Nat.mod_eq_of_lt hod, word_agg 1 (by decide)] at h
  show Calls _ _ _ _ fun r w' => r = .returned (.agg #[.int .u64 ((limb 0 (expP s a 0) : Nat) : Int), .int .u64 ((limb 1 (expP s a 0) : Nat) : Int), .int .u64 ((limb 2 (expP s a 0) : Nat) : Int), .int .u64 ((limb 3 (expP s a 0) : Nat) : Int)]) ∧ _
  rw [show expP s a 0 = 1 from powM_zero _ _ hod, word_agg 1 (by decide)]
  exact h
end Go.Proofs.YtmbfkflgpdkphaaDoor
