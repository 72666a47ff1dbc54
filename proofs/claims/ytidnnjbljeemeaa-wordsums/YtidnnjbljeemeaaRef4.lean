/- What the reference's Sub and Less do. -/
import Derived.Test.YtidnnjbljeemeaaRef3
import Derived.Test.YtidnnjbljeemeaaStep
namespace Go.Proofs.Ytidnnjbljeemeaa
open Go.RowKit

theorem sub_back' (A B : Nat) (hA : A < 115792089237316195423570985008687907853269984665640564039457584007913129639936) (hB : B < 115792089237316195423570985008687907853269984665640564039457584007913129639936) : sub256 A B + B = A + 115792089237316195423570985008687907853269984665640564039457584007913129639936 * (if below256 A B then 1 else 0) := by
  have := sub_back A B hA hB; omega
theorem sub_bit (A B k : Nat) (hA : A < 115792089237316195423570985008687907853269984665640564039457584007913129639936) (hB : B < 115792089237316195423570985008687907853269984665640564039457584007913129639936) (hk : k < 256) : bitN (sub256 A B + B) k = bitN A k := by
  rw [← bitN_mod _ _ hk, sub_back' A B hA hB, Nat.add_mul_mod_self_left, Nat.mod_eq_of_lt hA]
theorem borrow_step (A B k : Nat) (hA : A < 115792089237316195423570985008687907853269984665640564039457584007913129639936) (hB : B < 115792089237316195423570985008687907853269984665640564039457584007913129639936) (hk : k < 256) :
    bitN (sub256 A B) k + bitN B k + carryN (sub256 A B) B k = bitN A k + 2 * carryN (sub256 A B) B (k + 1) ∧ carryN (sub256 A B) B k ≤ 1 ∧ carryN (sub256 A B) B (k + 1) ≤ 1 := by
  have st := carry_step (sub256 A B) B k
  rw [sub_bit A B k hA hB hk] at st
  exact ⟨st.1, st.2, (carry_step (sub256 A B) B (k + 1)).2⟩
theorem borrow_end (A B : Nat) (hA : A < 115792089237316195423570985008687907853269984665640564039457584007913129639936) (hB : B < 115792089237316195423570985008687907853269984665640564039457584007913129639936) : (((carryN (sub256 A B) B 256 : Nat) : Int) == 1) = below256 A B := by
  rw [carry_over _ _ (sub256_lt _ _) hB, Bool.eq_iff_iff]
  have h := sub_back A B hA hB
  have hl := sub256_lt A B
  unfold over256
  by_cases hc : below256 A B = true
  · simp only [hc, if_true, decide_eq_true_eq, iff_true] at h ⊢; omega
  · have hf : below256 A B = false := by simpa using hc
    simp only [hf, Bool.false_eq_true, if_false, decide_eq_true_eq, iff_false] at h ⊢; omega

set_option maxHeartbeats 4000000 in
set_option maxRecDepth 20000 in
/-- The reference's Sub. -/
theorem refSub_any (A B : Nat) (hA : A < 115792089237316195423570985008687907853269984665640564039457584007913129639936) (hB : B < 115792089237316195423570985008687907853269984665640564039457584007913129639936) (w : World) :
    Calls Try.prog 14 #[.agg #[.int .u64 ((limb 0 (A) : Nat) : Int), .int .u64 ((limb 1 (A) : Nat) : Int), .int .u64 ((limb 2 (A) : Nat) : Int), .int .u64 ((limb 3 (A) : Nat) : Int)], .agg #[.int .u64 ((limb 0 (B) : Nat) : Int), .int .u64 ((limb 1 (B) : Nat) : Int), .int .u64 ((limb 2 (B) : Nat) : Int), .int .u64 ((limb 3 (B) : Nat) : Int)]] w fun e w' => e = .returned (.tuple #[.agg #[.int .u64 ((limb 0 (sub256 A B) : Nat) : Int), .int .u64 ((limb 1 (sub256 A B) : Nat) : Int), .int .u64 ((limb 2 (sub256 A B) : Nat) : Int), .int .u64 ((limb 3 (sub256 A B) : Nat) : Int)], .bool (below256 A B)]) ∧ Below w.heap.size w w' := by
  obtain ⟨i0, hi, hz0, hz1, hz2⟩ := intInfo
  have HI := (show Hid _ from hi); have HZ := (show Hid _ from And.intro hz0 (And.intro hz1 hz2)); clear hi hz0 hz1 hz2
  go_enter Try.func14, Try.ntmps14
  go_wp2_with fail
  obtain ⟨w0, hw0⟩ : ∃ w0 : World, w0 = ((w.alloc (.cells #[.int .u64 ((limb 0 (A) : Nat) : Int), .int .u64 ((limb 1 (A) : Nat) : Int), .int .u64 ((limb 2 (A) : Nat) : Int), .int .u64 ((limb 3 (A) : Nat) : Int)] 24)).alloc (.cells #[.int .u64 ((limb 0 (B) : Nat) : Int), .int .u64 ((limb 1 (B) : Nat) : Int), .int .u64 ((limb 2 (B) : Nat) : Int), .int .u64 ((limb 3 (B) : Nat) : Int)] 24)).alloc (.cells #[.int .u64 0, .int .u64 0, .int .u64 0, .int .u64 0] 24) := ⟨_, rfl⟩
  have bb : Blk w0 24 (w.heap.size + 1) (fun i => limb i B) := by rw [hw0]; exact (Blk.newAt _ _ _ (fun i => limb i B) (by simp)).alloc _
  have br : Blk w0 24 (w.heap.size + 1 + 1) (fun _ => 0) := by rw [hw0]; exact Blk.newAt _ _ _ (fun _ => 0) (by simp)
  have hb0 : Below w.heap.size w w0 := by
    rw [hw0]
    repeat (first | with_reducible exact Below.refl _ _ | with_reducible refine Below.alloc ?_ (by first | omega | (simp; omega) | simp) _)
  rw [← hw0]
  clear hw0
  refine (bits_any A _).mono ?_
  rintro e w1 ⟨ga, ca, rfl, hca, hga0, hga, hcA, hb1⟩
  have bb1 := bb.belowAll hb1
  have br1 := br.belowAll hb1
  have hbw1 := bStep hb0 hb1
  have HA := (show Hid _ from hcA)
  clear bb br hb0 hb1 hcA
  have cb1 := bb1.cell
  go_wp2_with fail
  refine (bits_any B _).mono ?_
  rintro e w2 ⟨gb, cb, rfl, hcb, hgb0, hgb, hcB, hb2⟩
  have br2 := br1.belowAll hb2
  have hbw2 := bStep hbw1 hb2
  have hga2 : ga < w2.heap.size := Nat.lt_of_lt_of_le hga hb2.size
  have hcA2 : ∀ i, i < 256 → w2.cell? ⟨ga, i, none⟩ = some (.int .i64 ((bitN A i : Nat) : Int)) := fun i hi => by rw [hb2.cell (p := ⟨ga, i, none⟩) hga]; exact HA.out i hi
  have HA2 := (show Hid _ from hcA2); have HB2 := (show Hid _ from hcB)
  clear bb1 br1 hbw1 hb2 HA hcA2 hcB cb1 hga hga0 hgb0 hca hcb
  have hz2 := br2.lt
  go_wp2
  go_loopw [8, 9, 10] (fun out c i wr => ∃ k : Nat, i = .int .i64 (k : Int) ∧ k ≤ 256 ∧ c = .int .i64 ((carryN (sub256 A B) B k : Nat) : Int) ∧ Below w2.heap.size w2 wr ∧ wr.ownsRow w2.heap.size 3 1 out k (bl (sub256 A B) k)) (fun _ _ i _ => 256 - (intOf i).toNat)
  case atStart =>
    refine ⟨0, rfl, by decide, by rw [carryN_zero]; rfl, (Below.refl _ _).alloc (Nat.le_refl _) _, ?_⟩
    exact ⟨rfl, Or.inr ⟨w2.heap.size, 0, #[], rfl, Nat.le_refl _, new_block _ _, Nat.le_refl _, by decide, rfl, rfl⟩⟩
  case round =>
    obtain ⟨k, rfl, hk, rfl, hbr, hown⟩ := hrel
    have hsz := hbr.size
    by_cases hlt : k < 256
    · have hki : (k : Int) < 256 := by omega
      have cA : wr.cell? ⟨ga, k, none⟩ = some (.int .i64 ((bitN A k : Nat) : Int)) := by rw [hbr.cell (p := ⟨ga, k, none⟩) hga2]; exact HA2.out k hlt
      have cB : wr.cell? ⟨gb, k, none⟩ = some (.int .i64 ((bitN B k : Nat) : Int)) := by rw [hbr.cell (p := ⟨gb, k, none⟩) hgb]; exact HB2.out k hlt
      have st := borrow_step A B k hA hB hlt
      have hbA : bitN A k ≤ 1 := by unfold bitN; omega
      have hbB : bitN B k ≤ 1 := by unfold bitN; omega
      have hbS : bitN (sub256 A B) k ≤ 1 := by unfold bitN; omega
      obtain ⟨a, ea⟩ : ∃ a : Int, a = ((bitN A k : Nat) : Int) := ⟨_, rfl⟩
      obtain ⟨b, eb⟩ : ∃ b : Int, b = ((bitN B k : Nat) : Int) := ⟨_, rfl⟩
      obtain ⟨c, ec⟩ : ∃ c : Int, c = ((carryN (sub256 A B) B k : Nat) : Int) := ⟨_, rfl⟩
      obtain ⟨s, es⟩ : ∃ s : Int, s = ((bitN (sub256 A B) k : Nat) : Int) := ⟨_, rfl⟩
      have a0 : 0 ≤ a := by omega
      have a1 : a ≤ 1 := by omega
      have b0 : 0 ≤ b := by omega
      have b1 : b ≤ 1 := by omega
      have c0 : 0 ≤ c := by omega
      have c1 : c ≤ 1 := by omega
      rw [← ea] at cA
      rw [← eb] at cB
      rw [← ec]
      have ES := (show Hid _ from es)
      by_cases hn : carryN (sub256 A B) B (k + 1) = 1
      · have d1 : a - b - c + 2 = s := by omega
        have d2 : a - b - c < 0 := by omega
        have HN := (show Hid _ from hn); have D1 := (show Hid _ from d1)
        clear st hbA hbB hbS ea eb ec es hn d1
        go_wp2_with fail
        go_quiet (fail)
        go_wp2_with (first
          | (at_builtin; refine wpList_append_own _ rfl _ _ 29 rfl w2.heap.size 3 i0 (.int .i64 0) 1 8 Try.underlying29 HI.out HZ.out.1 HZ.out.2.1 HZ.out.2.2 rfl (by decide) _ k (bl (sub256 A B) k) rfl ?c0 ⟨wr.heap.size, 0, none⟩ 1 1 [.int .i64 (a - b - c + 2)] rfl rfl ?c1 ?c2 ?c3 ?c4 ?c5 ?_)
          | go_in)
        case c0 => exact World.ownsRow.alloc (w := wr.drewN _) hown _
        case c1 =>
          intro j u hj
          match j, hj with
          | 0, hj => simp at hj; subst hj; simp only [Addr.add]; exact World.cell?_alloc_at _ _ _ _ rfl
        case c2 => intro u hu; simp at hu; subst hu; rfl
        case c3 => unfold maxLen; omega
        case c4 => omega
        case c5 => simp; omega
        intro v' w3 hown' hgrow _
        go_wp2
        go_roundw
        case measure => simp [intOf]; omega
        case rel =>
          have hBe : Below w2.heap.size wr w3 := ((below_drewN (Below.refl _ wr) _).alloc hsz _).grown hgrow (by simp; omega) (fun j hj => own_block_ge hown hj)
          refine ⟨k + 1, by go_num, by omega, by rw [HN.out]; rfl, hbr.trans hBe, ?_⟩
          rw [bl_succ, ← ES.out, ← D1.out]
          exact hown'
      · have hn0 : carryN (sub256 A B) B (k + 1) = 0 := by omega
        have d1 : a - b - c = s := by omega
        have HN := (show Hid _ from hn0); have D1 := (show Hid _ from d1)
        have s0 : ¬ s < 0 := by omega
        have s1 : s ≤ 1 := by omega
        clear st hbA hbB hbS ea eb ec es hn hn0 d1
        go_wp2_with fail
        go_quiet (fail)
        rw [D1.out]
        clear a0 a1 b0 b1 c0 c1
        go_wp2_with (first
          | (at_builtin; refine wpList_append_own _ rfl _ _ 29 rfl w2.heap.size 3 i0 (.int .i64 0) 1 8 Try.underlying29 HI.out HZ.out.1 HZ.out.2.1 HZ.out.2.2 rfl (by decide) _ k (bl (sub256 A B) k) rfl ?c0 ⟨wr.heap.size, 0, none⟩ 1 1 [.int .i64 s] rfl rfl ?c1 ?c2 ?c3 ?c4 ?c5 ?_)
          | go_in)
        case c0 => exact World.ownsRow.alloc (w := wr.drewN _) hown _
        case c1 =>
          intro j u hj
          match j, hj with
          | 0, hj => simp at hj; subst hj; simp only [Addr.add]; exact World.cell?_alloc_at _ _ _ _ rfl
        case c2 => intro u hu; simp at hu; subst hu; rfl
        case c3 => unfold maxLen; omega
        case c4 => omega
        case c5 => simp; omega
        intro v' w3 hown' hgrow _
        go_wp2
        go_roundw
        case measure => simp [intOf]; omega
        case rel =>
          have hBe : Below w2.heap.size wr w3 := ((below_drewN (Below.refl _ wr) _).alloc hsz _).grown hgrow (by simp; omega) (fun j hj => own_block_ge hown hj)
          refine ⟨k + 1, by go_num, by omega, by rw [HN.out]; rfl, hbr.trans hBe, ?_⟩
          rw [bl_succ, ← ES.out]
          exact hown'
    · have hki : ¬ (k : Int) < 256 := by omega
      have hk6 : k = 256 := by omega
      subst hk6
      obtain ⟨g, cg, rfl, h1, h2, h3, h4⟩ := own_cells hown (by decide)
      have br3 := br2.belowAll hbr
      have hcN : ∀ i, i < 256 → wr.cell? ⟨g, 0 + i, none⟩ = some (.int .i64 ((bitN (sub256 A B) i : Nat) : Int)) := by
        intro i hi; rw [Nat.zero_add, h4 i hi, bl_get _ _ _ hi]
      have HCN := (show Hid _ from hcN)
      have hbe := borrow_end A B hA hB
      obtain ⟨x, hx⟩ : ∃ x : Int, x = ((carryN (sub256 A B) B 256 : Nat) : Int) := ⟨_, rfl⟩
      rw [← hx] at hbe ⊢
      have HE := (show Hid _ from hbe)
      have hbw3 := bStep hbw2 hbr
      clear hcN hbe hx h4 hown HA2 HB2
      go_wp2_with fail
      refine (elem_any (sub256 A B) g 0 256 cg (sub256_lt _ _) (by decide) (by decide) wr h3 HCN.out).mono ?_
      rintro e w4 ⟨rfl, hb4⟩
      have br4 := br3.belowAll hb4
      have c4 := br4.cell; have f4 := br4.frozen
      have hbw4 := bStep hbw3 hb4
      go_wp2
      refine bodyPost_ret (v := .tuple #[.agg #[.int .u64 ((limb 0 (sub256 A B) : Nat) : Int), .int .u64 ((limb 1 (sub256 A B) : Nat) : Int), .int .u64 ((limb 2 (sub256 A B) : Nat) : Int), .int .u64 ((limb 3 (sub256 A B) : Nat) : Int)], .bool (x == 1)]) (by simp [results, Try.results14, go_sem, c4]) rfl ⟨by rw [HE.out], ?_⟩
      repeat (first | with_reducible exact hbw4 | with_reducible refine Below.setCell ?_ (by first | omega | (simp; omega) | simp) _)

end Go.Proofs.Ytidnnjbljeemeaa
