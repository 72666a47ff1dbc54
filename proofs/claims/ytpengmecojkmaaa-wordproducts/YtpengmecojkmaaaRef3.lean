/- What the reference's add and Add do. -/
import Derived.Test.YtpengmecojkmaaaRef2
import Derived.Deep.QuietTactic
import Derived.Deep.RegionHeld3
import Derived.BigQuiet
namespace Go.Proofs.Ytpengmecojkmaaa
open Go.RowKit

theorem bl_get (A c i : Nat) (hi : i < c) : (bl A c)[i]? = some (.int .i64 ((bitN A i : Nat) : Int)) := by simp [bl, hi]

def carryN (A B k : Nat) : Nat := (A % 2 ^ k + B % 2 ^ k) / 2 ^ k
theorem carryN_zero (A B : Nat) : carryN A B 0 = 0 := by simp [carryN, Nat.mod_one]
theorem mod_pow_bit (A k : Nat) : A % 2 ^ (k + 1) = A % 2 ^ k + 2 ^ k * bitN A k := by
  rw [Nat.mod_pow_succ]; rfl
theorem carry_step (A B k : Nat) : bitN A k + bitN B k + carryN A B k = bitN (A + B) k + 2 * carryN A B (k + 1) ∧ carryN A B k ≤ 1 := by
  have hp : 0 < 2 ^ k := Nat.two_pow_pos k
  have la := Nat.mod_lt A hp
  have lb := Nat.mod_lt B hp
  have e1 := Nat.div_add_mod (A % 2 ^ k + B % 2 ^ k) (2 ^ k)
  have l1 := Nat.mod_lt (A % 2 ^ k + B % 2 ^ k) hp
  have eA := Nat.div_add_mod A (2 ^ k)
  have eB := Nat.div_add_mod B (2 ^ k)
  have c1 : carryN A B k ≤ 1 := by
    unfold carryN
    have : (A % 2 ^ k + B % 2 ^ k) / 2 ^ k < 2 := by rw [Nat.div_lt_iff_lt_mul hp]; omega
    omega
  refine ⟨?_, c1⟩
  have hs : (A + B) / 2 ^ k = A / 2 ^ k + B / 2 ^ k + carryN A B k := by
    unfold carryN
    have : A + B = (A % 2 ^ k + B % 2 ^ k) + 2 ^ k * (A / 2 ^ k + B / 2 ^ k) := by rw [Nat.mul_add]; omega
    rw [this, Nat.add_mul_div_left _ _ hp]; omega
  have hn : carryN A B (k + 1) = (bitN A k + bitN B k + carryN A B k) / 2 := by
    unfold carryN
    rw [mod_pow_bit, mod_pow_bit, Nat.pow_succ, ← Nat.div_div_eq_div_mul]
    congr 1
    have : A % 2 ^ k + 2 ^ k * bitN A k + (B % 2 ^ k + 2 ^ k * bitN B k) = (A % 2 ^ k + B % 2 ^ k) + 2 ^ k * (bitN A k + bitN B k) := by rw [Nat.mul_add]; omega
    rw [this, Nat.add_mul_div_left _ _ hp]; omega
  have hb : bitN (A + B) k = (bitN A k + bitN B k + carryN A B k) % 2 := by
    unfold bitN
    rw [hs]
    omega
  rw [hn, hb]
  omega

set_option maxHeartbeats 2000000 in
theorem addBits_any (A B ga ca gb cb : Nat) (w : World) (hga : ga < w.heap.size) (hgb : gb < w.heap.size)
    (ha : ∀ i, i < 256 → w.cell? ⟨ga, i, none⟩ = some (.int .i64 ((bitN A i : Nat) : Int))) (hb : ∀ i, i < 256 → w.cell? ⟨gb, i, none⟩ = some (.int .i64 ((bitN B i : Nat) : Int))) :
    Calls Try.prog 32 #[.slice (some ⟨ga, 0, none⟩) 256 ca, .slice (some ⟨gb, 0, none⟩) 256 cb] w fun e w' => ∃ v, e = .returned v ∧ w'.ownsRow w.heap.size 3 1 v 257 (bl (A + B) 256 ++ [.int .i64 ((carryN A B 256 : Nat) : Int)]) ∧ Below w.heap.size w w' := by
  obtain ⟨i0, hi, hz0, hz1, hz2⟩ := intInfo
  have HI := (show Hid _ from hi); have HZ := (show Hid _ from And.intro hz0 (And.intro hz1 hz2)); clear hi hz0 hz1 hz2
  have HA := (show Hid _ from ha); have HB := (show Hid _ from hb); clear ha hb
  go_enter Try.func32, Try.ntmps32
  go_wp2
  go_loopw [5, 6, 7] (fun out c i wr => ∃ k : Nat, i = .int .i64 (k : Int) ∧ k ≤ 256 ∧ c = .int .i64 ((carryN A B k : Nat) : Int) ∧ Below w.heap.size w wr ∧ wr.ownsRow w.heap.size 3 1 out k (bl (A + B) k)) (fun _ _ i _ => 256 - (intOf i).toNat)
  case atStart =>
    refine ⟨0, rfl, by decide, by rw [carryN_zero]; rfl, ?_, ?_⟩
    · repeat (first | with_reducible exact Below.refl _ _ | with_reducible refine Below.alloc ?_ (by first | omega | (simp; omega) | simp) _)
    · exact ⟨rfl, Or.inr ⟨w.heap.size, 0, #[], rfl, Nat.le_refl _, new_block _ _, Nat.le_refl _, by decide, rfl, rfl⟩⟩
  case round =>
    obtain ⟨k, rfl, hk, rfl, hbr, hown⟩ := hrel
    have hsz := hbr.size
    by_cases hlt : k < 256
    · have hki : (k : Int) < 256 := by omega
      have cA : wr.cell? ⟨ga, k, none⟩ = some (.int .i64 ((bitN A k : Nat) : Int)) := by rw [hbr.cell (p := ⟨ga, k, none⟩) hga]; exact HA.out k hlt
      have cB : wr.cell? ⟨gb, k, none⟩ = some (.int .i64 ((bitN B k : Nat) : Int)) := by rw [hbr.cell (p := ⟨gb, k, none⟩) hgb]; exact HB.out k hlt
      have st := carry_step A B k
      have hbA : bitN A k ≤ 1 := by unfold bitN; omega
      have hbB : bitN B k ≤ 1 := by unfold bitN; omega
      obtain ⟨a, ea⟩ : ∃ a : Int, a = ((bitN A k : Nat) : Int) := ⟨_, rfl⟩
      obtain ⟨b, eb⟩ : ∃ b : Int, b = ((bitN B k : Nat) : Int) := ⟨_, rfl⟩
      obtain ⟨c, ec⟩ : ∃ c : Int, c = ((carryN A B k : Nat) : Int) := ⟨_, rfl⟩
      have a0 : 0 ≤ a := by omega
      have a1 : a ≤ 1 := by omega
      have b0 : 0 ≤ b := by omega
      have b1 : b ≤ 1 := by omega
      have c0 : 0 ≤ c := by omega
      have c1 : c ≤ 1 := by omega
      rw [← ea] at cA
      rw [← eb] at cB
      rw [← ec]
      have hbs : bitN (A + B) k ≤ 1 := by unfold bitN; omega
      have r1 : (a + b + c) % 2 = ((bitN (A + B) k : Nat) : Int) := by omega
      have r2 : (a + b + c) / 2 = ((carryN A B (k + 1) : Nat) : Int) := by omega
      clear hbs
      have R1 := (show Hid _ from r1); have R2 := (show Hid _ from r2)
      clear st hbA hbB ea eb ec r1 r2
      go_wp2_with fail
      go_quiet (fail)
      go_wp2_with (first
        | (at_builtin; refine wpList_append_own _ rfl _ _ 29 rfl w.heap.size 3 i0 (.int .i64 0) 1 8 Try.underlying29 HI.out HZ.out.1 HZ.out.2.1 HZ.out.2.2 rfl (by decide) _ k (bl (A + B) k) rfl ?c0 ⟨wr.heap.size, 0, none⟩ 1 1 [.int .i64 ((a + b + c) % 2)] rfl rfl ?c1 ?c2 ?c3 ?c4 ?c5 ?_)
        | go_in)
      case c0 => exact World.ownsRow.alloc (w := wr.drewN _) hown _
      case c1 =>
        intro j u hj
        match j, hj with
        | 0, hj => simp at hj; subst hj; simp only [Addr.add]; exact World.cell?_alloc_at _ _ _ _ rfl
      case c2 => intro u hu; simp at hu; subst hu; rfl
      case c3 => unfold maxLen; omega
      case c4 => omega
      case c5 => simp; omega
      intro v' w2 hown' hgrow _
      go_wp2
      go_roundw
      case measure => simp [intOf]; omega
      case rel =>
        have hB : Below w.heap.size wr w2 := ((below_drewN (Below.refl _ wr) _).alloc hsz _).grown hgrow (by simp; omega) (fun j hj => own_block_ge hown hj)
        refine ⟨k + 1, by go_num, by omega, by rw [← R2.out], hbr.trans hB, ?_⟩
        rw [bl_succ, ← R1.out]
        exact hown'
    · have hki : ¬ (k : Int) < 256 := by omega
      have hk6 : k = 256 := by omega
      subst hk6
      clear HA HB
      go_wp2_with (first
        | (at_builtin; refine wpList_append_own _ rfl _ _ 29 rfl w.heap.size 3 i0 (.int .i64 0) 1 8 Try.underlying29 HI.out HZ.out.1 HZ.out.2.1 HZ.out.2.2 rfl (by decide) _ 256 (bl (A + B) 256) rfl ?c0 ⟨wr.heap.size, 0, none⟩ 1 1 [.int .i64 ((carryN A B 256 : Nat) : Int)] rfl rfl ?c1 ?c2 ?c3 ?c4 ?c5 ?_)
        | go_in)
      case c0 => exact World.ownsRow.alloc (w := wr) hown _
      case c2 => rfl
      case c3 => unfold maxLen; omega
      case c5 => omega
      intro v' w2 hown' hgrow _
      have hB : Below w.heap.size wr w2 := ((Below.refl _ wr).alloc hsz _).grown hgrow (by simp; omega) (fun j hj => own_block_ge hown hj)
      go_wp2
      go_ret
      exact ⟨_, rfl, hown', hbr.trans hB⟩

theorem addBits_own (A B ga ca gb cb : Nat) (w : World) (hga : ga < w.heap.size) (hgb : gb < w.heap.size)
    (ha : ∀ i, i < 256 → w.cell? ⟨ga, i, none⟩ = some (.int .i64 ((bitN A i : Nat) : Int))) (hb : ∀ i, i < 256 → w.cell? ⟨gb, i, none⟩ = some (.int .i64 ((bitN B i : Nat) : Int))) :
    Calls Try.prog 32 #[.slice (some ⟨ga, 0, none⟩) 256 ca, .slice (some ⟨gb, 0, none⟩) 256 cb] w fun e w' => ∃ g c, e = .returned (.slice (some ⟨g, 0, none⟩) 257 c) ∧ w.heap.size ≤ g ∧ g < w'.heap.size ∧
      (∀ i, i < 256 → w'.cell? ⟨g, i, none⟩ = some (.int .i64 ((bitN (A + B) i : Nat) : Int))) ∧ w'.cell? ⟨g, 256, none⟩ = some (.int .i64 ((carryN A B 256 : Nat) : Int)) ∧ Below w.heap.size w w' := by
  refine (addBits_any A B ga ca gb cb w hga hgb ha hb).mono ?_
  rintro e w' ⟨v, rfl, hown, hbw⟩
  obtain ⟨g, c, rfl, h1, h2, h3, h4⟩ := own_cells hown (by decide)
  have hl : (bl (A + B) 256).length = 256 := by simp [bl]
  refine ⟨g, c, rfl, h2, h3, fun i hi => ?_, ?_, hbw⟩
  · rw [h4 i (by omega), List.getElem?_append_left (by omega), bl_get _ _ _ hi]
  · rw [h4 256 (by decide), List.getElem?_append_right (by omega), hl]; rfl

theorem bitN_mod (X i : Nat) (hi : i < 256) : bitN (X % 115792089237316195423570985008687907853269984665640564039457584007913129639936) i = bitN X i := by
  unfold bitN
  have e : (115792089237316195423570985008687907853269984665640564039457584007913129639936 : Nat) = 2 ^ i * (2 * 2 ^ (255 - i)) := by rw [← Nat.pow_succ', ← Nat.pow_add, show i + (255 - i + 1) = 256 from by omega]
  rw [e, Nat.mod_mul_right_div_self, Nat.mod_mul_right_mod]
theorem carry_over (A B : Nat) (hA : A < 115792089237316195423570985008687907853269984665640564039457584007913129639936) (hB : B < 115792089237316195423570985008687907853269984665640564039457584007913129639936) : (((carryN A B 256 : Nat) : Int) == 1) = over256 A B := by
  have e : carryN A B 256 = (A + B) / 115792089237316195423570985008687907853269984665640564039457584007913129639936 := by
    unfold carryN
    rw [show (2 : Nat) ^ 256 = 115792089237316195423570985008687907853269984665640564039457584007913129639936 from by decide, Nat.mod_eq_of_lt hA, Nat.mod_eq_of_lt hB]
  rw [e, Bool.eq_iff_iff]
  unfold over256
  simp only [beq_iff_eq, decide_eq_true_eq]
  omega

section
variable {W w1 : World} {g j : Nat} {x : Int}
theorem one_below (hb : Below W.heap.size W w1) (h : W.cell? ⟨g, j, none⟩ = some (.int .i64 x)) : w1.cell? ⟨g, j, none⟩ = some (.int .i64 x) := by
  rw [hb.cell (p := ⟨g, j, none⟩) (World.block_lt_of_cell? W ⟨g, j, none⟩ h)]; exact h
theorem one_far {r : Nat} (v0 v1 v2 v3 : Value) (h1 : r ≠ g) (h : W.cell? ⟨g, j, none⟩ = some (.int .i64 x)) :
    ((((W.setCell ⟨r, 0, none⟩ v0).setCell ⟨r, 1, none⟩ v1).setCell ⟨r, 2, none⟩ v2).setCell ⟨r, 3, none⟩ v3).cell? ⟨g, j, none⟩ = some (.int .i64 x) := by
  have hne : ∀ o, (⟨r, o, none⟩ : Addr) ≠ ⟨g, j, none⟩ := fun o e => h1 (congrArg Addr.block e)
  rw [World.cell?_setCell_other _ _ _ _ (hne 3), World.cell?_setCell_other _ _ _ _ (hne 2), World.cell?_setCell_other _ _ _ _ (hne 1), World.cell?_setCell_other _ _ _ _ (hne 0)]
  exact h
end

set_option maxHeartbeats 4000000 in
/-- The reference's Add. -/
theorem refAdd_any (A B : Nat) (hA : A < 115792089237316195423570985008687907853269984665640564039457584007913129639936) (hB : B < 115792089237316195423570985008687907853269984665640564039457584007913129639936) (w : World) :
    Calls Try.prog 12 #[.agg #[.int .u64 ((limb 0 (A) : Nat) : Int), .int .u64 ((limb 1 (A) : Nat) : Int), .int .u64 ((limb 2 (A) : Nat) : Int), .int .u64 ((limb 3 (A) : Nat) : Int)], .agg #[.int .u64 ((limb 0 (B) : Nat) : Int), .int .u64 ((limb 1 (B) : Nat) : Int), .int .u64 ((limb 2 (B) : Nat) : Int), .int .u64 ((limb 3 (B) : Nat) : Int)]] w fun e w' => e = .returned (.tuple #[.agg #[.int .u64 ((limb 0 (add256 A B) : Nat) : Int), .int .u64 ((limb 1 (add256 A B) : Nat) : Int), .int .u64 ((limb 2 (add256 A B) : Nat) : Int), .int .u64 ((limb 3 (add256 A B) : Nat) : Int)], .bool (over256 A B)]) ∧ Below w.heap.size w w' := by
  go_enter Try.func12, Try.ntmps12
  go_wp2_with fail
  obtain ⟨w0, hw0⟩ : ∃ w0 : World, w0 = ((w.alloc (.cells #[.int .u64 ((limb 0 (A) : Nat) : Int), .int .u64 ((limb 1 (A) : Nat) : Int), .int .u64 ((limb 2 (A) : Nat) : Int), .int .u64 ((limb 3 (A) : Nat) : Int)] 24)).alloc (.cells #[.int .u64 ((limb 0 (B) : Nat) : Int), .int .u64 ((limb 1 (B) : Nat) : Int), .int .u64 ((limb 2 (B) : Nat) : Int), .int .u64 ((limb 3 (B) : Nat) : Int)] 24)).alloc (.cells #[.int .u64 0, .int .u64 0, .int .u64 0, .int .u64 0] 24) := ⟨_, rfl⟩
  have ba : Blk w0 24 w.heap.size (fun i => limb i A) := by rw [hw0]; exact ((Blk.newAt _ _ _ (fun i => limb i A) rfl).alloc _).alloc _
  have bb : Blk w0 24 (w.heap.size + 1) (fun i => limb i B) := by rw [hw0]; exact (Blk.newAt _ _ _ (fun i => limb i B) (by simp)).alloc _
  have br : Blk w0 24 (w.heap.size + 1 + 1) (fun _ => 0) := by rw [hw0]; exact Blk.newAt _ _ _ (fun _ => 0) (by simp)
  have hb0 : Below w.heap.size w w0 := by
    rw [hw0]
    repeat (first | with_reducible exact Below.refl _ _ | with_reducible refine Below.alloc ?_ (by first | omega | (simp; omega) | simp) _)
  rw [← hw0]
  clear hw0
  have hz0 := br.lt
  go_region_held3 (fun w' => (∀ i, i < 4 → w'.cell? ⟨w.heap.size, i, none⟩ = some (.int .u64 ((limb i A : Nat) : Int))) ∧ (∀ i, i < 4 → w'.cell? ⟨w.heap.size + 1, i, none⟩ = some (.int .u64 ((limb i B : Nat) : Int))))
    (first | with_reducible exact two_below hb3 (by with_reducible assumption) | with_reducible exact two_below hb2 (by with_reducible assumption) | with_reducible exact two_below hb1 (by with_reducible assumption) | with_reducible exact ⟨ba.drew.cell, bb.drew.cell⟩)
    (first | (go_at_call 22; with_reducible refine (bits_any A _).mono ?_; rintro e w1 ⟨ga, ca, rfl, hca, hga0, hga, hcA, hb1⟩) | (go_at_call 22; with_reducible refine (bits_any B _).mono ?_; rintro e w2 ⟨gb, cb, rfl, hcb, hgb0, hgb, hcB, hb2⟩) | (go_at_call 32; refine (addBits_own A B ga ca gb cb _ (Nat.lt_of_lt_of_le hga hb2.size) hgb (fun i hi => by rw [hb2.cell (p := ⟨ga, i, none⟩) hga]; exact hcA i hi) hcB).mono ?_; rintro e w3 ⟨g, c, rfl, hg0, hg, hcG, hcC, hb3⟩))
  have hb03 : Below w0.heap.size w0 w3 := (Below.refl _ w0).drew.trans (hb1.trans ((hb2.trans (hb3.mono hb2.size)).mono hb1.size))
  have hz3 := hb03.size
  have br3 := br.belowAll hb03
  have hgn : w0.heap.size ≤ g := Nat.le_trans (show w0.heap.size ≤ w1.heap.size from hb1.size) (Nat.le_trans hb2.size hg0)
  have hN : add256 A B < 115792089237316195423570985008687907853269984665640564039457584007913129639936 := add256_lt A B
  have hcN : ∀ i, i < 256 → w3.cell? ⟨g, 0 + i, none⟩ = some (.int .i64 ((bitN (add256 A B) i : Nat) : Int)) := by
    intro i hi; rw [Nat.zero_add, hcG i hi]; unfold add256; rw [bitN_mod _ _ hi]
  have HCN := (show Hid _ from hcN)
  have hov := carry_over A B hA hB
  obtain ⟨x, hx⟩ : ∃ x : Int, x = ((carryN A B 256 : Nat) : Int) := ⟨_, rfl⟩
  rw [← hx] at hcC hov
  have HV := (show Hid _ from hov)
  clear hcN hcA hcB hcG hb1 hb2 hb3 hx hov ba bb br
  go_wp2_with fail
  go_region_held3 (fun w' => w'.cell? ⟨g, 256, none⟩ = some (.int .i64 x))
    (first | with_reducible exact one_below hb4 (by with_reducible assumption) | with_reducible exact one_far _ _ _ _ (by omega) (by with_reducible assumption) | exact hcC)
    (first | (go_at_call 33; refine (elem_any (add256 A B) g 0 257 c hN (by decide) (by decide) w3.drew hg HCN.out).mono ?_; rintro e w4 ⟨rfl, hb4⟩; have br4 := br3.drew.belowAll hb4; have c4 := br4.cell; have f4 := br4.frozen))
  have hbw4 : Below w.heap.size w w4 := (hb0.trans (hb03.mono hb0.size)).drew.trans (hb4.mono (show w.heap.size ≤ w3.heap.size from Nat.le_trans hb0.size hz3))
  go_wp2
  refine bodyPost_ret (v := .tuple #[.agg #[.int .u64 ((limb 0 (add256 A B) : Nat) : Int), .int .u64 ((limb 1 (add256 A B) : Nat) : Int), .int .u64 ((limb 2 (add256 A B) : Nat) : Int), .int .u64 ((limb 3 (add256 A B) : Nat) : Int)], .bool (x == 1)]) (by simp [results, Try.results12, go_sem, c4]) rfl ⟨by rw [HV.out], ?_⟩
  repeat (first | with_reducible exact hbw4 | with_reducible refine Below.setCell ?_ (by first | omega | (simp; omega) | simp) _)

end Go.Proofs.Ytpengmecojkmaaa
