/- FieldInverses: the walk. -/
import Derived.Test.YtlndeghggdpmaabDoorL2
import Derived.Test.YtlndeghggdpmaabDoorL9
namespace Go.Proofs.YtlndeghggdpmaabDoor
open Go.RowKit

set_option maxHeartbeats 16000000 in
set_option maxRecDepth 20000 in
theorem invs_b (s er : Int) (n c : Nat) (oa : Option Addr) (f X : Nat → Nat) (ee : Nat → Int) (hn : n ≤ 40) (hf : ∀ i, i < n → f i < 115792089237316195423570985008687907853269984665640564039457584007913129639936) (hX : ∀ i, i < n → X i < 115792089237316195423570985008687907853269984665640564039457584007913129639936) (fi : Nat → Nat) (hfi : ∀ i, i < n → fi i < 115792089237316195423570985008687907853269984665640564039457584007913129639936)
    (IV : ∀ w v, Glob w → Es w v n f → v ≠ .slice none 0 0 → Calls Tryd.prog 25 #[.int .i64 s, v] w fun e w' => ∃ g, e = .returned (.tuple #[.slice (some ⟨g, 0, none⟩) n n, .int .i64 er]) ∧ BlkE w' g n fi ∧ Below w.heap.size w w')
    (RV : ∀ w, Es w (.slice oa n c) n f → Calls Tryd.prog 26 #[.int .i64 s, .slice oa n c] w fun e w' => ∃ v, e = .returned (.tuple #[v, .int .i64 er]) ∧ Es w' v n fi ∧ Below w.heap.size w w')
    (IN1 : ∀ i, i < n → ∀ w, Glob w → Calls Tryd.prog 28 #[.int .i64 s, .agg #[.int .u64 ((limb 0 (f i) : Nat) : Int), .int .u64 ((limb 1 (f i) : Nat) : Int), .int .u64 ((limb 2 (f i) : Nat) : Int), .int .u64 ((limb 3 (f i) : Nat) : Int)]] w fun e w' => e = .returned (.tuple #[.agg #[.int .u64 ((limb 0 (X i) : Nat) : Int), .int .u64 ((limb 1 (X i) : Nat) : Int), .int .u64 ((limb 2 (X i) : Nat) : Int), .int .u64 ((limb 3 (X i) : Nat) : Int)], .int .i64 (ee i)]) ∧ Below w.heap.size w w')
    (IN2 : ∀ i, i < n → ∀ w, Calls Tryd.prog 29 #[.int .i64 s, .agg #[.int .u64 ((limb 0 (f i) : Nat) : Int), .int .u64 ((limb 1 (f i) : Nat) : Int), .int .u64 ((limb 2 (f i) : Nat) : Int), .int .u64 ((limb 3 (f i) : Nat) : Int)]] w fun e w' => e = .returned (.tuple #[.agg #[.int .u64 ((limb 0 (X i) : Nat) : Int), .int .u64 ((limb 1 (X i) : Nat) : Int), .int .u64 ((limb 2 (X i) : Nat) : Int), .int .u64 ((limb 3 (X i) : Nat) : Int)], .int .i64 (ee i)]) ∧ Below w.heap.size w w')
    (w : World) (hg : Glob w) (hB : Es w (.slice oa n c) n f) :
    Calls Tryd.prog 5 #[.int .i64 s, .slice oa n c] w fun e w' => e = .returned (.bool true) ∧ Below w.heap.size w w' := by
  have AL := fun w hg => alive2_any w hg
  have SP := fun w h => spare_fullE n (.slice oa n c) f hn w h
  have HB : Hid (Es w (.slice oa n c) n f) := hB
  have HG : Hid (Glob w) := hg
  have HF : Hid (∀ i, i < n → f i < 115792089237316195423570985008687907853269984665640564039457584007913129639936) := hf; have HX : Hid (∀ i, i < n → X i < 115792089237316195423570985008687907853269984665640564039457584007913129639936) := hX
  have HFI : Hid (∀ i, i < n → fi i < 115792089237316195423570985008687907853269984665640564039457584007913129639936) := hfi
  have HI1 : Unit → _ := fun _ => IN1; have HI2 : Unit → _ := fun _ => IN2
  have h40 : ¬ (40 : Int) < (n : Int) := by omega
  have qe : (er != er) = false := by simp
  clear hB hf hX IN1 IN2 hfi
  go_enter Tryd.func5, Tryd.ntmps5
  go_wp2_with fail
  refine (AL _ hg).mono ?_
  rintro e w1 ⟨rfl, hbw1⟩
  clear AL hg
  go_wp2_with fail
  refine (SP _ (HB.out.below hbw1)).mono ?_
  rintro e w2 ⟨g, cg, rfl, hF2, _, hb2⟩
  have hbw2 := bStep hbw1 hb2
  clear hb2 hbw1
  have hc := hF2.1; have hc2 := hF2.2.1; unfold maxLen at hc2
  have hi1 : (n : Int) ≤ (cg : Int) := by omega
  go_wp2_with fail
  refine (IV _ _ (HG.out.below hbw2) hF2.part (fun h => by cases h)).mono ?_
  rintro e w3 ⟨gx, rfl, bx3, hb3⟩
  have hF3 := hF2.belowAll hb3; have hbw3 := bStep hbw2 hb3
  clear hF2 hbw2 hb3 IV
  go_wp2_with fail
  refine (RV _ (HB.out.below hbw3)).mono ?_
  rintro e w4 ⟨vv, rfl, hv4, hb4⟩
  have bx4 := bx3.belowAll hb4
  have hF4 := hF3.belowAll hb4; have hbw4 := bStep hbw3 hb4
  clear hF3 hbw3 hb4 RV bx3
  go_wp2_with fail
  refine (sameE_self _ _ n fi (by omega) HFI.out _ (bx4.Es (by unfold maxLen; omega)) hv4).mono ?_
  rintro e w5 ⟨rfl, hb5⟩
  have hF5 := hF4.belowAll hb5; have hbw5 := bStep hbw4 hb5
  clear hF4 hbw4 hb5 bx4 hv4
  go_wp2_with fail
  refine (SP _ (HB.out.below hbw5)).mono ?_
  rintro e w6 ⟨g2, cg2, rfl, hG6, _, hb6⟩
  have hF6 := hF5.belowAll hb6; have hbw6 := bStep hbw5 hb6
  clear hF5 hbw5 hb6 SP
  go_wp2_with fail
  refine (sameE_self _ _ (n + 4) (spE f n) (by omega) (spE_lt HF.out) _ hF6.all hG6.all).mono ?_
  rintro e w7 ⟨rfl, hb7⟩
  have hbw7 := bStep hbw6 hb7
  clear hF6 hG6 hbw6 hb7 hc hc2 hi1
  go_wp2
  go_loopw [10] (fun iv wr => ∃ k : Nat, iv = .int .i64 (k : Int) ∧ k ≤ n ∧ Below w.heap.size w wr) (fun iv _ => n - (intOf iv).toNat)
  case atStart => exact ⟨0, rfl, Nat.zero_le _, hbw7⟩
  case round =>
    obtain ⟨k, rfl, hk, hbr⟩ := hrel
    clear hbw7
    by_cases hlt : k < n
    · have hki : (k : Int) < (n : Int) := by omega
      obtain ⟨b, o, hoa, hbl, hcs⟩ : ∃ b o, oa = some ⟨b, o, none⟩ ∧ b < w.heap.size ∧ ∀ j, j < 4 → w.cell? ⟨b, o + k * 4 + j, none⟩ = some (.int .u64 ((limb j (f k) : Nat) : Int)) := by
        rcases HB.out with ⟨_, h⟩ | ⟨b, o, c', h, _, _, h3, h4⟩
        · omega
        · cases h
          exact ⟨b, o, rfl, h3, fun j hj => h4 k hlt j hj⟩
      subst hoa
      have I1 := HI1 () k hlt; have I2 := HI2 () k hlt
      have hq := fun w => neqE (X k) (X k) (HX.out k hlt) (HX.out k hlt) w
      rw [show decide (X k = X k) = true from by simp] at hq
      have qk : (ee k != ee k) = false := by simp
      obtain ⟨x, ex⟩ : ∃ x, x = f k := ⟨_, rfl⟩
      obtain ⟨y, ey⟩ : ∃ y, y = X k := ⟨_, rfl⟩
      obtain ⟨ek, eek⟩ : ∃ ek, ek = ee k := ⟨_, rfl⟩
      rw [← ex] at hcs I1 I2
      rw [← ey] at hq I1 I2
      rw [← eek] at qk I1 I2
      clear ex ey eek
      have CX := (show Hid (∀ j, j < 4 → _) from hcs)
      clear hcs
      have c0 : wr.cell? ⟨b, o + k * 4, none⟩ = some (.int .u64 ((limb 0 x : Nat) : Int)) := by rw [hbr.cell (p := ⟨b, o + k * 4, none⟩) hbl]; exact CX.out 0 (by decide)
      have c1 : wr.cell? ⟨b, o + k * 4 + 1, none⟩ = some (.int .u64 ((limb 1 x : Nat) : Int)) := by rw [hbr.cell (p := ⟨b, o + k * 4 + 1, none⟩) hbl]; exact CX.out 1 (by decide)
      have c2 : wr.cell? ⟨b, o + k * 4 + 2, none⟩ = some (.int .u64 ((limb 2 x : Nat) : Int)) := by rw [hbr.cell (p := ⟨b, o + k * 4 + 2, none⟩) hbl]; exact CX.out 2 (by decide)
      have c3 : wr.cell? ⟨b, o + k * 4 + 3, none⟩ = some (.int .u64 ((limb 3 x : Nat) : Int)) := by rw [hbr.cell (p := ⟨b, o + k * 4 + 3, none⟩) hbl]; exact CX.out 3 (by decide)
      go_wp2_with fail
      refine (I1 _ (HG.out.below hbr)).mono ?_
      rintro e w8 ⟨rfl, hb8⟩
      have hbw8 := bStep hbr hb8
      clear hbr hb8 c0 c1 c2 c3 I1
      obtain ⟨N11, e11⟩ : ∃ N11, N11 = w8.heap.size := ⟨_, rfl⟩
      obtain ⟨w9, hw9⟩ : ∃ w9 : World, w9 = w8.alloc (.cells #[.int .u64 ((limb 0 (y) : Nat) : Int), .int .u64 ((limb 1 (y) : Nat) : Int), .int .u64 ((limb 2 (y) : Nat) : Int), .int .u64 ((limb 3 (y) : Nat) : Int)] 24) := ⟨_, rfl⟩
      have bx9 : Blk w9 24 N11 (fun i => limb i y) := by rw [hw9]; exact Blk.newAt _ _ _ (fun i => limb i y) e11
      have hbw9 : Below w.heap.size w w9 := by rw [hw9]; exact bAlloc hbw8 _
      go_upto_region 14 with fail
      rw [← hw9, ← e11]
      clear hw9 e11 hbw8
      have c0 : w9.cell? ⟨b, o + k * 4, none⟩ = some (.int .u64 ((limb 0 x : Nat) : Int)) := by rw [hbw9.cell (p := ⟨b, o + k * 4, none⟩) hbl]; exact CX.out 0 (by decide)
      have c1 : w9.cell? ⟨b, o + k * 4 + 1, none⟩ = some (.int .u64 ((limb 1 x : Nat) : Int)) := by rw [hbw9.cell (p := ⟨b, o + k * 4 + 1, none⟩) hbl]; exact CX.out 1 (by decide)
      have c2 : w9.cell? ⟨b, o + k * 4 + 2, none⟩ = some (.int .u64 ((limb 2 x : Nat) : Int)) := by rw [hbw9.cell (p := ⟨b, o + k * 4 + 2, none⟩) hbl]; exact CX.out 2 (by decide)
      have c3 : w9.cell? ⟨b, o + k * 4 + 3, none⟩ = some (.int .u64 ((limb 3 x : Nat) : Int)) := by rw [hbw9.cell (p := ⟨b, o + k * 4 + 3, none⟩) hbl]; exact CX.out 3 (by decide)
      go_wp2_with fail
      refine (I2 _).mono ?_
      rintro e w10 ⟨rfl, hb10⟩
      have bx10 := bx9.belowAll hb10; have hbw10 := bStep hbw9 hb10
      clear bx9 hbw9 hb10 c0 c1 c2 c3 I2
      obtain ⟨N13, e13⟩ : ∃ N13, N13 = w10.heap.size := ⟨_, rfl⟩
      obtain ⟨w11, hw11⟩ : ∃ w11 : World, w11 = w10.alloc (.cells #[.int .u64 ((limb 0 (y) : Nat) : Int), .int .u64 ((limb 1 (y) : Nat) : Int), .int .u64 ((limb 2 (y) : Nat) : Int), .int .u64 ((limb 3 (y) : Nat) : Int)] 24) := ⟨_, rfl⟩
      have bx11 : Blk w11 24 N11 (fun i => limb i y) := by rw [hw11]; exact bx10.alloc _
      have by11 : Blk w11 24 N13 (fun i => limb i y) := by rw [hw11]; exact Blk.newAt _ _ _ (fun i => limb i y) e13
      have hbw11 : Below w.heap.size w w11 := by rw [hw11]; exact bAlloc hbw10 _
      go_upto_region 15 with fail
      rw [← hw11, ← e13]
      clear hw11 e13 bx10 hbw10
      have cx := bx11.cell; have cy := by11.cell
      go_wp2
      go_roundw
      case measure => simp [intOf]; omega
      case rel => exact ⟨k + 1, by go_num, by omega, hbw11⟩
    · have hki : ¬ (k : Int) < (n : Int) := by omega
      go_wp2
      go_ret
      exact ⟨rfl, hbr⟩

set_option maxHeartbeats 16000000 in
set_option maxRecDepth 20000 in
theorem invs_n (s er : Int) (n c : Nat) (oa : Option Addr) (f X : Nat → Nat) (ee : Nat → Int) (hn : n ≤ 40) (hf : ∀ i, i < n → f i < 115792089237316195423570985008687907853269984665640564039457584007913129639936) (hX : ∀ i, i < n → X i < 115792089237316195423570985008687907853269984665640564039457584007913129639936)
    (IV : ∀ w v, Glob w → Es w v n f → v ≠ .slice none 0 0 → Calls Tryd.prog 25 #[.int .i64 s, v] w fun e w' => e = .returned (.tuple #[.slice none 0 0, .int .i64 er]) ∧ Below w.heap.size w w')
    (RV : ∀ w, Es w (.slice oa n c) n f → Calls Tryd.prog 26 #[.int .i64 s, .slice oa n c] w fun e w' => e = .returned (.tuple #[.slice none 0 0, .int .i64 er]) ∧ Below w.heap.size w w')
    (IN1 : ∀ i, i < n → ∀ w, Glob w → Calls Tryd.prog 28 #[.int .i64 s, .agg #[.int .u64 ((limb 0 (f i) : Nat) : Int), .int .u64 ((limb 1 (f i) : Nat) : Int), .int .u64 ((limb 2 (f i) : Nat) : Int), .int .u64 ((limb 3 (f i) : Nat) : Int)]] w fun e w' => e = .returned (.tuple #[.agg #[.int .u64 ((limb 0 (X i) : Nat) : Int), .int .u64 ((limb 1 (X i) : Nat) : Int), .int .u64 ((limb 2 (X i) : Nat) : Int), .int .u64 ((limb 3 (X i) : Nat) : Int)], .int .i64 (ee i)]) ∧ Below w.heap.size w w')
    (IN2 : ∀ i, i < n → ∀ w, Calls Tryd.prog 29 #[.int .i64 s, .agg #[.int .u64 ((limb 0 (f i) : Nat) : Int), .int .u64 ((limb 1 (f i) : Nat) : Int), .int .u64 ((limb 2 (f i) : Nat) : Int), .int .u64 ((limb 3 (f i) : Nat) : Int)]] w fun e w' => e = .returned (.tuple #[.agg #[.int .u64 ((limb 0 (X i) : Nat) : Int), .int .u64 ((limb 1 (X i) : Nat) : Int), .int .u64 ((limb 2 (X i) : Nat) : Int), .int .u64 ((limb 3 (X i) : Nat) : Int)], .int .i64 (ee i)]) ∧ Below w.heap.size w w')
    (w : World) (hg : Glob w) (hB : Es w (.slice oa n c) n f) :
    Calls Tryd.prog 5 #[.int .i64 s, .slice oa n c] w fun e w' => e = .returned (.bool true) ∧ Below w.heap.size w w' := by
  have AL := fun w hg => alive2_any w hg
  have SP := fun w h => spare_fullE n (.slice oa n c) f hn w h
  have HB : Hid (Es w (.slice oa n c) n f) := hB
  have HG : Hid (Glob w) := hg
  have HF : Hid (∀ i, i < n → f i < 115792089237316195423570985008687907853269984665640564039457584007913129639936) := hf; have HX : Hid (∀ i, i < n → X i < 115792089237316195423570985008687907853269984665640564039457584007913129639936) := hX
  have HI1 : Unit → _ := fun _ => IN1; have HI2 : Unit → _ := fun _ => IN2
  have h40 : ¬ (40 : Int) < (n : Int) := by omega
  have qe : (er != er) = false := by simp
  clear hB hf hX IN1 IN2
  go_enter Tryd.func5, Tryd.ntmps5
  go_wp2_with fail
  refine (AL _ hg).mono ?_
  rintro e w1 ⟨rfl, hbw1⟩
  clear AL hg
  go_wp2_with fail
  refine (SP _ (HB.out.below hbw1)).mono ?_
  rintro e w2 ⟨g, cg, rfl, hF2, _, hb2⟩
  have hbw2 := bStep hbw1 hb2
  clear hb2 hbw1
  have hc := hF2.1; have hc2 := hF2.2.1; unfold maxLen at hc2
  have hi1 : (n : Int) ≤ (cg : Int) := by omega
  go_wp2_with fail
  refine (IV _ _ (HG.out.below hbw2) hF2.part (fun h => by cases h)).mono ?_
  rintro e w3 ⟨rfl, hb3⟩
  have hF3 := hF2.belowAll hb3; have hbw3 := bStep hbw2 hb3
  clear hF2 hbw2 hb3 IV
  go_wp2_with fail
  refine (RV _ (HB.out.below hbw3)).mono ?_
  rintro e w4 ⟨rfl, hb4⟩
  have hF4 := hF3.belowAll hb4; have hbw4 := bStep hbw3 hb4
  clear hF3 hbw3 hb4 RV
  go_wp2_with fail
  refine (sameE_self _ _ 0 (fun _ => 0) (by omega) (fun i hi => by omega) _ (Or.inl ⟨rfl, rfl⟩) (Or.inl ⟨rfl, rfl⟩)).mono ?_
  rintro e w5 ⟨rfl, hb5⟩
  have hF5 := hF4.belowAll hb5; have hbw5 := bStep hbw4 hb5
  clear hF4 hbw4 hb5
  go_wp2_with fail
  refine (SP _ (HB.out.below hbw5)).mono ?_
  rintro e w6 ⟨g2, cg2, rfl, hG6, _, hb6⟩
  have hF6 := hF5.belowAll hb6; have hbw6 := bStep hbw5 hb6
  clear hF5 hbw5 hb6 SP
  go_wp2_with fail
  refine (sameE_self _ _ (n + 4) (spE f n) (by omega) (spE_lt HF.out) _ hF6.all hG6.all).mono ?_
  rintro e w7 ⟨rfl, hb7⟩
  have hbw7 := bStep hbw6 hb7
  clear hF6 hG6 hbw6 hb7 hc hc2 hi1
  go_wp2
  go_loopw [10] (fun iv wr => ∃ k : Nat, iv = .int .i64 (k : Int) ∧ k ≤ n ∧ Below w.heap.size w wr) (fun iv _ => n - (intOf iv).toNat)
  case atStart => exact ⟨0, rfl, Nat.zero_le _, hbw7⟩
  case round =>
    obtain ⟨k, rfl, hk, hbr⟩ := hrel
    clear hbw7
    by_cases hlt : k < n
    · have hki : (k : Int) < (n : Int) := by omega
      obtain ⟨b, o, hoa, hbl, hcs⟩ : ∃ b o, oa = some ⟨b, o, none⟩ ∧ b < w.heap.size ∧ ∀ j, j < 4 → w.cell? ⟨b, o + k * 4 + j, none⟩ = some (.int .u64 ((limb j (f k) : Nat) : Int)) := by
        rcases HB.out with ⟨_, h⟩ | ⟨b, o, c', h, _, _, h3, h4⟩
        · omega
        · cases h
          exact ⟨b, o, rfl, h3, fun j hj => h4 k hlt j hj⟩
      subst hoa
      have I1 := HI1 () k hlt; have I2 := HI2 () k hlt
      have hq := fun w => neqE (X k) (X k) (HX.out k hlt) (HX.out k hlt) w
      rw [show decide (X k = X k) = true from by simp] at hq
      have qk : (ee k != ee k) = false := by simp
      obtain ⟨x, ex⟩ : ∃ x, x = f k := ⟨_, rfl⟩
      obtain ⟨y, ey⟩ : ∃ y, y = X k := ⟨_, rfl⟩
      obtain ⟨ek, eek⟩ : ∃ ek, ek = ee k := ⟨_, rfl⟩
      rw [← ex] at hcs I1 I2
      rw [← ey] at hq I1 I2
      rw [← eek] at qk I1 I2
      clear ex ey eek
      have CX := (show Hid (∀ j, j < 4 → _) from hcs)
      clear hcs
      have c0 : wr.cell? ⟨b, o + k * 4, none⟩ = some (.int .u64 ((limb 0 x : Nat) : Int)) := by rw [hbr.cell (p := ⟨b, o + k * 4, none⟩) hbl]; exact CX.out 0 (by decide)
      have c1 : wr.cell? ⟨b, o + k * 4 + 1, none⟩ = some (.int .u64 ((limb 1 x : Nat) : Int)) := by rw [hbr.cell (p := ⟨b, o + k * 4 + 1, none⟩) hbl]; exact CX.out 1 (by decide)
      have c2 : wr.cell? ⟨b, o + k * 4 + 2, none⟩ = some (.int .u64 ((limb 2 x : Nat) : Int)) := by rw [hbr.cell (p := ⟨b, o + k * 4 + 2, none⟩) hbl]; exact CX.out 2 (by decide)
      have c3 : wr.cell? ⟨b, o + k * 4 + 3, none⟩ = some (.int .u64 ((limb 3 x : Nat) : Int)) := by rw [hbr.cell (p := ⟨b, o + k * 4 + 3, none⟩) hbl]; exact CX.out 3 (by decide)
      go_wp2_with fail
      refine (I1 _ (HG.out.below hbr)).mono ?_
      rintro e w8 ⟨rfl, hb8⟩
      have hbw8 := bStep hbr hb8
      clear hbr hb8 c0 c1 c2 c3 I1
      obtain ⟨N11, e11⟩ : ∃ N11, N11 = w8.heap.size := ⟨_, rfl⟩
      obtain ⟨w9, hw9⟩ : ∃ w9 : World, w9 = w8.alloc (.cells #[.int .u64 ((limb 0 (y) : Nat) : Int), .int .u64 ((limb 1 (y) : Nat) : Int), .int .u64 ((limb 2 (y) : Nat) : Int), .int .u64 ((limb 3 (y) : Nat) : Int)] 24) := ⟨_, rfl⟩
      have bx9 : Blk w9 24 N11 (fun i => limb i y) := by rw [hw9]; exact Blk.newAt _ _ _ (fun i => limb i y) e11
      have hbw9 : Below w.heap.size w w9 := by rw [hw9]; exact bAlloc hbw8 _
      go_upto_region 14 with fail
      rw [← hw9, ← e11]
      clear hw9 e11 hbw8
      have c0 : w9.cell? ⟨b, o + k * 4, none⟩ = some (.int .u64 ((limb 0 x : Nat) : Int)) := by rw [hbw9.cell (p := ⟨b, o + k * 4, none⟩) hbl]; exact CX.out 0 (by decide)
      have c1 : w9.cell? ⟨b, o + k * 4 + 1, none⟩ = some (.int .u64 ((limb 1 x : Nat) : Int)) := by rw [hbw9.cell (p := ⟨b, o + k * 4 + 1, none⟩) hbl]; exact CX.out 1 (by decide)
      have c2 : w9.cell? ⟨b, o + k * 4 + 2, none⟩ = some (.int .u64 ((limb 2 x : Nat) : Int)) := by rw [hbw9.cell (p := ⟨b, o + k * 4 + 2, none⟩) hbl]; exact CX.out 2 (by decide)
      have c3 : w9.cell? ⟨b, o + k * 4 + 3, none⟩ = some (.int .u64 ((limb 3 x : Nat) : Int)) := by rw [hbw9.cell (p := ⟨b, o + k * 4 + 3, none⟩) hbl]; exact CX.out 3 (by decide)
      go_wp2_with fail
      refine (I2 _).mono ?_
      rintro e w10 ⟨rfl, hb10⟩
      have bx10 := bx9.belowAll hb10; have hbw10 := bStep hbw9 hb10
      clear bx9 hbw9 hb10 c0 c1 c2 c3 I2
      obtain ⟨N13, e13⟩ : ∃ N13, N13 = w10.heap.size := ⟨_, rfl⟩
      obtain ⟨w11, hw11⟩ : ∃ w11 : World, w11 = w10.alloc (.cells #[.int .u64 ((limb 0 (y) : Nat) : Int), .int .u64 ((limb 1 (y) : Nat) : Int), .int .u64 ((limb 2 (y) : Nat) : Int), .int .u64 ((limb 3 (y) : Nat) : Int)] 24) := ⟨_, rfl⟩
      have bx11 : Blk w11 24 N11 (fun i => limb i y) := by rw [hw11]; exact bx10.alloc _
      have by11 : Blk w11 24 N13 (fun i => limb i y) := by rw [hw11]; exact Blk.newAt _ _ _ (fun i => limb i y) e13
      have hbw11 : Below w.heap.size w w11 := by rw [hw11]; exact bAlloc hbw10 _
      go_upto_region 15 with fail
      rw [← hw11, ← e13]
      clear hw11 e13 bx10 hbw10
      have cx := bx11.cell; have cy := by11.cell
      go_wp2
      go_roundw
      case measure => simp [intOf]; omega
      case rel => exact ⟨k + 1, by go_num, by omega, hbw11⟩
    · have hki : ¬ (k : Int) < (n : Int) := by omega
      go_wp2
      go_ret
      exact ⟨rfl, hbr⟩

set_option maxHeartbeats 2000000 in
theorem invs_long (s : Int) (n c : Nat) (oa : Option Addr) (hn : 40 < n) (w : World) (hg : Glob w) :
    Calls Tryd.prog 5 #[.int .i64 s, .slice oa n c] w fun e w' => e = .returned (.bool true) ∧ Below w.heap.size w w' := by
  have AL := fun w hg => alive2_any w hg
  have h40 : (40 : Int) < (n : Int) := by omega
  clear hn
  go_enter Tryd.func5, Tryd.ntmps5
  go_wp2_with fail
  refine (AL _ hg).mono ?_
  rintro e w1 ⟨rfl, hb1⟩
  go_wp2
  go_ret
  exact ⟨rfl, hb1⟩

end Go.Proofs.YtlndeghggdpmaabDoor
