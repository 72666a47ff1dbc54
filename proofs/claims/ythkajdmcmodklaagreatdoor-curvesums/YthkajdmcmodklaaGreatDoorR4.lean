/- What field.Sqrt does. -/
import Derived.Test.YthkajdmcmodklaaGreatDoorRA
namespace Go.Proofs.YthkajdmcmodklaaGreatDoor
open Go.RowKit

section
variable {W w1 : World} {n1 n2 k : Nat} {f g : Nat → Nat} {v : Value}
theorem tri_below (hb : Below W.heap.size W w1) (h : (∀ i, i < 4 → W.cell? ⟨n1, i, none⟩ = some (.int .u64 ((f i : Nat) : Int))) ∧ (∀ i, i < 4 → W.cell? ⟨n2, i, none⟩ = some (.int .u64 ((g i : Nat) : Int))) ∧ W.cell? ⟨1, k, none⟩ = some v) : (∀ i, i < 4 → w1.cell? ⟨n1, i, none⟩ = some (.int .u64 ((f i : Nat) : Int))) ∧ (∀ i, i < 4 → w1.cell? ⟨n2, i, none⟩ = some (.int .u64 ((g i : Nat) : Int))) ∧ w1.cell? ⟨1, k, none⟩ = some v :=
  ⟨cells_below hb h.1, cells_below hb h.2.1, by rw [hb.cell (p := ⟨1, k, none⟩) (World.block_lt_of_cell? W ⟨1, k, none⟩ h.2.2)]; exact h.2.2⟩
theorem tri_alloc (o : Obj) (h : (∀ i, i < 4 → W.cell? ⟨n1, i, none⟩ = some (.int .u64 ((f i : Nat) : Int))) ∧ (∀ i, i < 4 → W.cell? ⟨n2, i, none⟩ = some (.int .u64 ((g i : Nat) : Int))) ∧ W.cell? ⟨1, k, none⟩ = some v) : (∀ i, i < 4 → (W.alloc o).cell? ⟨n1, i, none⟩ = some (.int .u64 ((f i : Nat) : Int))) ∧ (∀ i, i < 4 → (W.alloc o).cell? ⟨n2, i, none⟩ = some (.int .u64 ((g i : Nat) : Int))) ∧ (W.alloc o).cell? ⟨1, k, none⟩ = some v := tri_below ((Below.refl _ _).alloc (Nat.le_refl _) o) h
theorem tri_re (o o' : Obj) (h1 : n1 < W.heap.size) (h2 : n2 < W.heap.size) (h3 : 1 < W.heap.size) (h : (∀ i, i < 4 → (W.alloc o).cell? ⟨n1, i, none⟩ = some (.int .u64 ((f i : Nat) : Int))) ∧ (∀ i, i < 4 → (W.alloc o).cell? ⟨n2, i, none⟩ = some (.int .u64 ((g i : Nat) : Int))) ∧ (W.alloc o).cell? ⟨1, k, none⟩ = some v) : (∀ i, i < 4 → (W.alloc o').cell? ⟨n1, i, none⟩ = some (.int .u64 ((f i : Nat) : Int))) ∧ (∀ i, i < 4 → (W.alloc o').cell? ⟨n2, i, none⟩ = some (.int .u64 ((g i : Nat) : Int))) ∧ (W.alloc o').cell? ⟨1, k, none⟩ = some v := by
  refine tri_alloc o' ⟨fun i hi => ?_, fun i hi => ?_, ?_⟩
  · rw [← (acell (w := W) (Nat.le_refl _)).1 o n1 i h1]; exact h.1 i hi
  · rw [← (acell (w := W) (Nat.le_refl _)).1 o n2 i h2]; exact h.2.1 i hi
  · rw [← (acell (w := W) (Nat.le_refl _)).1 o 1 k h3]; exact h.2.2
theorem tri_far (r : Nat) (v0 v1 v2 v3 : Value) (h1 : r ≠ n1) (h2 : r ≠ n2) (h3 : 1 < r) (h : (∀ i, i < 4 → W.cell? ⟨n1, i, none⟩ = some (.int .u64 ((f i : Nat) : Int))) ∧ (∀ i, i < 4 → W.cell? ⟨n2, i, none⟩ = some (.int .u64 ((g i : Nat) : Int))) ∧ W.cell? ⟨1, k, none⟩ = some v) : (∀ i, i < 4 → ((((W.setCell ⟨r, 0, none⟩ v0).setCell ⟨r, 1, none⟩ v1).setCell ⟨r, 2, none⟩ v2).setCell ⟨r, 3, none⟩ v3).cell? ⟨n1, i, none⟩ = some (.int .u64 ((f i : Nat) : Int))) ∧ (∀ i, i < 4 → ((((W.setCell ⟨r, 0, none⟩ v0).setCell ⟨r, 1, none⟩ v1).setCell ⟨r, 2, none⟩ v2).setCell ⟨r, 3, none⟩ v3).cell? ⟨n2, i, none⟩ = some (.int .u64 ((g i : Nat) : Int))) ∧ ((((W.setCell ⟨r, 0, none⟩ v0).setCell ⟨r, 1, none⟩ v1).setCell ⟨r, 2, none⟩ v2).setCell ⟨r, 3, none⟩ v3).cell? ⟨1, k, none⟩ = some v := by
  refine ⟨cells_far4 v0 v1 v2 v3 h1 h.1, cells_far4 v0 v1 v2 v3 h2 h.2.1, ?_⟩
  have hB : Below r W ((((W.setCell ⟨r, 0, none⟩ v0).setCell ⟨r, 1, none⟩ v1).setCell ⟨r, 2, none⟩ v2).setCell ⟨r, 3, none⟩ v3) := by
    repeat (first | exact Below.refl _ _ | refine Below.setCell ?_ (by simp) _)
  rw [hB.cell (p := ⟨1, k, none⟩) h3]
  exact h.2.2
end

/-- field.squareRoot, its answer in one form. -/
theorem squareRoot_one (m x h S : Nat) (hp : IsPrime m) (hG : GoodMod m) (h5 : 5 < m) (H : OddPart m h S) (hx : x < m) (w : World) (hg : Glob w) :
    Calls Tryz.prog 111 #[.agg #[.int .u64 ((limb 0 (m) : Nat) : Int), .int .u64 ((limb 1 (m) : Nat) : Int), .int .u64 ((limb 2 (m) : Nat) : Int), .int .u64 ((limb 3 (m) : Nat) : Int)], .int .i64 (S : Int), .agg #[.int .u64 ((limb 0 (x) : Nat) : Int), .int .u64 ((limb 1 (x) : Nat) : Int), .int .u64 ((limb 2 (x) : Nat) : Int), .int .u64 ((limb 3 (x) : Nat) : Int)]] w fun e w' => (∃ (r : Nat) (b : Bool), e = .returned (.tuple #[.agg #[.int .u64 ((limb 0 (r) : Nat) : Int), .int .u64 ((limb 1 (r) : Nat) : Int), .int .u64 ((limb 2 (r) : Nat) : Int), .int .u64 ((limb 3 (r) : Nat) : Int)], .bool b]) ∧ r < m ∧ Hid ((b = true ∧ r * r % m = x) ∨ (b = false ∧ x ≠ 0 ∧ powM m x ((2 * h + 1) * 2 ^ (S - 1)) ≠ 1))) ∧ Below w.heap.size w w' := by
  refine (squareRoot_any m x h S hp hG h5 H hx w hg).mono ?_
  rintro e w' ⟨he, hb⟩
  refine ⟨?_, hb⟩
  rcases he with ⟨r, lr, hr, rfl⟩ | ⟨h0, hn, rfl⟩
  · exact ⟨r, true, rfl, lr, Or.inl ⟨rfl, hr⟩⟩
  · refine ⟨0, false, ?_, hG.lt.1, Or.inr ⟨rfl, h0, hn⟩⟩
    rw [limbz, limbz, limbz, limbz]
    rfl
theorem odd_any (p h S T : Nat) (hS : 1 ≤ S) (hS2 : S ≤ 32) (hT : 2 ^ (S - 1) = T) (hT2 : 2 ^ S = 2 * T) (h1 : p - 1 = (2 * h + 1) * (2 * T)) (h2 : pm p 5 256 ((p - 1) / 2) = p - 1 ∧ (p - 1) / 2 < 2 ^ 256) : OddPart p h S := by
  refine ⟨by rw [hT2]; exact h1, hS, hS2, ?_⟩
  have e : (2 * h + 1) * 2 ^ (S - 1) = (p - 1) / 2 := by
    rw [hT, h1, Nat.mul_left_comm, Nat.mul_div_cancel_left _ (by decide)]
  rw [e]
  have h3 := pm_eq p 5 256 ((p - 1) / 2) h2.2
  rw [h2.1] at h3
  exact h3.symm
def oddH : Nat → Nat
  | 0 => 16126
  | 1 => 4033
  | 2 => 3369993333393829974333376885877453834209946971612698481878577354870
  | _ => 3369993333393829974333376885877453834209946971612708570864021632400
theorem oddH_ok (s : Nat) : OddPart (modN s) (oddH s) (adicN s) := by
  match s with
  | 0 => exact odd_any 16513537 16126 9 256 (by decide) (by decide) (by decide) (by decide) (by decide) (by decide +kernel)
  | 1 => exact odd_any 16521217 4033 11 1024 (by decide) (by decide) (by decide) (by decide) (by decide) (by decide +kernel)
  | 2 => exact odd_any 28948022309329048855892746252171976963363056481941560715954676764349967630337 3369993333393829974333376885877453834209946971612698481878577354870 32 2147483648 (by decide) (by decide) (by decide) (by decide) (by decide) (by decide +kernel)
  | _ + 3 => exact odd_any 28948022309329048855892746252171976963363056481941647379679742748393362948097 3369993333393829974333376885877453834209946971612708570864021632400 32 2147483648 (by decide) (by decide) (by decide) (by decide) (by decide) (by decide +kernel)

set_option maxHeartbeats 8000000 in
set_option maxRecDepth 20000 in
/-- field.Sqrt of a sort that there is. -/
theorem fSqrt_any (s a : Nat) (hs : s < 4) (ha : a < 115792089237316195423570985008687907853269984665640564039457584007913129639936) (w : World) (hg : Glob w) :
    Calls Tryz.prog 84 #[.int .i64 (s : Int), .agg #[.int .u64 ((limb 0 (a) : Nat) : Int), .int .u64 ((limb 1 (a) : Nat) : Int), .int .u64 ((limb 2 (a) : Nat) : Int), .int .u64 ((limb 3 (a) : Nat) : Int)]] w fun e w' => ((∃ r, r < modN s ∧ r % 2 = 0 ∧ r * r % modN s = a % modN s ∧ e = .returned (.tuple #[.agg #[.int .u64 ((limb 0 (r) : Nat) : Int), .int .u64 ((limb 1 (r) : Nat) : Int), .int .u64 ((limb 2 (r) : Nat) : Int), .int .u64 ((limb 3 (r) : Nat) : Int)], .int .i64 0])) ∨ (a % modN s ≠ 0 ∧ powM (modN s) (a % modN s) ((2 * oddH s + 1) * 2 ^ (adicN s - 1)) ≠ 1 ∧ e = .returned (.tuple #[.agg #[.int .u64 0, .int .u64 0, .int .u64 0, .int .u64 0], .int .i64 22]))) ∧ Below w.heap.size w w' := by
  have hG := modN_good s
  have hgl := hG.lt
  have hod := modN_odd s
  have HM := fun w hg => modulus_any s hs w hg
  have H := oddH_ok s
  have hp := modN_prime s
  have h5 := modN_5 s
  have cAd : ∀ w : World, Glob w → w.cell? ⟨1, 5 * s + 4, none⟩ = some (.int .i64 ((adicN s : Nat) : Int)) := fun w hg => (hg.2.1 s hs).2
  obtain ⟨A, eA⟩ : ∃ A, A = adicN s := ⟨_, rfl⟩
  rw [← eA] at cAd H ⊢
  clear eA
  obtain ⟨h, eh⟩ : ∃ h, h = oddH s := ⟨_, rfl⟩
  rw [← eh] at H ⊢
  clear eh
  obtain ⟨m, em⟩ : ∃ m, m = modN s := ⟨_, rfl⟩
  rw [← em] at hG hgl hod HM H hp h5 ⊢
  clear em
  have lx := Nat.mod_lt a hgl.1
  have EA := fun w => element_any m a hgl.1 hgl.2.2 ha w
  obtain ⟨x, ex⟩ : ∃ x, x = a % m := ⟨_, rfl⟩
  rw [← ex] at lx EA ⊢
  clear ex
  have SR := fun w hg => squareRoot_one m x h A hp hG h5 H lx w hg
  have DF : ∀ r w, 0 < r → r < m → Calls Tryz.prog 68 #[.agg #[.int .u64 ((limb 0 (m) : Nat) : Int), .int .u64 ((limb 1 (m) : Nat) : Int), .int .u64 ((limb 2 (m) : Nat) : Int), .int .u64 ((limb 3 (m) : Nat) : Int)], .agg #[.int .u64 0, .int .u64 0, .int .u64 0, .int .u64 0], .agg #[.int .u64 ((limb 0 (r) : Nat) : Int), .int .u64 ((limb 1 (r) : Nat) : Int), .int .u64 ((limb 2 (r) : Nat) : Int), .int .u64 ((limb 3 (r) : Nat) : Int)]] w fun e w' => e = .returned (.agg #[.int .u64 ((limb 0 (m - r) : Nat) : Int), .int .u64 ((limb 1 (m - r) : Nat) : Int), .int .u64 ((limb 2 (m - r) : Nat) : Int), .int .u64 ((limb 3 (m - r) : Nat) : Int)]) ∧ Below w.heap.size w w' := fun r w h0 hr => by
    have h := difference_any m 0 r hgl.2.2 (by decide) (by omega) (by omega) w
    rw [show diffN m 0 r = m - r from by unfold diffN; rw [if_pos h0]; omega, limbz, limbz, limbz, limbz] at h
    exact h
  have HD : Unit → _ := fun _ => DF
  have HO := (show Hid _ from hod.1)
  obtain ⟨Q0, eQ⟩ : ∃ Q0 : Nat, Q0 = (2 * h + 1) * 2 ^ (A - 1) := ⟨_, rfl⟩
  rw [← eQ] at SR ⊢
  have hm := hgl.2.2
  have hm0 := hgl.1
  clear eQ hG hgl hod hp h5 H DF
  have hs4 : s = 0 ∨ s = 1 ∨ s = 2 ∨ s = 3 := by omega
  clear hs
  rcases hs4 with rfl | rfl | rfl | rfl
  · go_enter Tryz.func84, Tryz.ntmps84
    go_wp2_with fail
    obtain ⟨w0, hw0⟩ : ∃ w0 : World, w0 = (w.alloc (.cells #[.int .u64 ((limb 0 (a) : Nat) : Int), .int .u64 ((limb 1 (a) : Nat) : Int), .int .u64 ((limb 2 (a) : Nat) : Int), .int .u64 ((limb 3 (a) : Nat) : Int)] 24)).alloc (.cells #[.int .u64 0, .int .u64 0, .int .u64 0, .int .u64 0] 24) := ⟨_, rfl⟩
    have ba0 : Blk w0 24 w.heap.size (fun i => limb i a) := by rw [hw0]; exact (Blk.newAt _ _ _ (fun i => limb i a) (by simp)).alloc _
    have br0 : Blk w0 24 (w.heap.size + 1) (fun _ => 0) := by rw [hw0]; exact Blk.newAt _ _ _ (fun _ => 0) (by simp)
    have hg0 : Glob w0 := by rw [hw0]; exact (hg.alloc _).alloc _
    have hb0 : Below w.heap.size w w0 := by rw [hw0]; exact bAlloc ((Below.refl _ _).alloc (Nat.le_refl _) _) _
    have hgw := hg.1
    rw [← hw0]
    clear hw0 hg
    refine (HM _ hg0).mono ?_
    rintro e w1 ⟨rfl, hb1⟩
    have ba1 := ba0.belowAll hb1; have br1 := br0.belowAll hb1; have hg1 := hg0.below hb1
    have hbw1 := bStep hb0 hb1
    have lr1 := br1.lt
    clear ba0 br0 hb0 hb1 hg0 HM
    obtain ⟨w2, hw2⟩ : ∃ w2 : World, w2 = w1.alloc (.cells #[.int .u64 ((limb 0 (m) : Nat) : Int), .int .u64 ((limb 1 (m) : Nat) : Int), .int .u64 ((limb 2 (m) : Nat) : Int), .int .u64 ((limb 3 (m) : Nat) : Int)] 63) := ⟨_, rfl⟩
    have ba2 : Blk w2 24 w.heap.size (fun i => limb i a) := by rw [hw2]; exact ba1.alloc _
    have br2 : Blk w2 24 (w.heap.size + 1) (fun _ => 0) := by rw [hw2]; exact br1.alloc _
    have bm2 : Blk w2 63 w1.heap.size (fun i => limb i m) := by rw [hw2]; exact Blk.new w1 _ (fun i => limb i m)
    have hg2 : Glob w2 := by rw [hw2]; exact hg1.alloc _
    have hbw2 : Below w.heap.size w w2 := by rw [hw2]; exact bAlloc hbw1 _
    have cA := cAd w2 hg2
    have lg2 : 1 < w2.heap.size := by have := hg2.1; omega
    have lm2 := bm2.lt
    have la2 := ba2.lt
    go_upto_region 4 with fail
    rw [← hw2]
    clear hw2 ba1 br1 hbw1 hg1 cAd
    go_wp2_with fail
    have hg2d := hg2.drew
    have hgAd := (hg2.alloc (.cells #[.int .u64 0, .int .u64 0, .int .u64 0, .int .u64 0] 63)).drew
    have cAd2 : w2.drew.cell? ⟨1, 4, none⟩ = some (.int .i64 (A : Int)) := cA
    have hSA := tri_alloc (W := w2.drew) (.cells #[.int .u64 0, .int .u64 0, .int .u64 0, .int .u64 0] 63) ⟨bm2.drew.cell, ba2.drew.cell, cAd2⟩
    go_cut [8, 7] (fun pr ov wx => ∃ (B ro : Nat) (b : Bool), pr = .pointer (some ⟨B, 0, none⟩) ∧ ov = .bool b ∧ ro < m ∧ Hid ((b = true ∧ ro * ro % m = x) ∨ (b = false ∧ x ≠ 0 ∧ powM m x Q0 ≠ 1)) ∧ w2.heap.size ≤ B ∧ Blk wx 63 B (fun i => limb i ro) ∧ Below w2.heap.size w2 wx)
    case first =>
      go_region_held3 (fun w' => (∀ i, i < 4 → w'.cell? ⟨w1.heap.size, i, none⟩ = some (.int .u64 ((limb i m : Nat) : Int))) ∧ (∀ i, i < 4 → w'.cell? ⟨w.heap.size, i, none⟩ = some (.int .u64 ((limb i a : Nat) : Int))) ∧ w'.cell? ⟨1, 4, none⟩ = some (.int .i64 (A : Int)))
        (first | with_reducible exact tri_below hb4 (by with_reducible assumption) | with_reducible exact tri_below hb3 (by with_reducible assumption) | with_reducible exact tri_alloc _ (by with_reducible assumption) | with_reducible exact tri_re _ _ (by omega) (by omega) (by omega) (by with_reducible assumption) | with_reducible exact tri_far _ _ _ _ _ (by omega) (by omega) (by omega) (by with_reducible assumption) | with_reducible exact ⟨bm2.drew.cell, ba2.drew.cell, cAd2⟩ | exact hSA)
        (first | (go_at_call 56; with_reducible refine (EA _).mono ?_; rintro e w3 ⟨rfl, hb3⟩; obtain ⟨hc3, hf3⟩ := bcell hb3; have hz3 := hb3.size; try simp at hz3; try (have hy3 : w2.heap.size < w3.heap.size := by omega)) | (go_at_call 111; with_reducible refine (SR _ ?_).mono ?_; (first | with_reducible exact hg2d.below hb3 | with_reducible exact hgAd.below hb3 | with_reducible exact (hg2d.below hb3).alloc _); rintro e w4 ⟨⟨ro, b, rfl, lro, hro⟩, hb4⟩; obtain ⟨hc4, hf4⟩ := bcell hb4; have hz4 := hb4.size; try simp at hz4) | fail)
      all_goals (go_wp2_with fail; go_meet)
      · refine ⟨_, ro, b, rfl, rfl, lro, hro, by omega, ?_, ?_⟩
        · exact Blk.new w4 _ (fun i => limb i ro)
        · exact ((Below.refl w2.heap.size w2).drew.trans (hb3.trans (hb4.mono (show w2.heap.size ≤ w3.heap.size by omega)))).alloc (by omega) _
      · refine ⟨_, ro, b, rfl, rfl, lro, hro, by omega, ?_, ?_⟩
        · exact ((Blk.new w3 _ (fun _ => 0)).belowAll hb4).set4 (fun i => limb i ro)
        · have hb5 : Below w2.heap.size w2 w4 := ((Below.refl w2.heap.size w2).drew.trans hb3).trans ((((Below.refl w3.heap.size w3).alloc (Nat.le_refl _) _).trans (hb4.mono (by simp))).mono (by omega))
          exact (((hb5.setCell (by dsimp only; omega) _).setCell (by dsimp only; omega) _).setCell (by dsimp only; omega) _).setCell (by dsimp only; omega) _
      · refine ⟨_, ro, b, rfl, rfl, lro, hro, by omega, ?_, ?_⟩
        · exact (((Blk.new w2 _ (fun _ => 0)).drew.belowAll hb3).belowAll hb4).set4 (fun i => limb i ro)
        · have hb5 : Below w2.heap.size w2 w4 := (((Below.refl w2.heap.size w2).alloc (Nat.le_refl _) _).drew.trans (hb3.mono (by simp))).trans (hb4.mono (by omega))
          exact (((hb5.setCell (by dsimp only; omega) _).setCell (by dsimp only; omega) _).setCell (by dsimp only; omega) _).setCell (by dsimp only; omega) _
    case rest =>
      obtain ⟨B, ro, b, rfl, rfl, lro, hro, hB, bo3, hbx⟩ := hcut
      have bm3 := bm2.belowAll hbx; have br3 := br2.belowAll hbx
      have hbw3 := bStep hbw2 hbx
      have rB : w.heap.size + 1 < B := by have := br2.lt; omega
      clear ba2 bm2 br2 hg2 hg2d hgAd hbw2 hbx cA cAd2 hSA EA SR
      rcases hro.out with ⟨rfl, hsq⟩ | ⟨rfl, hx0, hpw⟩
      · have HQ := (show Hid _ from hsq)
        clear hsq hro
        have hl0 : limb 0 ro % 2 = ro % 2 := by rw [limb0]; omega
        have c0 : wc.cell? ⟨B, 0, none⟩ = some (.int .u64 ((limb 0 ro : Nat) : Int)) := bo3.cell 0 (by decide)
        by_cases hev : ro % 2 = 0
        · have hb2 : (((limb 0 ro : Nat) : Int) % 2) = 0 := by omega
          have HE := (show Hid _ from hev)
          clear hev hl0
          have TE := fun w => toElem_any ro w
          have co := bo3.cell
          go_wp2_with fail
          refine (TE _).mono ?_
          rintro e w4 ⟨rfl, hb4⟩
          have br4 := br3.belowAll hb4
          have hbw4 := bStep hbw3 hb4
          have cr := br4.cell; have fr := br4.frozen; have lr := br4.lt
          clear br3 bm3 bo3 hbw3 hb4 c0 co
          go_wp2
          refine bodyPost_ret (v := .tuple #[.agg #[.int .u64 ((limb 0 (ro) : Nat) : Int), .int .u64 ((limb 1 (ro) : Nat) : Int), .int .u64 ((limb 2 (ro) : Nat) : Int), .int .u64 ((limb 3 (ro) : Nat) : Int)], .int .i64 0]) (by simp [results, Tryz.results84, go_sem, cr]) rfl ⟨Or.inl ⟨ro, lro, HE.out, HQ.out, rfl⟩, ?_⟩
          repeat (first | with_reducible exact hbw4 | with_reducible refine Below.setCell ?_ (by first | omega | (simp; omega) | simp) _)
        · have hb2 : (((limb 0 ro : Nat) : Int) % 2) = 1 := by omega
          have HE : Hid ((m - ro) % 2 = 0) := by show _ = _; have := HO.out; omega
          have HR : Hid ((m - ro) * (m - ro) % m = x) := by
            show _ = _
            rw [← HQ.out, ← evenR_sq lro]
            unfold evenR
            rw [if_neg hev]
          have D1 := fun w => HD () ro w (by omega) lro
          have l2 : m - ro < m := by omega
          obtain ⟨u, eu⟩ : ∃ u, u = m - ro := ⟨_, rfl⟩
          rw [← eu] at D1 HE HR l2
          clear hev hl0 eu HQ
          have TE := fun w => toElem_any u w
          have co := bo3.cell; have cm := bm3.cell
          go_wp2_with fail
          refine (D1 _).mono ?_
          rintro e w4 ⟨rfl, hb4⟩
          have br4 := br3.belowAll hb4; have bo4 := bo3.belowAll hb4
          have hbw4 := bStep hbw3 hb4
          clear br3 bm3 bo3 hbw3 hb4 c0 co cm
          have co := bo4.cell; have fo := bo4.frozen
          have bo5 := bo4.set4 (fun i => limb i u)
          have br5 := br4.other4 (show w.heap.size + 1 ≠ B by omega) (.int .u64 ((limb 0 u : Nat) : Int)) (.int .u64 ((limb 1 u : Nat) : Int)) (.int .u64 ((limb 2 u : Nat) : Int)) (.int .u64 ((limb 3 u : Nat) : Int))
          have hbw5 := bSet4 hbw4 (show w.heap.size ≤ B by omega) (.int .u64 ((limb 0 u : Nat) : Int)) (.int .u64 ((limb 1 u : Nat) : Int)) (.int .u64 ((limb 2 u : Nat) : Int)) (.int .u64 ((limb 3 u : Nat) : Int))
          go_upto_region 9 with fail
          obtain ⟨w5, hw5⟩ : ∃ w5 : World, w5 = (((w4.setCell ⟨B, 0, none⟩ (.int .u64 ((limb 0 u : Nat) : Int))).setCell ⟨B, 1, none⟩ (.int .u64 ((limb 1 u : Nat) : Int))).setCell ⟨B, 2, none⟩ (.int .u64 ((limb 2 u : Nat) : Int))).setCell ⟨B, 3, none⟩ (.int .u64 ((limb 3 u : Nat) : Int)) := ⟨_, rfl⟩
          rw [← hw5] at bo5 br5 hbw5 ⊢
          clear hw5 br4 bo4 hbw4 co fo
          have co := bo5.cell
          go_wp2_with fail
          refine (TE _).mono ?_
          rintro e w6 ⟨rfl, hb6⟩
          have br6 := br5.belowAll hb6
          have hbw6 := bStep hbw5 hb6
          have cr := br6.cell; have fr := br6.frozen; have lr := br6.lt
          clear br5 bo5 hbw5 hb6 co
          go_wp2
          refine bodyPost_ret (v := .tuple #[.agg #[.int .u64 ((limb 0 (u) : Nat) : Int), .int .u64 ((limb 1 (u) : Nat) : Int), .int .u64 ((limb 2 (u) : Nat) : Int), .int .u64 ((limb 3 (u) : Nat) : Int)], .int .i64 0]) (by simp [results, Tryz.results84, go_sem, cr]) rfl ⟨Or.inl ⟨u, l2, HE.out, HR.out, rfl⟩, ?_⟩
          repeat (first | with_reducible exact hbw6 | with_reducible refine Below.setCell ?_ (by first | omega | (simp; omega) | simp) _)
      · have H0 := (show Hid _ from hx0); have H1 := (show Hid _ from hpw)
        clear hx0 hpw hro
        have cr := br3.cell; have fr := br3.frozen; have lr := br3.lt
        clear bo3 bm3
        go_wp2
        refine bodyPost_ret (v := .tuple #[.agg #[.int .u64 0, .int .u64 0, .int .u64 0, .int .u64 0], .int .i64 22]) (by simp [results, Tryz.results84, go_sem, cr]) rfl ⟨Or.inr ⟨H0.out, H1.out, rfl⟩, ?_⟩
        repeat (first | with_reducible exact hbw3 | with_reducible refine Below.setCell ?_ (by first | omega | (simp; omega) | simp) _)
  · go_enter Tryz.func84, Tryz.ntmps84
    go_wp2_with fail
    obtain ⟨w0, hw0⟩ : ∃ w0 : World, w0 = (w.alloc (.cells #[.int .u64 ((limb 0 (a) : Nat) : Int), .int .u64 ((limb 1 (a) : Nat) : Int), .int .u64 ((limb 2 (a) : Nat) : Int), .int .u64 ((limb 3 (a) : Nat) : Int)] 24)).alloc (.cells #[.int .u64 0, .int .u64 0, .int .u64 0, .int .u64 0] 24) := ⟨_, rfl⟩
    have ba0 : Blk w0 24 w.heap.size (fun i => limb i a) := by rw [hw0]; exact (Blk.newAt _ _ _ (fun i => limb i a) (by simp)).alloc _
    have br0 : Blk w0 24 (w.heap.size + 1) (fun _ => 0) := by rw [hw0]; exact Blk.newAt _ _ _ (fun _ => 0) (by simp)
    have hg0 : Glob w0 := by rw [hw0]; exact (hg.alloc _).alloc _
    have hb0 : Below w.heap.size w w0 := by rw [hw0]; exact bAlloc ((Below.refl _ _).alloc (Nat.le_refl _) _) _
    have hgw := hg.1
    rw [← hw0]
    clear hw0 hg
    refine (HM _ hg0).mono ?_
    rintro e w1 ⟨rfl, hb1⟩
    have ba1 := ba0.belowAll hb1; have br1 := br0.belowAll hb1; have hg1 := hg0.below hb1
    have hbw1 := bStep hb0 hb1
    have lr1 := br1.lt
    clear ba0 br0 hb0 hb1 hg0 HM
    obtain ⟨w2, hw2⟩ : ∃ w2 : World, w2 = w1.alloc (.cells #[.int .u64 ((limb 0 (m) : Nat) : Int), .int .u64 ((limb 1 (m) : Nat) : Int), .int .u64 ((limb 2 (m) : Nat) : Int), .int .u64 ((limb 3 (m) : Nat) : Int)] 63) := ⟨_, rfl⟩
    have ba2 : Blk w2 24 w.heap.size (fun i => limb i a) := by rw [hw2]; exact ba1.alloc _
    have br2 : Blk w2 24 (w.heap.size + 1) (fun _ => 0) := by rw [hw2]; exact br1.alloc _
    have bm2 : Blk w2 63 w1.heap.size (fun i => limb i m) := by rw [hw2]; exact Blk.new w1 _ (fun i => limb i m)
    have hg2 : Glob w2 := by rw [hw2]; exact hg1.alloc _
    have hbw2 : Below w.heap.size w w2 := by rw [hw2]; exact bAlloc hbw1 _
    have cA := cAd w2 hg2
    have lg2 : 1 < w2.heap.size := by have := hg2.1; omega
    have lm2 := bm2.lt
    have la2 := ba2.lt
    go_upto_region 4 with fail
    rw [← hw2]
    clear hw2 ba1 br1 hbw1 hg1 cAd
    go_wp2_with fail
    have hg2d := hg2.drew
    have hgAd := (hg2.alloc (.cells #[.int .u64 0, .int .u64 0, .int .u64 0, .int .u64 0] 63)).drew
    have cAd2 : w2.drew.cell? ⟨1, 9, none⟩ = some (.int .i64 (A : Int)) := cA
    have hSA := tri_alloc (W := w2.drew) (.cells #[.int .u64 0, .int .u64 0, .int .u64 0, .int .u64 0] 63) ⟨bm2.drew.cell, ba2.drew.cell, cAd2⟩
    go_cut [8, 7] (fun pr ov wx => ∃ (B ro : Nat) (b : Bool), pr = .pointer (some ⟨B, 0, none⟩) ∧ ov = .bool b ∧ ro < m ∧ Hid ((b = true ∧ ro * ro % m = x) ∨ (b = false ∧ x ≠ 0 ∧ powM m x Q0 ≠ 1)) ∧ w2.heap.size ≤ B ∧ Blk wx 63 B (fun i => limb i ro) ∧ Below w2.heap.size w2 wx)
    case first =>
      go_region_held3 (fun w' => (∀ i, i < 4 → w'.cell? ⟨w1.heap.size, i, none⟩ = some (.int .u64 ((limb i m : Nat) : Int))) ∧ (∀ i, i < 4 → w'.cell? ⟨w.heap.size, i, none⟩ = some (.int .u64 ((limb i a : Nat) : Int))) ∧ w'.cell? ⟨1, 9, none⟩ = some (.int .i64 (A : Int)))
        (first | with_reducible exact tri_below hb4 (by with_reducible assumption) | with_reducible exact tri_below hb3 (by with_reducible assumption) | with_reducible exact tri_alloc _ (by with_reducible assumption) | with_reducible exact tri_re _ _ (by omega) (by omega) (by omega) (by with_reducible assumption) | with_reducible exact tri_far _ _ _ _ _ (by omega) (by omega) (by omega) (by with_reducible assumption) | with_reducible exact ⟨bm2.drew.cell, ba2.drew.cell, cAd2⟩ | exact hSA)
        (first | (go_at_call 56; with_reducible refine (EA _).mono ?_; rintro e w3 ⟨rfl, hb3⟩; obtain ⟨hc3, hf3⟩ := bcell hb3; have hz3 := hb3.size; try simp at hz3; try (have hy3 : w2.heap.size < w3.heap.size := by omega)) | (go_at_call 111; with_reducible refine (SR _ ?_).mono ?_; (first | with_reducible exact hg2d.below hb3 | with_reducible exact hgAd.below hb3 | with_reducible exact (hg2d.below hb3).alloc _); rintro e w4 ⟨⟨ro, b, rfl, lro, hro⟩, hb4⟩; obtain ⟨hc4, hf4⟩ := bcell hb4; have hz4 := hb4.size; try simp at hz4) | fail)
      all_goals (go_wp2_with fail; go_meet)
      · refine ⟨_, ro, b, rfl, rfl, lro, hro, by omega, ?_, ?_⟩
        · exact Blk.new w4 _ (fun i => limb i ro)
        · exact ((Below.refl w2.heap.size w2).drew.trans (hb3.trans (hb4.mono (show w2.heap.size ≤ w3.heap.size by omega)))).alloc (by omega) _
      · refine ⟨_, ro, b, rfl, rfl, lro, hro, by omega, ?_, ?_⟩
        · exact ((Blk.new w3 _ (fun _ => 0)).belowAll hb4).set4 (fun i => limb i ro)
        · have hb5 : Below w2.heap.size w2 w4 := ((Below.refl w2.heap.size w2).drew.trans hb3).trans ((((Below.refl w3.heap.size w3).alloc (Nat.le_refl _) _).trans (hb4.mono (by simp))).mono (by omega))
          exact (((hb5.setCell (by dsimp only; omega) _).setCell (by dsimp only; omega) _).setCell (by dsimp only; omega) _).setCell (by dsimp only; omega) _
      · refine ⟨_, ro, b, rfl, rfl, lro, hro, by omega, ?_, ?_⟩
        · exact (((Blk.new w2 _ (fun _ => 0)).drew.belowAll hb3).belowAll hb4).set4 (fun i => limb i ro)
        · have hb5 : Below w2.heap.size w2 w4 := (((Below.refl w2.heap.size w2).alloc (Nat.le_refl _) _).drew.trans (hb3.mono (by simp))).trans (hb4.mono (by omega))
          exact (((hb5.setCell (by dsimp only; omega) _).setCell (by dsimp only; omega) _).setCell (by dsimp only; omega) _).setCell (by dsimp only; omega) _
    case rest =>
      obtain ⟨B, ro, b, rfl, rfl, lro, hro, hB, bo3, hbx⟩ := hcut
      have bm3 := bm2.belowAll hbx; have br3 := br2.belowAll hbx
      have hbw3 := bStep hbw2 hbx
      have rB : w.heap.size + 1 < B := by have := br2.lt; omega
      clear ba2 bm2 br2 hg2 hg2d hgAd hbw2 hbx cA cAd2 hSA EA SR
      rcases hro.out with ⟨rfl, hsq⟩ | ⟨rfl, hx0, hpw⟩
      · have HQ := (show Hid _ from hsq)
        clear hsq hro
        have hl0 : limb 0 ro % 2 = ro % 2 := by rw [limb0]; omega
        have c0 : wc.cell? ⟨B, 0, none⟩ = some (.int .u64 ((limb 0 ro : Nat) : Int)) := bo3.cell 0 (by decide)
        by_cases hev : ro % 2 = 0
        · have hb2 : (((limb 0 ro : Nat) : Int) % 2) = 0 := by omega
          have HE := (show Hid _ from hev)
          clear hev hl0
          have TE := fun w => toElem_any ro w
          have co := bo3.cell
          go_wp2_with fail
          refine (TE _).mono ?_
          rintro e w4 ⟨rfl, hb4⟩
          have br4 := br3.belowAll hb4
          have hbw4 := bStep hbw3 hb4
          have cr := br4.cell; have fr := br4.frozen; have lr := br4.lt
          clear br3 bm3 bo3 hbw3 hb4 c0 co
          go_wp2
          refine bodyPost_ret (v := .tuple #[.agg #[.int .u64 ((limb 0 (ro) : Nat) : Int), .int .u64 ((limb 1 (ro) : Nat) : Int), .int .u64 ((limb 2 (ro) : Nat) : Int), .int .u64 ((limb 3 (ro) : Nat) : Int)], .int .i64 0]) (by simp [results, Tryz.results84, go_sem, cr]) rfl ⟨Or.inl ⟨ro, lro, HE.out, HQ.out, rfl⟩, ?_⟩
          repeat (first | with_reducible exact hbw4 | with_reducible refine Below.setCell ?_ (by first | omega | (simp; omega) | simp) _)
        · have hb2 : (((limb 0 ro : Nat) : Int) % 2) = 1 := by omega
          have HE : Hid ((m - ro) % 2 = 0) := by show _ = _; have := HO.out; omega
          have HR : Hid ((m - ro) * (m - ro) % m = x) := by
            show _ = _
            rw [← HQ.out, ← evenR_sq lro]
            unfold evenR
            rw [if_neg hev]
          have D1 := fun w => HD () ro w (by omega) lro
          have l2 : m - ro < m := by omega
          obtain ⟨u, eu⟩ : ∃ u, u = m - ro := ⟨_, rfl⟩
          rw [← eu] at D1 HE HR l2
          clear hev hl0 eu HQ
          have TE := fun w => toElem_any u w
          have co := bo3.cell; have cm := bm3.cell
          go_wp2_with fail
          refine (D1 _).mono ?_
          rintro e w4 ⟨rfl, hb4⟩
          have br4 := br3.belowAll hb4; have bo4 := bo3.belowAll hb4
          have hbw4 := bStep hbw3 hb4
          clear br3 bm3 bo3 hbw3 hb4 c0 co cm
          have co := bo4.cell; have fo := bo4.frozen
          have bo5 := bo4.set4 (fun i => limb i u)
          have br5 := br4.other4 (show w.heap.size + 1 ≠ B by omega) (.int .u64 ((limb 0 u : Nat) : Int)) (.int .u64 ((limb 1 u : Nat) : Int)) (.int .u64 ((limb 2 u : Nat) : Int)) (.int .u64 ((limb 3 u : Nat) : Int))
          have hbw5 := bSet4 hbw4 (show w.heap.size ≤ B by omega) (.int .u64 ((limb 0 u : Nat) : Int)) (.int .u64 ((limb 1 u : Nat) : Int)) (.int .u64 ((limb 2 u : Nat) : Int)) (.int .u64 ((limb 3 u : Nat) : Int))
          go_upto_region 9 with fail
          obtain ⟨w5, hw5⟩ : ∃ w5 : World, w5 = (((w4.setCell ⟨B, 0, none⟩ (.int .u64 ((limb 0 u : Nat) : Int))).setCell ⟨B, 1, none⟩ (.int .u64 ((limb 1 u : Nat) : Int))).setCell ⟨B, 2, none⟩ (.int .u64 ((limb 2 u : Nat) : Int))).setCell ⟨B, 3, none⟩ (.int .u64 ((limb 3 u : Nat) : Int)) := ⟨_, rfl⟩
          rw [← hw5] at bo5 br5 hbw5 ⊢
          clear hw5 br4 bo4 hbw4 co fo
          have co := bo5.cell
          go_wp2_with fail
          refine (TE _).mono ?_
          rintro e w6 ⟨rfl, hb6⟩
          have br6 := br5.belowAll hb6
          have hbw6 := bStep hbw5 hb6
          have cr := br6.cell; have fr := br6.frozen; have lr := br6.lt
          clear br5 bo5 hbw5 hb6 co
          go_wp2
          refine bodyPost_ret (v := .tuple #[.agg #[.int .u64 ((limb 0 (u) : Nat) : Int), .int .u64 ((limb 1 (u) : Nat) : Int), .int .u64 ((limb 2 (u) : Nat) : Int), .int .u64 ((limb 3 (u) : Nat) : Int)], .int .i64 0]) (by simp [results, Tryz.results84, go_sem, cr]) rfl ⟨Or.inl ⟨u, l2, HE.out, HR.out, rfl⟩, ?_⟩
          repeat (first | with_reducible exact hbw6 | with_reducible refine Below.setCell ?_ (by first | omega | (simp; omega) | simp) _)
      · have H0 := (show Hid _ from hx0); have H1 := (show Hid _ from hpw)
        clear hx0 hpw hro
        have cr := br3.cell; have fr := br3.frozen; have lr := br3.lt
        clear bo3 bm3
        go_wp2
        refine bodyPost_ret (v := .tuple #[.agg #[.int .u64 0, .int .u64 0, .int .u64 0, .int .u64 0], .int .i64 22]) (by simp [results, Tryz.results84, go_sem, cr]) rfl ⟨Or.inr ⟨H0.out, H1.out, rfl⟩, ?_⟩
        repeat (first | with_reducible exact hbw3 | with_reducible refine Below.setCell ?_ (by first | omega | (simp; omega) | simp) _)
  · go_enter Tryz.func84, Tryz.ntmps84
    go_wp2_with fail
    obtain ⟨w0, hw0⟩ : ∃ w0 : World, w0 = (w.alloc (.cells #[.int .u64 ((limb 0 (a) : Nat) : Int), .int .u64 ((limb 1 (a) : Nat) : Int), .int .u64 ((limb 2 (a) : Nat) : Int), .int .u64 ((limb 3 (a) : Nat) : Int)] 24)).alloc (.cells #[.int .u64 0, .int .u64 0, .int .u64 0, .int .u64 0] 24) := ⟨_, rfl⟩
    have ba0 : Blk w0 24 w.heap.size (fun i => limb i a) := by rw [hw0]; exact (Blk.newAt _ _ _ (fun i => limb i a) (by simp)).alloc _
    have br0 : Blk w0 24 (w.heap.size + 1) (fun _ => 0) := by rw [hw0]; exact Blk.newAt _ _ _ (fun _ => 0) (by simp)
    have hg0 : Glob w0 := by rw [hw0]; exact (hg.alloc _).alloc _
    have hb0 : Below w.heap.size w w0 := by rw [hw0]; exact bAlloc ((Below.refl _ _).alloc (Nat.le_refl _) _) _
    have hgw := hg.1
    rw [← hw0]
    clear hw0 hg
    refine (HM _ hg0).mono ?_
    rintro e w1 ⟨rfl, hb1⟩
    have ba1 := ba0.belowAll hb1; have br1 := br0.belowAll hb1; have hg1 := hg0.below hb1
    have hbw1 := bStep hb0 hb1
    have lr1 := br1.lt
    clear ba0 br0 hb0 hb1 hg0 HM
    obtain ⟨w2, hw2⟩ : ∃ w2 : World, w2 = w1.alloc (.cells #[.int .u64 ((limb 0 (m) : Nat) : Int), .int .u64 ((limb 1 (m) : Nat) : Int), .int .u64 ((limb 2 (m) : Nat) : Int), .int .u64 ((limb 3 (m) : Nat) : Int)] 63) := ⟨_, rfl⟩
    have ba2 : Blk w2 24 w.heap.size (fun i => limb i a) := by rw [hw2]; exact ba1.alloc _
    have br2 : Blk w2 24 (w.heap.size + 1) (fun _ => 0) := by rw [hw2]; exact br1.alloc _
    have bm2 : Blk w2 63 w1.heap.size (fun i => limb i m) := by rw [hw2]; exact Blk.new w1 _ (fun i => limb i m)
    have hg2 : Glob w2 := by rw [hw2]; exact hg1.alloc _
    have hbw2 : Below w.heap.size w w2 := by rw [hw2]; exact bAlloc hbw1 _
    have cA := cAd w2 hg2
    have lg2 : 1 < w2.heap.size := by have := hg2.1; omega
    have lm2 := bm2.lt
    have la2 := ba2.lt
    go_upto_region 4 with fail
    rw [← hw2]
    clear hw2 ba1 br1 hbw1 hg1 cAd
    go_wp2_with fail
    have hg2d := hg2.drew
    have hgAd := (hg2.alloc (.cells #[.int .u64 0, .int .u64 0, .int .u64 0, .int .u64 0] 63)).drew
    have cAd2 : w2.drew.cell? ⟨1, 14, none⟩ = some (.int .i64 (A : Int)) := cA
    have hSA := tri_alloc (W := w2.drew) (.cells #[.int .u64 0, .int .u64 0, .int .u64 0, .int .u64 0] 63) ⟨bm2.drew.cell, ba2.drew.cell, cAd2⟩
    go_cut [8, 7] (fun pr ov wx => ∃ (B ro : Nat) (b : Bool), pr = .pointer (some ⟨B, 0, none⟩) ∧ ov = .bool b ∧ ro < m ∧ Hid ((b = true ∧ ro * ro % m = x) ∨ (b = false ∧ x ≠ 0 ∧ powM m x Q0 ≠ 1)) ∧ w2.heap.size ≤ B ∧ Blk wx 63 B (fun i => limb i ro) ∧ Below w2.heap.size w2 wx)
    case first =>
      go_region_held3 (fun w' => (∀ i, i < 4 → w'.cell? ⟨w1.heap.size, i, none⟩ = some (.int .u64 ((limb i m : Nat) : Int))) ∧ (∀ i, i < 4 → w'.cell? ⟨w.heap.size, i, none⟩ = some (.int .u64 ((limb i a : Nat) : Int))) ∧ w'.cell? ⟨1, 14, none⟩ = some (.int .i64 (A : Int)))
        (first | with_reducible exact tri_below hb4 (by with_reducible assumption) | with_reducible exact tri_below hb3 (by with_reducible assumption) | with_reducible exact tri_alloc _ (by with_reducible assumption) | with_reducible exact tri_re _ _ (by omega) (by omega) (by omega) (by with_reducible assumption) | with_reducible exact tri_far _ _ _ _ _ (by omega) (by omega) (by omega) (by with_reducible assumption) | with_reducible exact ⟨bm2.drew.cell, ba2.drew.cell, cAd2⟩ | exact hSA)
        (first | (go_at_call 56; with_reducible refine (EA _).mono ?_; rintro e w3 ⟨rfl, hb3⟩; obtain ⟨hc3, hf3⟩ := bcell hb3; have hz3 := hb3.size; try simp at hz3; try (have hy3 : w2.heap.size < w3.heap.size := by omega)) | (go_at_call 111; with_reducible refine (SR _ ?_).mono ?_; (first | with_reducible exact hg2d.below hb3 | with_reducible exact hgAd.below hb3 | with_reducible exact (hg2d.below hb3).alloc _); rintro e w4 ⟨⟨ro, b, rfl, lro, hro⟩, hb4⟩; obtain ⟨hc4, hf4⟩ := bcell hb4; have hz4 := hb4.size; try simp at hz4) | fail)
      all_goals (go_wp2_with fail; go_meet)
      · refine ⟨_, ro, b, rfl, rfl, lro, hro, by omega, ?_, ?_⟩
        · exact Blk.new w4 _ (fun i => limb i ro)
        · exact ((Below.refl w2.heap.size w2).drew.trans (hb3.trans (hb4.mono (show w2.heap.size ≤ w3.heap.size by omega)))).alloc (by omega) _
      · refine ⟨_, ro, b, rfl, rfl, lro, hro, by omega, ?_, ?_⟩
        · exact ((Blk.new w3 _ (fun _ => 0)).belowAll hb4).set4 (fun i => limb i ro)
        · have hb5 : Below w2.heap.size w2 w4 := ((Below.refl w2.heap.size w2).drew.trans hb3).trans ((((Below.refl w3.heap.size w3).alloc (Nat.le_refl _) _).trans (hb4.mono (by simp))).mono (by omega))
          exact (((hb5.setCell (by dsimp only; omega) _).setCell (by dsimp only; omega) _).setCell (by dsimp only; omega) _).setCell (by dsimp only; omega) _
      · refine ⟨_, ro, b, rfl, rfl, lro, hro, by omega, ?_, ?_⟩
        · exact (((Blk.new w2 _ (fun _ => 0)).drew.belowAll hb3).belowAll hb4).set4 (fun i => limb i ro)
        · have hb5 : Below w2.heap.size w2 w4 := (((Below.refl w2.heap.size w2).alloc (Nat.le_refl _) _).drew.trans (hb3.mono (by simp))).trans (hb4.mono (by omega))
          exact (((hb5.setCell (by dsimp only; omega) _).setCell (by dsimp only; omega) _).setCell (by dsimp only; omega) _).setCell (by dsimp only; omega) _
    case rest =>
      obtain ⟨B, ro, b, rfl, rfl, lro, hro, hB, bo3, hbx⟩ := hcut
      have bm3 := bm2.belowAll hbx; have br3 := br2.belowAll hbx
      have hbw3 := bStep hbw2 hbx
      have rB : w.heap.size + 1 < B := by have := br2.lt; omega
      clear ba2 bm2 br2 hg2 hg2d hgAd hbw2 hbx cA cAd2 hSA EA SR
      rcases hro.out with ⟨rfl, hsq⟩ | ⟨rfl, hx0, hpw⟩
      · have HQ := (show Hid _ from hsq)
        clear hsq hro
        have hl0 : limb 0 ro % 2 = ro % 2 := by rw [limb0]; omega
        have c0 : wc.cell? ⟨B, 0, none⟩ = some (.int .u64 ((limb 0 ro : Nat) : Int)) := bo3.cell 0 (by decide)
        by_cases hev : ro % 2 = 0
        · have hb2 : (((limb 0 ro : Nat) : Int) % 2) = 0 := by omega
          have HE := (show Hid _ from hev)
          clear hev hl0
          have TE := fun w => toElem_any ro w
          have co := bo3.cell
          go_wp2_with fail
          refine (TE _).mono ?_
          rintro e w4 ⟨rfl, hb4⟩
          have br4 := br3.belowAll hb4
          have hbw4 := bStep hbw3 hb4
          have cr := br4.cell; have fr := br4.frozen; have lr := br4.lt
          clear br3 bm3 bo3 hbw3 hb4 c0 co
          go_wp2
          refine bodyPost_ret (v := .tuple #[.agg #[.int .u64 ((limb 0 (ro) : Nat) : Int), .int .u64 ((limb 1 (ro) : Nat) : Int), .int .u64 ((limb 2 (ro) : Nat) : Int), .int .u64 ((limb 3 (ro) : Nat) : Int)], .int .i64 0]) (by simp [results, Tryz.results84, go_sem, cr]) rfl ⟨Or.inl ⟨ro, lro, HE.out, HQ.out, rfl⟩, ?_⟩
          repeat (first | with_reducible exact hbw4 | with_reducible refine Below.setCell ?_ (by first | omega | (simp; omega) | simp) _)
        · have hb2 : (((limb 0 ro : Nat) : Int) % 2) = 1 := by omega
          have HE : Hid ((m - ro) % 2 = 0) := by show _ = _; have := HO.out; omega
          have HR : Hid ((m - ro) * (m - ro) % m = x) := by
            show _ = _
            rw [← HQ.out, ← evenR_sq lro]
            unfold evenR
            rw [if_neg hev]
          have D1 := fun w => HD () ro w (by omega) lro
          have l2 : m - ro < m := by omega
          obtain ⟨u, eu⟩ : ∃ u, u = m - ro := ⟨_, rfl⟩
          rw [← eu] at D1 HE HR l2
          clear hev hl0 eu HQ
          have TE := fun w => toElem_any u w
          have co := bo3.cell; have cm := bm3.cell
          go_wp2_with fail
          refine (D1 _).mono ?_
          rintro e w4 ⟨rfl, hb4⟩
          have br4 := br3.belowAll hb4; have bo4 := bo3.belowAll hb4
          have hbw4 := bStep hbw3 hb4
          clear br3 bm3 bo3 hbw3 hb4 c0 co cm
          have co := bo4.cell; have fo := bo4.frozen
          have bo5 := bo4.set4 (fun i => limb i u)
          have br5 := br4.other4 (show w.heap.size + 1 ≠ B by omega) (.int .u64 ((limb 0 u : Nat) : Int)) (.int .u64 ((limb 1 u : Nat) : Int)) (.int .u64 ((limb 2 u : Nat) : Int)) (.int .u64 ((limb 3 u : Nat) : Int))
          have hbw5 := bSet4 hbw4 (show w.heap.size ≤ B by omega) (.int .u64 ((limb 0 u : Nat) : Int)) (.int .u64 ((limb 1 u : Nat) : Int)) (.int .u64 ((limb 2 u : Nat) : Int)) (.int .u64 ((limb 3 u : Nat) : Int))
          go_upto_region 9 with fail
          obtain ⟨w5, hw5⟩ : ∃ w5 : World, w5 = (((w4.setCell ⟨B, 0, none⟩ (.int .u64 ((limb 0 u : Nat) : Int))).setCell ⟨B, 1, none⟩ (.int .u64 ((limb 1 u : Nat) : Int))).setCell ⟨B, 2, none⟩ (.int .u64 ((limb 2 u : Nat) : Int))).setCell ⟨B, 3, none⟩ (.int .u64 ((limb 3 u : Nat) : Int)) := ⟨_, rfl⟩
          rw [← hw5] at bo5 br5 hbw5 ⊢
          clear hw5 br4 bo4 hbw4 co fo
          have co := bo5.cell
          go_wp2_with fail
          refine (TE _).mono ?_
          rintro e w6 ⟨rfl, hb6⟩
          have br6 := br5.belowAll hb6
          have hbw6 := bStep hbw5 hb6
          have cr := br6.cell; have fr := br6.frozen; have lr := br6.lt
          clear br5 bo5 hbw5 hb6 co
          go_wp2
          refine bodyPost_ret (v := .tuple #[.agg #[.int .u64 ((limb 0 (u) : Nat) : Int), .int .u64 ((limb 1 (u) : Nat) : Int), .int .u64 ((limb 2 (u) : Nat) : Int), .int .u64 ((limb 3 (u) : Nat) : Int)], .int .i64 0]) (by simp [results, Tryz.results84, go_sem, cr]) rfl ⟨Or.inl ⟨u, l2, HE.out, HR.out, rfl⟩, ?_⟩
          repeat (first | with_reducible exact hbw6 | with_reducible refine Below.setCell ?_ (by first | omega | (simp; omega) | simp) _)
      · have H0 := (show Hid _ from hx0); have H1 := (show Hid _ from hpw)
        clear hx0 hpw hro
        have cr := br3.cell; have fr := br3.frozen; have lr := br3.lt
        clear bo3 bm3
        go_wp2
        refine bodyPost_ret (v := .tuple #[.agg #[.int .u64 0, .int .u64 0, .int .u64 0, .int .u64 0], .int .i64 22]) (by simp [results, Tryz.results84, go_sem, cr]) rfl ⟨Or.inr ⟨H0.out, H1.out, rfl⟩, ?_⟩
        repeat (first | with_reducible exact hbw3 | with_reducible refine Below.setCell ?_ (by first | omega | (simp; omega) | simp) _)
  · go_enter Tryz.func84, Tryz.ntmps84
    go_wp2_with fail
    obtain ⟨w0, hw0⟩ : ∃ w0 : World, w0 = (w.alloc (.cells #[.int .u64 ((limb 0 (a) : Nat) : Int), .int .u64 ((limb 1 (a) : Nat) : Int), .int .u64 ((limb 2 (a) : Nat) : Int), .int .u64 ((limb 3 (a) : Nat) : Int)] 24)).alloc (.cells #[.int .u64 0, .int .u64 0, .int .u64 0, .int .u64 0] 24) := ⟨_, rfl⟩
    have ba0 : Blk w0 24 w.heap.size (fun i => limb i a) := by rw [hw0]; exact (Blk.newAt _ _ _ (fun i => limb i a) (by simp)).alloc _
    have br0 : Blk w0 24 (w.heap.size + 1) (fun _ => 0) := by rw [hw0]; exact Blk.newAt _ _ _ (fun _ => 0) (by simp)
    have hg0 : Glob w0 := by rw [hw0]; exact (hg.alloc _).alloc _
    have hb0 : Below w.heap.size w w0 := by rw [hw0]; exact bAlloc ((Below.refl _ _).alloc (Nat.le_refl _) _) _
    have hgw := hg.1
    rw [← hw0]
    clear hw0 hg
    refine (HM _ hg0).mono ?_
    rintro e w1 ⟨rfl, hb1⟩
    have ba1 := ba0.belowAll hb1; have br1 := br0.belowAll hb1; have hg1 := hg0.below hb1
    have hbw1 := bStep hb0 hb1
    have lr1 := br1.lt
    clear ba0 br0 hb0 hb1 hg0 HM
    obtain ⟨w2, hw2⟩ : ∃ w2 : World, w2 = w1.alloc (.cells #[.int .u64 ((limb 0 (m) : Nat) : Int), .int .u64 ((limb 1 (m) : Nat) : Int), .int .u64 ((limb 2 (m) : Nat) : Int), .int .u64 ((limb 3 (m) : Nat) : Int)] 63) := ⟨_, rfl⟩
    have ba2 : Blk w2 24 w.heap.size (fun i => limb i a) := by rw [hw2]; exact ba1.alloc _
    have br2 : Blk w2 24 (w.heap.size + 1) (fun _ => 0) := by rw [hw2]; exact br1.alloc _
    have bm2 : Blk w2 63 w1.heap.size (fun i => limb i m) := by rw [hw2]; exact Blk.new w1 _ (fun i => limb i m)
    have hg2 : Glob w2 := by rw [hw2]; exact hg1.alloc _
    have hbw2 : Below w.heap.size w w2 := by rw [hw2]; exact bAlloc hbw1 _
    have cA := cAd w2 hg2
    have lg2 : 1 < w2.heap.size := by have := hg2.1; omega
    have lm2 := bm2.lt
    have la2 := ba2.lt
    go_upto_region 4 with fail
    rw [← hw2]
    clear hw2 ba1 br1 hbw1 hg1 cAd
    go_wp2_with fail
    have hg2d := hg2.drew
    have hgAd := (hg2.alloc (.cells #[.int .u64 0, .int .u64 0, .int .u64 0, .int .u64 0] 63)).drew
    have cAd2 : w2.drew.cell? ⟨1, 19, none⟩ = some (.int .i64 (A : Int)) := cA
    have hSA := tri_alloc (W := w2.drew) (.cells #[.int .u64 0, .int .u64 0, .int .u64 0, .int .u64 0] 63) ⟨bm2.drew.cell, ba2.drew.cell, cAd2⟩
    go_cut [8, 7] (fun pr ov wx => ∃ (B ro : Nat) (b : Bool), pr = .pointer (some ⟨B, 0, none⟩) ∧ ov = .bool b ∧ ro < m ∧ Hid ((b = true ∧ ro * ro % m = x) ∨ (b = false ∧ x ≠ 0 ∧ powM m x Q0 ≠ 1)) ∧ w2.heap.size ≤ B ∧ Blk wx 63 B (fun i => limb i ro) ∧ Below w2.heap.size w2 wx)
    case first =>
      go_region_held3 (fun w' => (∀ i, i < 4 → w'.cell? ⟨w1.heap.size, i, none⟩ = some (.int .u64 ((limb i m : Nat) : Int))) ∧ (∀ i, i < 4 → w'.cell? ⟨w.heap.size, i, none⟩ = some (.int .u64 ((limb i a : Nat) : Int))) ∧ w'.cell? ⟨1, 19, none⟩ = some (.int .i64 (A : Int)))
        (first | with_reducible exact tri_below hb4 (by with_reducible assumption) | with_reducible exact tri_below hb3 (by with_reducible assumption) | with_reducible exact tri_alloc _ (by with_reducible assumption) | with_reducible exact tri_re _ _ (by omega) (by omega) (by omega) (by with_reducible assumption) | with_reducible exact tri_far _ _ _ _ _ (by omega) (by omega) (by omega) (by with_reducible assumption) | with_reducible exact ⟨bm2.drew.cell, ba2.drew.cell, cAd2⟩ | exact hSA)
        (first | (go_at_call 56; with_reducible refine (EA _).mono ?_; rintro e w3 ⟨rfl, hb3⟩; obtain ⟨hc3, hf3⟩ := bcell hb3; have hz3 := hb3.size; try simp at hz3; try (have hy3 : w2.heap.size < w3.heap.size := by omega)) | (go_at_call 111; with_reducible refine (SR _ ?_).mono ?_; (first | with_reducible exact hg2d.below hb3 | with_reducible exact hgAd.below hb3 | with_reducible exact (hg2d.below hb3).alloc _); rintro e w4 ⟨⟨ro, b, rfl, lro, hro⟩, hb4⟩; obtain ⟨hc4, hf4⟩ := bcell hb4; have hz4 := hb4.size; try simp at hz4) | fail)
      all_goals (go_wp2_with fail; go_meet)
      · refine ⟨_, ro, b, rfl, rfl, lro, hro, by omega, ?_, ?_⟩
        · exact Blk.new w4 _ (fun i => limb i ro)
        · exact ((Below.refl w2.heap.size w2).drew.trans (hb3.trans (hb4.mono (show w2.heap.size ≤ w3.heap.size by omega)))).alloc (by omega) _
      · refine ⟨_, ro, b, rfl, rfl, lro, hro, by omega, ?_, ?_⟩
        · exact ((Blk.new w3 _ (fun _ => 0)).belowAll hb4).set4 (fun i => limb i ro)
        · have hb5 : Below w2.heap.size w2 w4 := ((Below.refl w2.heap.size w2).drew.trans hb3).trans ((((Below.refl w3.heap.size w3).alloc (Nat.le_refl _) _).trans (hb4.mono (by simp))).mono (by omega))
          exact (((hb5.setCell (by dsimp only; omega) _).setCell (by dsimp only; omega) _).setCell (by dsimp only; omega) _).setCell (by dsimp only; omega) _
      · refine ⟨_, ro, b, rfl, rfl, lro, hro, by omega, ?_, ?_⟩
        · exact (((Blk.new w2 _ (fun _ => 0)).drew.belowAll hb3).belowAll hb4).set4 (fun i => limb i ro)
        · have hb5 : Below w2.heap.size w2 w4 := (((Below.refl w2.heap.size w2).alloc (Nat.le_refl _) _).drew.trans (hb3.mono (by simp))).trans (hb4.mono (by omega))
          exact (((hb5.setCell (by dsimp only; omega) _).setCell (by dsimp only; omega) _).setCell (by dsimp only; omega) _).setCell (by dsimp only; omega) _
    case rest =>
      obtain ⟨B, ro, b, rfl, rfl, lro, hro, hB, bo3, hbx⟩ := hcut
      have bm3 := bm2.belowAll hbx; have br3 := br2.belowAll hbx
      have hbw3 := bStep hbw2 hbx
      have rB : w.heap.size + 1 < B := by have := br2.lt; omega
      clear ba2 bm2 br2 hg2 hg2d hgAd hbw2 hbx cA cAd2 hSA EA SR
      rcases hro.out with ⟨rfl, hsq⟩ | ⟨rfl, hx0, hpw⟩
      · have HQ := (show Hid _ from hsq)
        clear hsq hro
        have hl0 : limb 0 ro % 2 = ro % 2 := by rw [limb0]; omega
        have c0 : wc.cell? ⟨B, 0, none⟩ = some (.int .u64 ((limb 0 ro : Nat) : Int)) := bo3.cell 0 (by decide)
        by_cases hev : ro % 2 = 0
        · have hb2 : (((limb 0 ro : Nat) : Int) % 2) = 0 := by omega
          have HE := (show Hid _ from hev)
          clear hev hl0
          have TE := fun w => toElem_any ro w
          have co := bo3.cell
          go_wp2_with fail
          refine (TE _).mono ?_
          rintro e w4 ⟨rfl, hb4⟩
          have br4 := br3.belowAll hb4
          have hbw4 := bStep hbw3 hb4
          have cr := br4.cell; have fr := br4.frozen; have lr := br4.lt
          clear br3 bm3 bo3 hbw3 hb4 c0 co
          go_wp2
          refine bodyPost_ret (v := .tuple #[.agg #[.int .u64 ((limb 0 (ro) : Nat) : Int), .int .u64 ((limb 1 (ro) : Nat) : Int), .int .u64 ((limb 2 (ro) : Nat) : Int), .int .u64 ((limb 3 (ro) : Nat) : Int)], .int .i64 0]) (by simp [results, Tryz.results84, go_sem, cr]) rfl ⟨Or.inl ⟨ro, lro, HE.out, HQ.out, rfl⟩, ?_⟩
          repeat (first | with_reducible exact hbw4 | with_reducible refine Below.setCell ?_ (by first | omega | (simp; omega) | simp) _)
        · have hb2 : (((limb 0 ro : Nat) : Int) % 2) = 1 := by omega
          have HE : Hid ((m - ro) % 2 = 0) := by show _ = _; have := HO.out; omega
          have HR : Hid ((m - ro) * (m - ro) % m = x) := by
            show _ = _
            rw [← HQ.out, ← evenR_sq lro]
            unfold evenR
            rw [if_neg hev]
          have D1 := fun w => HD () ro w (by omega) lro
          have l2 : m - ro < m := by omega
          obtain ⟨u, eu⟩ : ∃ u, u = m - ro := ⟨_, rfl⟩
          rw [← eu] at D1 HE HR l2
          clear hev hl0 eu HQ
          have TE := fun w => toElem_any u w
          have co := bo3.cell; have cm := bm3.cell
          go_wp2_with fail
          refine (D1 _).mono ?_
          rintro e w4 ⟨rfl, hb4⟩
          have br4 := br3.belowAll hb4; have bo4 := bo3.belowAll hb4
          have hbw4 := bStep hbw3 hb4
          clear br3 bm3 bo3 hbw3 hb4 c0 co cm
          have co := bo4.cell; have fo := bo4.frozen
          have bo5 := bo4.set4 (fun i => limb i u)
          have br5 := br4.other4 (show w.heap.size + 1 ≠ B by omega) (.int .u64 ((limb 0 u : Nat) : Int)) (.int .u64 ((limb 1 u : Nat) : Int)) (.int .u64 ((limb 2 u : Nat) : Int)) (.int .u64 ((limb 3 u : Nat) : Int))
          have hbw5 := bSet4 hbw4 (show w.heap.size ≤ B by omega) (.int .u64 ((limb 0 u : Nat) : Int)) (.int .u64 ((limb 1 u : Nat) : Int)) (.int .u64 ((limb 2 u : Nat) : Int)) (.int .u64 ((limb 3 u : Nat) : Int))
          go_upto_region 9 with fail
          obtain ⟨w5, hw5⟩ : ∃ w5 : World, w5 = (((w4.setCell ⟨B, 0, none⟩ (.int .u64 ((limb 0 u : Nat) : Int))).setCell ⟨B, 1, none⟩ (.int .u64 ((limb 1 u : Nat) : Int))).setCell ⟨B, 2, none⟩ (.int .u64 ((limb 2 u : Nat) : Int))).setCell ⟨B, 3, none⟩ (.int .u64 ((limb 3 u : Nat) : Int)) := ⟨_, rfl⟩
          rw [← hw5] at bo5 br5 hbw5 ⊢
          clear hw5 br4 bo4 hbw4 co fo
          have co := bo5.cell
          go_wp2_with fail
          refine (TE _).mono ?_
          rintro e w6 ⟨rfl, hb6⟩
          have br6 := br5.belowAll hb6
          have hbw6 := bStep hbw5 hb6
          have cr := br6.cell; have fr := br6.frozen; have lr := br6.lt
          clear br5 bo5 hbw5 hb6 co
          go_wp2
          refine bodyPost_ret (v := .tuple #[.agg #[.int .u64 ((limb 0 (u) : Nat) : Int), .int .u64 ((limb 1 (u) : Nat) : Int), .int .u64 ((limb 2 (u) : Nat) : Int), .int .u64 ((limb 3 (u) : Nat) : Int)], .int .i64 0]) (by simp [results, Tryz.results84, go_sem, cr]) rfl ⟨Or.inl ⟨u, l2, HE.out, HR.out, rfl⟩, ?_⟩
          repeat (first | with_reducible exact hbw6 | with_reducible refine Below.setCell ?_ (by first | omega | (simp; omega) | simp) _)
      · have H0 := (show Hid _ from hx0); have H1 := (show Hid _ from hpw)
        clear hx0 hpw hro
        have cr := br3.cell; have fr := br3.frozen; have lr := br3.lt
        clear bo3 bm3
        go_wp2
        refine bodyPost_ret (v := .tuple #[.agg #[.int .u64 0, .int .u64 0, .int .u64 0, .int .u64 0], .int .i64 22]) (by simp [results, Tryz.results84, go_sem, cr]) rfl ⟨Or.inr ⟨H0.out, H1.out, rfl⟩, ?_⟩
        repeat (first | with_reducible exact hbw3 | with_reducible refine Below.setCell ?_ (by first | omega | (simp; omega) | simp) _)

end Go.Proofs.YthkajdmcmodklaaGreatDoor
