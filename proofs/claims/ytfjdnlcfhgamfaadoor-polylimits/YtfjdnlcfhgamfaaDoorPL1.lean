/- PolyLimits: the walk. -/
import Derived.Test.YtfjdnlcfhgamfaaDoorPD1
import Derived.Test.YtfjdnlcfhgamfaaDoorPB8
namespace Go.Proofs.YtfjdnlcfhgamfaaDoor
open Go.RowKit

set_option maxHeartbeats 8000000 in
set_option maxRecDepth 40000 in
theorem plim_a (s N M N3 p q : Nat) (hs : s < 4) (hN1 : 1 ≤ N) (hN2 : N ≤ 1100) (hM1 : 1 ≤ M) (hM2 : M ≤ 40) (h3 : N3 = N + 3) (hp : p = N - 1) (hq : q = M - 1) (w : World) (hg : Glob w) (hd : 1024 < N) (hmu : ∀ A B w, Glob w → Es w (.slice (some ⟨A, 0, none⟩) N3 N3) N3 (fun i => if i = p then 1 else 0) → Es w (.slice (some ⟨B, 0, none⟩) M M) M (fun i => if i = q then 2 else 0) → Calls Tryd.prog 22 #[.int .i64 (s : Int), .slice (some ⟨A, 0, none⟩) N3 N3, .slice (some ⟨B, 0, none⟩) M M] w fun e w' => e = .returned (.tuple #[.slice none 0 0, .int .i64 70]) ∧ Below w.heap.size w w') (hdi : ∀ A B w, Glob w → Es w (.slice (some ⟨A, 0, none⟩) N3 N3) N3 (fun i => if i = p then 1 else 0) → Es w (.slice (some ⟨B, 0, none⟩) M M) M (fun i => if i = q then 2 else 0) → Calls Tryd.prog 24 #[.int .i64 (s : Int), .slice (some ⟨A, 0, none⟩) N3 N3, .slice (some ⟨B, 0, none⟩) M M] w fun e w' => e = .returned (.tuple #[.slice none 0 0, .slice none 0 0, .int .i64 70]) ∧ Below w.heap.size w w') : Calls Tryd.prog 6 #[.int .i64 (s : Int), .int .i64 (N : Int), .int .i64 (M : Int)] w fun e w' => e = .returned (.bool true) ∧ Below w.heap.size w w' := by
  obtain ⟨i0, hi, hz0, hz1, hz2⟩ := elemInfo
  have HI := (show Hid _ from hi); have HZ := (show Hid _ from And.intro hz0 (And.intro hz1 hz2)); clear hi hz0 hz1 hz2
  have HG : Hid (Glob w) := hg
  have HMU : Hid (∀ A B w, Glob w → Es w (.slice (some ⟨A, 0, none⟩) N3 N3) N3 (fun i => if i = p then 1 else 0) → Es w (.slice (some ⟨B, 0, none⟩) M M) M (fun i => if i = q then 2 else 0) → _) := hmu
  have HDI : Hid (∀ A B w, Glob w → Es w (.slice (some ⟨A, 0, none⟩) N3 N3) N3 (fun i => if i = p then 1 else 0) → Es w (.slice (some ⟨B, 0, none⟩) M M) M (fun i => if i = q then 2 else 0) → _) := hdi
  have hs0 : ¬ (s : Int) < 0 := by omega
  have hs3 : ¬ (3 : Int) < (s : Int) := by omega
  have hn1 : ¬ (N : Int) < 1 := by omega
  have hm1 : ¬ (M : Int) < 1 := by omega
  have hn2 : ¬ (1100 : Int) < (N : Int) := by omega
  have hm2 : ¬ (40 : Int) < (M : Int) := by omega
  have hN3i : (N : Int) + 3 = (N3 : Int) := by omega
  have hpi : (N : Int) - 1 = (p : Int) := by omega
  have hqi : (M : Int) - 1 = (q : Int) := by omega
  have hp3 : p < N3 := by omega
  have hqM : q < M := by omega
  have hp3i : (p : Int) < (N3 : Int) := by omega
  have hqMi : (q : Int) < (M : Int) := by omega
  have hnm : (1024 : Int) < (N : Int) + (M : Int) := by omega
  have hnd : (1024 : Int) < (N : Int) := by omega
  clear hg hmu hdi hs hN1 hM1 hp hq h3
  go_enter Tryd.func6, Tryd.ntmps6
  go_wp2_with fail
  refine (alive7_any w HG.out).mono ?_
  rintro e w1 ⟨rfl, hb1⟩
  have lw1 := hb1.size
  go_wp2_with (first
    | (at_make; refine wpList_make_full _ rfl _ _ 22 rfl w1.heap.size 25 i0 (.agg #[.int .u64 0, .int .u64 0, .int .u64 0, .int .u64 0]) 4 Tryd.underlying22 HI.out HZ.out.1 HZ.out.2.1 .i64 .i64 N3 N3 N3 rfl rfl rfl rfl ?c1 ?c2 (Nat.le_refl _) ?_)
    | go_in)
  case c1 => rw [HZ.out.2.2]; omega
  case c2 => unfold maxLen; omega
  intro w2 hown hgrow
  obtain ⟨A, eA⟩ : ∃ G, G = w1.heap.size := ⟨_, rfl⟩
  rw [← eA] at hown ⊢
  have bA2 : BlkE w2 A N3 (fun _ => 0) := (own_blkE (f := fun _ => 0) hown (fun i hi j hj => by rw [made_zero N3 (i * 4 + j) (by omega), limb_zero]; rfl)).1
  have hbe : Below w1.heap.size w1 w2 := (Below.refl _ w1).grown hgrow (Nat.le_refl _) (fun j hj => by cases hj)
  have hbw2 := bStep hb1 hbe
  have lA : w.heap.size ≤ A := by omega
  clear hown hgrow hbe hb1 eA lw1
  go_wp2_with (first
    | (at_make; refine wpList_make_full _ rfl _ _ 22 rfl w2.heap.size 25 i0 (.agg #[.int .u64 0, .int .u64 0, .int .u64 0, .int .u64 0]) 4 Tryd.underlying22 HI.out HZ.out.1 HZ.out.2.1 .i64 .i64 M M M rfl rfl rfl rfl ?c1 ?c2 (Nat.le_refl _) ?_)
    | go_in)
  case c1 => rw [HZ.out.2.2]; omega
  case c2 => unfold maxLen; omega
  intro w3 hown hgrow
  obtain ⟨B, eB⟩ : ∃ G, G = w2.heap.size := ⟨_, rfl⟩
  rw [← eB] at hown ⊢
  have bB3 : BlkE w3 B M (fun _ => 0) := (own_blkE (f := fun _ => 0) hown (fun i hi j hj => by rw [made_zero M (i * 4 + j) (by omega), limb_zero]; rfl)).1
  have hbe : Below w2.heap.size w2 w3 := (Below.refl _ w2).grown hgrow (Nat.le_refl _) (fun j hj => by cases hj)
  have bA3 := bA2.belowAll hbe
  have hbw3 := bStep hbw2 hbe
  have lB : w.heap.size ≤ B := by have := hbw2.size; omega
  have nAB : A ≠ B := by have := bA2.lt; omega
  clear hown hgrow hbe hbw2 eB bA2
  have o0 := bA3.cell p hp3 0 (by decide); have o1 := bA3.cell p hp3 1 (by decide); have o2 := bA3.cell p hp3 2 (by decide); have o3 := bA3.cell p hp3 3 (by decide)
  rw [Nat.add_zero] at o0
  have fo := bA3.frozen
  obtain ⟨w4, hw4, bA4, hk4⟩ := bA3.put hp3 1
  rw [(limb_few 1 (by decide)).1, (limb_few 1 (by decide)).2.1, (limb_few 1 (by decide)).2.2.1, (limb_few 1 (by decide)).2.2.2, show ((1 : Nat) : Int) = 1 from rfl, show ((0 : Nat) : Int) = 0 from rfl] at hw4
  have bB4 := bB3.kept (fun h => nAB h.symm) hk4
  have hbw4 := bKept hbw3 lA hk4
  have r0 := bB4.cell q hqM 0 (by decide); have r1 := bB4.cell q hqM 1 (by decide); have r2 := bB4.cell q hqM 2 (by decide); have r3 := bB4.cell q hqM 3 (by decide)
  rw [Nat.add_zero] at r0
  have fr := bB4.frozen
  obtain ⟨w5, hw5, bB5, hk5⟩ := bB4.put hqM 2
  rw [(limb_few 2 (by decide)).1, (limb_few 2 (by decide)).2.1, (limb_few 2 (by decide)).2.2.1, (limb_few 2 (by decide)).2.2.2, show ((2 : Nat) : Int) = 2 from rfl, show ((0 : Nat) : Int) = 0 from rfl] at hw5
  have bA5 := bA4.kept nAB hk5
  have hbw5 := bKept hbw4 lB hk5
  have HA5 : Hid (Es w5 (.slice (some ⟨A, 0, none⟩) N3 N3) N3 (fun i => if i = p then 1 else 0)) := bA5.Es (by unfold maxLen; omega)
  have HB5 : Hid (Es w5 (.slice (some ⟨B, 0, none⟩) M M) M (fun i => if i = q then 2 else 0)) := bB5.Es (by unfold maxLen; omega)
  clear hk4 hk5 bA4 bB4 bA3 bB3 hbw3 hbw4 bA5 bB5
  go_upto_region 9 with fail
  clear hw4 hw5 o0 o1 o2 o3 r0 r1 r2 r3 fo fr
  go_wp2_with fail
  refine (HMU.out A B w5 (HG.out.below hbw5) HA5.out HB5.out).mono ?_
  rintro e w6 ⟨rfl, hb6⟩
  have HA6 : Hid (Es w6 (.slice (some ⟨A, 0, none⟩) N3 N3) N3 (fun i => if i = p then 1 else 0)) := HA5.out.below hb6
  have HB6 : Hid (Es w6 (.slice (some ⟨B, 0, none⟩) M M) M (fun i => if i = q then 2 else 0)) := HB5.out.below hb6
  have hbw6 := bStep hbw5 hb6
  clear HA5 HB5 hb6 hbw5
  go_wp2_with fail
  refine (HDI.out A B w6 (HG.out.below hbw6) HA6.out HB6.out).mono ?_
  rintro e w7 ⟨rfl, hb7⟩
  have hbw7 := bStep hbw6 hb7
  clear hbw6 hb7 HA6 HB6
  go_wp2
  go_ret
  exact ⟨rfl, hbw7⟩
set_option maxHeartbeats 8000000 in
set_option maxRecDepth 40000 in
theorem plim_b (s N M N3 p q : Nat) (hs : s < 4) (hN1 : 1 ≤ N) (hN2 : N ≤ 1100) (hM1 : 1 ≤ M) (hM2 : M ≤ 40) (h3 : N3 = N + 3) (hp : p = N - 1) (hq : q = M - 1) (w : World) (hg : Glob w) (hd : N ≤ 1024) (hd2 : 1024 < N + M) (R : Nat) (hR : R = 0) (hmu : ∀ A B w, Glob w → Es w (.slice (some ⟨A, 0, none⟩) N3 N3) N3 (fun i => if i = p then 1 else 0) → Es w (.slice (some ⟨B, 0, none⟩) M M) M (fun i => if i = q then 2 else 0) → Calls Tryd.prog 22 #[.int .i64 (s : Int), .slice (some ⟨A, 0, none⟩) N3 N3, .slice (some ⟨B, 0, none⟩) M M] w fun e w' => e = .returned (.tuple #[.slice none 0 0, .int .i64 70]) ∧ Below w.heap.size w w') (hdi : ∀ A B w, Glob w → Es w (.slice (some ⟨A, 0, none⟩) N3 N3) N3 (fun i => if i = p then 1 else 0) → Es w (.slice (some ⟨B, 0, none⟩) M M) M (fun i => if i = q then 2 else 0) → Calls Tryd.prog 24 #[.int .i64 (s : Int), .slice (some ⟨A, 0, none⟩) N3 N3, .slice (some ⟨B, 0, none⟩) M M] w fun e w' => (∃ G A c k, e = .returned (.tuple #[.slice (some ⟨G, 0, none⟩) k k, .slice (some ⟨A, 0, none⟩) R c, .int .i64 0])) ∧ Below w.heap.size w w') : Calls Tryd.prog 6 #[.int .i64 (s : Int), .int .i64 (N : Int), .int .i64 (M : Int)] w fun e w' => e = .returned (.bool true) ∧ Below w.heap.size w w' := by
  subst hR
  obtain ⟨i0, hi, hz0, hz1, hz2⟩ := elemInfo
  have HI := (show Hid _ from hi); have HZ := (show Hid _ from And.intro hz0 (And.intro hz1 hz2)); clear hi hz0 hz1 hz2
  have HG : Hid (Glob w) := hg
  have HMU : Hid (∀ A B w, Glob w → Es w (.slice (some ⟨A, 0, none⟩) N3 N3) N3 (fun i => if i = p then 1 else 0) → Es w (.slice (some ⟨B, 0, none⟩) M M) M (fun i => if i = q then 2 else 0) → _) := hmu
  have HDI : Hid (∀ A B w, Glob w → Es w (.slice (some ⟨A, 0, none⟩) N3 N3) N3 (fun i => if i = p then 1 else 0) → Es w (.slice (some ⟨B, 0, none⟩) M M) M (fun i => if i = q then 2 else 0) → _) := hdi
  have hs0 : ¬ (s : Int) < 0 := by omega
  have hs3 : ¬ (3 : Int) < (s : Int) := by omega
  have hn1 : ¬ (N : Int) < 1 := by omega
  have hm1 : ¬ (M : Int) < 1 := by omega
  have hn2 : ¬ (1100 : Int) < (N : Int) := by omega
  have hm2 : ¬ (40 : Int) < (M : Int) := by omega
  have hN3i : (N : Int) + 3 = (N3 : Int) := by omega
  have hpi : (N : Int) - 1 = (p : Int) := by omega
  have hqi : (M : Int) - 1 = (q : Int) := by omega
  have hp3 : p < N3 := by omega
  have hqM : q < M := by omega
  have hp3i : (p : Int) < (N3 : Int) := by omega
  have hqMi : (q : Int) < (M : Int) := by omega
  have hnm : (1024 : Int) < (N : Int) + (M : Int) := by omega
  have hnd : ¬ (1024 : Int) < (N : Int) := by omega
  clear hg hmu hdi hs hN1 hM1 hp hq h3
  go_enter Tryd.func6, Tryd.ntmps6
  go_wp2_with fail
  refine (alive7_any w HG.out).mono ?_
  rintro e w1 ⟨rfl, hb1⟩
  have lw1 := hb1.size
  go_wp2_with (first
    | (at_make; refine wpList_make_full _ rfl _ _ 22 rfl w1.heap.size 25 i0 (.agg #[.int .u64 0, .int .u64 0, .int .u64 0, .int .u64 0]) 4 Tryd.underlying22 HI.out HZ.out.1 HZ.out.2.1 .i64 .i64 N3 N3 N3 rfl rfl rfl rfl ?c1 ?c2 (Nat.le_refl _) ?_)
    | go_in)
  case c1 => rw [HZ.out.2.2]; omega
  case c2 => unfold maxLen; omega
  intro w2 hown hgrow
  obtain ⟨A, eA⟩ : ∃ G, G = w1.heap.size := ⟨_, rfl⟩
  rw [← eA] at hown ⊢
  have bA2 : BlkE w2 A N3 (fun _ => 0) := (own_blkE (f := fun _ => 0) hown (fun i hi j hj => by rw [made_zero N3 (i * 4 + j) (by omega), limb_zero]; rfl)).1
  have hbe : Below w1.heap.size w1 w2 := (Below.refl _ w1).grown hgrow (Nat.le_refl _) (fun j hj => by cases hj)
  have hbw2 := bStep hb1 hbe
  have lA : w.heap.size ≤ A := by omega
  clear hown hgrow hbe hb1 eA lw1
  go_wp2_with (first
    | (at_make; refine wpList_make_full _ rfl _ _ 22 rfl w2.heap.size 25 i0 (.agg #[.int .u64 0, .int .u64 0, .int .u64 0, .int .u64 0]) 4 Tryd.underlying22 HI.out HZ.out.1 HZ.out.2.1 .i64 .i64 M M M rfl rfl rfl rfl ?c1 ?c2 (Nat.le_refl _) ?_)
    | go_in)
  case c1 => rw [HZ.out.2.2]; omega
  case c2 => unfold maxLen; omega
  intro w3 hown hgrow
  obtain ⟨B, eB⟩ : ∃ G, G = w2.heap.size := ⟨_, rfl⟩
  rw [← eB] at hown ⊢
  have bB3 : BlkE w3 B M (fun _ => 0) := (own_blkE (f := fun _ => 0) hown (fun i hi j hj => by rw [made_zero M (i * 4 + j) (by omega), limb_zero]; rfl)).1
  have hbe : Below w2.heap.size w2 w3 := (Below.refl _ w2).grown hgrow (Nat.le_refl _) (fun j hj => by cases hj)
  have bA3 := bA2.belowAll hbe
  have hbw3 := bStep hbw2 hbe
  have lB : w.heap.size ≤ B := by have := hbw2.size; omega
  have nAB : A ≠ B := by have := bA2.lt; omega
  clear hown hgrow hbe hbw2 eB bA2
  have o0 := bA3.cell p hp3 0 (by decide); have o1 := bA3.cell p hp3 1 (by decide); have o2 := bA3.cell p hp3 2 (by decide); have o3 := bA3.cell p hp3 3 (by decide)
  rw [Nat.add_zero] at o0
  have fo := bA3.frozen
  obtain ⟨w4, hw4, bA4, hk4⟩ := bA3.put hp3 1
  rw [(limb_few 1 (by decide)).1, (limb_few 1 (by decide)).2.1, (limb_few 1 (by decide)).2.2.1, (limb_few 1 (by decide)).2.2.2, show ((1 : Nat) : Int) = 1 from rfl, show ((0 : Nat) : Int) = 0 from rfl] at hw4
  have bB4 := bB3.kept (fun h => nAB h.symm) hk4
  have hbw4 := bKept hbw3 lA hk4
  have r0 := bB4.cell q hqM 0 (by decide); have r1 := bB4.cell q hqM 1 (by decide); have r2 := bB4.cell q hqM 2 (by decide); have r3 := bB4.cell q hqM 3 (by decide)
  rw [Nat.add_zero] at r0
  have fr := bB4.frozen
  obtain ⟨w5, hw5, bB5, hk5⟩ := bB4.put hqM 2
  rw [(limb_few 2 (by decide)).1, (limb_few 2 (by decide)).2.1, (limb_few 2 (by decide)).2.2.1, (limb_few 2 (by decide)).2.2.2, show ((2 : Nat) : Int) = 2 from rfl, show ((0 : Nat) : Int) = 0 from rfl] at hw5
  have bA5 := bA4.kept nAB hk5
  have hbw5 := bKept hbw4 lB hk5
  have HA5 : Hid (Es w5 (.slice (some ⟨A, 0, none⟩) N3 N3) N3 (fun i => if i = p then 1 else 0)) := bA5.Es (by unfold maxLen; omega)
  have HB5 : Hid (Es w5 (.slice (some ⟨B, 0, none⟩) M M) M (fun i => if i = q then 2 else 0)) := bB5.Es (by unfold maxLen; omega)
  clear hk4 hk5 bA4 bB4 bA3 bB3 hbw3 hbw4 bA5 bB5
  go_upto_region 9 with fail
  clear hw4 hw5 o0 o1 o2 o3 r0 r1 r2 r3 fo fr
  go_wp2_with fail
  refine (HMU.out A B w5 (HG.out.below hbw5) HA5.out HB5.out).mono ?_
  rintro e w6 ⟨rfl, hb6⟩
  have HA6 : Hid (Es w6 (.slice (some ⟨A, 0, none⟩) N3 N3) N3 (fun i => if i = p then 1 else 0)) := HA5.out.below hb6
  have HB6 : Hid (Es w6 (.slice (some ⟨B, 0, none⟩) M M) M (fun i => if i = q then 2 else 0)) := HB5.out.below hb6
  have hbw6 := bStep hbw5 hb6
  clear HA5 HB5 hb6 hbw5
  go_wp2_with fail
  refine (HDI.out A B w6 (HG.out.below hbw6) HA6.out HB6.out).mono ?_
  rintro e w7 ⟨⟨G2, A2, c2, k2, rfl⟩, hb7⟩
  have hbw7 := bStep hbw6 hb7
  clear hbw6 hb7 HA6 HB6
  go_wp2
  go_ret
  exact ⟨rfl, hbw7⟩
set_option maxHeartbeats 8000000 in
set_option maxRecDepth 40000 in
theorem plim_c (s N M N3 p q : Nat) (hs : s < 4) (hN1 : 1 ≤ N) (hN2 : N ≤ 1100) (hM1 : 1 ≤ M) (hM2 : M ≤ 40) (h3 : N3 = N + 3) (hp : p = N - 1) (hq : q = M - 1) (w : World) (hg : Glob w) (hd2 : N + M ≤ 1024) (R L : Nat) (hR : R = 0) (hL : L = N + M - 1) (hmu : ∀ A B w, Glob w → Es w (.slice (some ⟨A, 0, none⟩) N3 N3) N3 (fun i => if i = p then 1 else 0) → Es w (.slice (some ⟨B, 0, none⟩) M M) M (fun i => if i = q then 2 else 0) → Calls Tryd.prog 22 #[.int .i64 (s : Int), .slice (some ⟨A, 0, none⟩) N3 N3, .slice (some ⟨B, 0, none⟩) M M] w fun e w' => (∃ G, e = .returned (.tuple #[.slice (some ⟨G, 0, none⟩) L L, .int .i64 0])) ∧ Below w.heap.size w w') (hdi : ∀ A B w, Glob w → Es w (.slice (some ⟨A, 0, none⟩) N3 N3) N3 (fun i => if i = p then 1 else 0) → Es w (.slice (some ⟨B, 0, none⟩) M M) M (fun i => if i = q then 2 else 0) → Calls Tryd.prog 24 #[.int .i64 (s : Int), .slice (some ⟨A, 0, none⟩) N3 N3, .slice (some ⟨B, 0, none⟩) M M] w fun e w' => (∃ G A c k, e = .returned (.tuple #[.slice (some ⟨G, 0, none⟩) k k, .slice (some ⟨A, 0, none⟩) R c, .int .i64 0])) ∧ Below w.heap.size w w') : Calls Tryd.prog 6 #[.int .i64 (s : Int), .int .i64 (N : Int), .int .i64 (M : Int)] w fun e w' => e = .returned (.bool true) ∧ Below w.heap.size w w' := by
  subst hR
  obtain ⟨i0, hi, hz0, hz1, hz2⟩ := elemInfo
  have HI := (show Hid _ from hi); have HZ := (show Hid _ from And.intro hz0 (And.intro hz1 hz2)); clear hi hz0 hz1 hz2
  have HG : Hid (Glob w) := hg
  have HMU : Hid (∀ A B w, Glob w → Es w (.slice (some ⟨A, 0, none⟩) N3 N3) N3 (fun i => if i = p then 1 else 0) → Es w (.slice (some ⟨B, 0, none⟩) M M) M (fun i => if i = q then 2 else 0) → _) := hmu
  have HDI : Hid (∀ A B w, Glob w → Es w (.slice (some ⟨A, 0, none⟩) N3 N3) N3 (fun i => if i = p then 1 else 0) → Es w (.slice (some ⟨B, 0, none⟩) M M) M (fun i => if i = q then 2 else 0) → _) := hdi
  have hs0 : ¬ (s : Int) < 0 := by omega
  have hs3 : ¬ (3 : Int) < (s : Int) := by omega
  have hn1 : ¬ (N : Int) < 1 := by omega
  have hm1 : ¬ (M : Int) < 1 := by omega
  have hn2 : ¬ (1100 : Int) < (N : Int) := by omega
  have hm2 : ¬ (40 : Int) < (M : Int) := by omega
  have hN3i : (N : Int) + 3 = (N3 : Int) := by omega
  have hpi : (N : Int) - 1 = (p : Int) := by omega
  have hqi : (M : Int) - 1 = (q : Int) := by omega
  have hp3 : p < N3 := by omega
  have hqM : q < M := by omega
  have hp3i : (p : Int) < (N3 : Int) := by omega
  have hqMi : (q : Int) < (M : Int) := by omega
  have hnm : ¬ (1024 : Int) < (N : Int) + (M : Int) := by omega
  have hnd : ¬ (1024 : Int) < (N : Int) := by omega
  have hLi : (N : Int) + (M : Int) - 1 = (L : Int) := by omega
  clear hL
  clear hg hmu hdi hs hN1 hM1 hp hq h3
  go_enter Tryd.func6, Tryd.ntmps6
  go_wp2_with fail
  refine (alive7_any w HG.out).mono ?_
  rintro e w1 ⟨rfl, hb1⟩
  have lw1 := hb1.size
  go_wp2_with (first
    | (at_make; refine wpList_make_full _ rfl _ _ 22 rfl w1.heap.size 25 i0 (.agg #[.int .u64 0, .int .u64 0, .int .u64 0, .int .u64 0]) 4 Tryd.underlying22 HI.out HZ.out.1 HZ.out.2.1 .i64 .i64 N3 N3 N3 rfl rfl rfl rfl ?c1 ?c2 (Nat.le_refl _) ?_)
    | go_in)
  case c1 => rw [HZ.out.2.2]; omega
  case c2 => unfold maxLen; omega
  intro w2 hown hgrow
  obtain ⟨A, eA⟩ : ∃ G, G = w1.heap.size := ⟨_, rfl⟩
  rw [← eA] at hown ⊢
  have bA2 : BlkE w2 A N3 (fun _ => 0) := (own_blkE (f := fun _ => 0) hown (fun i hi j hj => by rw [made_zero N3 (i * 4 + j) (by omega), limb_zero]; rfl)).1
  have hbe : Below w1.heap.size w1 w2 := (Below.refl _ w1).grown hgrow (Nat.le_refl _) (fun j hj => by cases hj)
  have hbw2 := bStep hb1 hbe
  have lA : w.heap.size ≤ A := by omega
  clear hown hgrow hbe hb1 eA lw1
  go_wp2_with (first
    | (at_make; refine wpList_make_full _ rfl _ _ 22 rfl w2.heap.size 25 i0 (.agg #[.int .u64 0, .int .u64 0, .int .u64 0, .int .u64 0]) 4 Tryd.underlying22 HI.out HZ.out.1 HZ.out.2.1 .i64 .i64 M M M rfl rfl rfl rfl ?c1 ?c2 (Nat.le_refl _) ?_)
    | go_in)
  case c1 => rw [HZ.out.2.2]; omega
  case c2 => unfold maxLen; omega
  intro w3 hown hgrow
  obtain ⟨B, eB⟩ : ∃ G, G = w2.heap.size := ⟨_, rfl⟩
  rw [← eB] at hown ⊢
  have bB3 : BlkE w3 B M (fun _ => 0) := (own_blkE (f := fun _ => 0) hown (fun i hi j hj => by rw [made_zero M (i * 4 + j) (by omega), limb_zero]; rfl)).1
  have hbe : Below w2.heap.size w2 w3 := (Below.refl _ w2).grown hgrow (Nat.le_refl _) (fun j hj => by cases hj)
  have bA3 := bA2.belowAll hbe
  have hbw3 := bStep hbw2 hbe
  have lB : w.heap.size ≤ B := by have := hbw2.size; omega
  have nAB : A ≠ B := by have := bA2.lt; omega
  clear hown hgrow hbe hbw2 eB bA2
  have o0 := bA3.cell p hp3 0 (by decide); have o1 := bA3.cell p hp3 1 (by decide); have o2 := bA3.cell p hp3 2 (by decide); have o3 := bA3.cell p hp3 3 (by decide)
  rw [Nat.add_zero] at o0
  have fo := bA3.frozen
  obtain ⟨w4, hw4, bA4, hk4⟩ := bA3.put hp3 1
  rw [(limb_few 1 (by decide)).1, (limb_few 1 (by decide)).2.1, (limb_few 1 (by decide)).2.2.1, (limb_few 1 (by decide)).2.2.2, show ((1 : Nat) : Int) = 1 from rfl, show ((0 : Nat) : Int) = 0 from rfl] at hw4
  have bB4 := bB3.kept (fun h => nAB h.symm) hk4
  have hbw4 := bKept hbw3 lA hk4
  have r0 := bB4.cell q hqM 0 (by decide); have r1 := bB4.cell q hqM 1 (by decide); have r2 := bB4.cell q hqM 2 (by decide); have r3 := bB4.cell q hqM 3 (by decide)
  rw [Nat.add_zero] at r0
  have fr := bB4.frozen
  obtain ⟨w5, hw5, bB5, hk5⟩ := bB4.put hqM 2
  rw [(limb_few 2 (by decide)).1, (limb_few 2 (by decide)).2.1, (limb_few 2 (by decide)).2.2.1, (limb_few 2 (by decide)).2.2.2, show ((2 : Nat) : Int) = 2 from rfl, show ((0 : Nat) : Int) = 0 from rfl] at hw5
  have bA5 := bA4.kept nAB hk5
  have hbw5 := bKept hbw4 lB hk5
  have HA5 : Hid (Es w5 (.slice (some ⟨A, 0, none⟩) N3 N3) N3 (fun i => if i = p then 1 else 0)) := bA5.Es (by unfold maxLen; omega)
  have HB5 : Hid (Es w5 (.slice (some ⟨B, 0, none⟩) M M) M (fun i => if i = q then 2 else 0)) := bB5.Es (by unfold maxLen; omega)
  clear hk4 hk5 bA4 bB4 bA3 bB3 hbw3 hbw4 bA5 bB5
  go_upto_region 9 with fail
  clear hw4 hw5 o0 o1 o2 o3 r0 r1 r2 r3 fo fr
  go_wp2_with fail
  refine (HMU.out A B w5 (HG.out.below hbw5) HA5.out HB5.out).mono ?_
  rintro e w6 ⟨⟨G, rfl⟩, hb6⟩
  have HA6 : Hid (Es w6 (.slice (some ⟨A, 0, none⟩) N3 N3) N3 (fun i => if i = p then 1 else 0)) := HA5.out.below hb6
  have HB6 : Hid (Es w6 (.slice (some ⟨B, 0, none⟩) M M) M (fun i => if i = q then 2 else 0)) := HB5.out.below hb6
  have hbw6 := bStep hbw5 hb6
  clear HA5 HB5 hb6 hbw5
  go_wp2_with fail
  refine (HDI.out A B w6 (HG.out.below hbw6) HA6.out HB6.out).mono ?_
  rintro e w7 ⟨⟨G2, A2, c2, k2, rfl⟩, hb7⟩
  have hbw7 := bStep hbw6 hb7
  clear hbw6 hb7 HA6 HB6
  go_wp2
  go_ret
  exact ⟨rfl, hbw7⟩
set_option maxHeartbeats 8000000 in
set_option maxRecDepth 40000 in
theorem plim_d (s N M N3 p q : Nat) (hs : s < 4) (hN1 : 1 ≤ N) (hN2 : N ≤ 1100) (hM1 : 1 ≤ M) (hM2 : M ≤ 40) (h3 : N3 = N + 3) (hp : p = N - 1) (hq : q = M - 1) (w : World) (hg : Glob w) (hd2 : N + M ≤ 1024) (hlt : N < M) (R L : Nat) (hR : R ≠ 0) (hL : L = N + M - 1) (hmu : ∀ A B w, Glob w → Es w (.slice (some ⟨A, 0, none⟩) N3 N3) N3 (fun i => if i = p then 1 else 0) → Es w (.slice (some ⟨B, 0, none⟩) M M) M (fun i => if i = q then 2 else 0) → Calls Tryd.prog 22 #[.int .i64 (s : Int), .slice (some ⟨A, 0, none⟩) N3 N3, .slice (some ⟨B, 0, none⟩) M M] w fun e w' => (∃ G, e = .returned (.tuple #[.slice (some ⟨G, 0, none⟩) L L, .int .i64 0])) ∧ Below w.heap.size w w') (hdi : ∀ A B w, Glob w → Es w (.slice (some ⟨A, 0, none⟩) N3 N3) N3 (fun i => if i = p then 1 else 0) → Es w (.slice (some ⟨B, 0, none⟩) M M) M (fun i => if i = q then 2 else 0) → Calls Tryd.prog 24 #[.int .i64 (s : Int), .slice (some ⟨A, 0, none⟩) N3 N3, .slice (some ⟨B, 0, none⟩) M M] w fun e w' => (∃ G A c k, e = .returned (.tuple #[.slice (some ⟨G, 0, none⟩) k k, .slice (some ⟨A, 0, none⟩) R c, .int .i64 0])) ∧ Below w.heap.size w w') : Calls Tryd.prog 6 #[.int .i64 (s : Int), .int .i64 (N : Int), .int .i64 (M : Int)] w fun e w' => e = .returned (.bool true) ∧ Below w.heap.size w w' := by
  obtain ⟨i0, hi, hz0, hz1, hz2⟩ := elemInfo
  have HI := (show Hid _ from hi); have HZ := (show Hid _ from And.intro hz0 (And.intro hz1 hz2)); clear hi hz0 hz1 hz2
  have HG : Hid (Glob w) := hg
  have HMU : Hid (∀ A B w, Glob w → Es w (.slice (some ⟨A, 0, none⟩) N3 N3) N3 (fun i => if i = p then 1 else 0) → Es w (.slice (some ⟨B, 0, none⟩) M M) M (fun i => if i = q then 2 else 0) → _) := hmu
  have HDI : Hid (∀ A B w, Glob w → Es w (.slice (some ⟨A, 0, none⟩) N3 N3) N3 (fun i => if i = p then 1 else 0) → Es w (.slice (some ⟨B, 0, none⟩) M M) M (fun i => if i = q then 2 else 0) → _) := hdi
  have hs0 : ¬ (s : Int) < 0 := by omega
  have hs3 : ¬ (3 : Int) < (s : Int) := by omega
  have hn1 : ¬ (N : Int) < 1 := by omega
  have hm1 : ¬ (M : Int) < 1 := by omega
  have hn2 : ¬ (1100 : Int) < (N : Int) := by omega
  have hm2 : ¬ (40 : Int) < (M : Int) := by omega
  have hN3i : (N : Int) + 3 = (N3 : Int) := by omega
  have hpi : (N : Int) - 1 = (p : Int) := by omega
  have hqi : (M : Int) - 1 = (q : Int) := by omega
  have hp3 : p < N3 := by omega
  have hqM : q < M := by omega
  have hp3i : (p : Int) < (N3 : Int) := by omega
  have hqMi : (q : Int) < (M : Int) := by omega
  have hnm : ¬ (1024 : Int) < (N : Int) + (M : Int) := by omega
  have hnd : ¬ (1024 : Int) < (N : Int) := by omega
  have hLi : (N : Int) + (M : Int) - 1 = (L : Int) := by omega
  have hRb : ((R : Int) != 0) = true := by rw [bne_iff_ne]; omega
  have hge : ¬ (M : Int) ≤ (N : Int) := by omega
  clear hL hR
  clear hg hmu hdi hs hN1 hM1 hp hq h3
  go_enter Tryd.func6, Tryd.ntmps6
  go_wp2_with fail
  refine (alive7_any w HG.out).mono ?_
  rintro e w1 ⟨rfl, hb1⟩
  have lw1 := hb1.size
  go_wp2_with (first
    | (at_make; refine wpList_make_full _ rfl _ _ 22 rfl w1.heap.size 25 i0 (.agg #[.int .u64 0, .int .u64 0, .int .u64 0, .int .u64 0]) 4 Tryd.underlying22 HI.out HZ.out.1 HZ.out.2.1 .i64 .i64 N3 N3 N3 rfl rfl rfl rfl ?c1 ?c2 (Nat.le_refl _) ?_)
    | go_in)
  case c1 => rw [HZ.out.2.2]; omega
  case c2 => unfold maxLen; omega
  intro w2 hown hgrow
  obtain ⟨A, eA⟩ : ∃ G, G = w1.heap.size := ⟨_, rfl⟩
  rw [← eA] at hown ⊢
  have bA2 : BlkE w2 A N3 (fun _ => 0) := (own_blkE (f := fun _ => 0) hown (fun i hi j hj => by rw [made_zero N3 (i * 4 + j) (by omega), limb_zero]; rfl)).1
  have hbe : Below w1.heap.size w1 w2 := (Below.refl _ w1).grown hgrow (Nat.le_refl _) (fun j hj => by cases hj)
  have hbw2 := bStep hb1 hbe
  have lA : w.heap.size ≤ A := by omega
  clear hown hgrow hbe hb1 eA lw1
  go_wp2_with (first
    | (at_make; refine wpList_make_full _ rfl _ _ 22 rfl w2.heap.size 25 i0 (.agg #[.int .u64 0, .int .u64 0, .int .u64 0, .int .u64 0]) 4 Tryd.underlying22 HI.out HZ.out.1 HZ.out.2.1 .i64 .i64 M M M rfl rfl rfl rfl ?c1 ?c2 (Nat.le_refl _) ?_)
    | go_in)
  case c1 => rw [HZ.out.2.2]; omega
  case c2 => unfold maxLen; omega
  intro w3 hown hgrow
  obtain ⟨B, eB⟩ : ∃ G, G = w2.heap.size := ⟨_, rfl⟩
  rw [← eB] at hown ⊢
  have bB3 : BlkE w3 B M (fun _ => 0) := (own_blkE (f := fun _ => 0) hown (fun i hi j hj => by rw [made_zero M (i * 4 + j) (by omega), limb_zero]; rfl)).1
  have hbe : Below w2.heap.size w2 w3 := (Below.refl _ w2).grown hgrow (Nat.le_refl _) (fun j hj => by cases hj)
  have bA3 := bA2.belowAll hbe
  have hbw3 := bStep hbw2 hbe
  have lB : w.heap.size ≤ B := by have := hbw2.size; omega
  have nAB : A ≠ B := by have := bA2.lt; omega
  clear hown hgrow hbe hbw2 eB bA2
  have o0 := bA3.cell p hp3 0 (by decide); have o1 := bA3.cell p hp3 1 (by decide); have o2 := bA3.cell p hp3 2 (by decide); have o3 := bA3.cell p hp3 3 (by decide)
  rw [Nat.add_zero] at o0
  have fo := bA3.frozen
  obtain ⟨w4, hw4, bA4, hk4⟩ := bA3.put hp3 1
  rw [(limb_few 1 (by decide)).1, (limb_few 1 (by decide)).2.1, (limb_few 1 (by decide)).2.2.1, (limb_few 1 (by decide)).2.2.2, show ((1 : Nat) : Int) = 1 from rfl, show ((0 : Nat) : Int) = 0 from rfl] at hw4
  have bB4 := bB3.kept (fun h => nAB h.symm) hk4
  have hbw4 := bKept hbw3 lA hk4
  have r0 := bB4.cell q hqM 0 (by decide); have r1 := bB4.cell q hqM 1 (by decide); have r2 := bB4.cell q hqM 2 (by decide); have r3 := bB4.cell q hqM 3 (by decide)
  rw [Nat.add_zero] at r0
  have fr := bB4.frozen
  obtain ⟨w5, hw5, bB5, hk5⟩ := bB4.put hqM 2
  rw [(limb_few 2 (by decide)).1, (limb_few 2 (by decide)).2.1, (limb_few 2 (by decide)).2.2.1, (limb_few 2 (by decide)).2.2.2, show ((2 : Nat) : Int) = 2 from rfl, show ((0 : Nat) : Int) = 0 from rfl] at hw5
  have bA5 := bA4.kept nAB hk5
  have hbw5 := bKept hbw4 lB hk5
  have HA5 : Hid (Es w5 (.slice (some ⟨A, 0, none⟩) N3 N3) N3 (fun i => if i = p then 1 else 0)) := bA5.Es (by unfold maxLen; omega)
  have HB5 : Hid (Es w5 (.slice (some ⟨B, 0, none⟩) M M) M (fun i => if i = q then 2 else 0)) := bB5.Es (by unfold maxLen; omega)
  clear hk4 hk5 bA4 bB4 bA3 bB3 hbw3 hbw4 bA5 bB5
  go_upto_region 9 with fail
  clear hw4 hw5 o0 o1 o2 o3 r0 r1 r2 r3 fo fr
  go_wp2_with fail
  refine (HMU.out A B w5 (HG.out.below hbw5) HA5.out HB5.out).mono ?_
  rintro e w6 ⟨⟨G, rfl⟩, hb6⟩
  have HA6 : Hid (Es w6 (.slice (some ⟨A, 0, none⟩) N3 N3) N3 (fun i => if i = p then 1 else 0)) := HA5.out.below hb6
  have HB6 : Hid (Es w6 (.slice (some ⟨B, 0, none⟩) M M) M (fun i => if i = q then 2 else 0)) := HB5.out.below hb6
  have hbw6 := bStep hbw5 hb6
  clear HA5 HB5 hb6 hbw5
  go_wp2_with fail
  refine (HDI.out A B w6 (HG.out.below hbw6) HA6.out HB6.out).mono ?_
  rintro e w7 ⟨⟨G2, A2, c2, k2, rfl⟩, hb7⟩
  have hbw7 := bStep hbw6 hb7
  clear hbw6 hb7 HA6 HB6
  go_wp2
  go_ret
  exact ⟨rfl, hbw7⟩
end Go.Proofs.YtfjdnlcfhgamfaaDoor
