/- product.Along. -/
import Derived.Test.YteheloagjkengaaDoorMLF
import Derived.Test.YteheloagjkengaaDoorL3
namespace Go.Proofs.YteheloagjkengaaDoor
open Go.RowKit

set_option maxHeartbeats 4000000 in
set_option maxRecDepth 20000 in
/-- product.Along, a ratio's divisor 0. -/
theorem along_bad (s n g b st cn : Nat) (A B : Nat → Nat) (hs : s < 4) (hn : n ≤ 1000) (hB : ∀ i, i < n → B i < 115792089237316195423570985008687907853269984665640564039457584007913129639936) (hz : pre (modN s) B n = 0) (w : World) (hg : Glob w) (hr : RtB w g n A B) :
    Calls Tryd.prog 18 #[.int .i64 (s : Int), .agg #[.int .u64 ((limb 0 (st) : Nat) : Int), .int .u64 ((limb 1 (st) : Nat) : Int), .int .u64 ((limb 2 (st) : Nat) : Int), .int .u64 ((limb 3 (st) : Nat) : Int)], .slice (some ⟨g, 0, none⟩) n cn, .pointer (some ⟨b, 0, none⟩)] w fun e w' => e = .returned (.tuple #[.slice none 0 0, .int .i64 100]) ∧ Below w.heap.size w w' := by
  obtain ⟨i0, hi, hz0, hz1, hz2⟩ := elemInfo
  have HI := (show Hid _ from hi); have HZ := (show Hid _ from And.intro hz0 (And.intro hz1 hz2)); clear hi hz0 hz1 hz2
  have HIV : Hid (∀ (G : Nat) w, Glob w → G < w.heap.size → BlkE w G n B → Calls Tryd.prog 29 #[.int .i64 (s : Int), .slice (some ⟨G, 0, none⟩) n n] w fun e w' => e = .returned (.tuple #[.slice none 0 0, .int .i64 10]) ∧ Below w.heap.size w w') := by
    intro G w hg hl hb
    refine (fInvert_walk s n n G 0 B hs hn hB w hg hl (fun i hi j hj => by have := hb.cell i hi j hj; rwa [Nat.zero_add])).mono ?_
    rintro e w' ⟨⟨_, he⟩ | ⟨h0, _⟩, hb⟩
    · exact ⟨he, hb⟩
    · exact absurd hz h0
  have HG : Hid (Glob w) := hg
  have HR : Hid (RtB w g n A B) := hr
  obtain ⟨si, esi⟩ : ∃ z : Int, z = (s : Int) := ⟨_, rfl⟩
  rw [← esi] at HIV ⊢
  clear hg hr hz hB hs esi
  go_enter Tryd.func18, Tryd.ntmps18
  go_upto_region 1 with fail
  obtain ⟨w1, hw1⟩ : ∃ z : World, z = w.alloc (.cells #[.int .u64 ((limb 0 (st) : Nat) : Int), .int .u64 ((limb 1 (st) : Nat) : Int), .int .u64 ((limb 2 (st) : Nat) : Int), .int .u64 ((limb 3 (st) : Nat) : Int)] 25) := ⟨_, rfl⟩
  obtain ⟨N5, e5⟩ : ∃ z, z = w.heap.size := ⟨_, rfl⟩
  have b5 : Blk w1 25 N5 (fun i => limb i st) := by rw [hw1]; exact Blk.newAt _ _ _ (fun i => limb i st) e5
  have hb1 : Below w.heap.size w w1 := by rw [hw1]; exact bAlloc (Below.refl _ _) _
  rw [← hw1]
  try rw [← e5]
  clear hw1 e5
  go_wp2_with (first
    | (at_make; refine wpList_make_full _ rfl _ _ 22 rfl w1.heap.size 25 i0 (.agg #[.int .u64 0, .int .u64 0, .int .u64 0, .int .u64 0]) 4 Tryd.underlying22 HI.out HZ.out.1 HZ.out.2.1 .i64 .i64 n n n rfl rfl rfl rfl ?c1 ?c2 (Nat.le_refl _) ?_)
    | go_in)
  case c1 => rw [HZ.out.2.2]; omega
  case c2 => unfold maxLen; omega
  intro w3 hown hgrow
  obtain ⟨G, eG⟩ : ∃ G, G = w1.heap.size := ⟨_, rfl⟩
  rw [← eG] at hown ⊢
  have bo3 : BlkE w3 G n (fun _ => 0) := (own_blkE (f := fun _ => 0) hown (fun i hi j hj => by rw [made_zero n (i * 4 + j) (by omega), limb_zero]; rfl)).1
  have hbe : Below w1.heap.size w1 w3 := (Below.refl _ w1).grown hgrow (Nat.le_refl _) (fun j hj => by cases hj)
  have hb3 := bStep hb1 hbe
  have lG : w.heap.size ≤ G := by rw [eG]; exact hb1.size
  have b53 := b5.belowAll hbe
  have n5G : N5 ≠ G := by have := b5.lt; omega
  clear hown hgrow hbe b5 hb1 eG
  go_wp2
  go_loopw [23] (fun iv wr => ∃ j : Nat, iv = .int .i64 (j : Int) ∧ j ≤ n ∧ BlkE wr G n (fun i => if i < j then B i else 0) ∧ Below w.heap.size w wr) (fun iv _ => n - (intOf iv).toNat)
  case atStart => exact ⟨0, rfl, Nat.zero_le _, bo3.congr (fun i hi => by rw [if_neg (Nat.not_lt_zero i)]), hb3⟩
  case round =>
    obtain ⟨j, rfl, hj, bg, hbr⟩ := hrel
    clear bo3 hb3 b53
    by_cases hlt : j < n
    · have hji : (j : Int) < (n : Int) := by omega
      have hrr := HR.out.belowAll hbr
      obtain ⟨hA4, hB4⟩ := hrr.2 j hlt
      obtain ⟨x, ex⟩ : ∃ x, x = A j := ⟨_, rfl⟩
      obtain ⟨y, ey⟩ : ∃ y, y = B j := ⟨_, rfl⟩
      rw [← ex] at hA4
      rw [← ey] at hB4
      have x0 := hA4 0 (by decide); have x1 := hA4 1 (by decide); have x2 := hA4 2 (by decide); have x3 := hA4 3 (by decide)
      have y0 := hB4 0 (by decide); have y1 := hB4 1 (by decide); have y2 := hB4 2 (by decide); have y3 := hB4 3 (by decide)
      rw [Nat.add_zero] at x0
      simp only [Nat.add_assoc, Nat.reduceAdd] at y0 y1 y2 y3
      have HY : Hid (y = B j) := ey
      clear hA4 hB4 hrr ex ey
      go_upto_region 5 with fail
      obtain ⟨wa, hwa⟩ : ∃ z : World, z = wr.alloc (.cells #[.int .u64 ((limb 0 x : Nat) : Int), .int .u64 ((limb 1 x : Nat) : Int), .int .u64 ((limb 2 x : Nat) : Int), .int .u64 ((limb 3 x : Nat) : Int), .int .u64 ((limb 0 y : Nat) : Int), .int .u64 ((limb 1 y : Nat) : Int), .int .u64 ((limb 2 y : Nat) : Int), .int .u64 ((limb 3 y : Nat) : Int)] 58) := ⟨_, rfl⟩
      obtain ⟨N12, e12⟩ : ∃ z, z = wr.heap.size := ⟨_, rfl⟩
      have b12 : Lay wa 58 N12 #[.int .u64 ((limb 0 x : Nat) : Int), .int .u64 ((limb 1 x : Nat) : Int), .int .u64 ((limb 2 x : Nat) : Int), .int .u64 ((limb 3 x : Nat) : Int), .int .u64 ((limb 0 y : Nat) : Int), .int .u64 ((limb 1 y : Nat) : Int), .int .u64 ((limb 2 y : Nat) : Int), .int .u64 ((limb 3 y : Nat) : Int)] := by rw [hwa]; exact Lay.newAt _ _ _ e12
      have hba : Below wr.heap.size wr wa := by rw [hwa]; exact bAlloc (Below.refl _ _) _
      have bga := bg.belowAll hba
      have hbwa := bStep hbr hba
      rw [← hwa]
      try rw [← e12]
      clear hwa e12 hba bg hbr x0 x1 x2 x3 y0 y1 y2 y3
      obtain ⟨q0, q1, q2, q3⟩ : wa.cell? ⟨N12, 4, none⟩ = some (.int .u64 ((limb 0 y : Nat) : Int)) ∧ wa.cell? ⟨N12, 5, none⟩ = some (.int .u64 ((limb 1 y : Nat) : Int)) ∧ wa.cell? ⟨N12, 6, none⟩ = some (.int .u64 ((limb 2 y : Nat) : Int)) ∧ wa.cell? ⟨N12, 7, none⟩ = some (.int .u64 ((limb 3 y : Nat) : Int)) := ⟨b12.at (o := 4) rfl, b12.at (o := 5) rfl, b12.at (o := 6) rfl, b12.at (o := 7) rfl⟩
      have g0 := bga.cell j hlt 0 (by decide); have g1 := bga.cell j hlt 1 (by decide); have g2 := bga.cell j hlt 2 (by decide); have g3 := bga.cell j hlt 3 (by decide)
      rw [Nat.add_zero] at g0
      have fg := bga.frozen
      obtain ⟨wb, hwb, bgb, hkb⟩ := bga.put hlt y
      have hbwb := bKept hbwa lG hkb
      have HBG : Hid (BlkE wb G n (fun i => if i < j + 1 then B i else 0)) := bgb.congr (fun i hi => by
        by_cases h1 : i = j
        · subst h1; rw [if_pos (Nat.lt_succ_self i), if_pos rfl]; exact HY.out.symm
        · by_cases h2 : i < j
          · rw [if_pos (show i < j + 1 by omega), if_neg h1, if_pos h2]
          · rw [if_neg (show ¬ i < j + 1 by omega), if_neg h1, if_neg h2])
      clear bgb hkb hbwa b12 HY
      go_wp2
      go_roundw
      case measure => simp [intOf]; omega
      case rel => exact ⟨j + 1, by go_num, by omega, HBG.out, hbwb⟩
    · have hji : ¬ (j : Int) < (n : Int) := by omega
      obtain rfl : j = n := by omega
      have HBG : Hid (BlkE wr G j B) := bg.congr (fun i hi => by rw [if_pos hi])
      have hgl : G < wr.heap.size := HBG.out.lt
      clear bg
      go_wp2_with fail
      refine (HIV.out G wr (HG.out.below hbr) hgl HBG.out).mono ?_
      rintro e w5 ⟨rfl, hb5⟩
      have hbe := bStep hbr hb5
      clear hbr hb5 HIV HBG HR HG
      go_wp2
      refine bodyPost_ret (v := .tuple #[.slice none 0 0, .int .i64 100]) (by simp [results, Tryd.results18, go_sem]) rfl ⟨rfl, hbe⟩
