/- product.Along. -/
import Derived.Test.YtfbfenljfdnggaaGreatDoorVWD
import Derived.Test.YtfbfenljfdnggaaGreatDoorVL3
import Derived.Test.YtfbfenljfdnggaaGreatDoorVRP5
namespace Go.Proofs.YtfbfenljfdnggaaGreatDoor
open Go.RowKit
set_option maxHeartbeats 4000000 in
set_option maxRecDepth 20000 in
/-- product.Along, a ratio's divisor 0. -/
theorem along_bad (s n g b st cn : Nat) (A B : Nat → Nat) (hs : s < 4) (hn : n ≤ 1000) (hB : ∀ i, i < n → B i < 115792089237316195423570985008687907853269984665640564039457584007913129639936) (hz : pre (modN s) B n = 0) (w : World) (hg : Glob w) (hr : RtB w g n A B) :
    Calls Tryz.prog 61 #[.int .i64 (s : Int), .agg #[.int .u64 ((limb 0 (st) : Nat) : Int), .int .u64 ((limb 1 (st) : Nat) : Int), .int .u64 ((limb 2 (st) : Nat) : Int), .int .u64 ((limb 3 (st) : Nat) : Int)], .slice (some ⟨g, 0, none⟩) n cn, .pointer (some ⟨b, 0, none⟩)] w fun e w' => e = .returned (.tuple #[.slice none 0 0, .int .i64 100]) ∧ Below w.heap.size w w' := by
  obtain ⟨i0, hi, hz0, hz1, hz2⟩ := elemInfo
  have HI := (show Hid _ from hi); have HZ := (show Hid _ from And.intro hz0 (And.intro hz1 hz2)); clear hi hz0 hz1 hz2
  have HIV : Hid (∀ (G : Nat) w, Glob w → G < w.heap.size → BlkE w G n B → Calls Tryz.prog 99 #[.int .i64 (s : Int), .slice (some ⟨G, 0, none⟩) n n] w fun e w' => e = .returned (.tuple #[.slice none 0 0, .int .i64 10]) ∧ Below w.heap.size w w') := by
    intro G w hg hl hb
    refine (fInvert_walk s n n G 0 B hs hn hB w hg hl (fun i hi j hj => by have := hb.cell i hi j hj; rwa [Nat.zero_add])).mono ?_
    rintro e w' ⟨⟨_, he⟩ | ⟨h0, _⟩, hb⟩
    · exact ⟨he, hb⟩
    · exact absurd hz h0
  have HG : Hid (Glob w) := hg
  have HR : Hid (RtB w g n A B) := hr
  obtain ⟨si, esi⟩ : ∃ z : Int, z = (s : Int) := ⟨_, rfl⟩
  rw [← esi] at HIV ⊢
  clear hg hr hz hB hs esi
  go_enter Tryz.func61, Tryz.ntmps61
  go_upto_region 1 with fail
  obtain ⟨w1, hw1⟩ : ∃ z : World, z = w.alloc (.cells #[.int .u64 ((limb 0 (st) : Nat) : Int), .int .u64 ((limb 1 (st) : Nat) : Int), .int .u64 ((limb 2 (st) : Nat) : Int), .int .u64 ((limb 3 (st) : Nat) : Int)] 25) := ⟨_, rfl⟩
  obtain ⟨N5, e5⟩ : ∃ z, z = w.heap.size := ⟨_, rfl⟩
  have b5 : Blk w1 25 N5 (fun i => limb i st) := by rw [hw1]; exact Blk.newAt _ _ _ (fun i => limb i st) e5
  have hb1 : Below w.heap.size w w1 := by rw [hw1]; exact bAlloc (Below.refl _ _) _
  rw [← hw1]
  try rw [← e5]
  clear hw1 e5
  go_wp2_with (first
    | (at_make; refine wpList_make_full _ rfl _ _ 26 rfl w1.heap.size 25 i0 (.agg #[.int .u64 0, .int .u64 0, .int .u64 0, .int .u64 0]) 4 Tryz.underlying26 HI.out HZ.out.1 HZ.out.2.1 .i64 .i64 n n n rfl rfl rfl rfl ?c1 ?c2 (Nat.le_refl _) ?_)
    | go_in)
  case c1 => rw [HZ.out.2.2]; omega
  case c2 => unfold maxLen; omega
  intro w3 hown hgrow
  obtain ⟨G, eG⟩ : ∃ G, G = w1.heap.size := ⟨_, rfl⟩
  rw [← eG] at hown ⊢
  have bo3 : BlkE w3 G n (fun _ => 0) := (own_blkE (f := fun _ => 0) hown (fun i hi j hj => by rw [made_zero n (i * 4 + j) (by omega), limb_zero]; rfl)).1
  have hbe : Below w1.heap.size w1 w3 := (Below.refl _ w1).grown hgrow (Nat.le_refl _) (fun j hj => by cases hj)
  have hb3 := bStep hb1 hbe
  have lG : w.heap.size ≤ G := by rw [eG]; exact hb1.size
  have b53 := b5.belowAll hbe
  have n5G : N5 ≠ G := by have := b5.lt; omega
  clear hown hgrow hbe b5 hb1 eG
  go_wp2
  go_loopw [23] (fun iv wr => ∃ j : Nat, iv = .int .i64 (j : Int) ∧ j ≤ n ∧ BlkE wr G n (fun i => if i < j then B i else 0) ∧ Below w.heap.size w wr) (fun iv _ => n - (intOf iv).toNat)
  case atStart => exact ⟨0, rfl, Nat.zero_le _, bo3.congr (fun i hi => by rw [if_neg (Nat.not_lt_zero i)]), hb3⟩
  case round =>
    obtain ⟨j, rfl, hj, bg, hbr⟩ := hrel
    clear bo3 hb3 b53
    by_cases hlt : j < n
    · have hji : (j : Int) < (n : Int) := by omega
      have hrr := HR.out.belowAll hbr
      obtain ⟨hA4, hB4⟩ := hrr.2 j hlt
      obtain ⟨x, ex⟩ : ∃ x, x = A j := ⟨_, rfl⟩
      obtain ⟨y, ey⟩ : ∃ y, y = B j := ⟨_, rfl⟩
      rw [← ex] at hA4
      rw [← ey] at hB4
      have x0 := hA4 0 (by decide); have x1 := hA4 1 (by decide); have x2 := hA4 2 (by decide); have x3 := hA4 3 (by decide)
      have y0 := hB4 0 (by decide); have y1 := hB4 1 (by decide); have y2 := hB4 2 (by decide); have y3 := hB4 3 (by decide)
      rw [Nat.add_zero] at x0
      simp only [Nat.add_assoc, Nat.reduceAdd] at y0 y1 y2 y3
      have HY : Hid (y = B j) := ey
      clear hA4 hB4 hrr ex ey
      go_upto_region 5 with fail
      obtain ⟨wa, hwa⟩ : ∃ z : World, z = wr.alloc (.cells #[.int .u64 ((limb 0 x : Nat) : Int), .int .u64 ((limb 1 x : Nat) : Int), .int .u64 ((limb 2 x : Nat) : Int), .int .u64 ((limb 3 x : Nat) : Int), .int .u64 ((limb 0 y : Nat) : Int), .int .u64 ((limb 1 y : Nat) : Int), .int .u64 ((limb 2 y : Nat) : Int), .int .u64 ((limb 3 y : Nat) : Int)] 170) := ⟨_, rfl⟩
      obtain ⟨N12, e12⟩ : ∃ z, z = wr.heap.size := ⟨_, rfl⟩
      have b12 : Lay wa 170 N12 #[.int .u64 ((limb 0 x : Nat) : Int), .int .u64 ((limb 1 x : Nat) : Int), .int .u64 ((limb 2 x : Nat) : Int), .int .u64 ((limb 3 x : Nat) : Int), .int .u64 ((limb 0 y : Nat) : Int), .int .u64 ((limb 1 y : Nat) : Int), .int .u64 ((limb 2 y : Nat) : Int), .int .u64 ((limb 3 y : Nat) : Int)] := by rw [hwa]; exact Lay.newAt _ _ _ e12
      have hba : Below wr.heap.size wr wa := by rw [hwa]; exact bAlloc (Below.refl _ _) _
      have bga := bg.belowAll hba
      have hbwa := bStep hbr hba
      rw [← hwa]
      try rw [← e12]
      clear hwa e12 hba bg hbr x0 x1 x2 x3 y0 y1 y2 y3
      obtain ⟨q0, q1, q2, q3⟩ : wa.cell? ⟨N12, 4, none⟩ = some (.int .u64 ((limb 0 y : Nat) : Int)) ∧ wa.cell? ⟨N12, 5, none⟩ = some (.int .u64 ((limb 1 y : Nat) : Int)) ∧ wa.cell? ⟨N12, 6, none⟩ = some (.int .u64 ((limb 2 y : Nat) : Int)) ∧ wa.cell? ⟨N12, 7, none⟩ = some (.int .u64 ((limb 3 y : Nat) : Int)) := ⟨b12.at (o := 4) rfl, b12.at (o := 5) rfl, b12.at (o := 6) rfl, b12.at (o := 7) rfl⟩
      have g0 := bga.cell j hlt 0 (by decide); have g1 := bga.cell j hlt 1 (by decide); have g2 := bga.cell j hlt 2 (by decide); have g3 := bga.cell j hlt 3 (by decide)
      rw [Nat.add_zero] at g0
      have fg := bga.frozen
      obtain ⟨wb, hwb, bgb, hkb⟩ := bga.put hlt y
      have hbwb := bKept hbwa lG hkb
      have HBG : Hid (BlkE wb G n (fun i => if i < j + 1 then B i else 0)) := bgb.congr (fun i hi => by
        by_cases h1 : i = j
        · subst h1; rw [if_pos (Nat.lt_succ_self i), if_pos rfl]; exact HY.out.symm
        · by_cases h2 : i < j
          · rw [if_pos (show i < j + 1 by omega), if_neg h1, if_pos h2]
          · rw [if_neg (show ¬ i < j + 1 by omega), if_neg h1, if_neg h2])
      clear bgb hkb hbwa b12 HY
      go_wp2
      go_roundw
      case measure => simp [intOf]; omega
      case rel => exact ⟨j + 1, by go_num, by omega, HBG.out, hbwb⟩
    · have hji : ¬ (j : Int) < (n : Int) := by omega
      obtain rfl : j = n := by omega
      have HBG : Hid (BlkE wr G j B) := bg.congr (fun i hi => by rw [if_pos hi])
      have hgl : G < wr.heap.size := HBG.out.lt
      clear bg
      go_wp2_with fail
      refine (HIV.out G wr (HG.out.below hbr) hgl HBG.out).mono ?_
      rintro e w5 ⟨rfl, hb5⟩
      have hbe := bStep hbr hb5
      clear hbr hb5 HIV HBG HR HG
      go_wp2
      refine bodyPost_ret (v := .tuple #[.slice none 0 0, .int .i64 100]) (by simp [results, Tryz.results61, go_sem]) rfl ⟨rfl, hbe⟩
end Go.Proofs.YtfbfenljfdnggaaGreatDoor

/- product.Along, all divisors fit. -/
namespace Go.Proofs.YtfbfenljfdnggaaGreatDoor
open Go.RowKit
set_option maxHeartbeats 4000000 in
set_option maxRecDepth 20000 in
/-- product.Along. -/
theorem along_ok {el : Nat → Nat} {ad mu : Nat → Nat → Nat} (s n g pb b st cn m : Nat) (A B f : Nat → Nat) (hF : Fld (s : Int) el ad mu) (hs : s < 4) (hn : n ≤ 900) (hst : st < 115792089237316195423570985008687907853269984665640564039457584007913129639936) (hA : ∀ i, i < n → A i < 115792089237316195423570985008687907853269984665640564039457584007913129639936) (hB : ∀ i, i < n → B i < 115792089237316195423570985008687907853269984665640564039457584007913129639936) (hf : ∀ i, i < m → f i < 115792089237316195423570985008687907853269984665640564039457584007913129639936) (hz : pre (modN s) B n ≠ 0) (w : World) (hg : Glob w) (h2b : 3 ≤ b) (hr : RtB w g n A B) (hpb : pb ≤ w.heap.size) (hp : PurseS w pb b m f) :
    Calls Tryz.prog 61 #[.int .i64 (s : Int), .agg #[.int .u64 ((limb 0 (st) : Nat) : Int), .int .u64 ((limb 1 (st) : Nat) : Int), .int .u64 ((limb 2 (st) : Nat) : Int), .int .u64 ((limb 3 (st) : Nat) : Int)], .slice (some ⟨g, 0, none⟩) n cn, .pointer (some ⟨b, 0, none⟩)] w fun e w' => HidE w.heap.size pb b m (alL mu (invU (modN s)) (el st) A B n) el f e w' ∧ KU w.heap.size b w w' := by
  obtain ⟨i0, hi, hz0, hz1, hz2⟩ := elemInfo
  have HI := (show Hid _ from hi); have HZ := (show Hid _ from And.intro hz0 (And.intro hz1 hz2)); clear hi hz0 hz1 hz2
  have HIV : Hid (∀ (G : Nat) w, Glob w → G < w.heap.size → BlkE w G n B → Calls Tryz.prog 99 #[.int .i64 (s : Int), .slice (some ⟨G, 0, none⟩) n n] w fun e w' => (∃ g, e = .returned (.tuple #[.slice (some ⟨g, 0, none⟩) n n, .int .i64 0]) ∧ w.heap.size ≤ g ∧ BlkE w' g n (fun i => invU (modN s) (B i))) ∧ Below w.heap.size w w') := by
    intro G w hg hl hb
    refine (fInvert_walk s n n G 0 B hs (by omega) hB w hg hl (fun i hi j hj => by have := hb.cell i hi j hj; rwa [Nat.zero_add])).mono ?_
    rintro e w' ⟨⟨h0, _⟩ | ⟨_, h⟩, hb⟩
    · exact absurd h0 hz
    · exact ⟨h, hb⟩
  have HEL : Hid (∀ w, Glob w → _) := fun w hg => pel_any hF st hst w hg
  have HMU : Hid (∀ a b, a < 115792089237316195423570985008687907853269984665640564039457584007913129639936 → b < 115792089237316195423570985008687907853269984665640564039457584007913129639936 → ∀ w, Glob w → _) := hF.2.2.2.2.2
  have HMM : Hid (∀ a b, mu a b < 115792089237316195423570985008687907853269984665640564039457584007913129639936) := hF.2.2.1
  have HEM : Hid (el st < 115792089237316195423570985008687907853269984665640564039457584007913129639936) := hF.1 st hst
  have HIM : Hid (∀ a, invU (modN s) a < 115792089237316195423570985008687907853269984665640564039457584007913129639936) := fun a => lt_M s _ (invU_ltM s a)
  have HHD : Hid (∀ base z l w, l.length ≤ 1000 → Glob w → pb ≤ base → base ≤ w.heap.size → OwnL w base z l → PurseS w pb b m f → _) := fun base z l w hl hg hpb hbase ho hp => hide_any hF base pb b m z l f hl hf w hg hpb hbase h2b ho hp
  obtain ⟨iv, eiv⟩ : ∃ z, z = invU (modN s) := ⟨_, rfl⟩
  rw [← eiv] at HIV HIM ⊢
  have HAM : Hid (∀ i, i < n → A i < 115792089237316195423570985008687907853269984665640564039457584007913129639936) := hA
  have HPU : Hid (PurseS w pb b m f) := hp
  have HPB : Hid (pb ≤ w.heap.size) := hpb
  obtain ⟨X, eX⟩ : ∃ z, z = el st := ⟨_, rfl⟩
  rw [← eX] at HEL HEM ⊢
  clear eX
  have HG : Hid (Glob w) := hg
  have HR : Hid (RtB w g n A B) := hr
  obtain ⟨si, esi⟩ : ∃ z : Int, z = (s : Int) := ⟨_, rfl⟩
  rw [← esi] at HIV HEL HMU HHD ⊢
  clear hg hr hz hB hs esi hF hst hA hf h2b hp hpb eiv
  go_enter Tryz.func61, Tryz.ntmps61
  go_upto_region 1 with fail
  obtain ⟨w1, hw1⟩ : ∃ z : World, z = w.alloc (.cells #[.int .u64 ((limb 0 (st) : Nat) : Int), .int .u64 ((limb 1 (st) : Nat) : Int), .int .u64 ((limb 2 (st) : Nat) : Int), .int .u64 ((limb 3 (st) : Nat) : Int)] 25) := ⟨_, rfl⟩
  obtain ⟨N5, e5⟩ : ∃ z, z = w.heap.size := ⟨_, rfl⟩
  have b5 : Blk w1 25 N5 (fun i => limb i st) := by rw [hw1]; exact Blk.newAt _ _ _ (fun i => limb i st) e5
  have hb1 : Below w.heap.size w w1 := by rw [hw1]; exact bAlloc (Below.refl _ _) _
  rw [← hw1]
  try rw [← e5]
  clear hw1 e5
  go_wp2_with (first
    | (at_make; refine wpList_make_full _ rfl _ _ 26 rfl w1.heap.size 25 i0 (.agg #[.int .u64 0, .int .u64 0, .int .u64 0, .int .u64 0]) 4 Tryz.underlying26 HI.out HZ.out.1 HZ.out.2.1 .i64 .i64 n n n rfl rfl rfl rfl ?c1 ?c2 (Nat.le_refl _) ?_)
    | go_in)
  case c1 => rw [HZ.out.2.2]; omega
  case c2 => unfold maxLen; omega
  intro w3 hown hgrow
  obtain ⟨G, eG⟩ : ∃ G, G = w1.heap.size := ⟨_, rfl⟩
  rw [← eG] at hown ⊢
  have bo3 : BlkE w3 G n (fun _ => 0) := (own_blkE (f := fun _ => 0) hown (fun i hi j hj => by rw [made_zero n (i * 4 + j) (by omega), limb_zero]; rfl)).1
  have hbe : Below w1.heap.size w1 w3 := (Below.refl _ w1).grown hgrow (Nat.le_refl _) (fun j hj => by cases hj)
  have hb3 := bStep hb1 hbe
  have lG : w.heap.size ≤ G := by rw [eG]; exact hb1.size
  have b53 := b5.belowAll hbe
  have n5G : N5 ≠ G := by have := b5.lt; omega
  clear hown hgrow hbe b5 hb1 eG
  go_wp2
  go_loopw [23] (fun iv wr => ∃ j : Nat, iv = .int .i64 (j : Int) ∧ j ≤ n ∧ BlkE wr G n (fun i => if i < j then B i else 0) ∧ Below w.heap.size w wr ∧ Blk wr 25 N5 (fun i => limb i st)) (fun iv _ => n - (intOf iv).toNat)
  case atStart => exact ⟨0, rfl, Nat.zero_le _, bo3.congr (fun i hi => by rw [if_neg (Nat.not_lt_zero i)]), hb3, b53⟩
  case round =>
    obtain ⟨j, rfl, hj, bg, hbr, b5r⟩ := hrel
    clear bo3 hb3 b53
    by_cases hlt : j < n
    · have hji : (j : Int) < (n : Int) := by omega
      have hrr := HR.out.belowAll hbr
      obtain ⟨hA4, hB4⟩ := hrr.2 j hlt
      obtain ⟨x, ex⟩ : ∃ x, x = A j := ⟨_, rfl⟩
      obtain ⟨y, ey⟩ : ∃ y, y = B j := ⟨_, rfl⟩
      rw [← ex] at hA4
      rw [← ey] at hB4
      have x0 := hA4 0 (by decide); have x1 := hA4 1 (by decide); have x2 := hA4 2 (by decide); have x3 := hA4 3 (by decide)
      have y0 := hB4 0 (by decide); have y1 := hB4 1 (by decide); have y2 := hB4 2 (by decide); have y3 := hB4 3 (by decide)
      rw [Nat.add_zero] at x0
      simp only [Nat.add_assoc, Nat.reduceAdd] at y0 y1 y2 y3
      have HY : Hid (y = B j) := ey
      clear hA4 hB4 hrr ex ey
      go_upto_region 5 with fail
      obtain ⟨wa, hwa⟩ : ∃ z : World, z = wr.alloc (.cells #[.int .u64 ((limb 0 x : Nat) : Int), .int .u64 ((limb 1 x : Nat) : Int), .int .u64 ((limb 2 x : Nat) : Int), .int .u64 ((limb 3 x : Nat) : Int), .int .u64 ((limb 0 y : Nat) : Int), .int .u64 ((limb 1 y : Nat) : Int), .int .u64 ((limb 2 y : Nat) : Int), .int .u64 ((limb 3 y : Nat) : Int)] 170) := ⟨_, rfl⟩
      obtain ⟨N12, e12⟩ : ∃ z, z = wr.heap.size := ⟨_, rfl⟩
      have b12 : Lay wa 170 N12 #[.int .u64 ((limb 0 x : Nat) : Int), .int .u64 ((limb 1 x : Nat) : Int), .int .u64 ((limb 2 x : Nat) : Int), .int .u64 ((limb 3 x : Nat) : Int), .int .u64 ((limb 0 y : Nat) : Int), .int .u64 ((limb 1 y : Nat) : Int), .int .u64 ((limb 2 y : Nat) : Int), .int .u64 ((limb 3 y : Nat) : Int)] := by rw [hwa]; exact Lay.newAt _ _ _ e12
      have hba : Below wr.heap.size wr wa := by rw [hwa]; exact bAlloc (Below.refl _ _) _
      have bga := bg.belowAll hba; have b5a := b5r.belowAll hba
      have hbwa := bStep hbr hba
      rw [← hwa]
      try rw [← e12]
      clear hwa e12 hba bg hbr b5r x0 x1 x2 x3 y0 y1 y2 y3
      obtain ⟨q0, q1, q2, q3⟩ : wa.cell? ⟨N12, 4, none⟩ = some (.int .u64 ((limb 0 y : Nat) : Int)) ∧ wa.cell? ⟨N12, 5, none⟩ = some (.int .u64 ((limb 1 y : Nat) : Int)) ∧ wa.cell? ⟨N12, 6, none⟩ = some (.int .u64 ((limb 2 y : Nat) : Int)) ∧ wa.cell? ⟨N12, 7, none⟩ = some (.int .u64 ((limb 3 y : Nat) : Int)) := ⟨b12.at (o := 4) rfl, b12.at (o := 5) rfl, b12.at (o := 6) rfl, b12.at (o := 7) rfl⟩
      have g0 := bga.cell j hlt 0 (by decide); have g1 := bga.cell j hlt 1 (by decide); have g2 := bga.cell j hlt 2 (by decide); have g3 := bga.cell j hlt 3 (by decide)
      rw [Nat.add_zero] at g0
      have fg := bga.frozen
      obtain ⟨wb, hwb, bgb, hkb⟩ := bga.put hlt y
      have hbwb := bKept hbwa lG hkb; have b5b := b5a.kept n5G hkb
      have HBG : Hid (BlkE wb G n (fun i => if i < j + 1 then B i else 0)) := bgb.congr (fun i hi => by
        by_cases h1 : i = j
        · subst h1; rw [if_pos (Nat.lt_succ_self i), if_pos rfl]; exact HY.out.symm
        · by_cases h2 : i < j
          · rw [if_pos (show i < j + 1 by omega), if_neg h1, if_pos h2]
          · rw [if_neg (show ¬ i < j + 1 by omega), if_neg h1, if_neg h2])
      clear bgb hkb hbwa b12 HY b5a
      go_wp2
      go_roundw
      case measure => simp [intOf]; omega
      case rel => exact ⟨j + 1, by go_num, by omega, HBG.out, hbwb, b5b⟩
    · have hji : ¬ (j : Int) < (n : Int) := by omega
      obtain rfl : n = j := by omega
      have HBG : Hid (BlkE wr G n B) := bg.congr (fun i hi => by rw [if_pos hi])
      have hgl : G < wr.heap.size := HBG.out.lt
      clear bg
      go_wp2_with fail
      refine (HIV.out G wr (HG.out.below hbr) hgl HBG.out).mono ?_
      rintro e w5 ⟨⟨GI, rfl, lGI, bi⟩, hb5⟩
      have hb5w := bStep hbr hb5
      have b55 := b5r.belowAll hb5
      have hr5 := HR.out.belowAll hb5w
      have hg5 : Hid (Glob w5) := HG.out.below hb5w
      clear hb5 HIV HBG hgl hbr b5r
      go_upto_region 12 with fail
      have q5 := b55.cell
      go_wp2_with fail
      refine (HEL.out w5 hg5.out).mono ?_
      rintro e w6 ⟨rfl, hb6⟩
      have hb6w := bStep hb5w hb6
      have bi6 := bi.belowAll hb6
      have hr6 := hr5.belowAll hb6
      have lGI6 := bi6.lt
      clear q5 b55 hb6 bi hr5 hb5w hg5 HEL
      go_upto_region 13 with fail
      have own7 := ownL_one w6 w6.heap.size X (Nat.le_refl _)
      obtain ⟨w7, hw7⟩ : ∃ z : World, z = w6.alloc (.cells #[.int .u64 ((limb 0 (X) : Nat) : Int), .int .u64 ((limb 1 (X) : Nat) : Int), .int .u64 ((limb 2 (X) : Nat) : Int), .int .u64 ((limb 3 (X) : Nat) : Int)] 25) := ⟨_, rfl⟩
      have hb7 : Below w6.heap.size w6 w7 := by rw [hw7]; exact bAlloc (Below.refl _ _) _
      rw [← hw7] at own7
      rw [← hw7]
      obtain ⟨BZ, eBZ⟩ : ∃ z, z = w6.heap.size := ⟨_, rfl⟩
      rw [← eBZ] at own7 hb7 lGI6
      try rw [← eBZ]
      have lgB : g < BZ := by rw [eBZ]; exact hr6.1
      have lwB : w.heap.size ≤ BZ := by rw [eBZ]; exact hb6w.size
      have lB7 : BZ ≤ w7.heap.size := by rw [eBZ]; rw [eBZ] at hb7; exact hb7.size
      have HR6 : Hid (RtB w6 g n A B) := hr6
      have HI6 : Hid (BlkE w6 GI n (fun i => iv (B i))) := bi6
      have H6 : Hid (Below w.heap.size w w6) := hb6w
      have H60 : Hid (Glob w6) := HG.out.below hb6w
      clear hw7 eBZ hr6 bi6 hb6w
      go_wp2
      go_loopw [15, 51] (fun zv jv wr => ∃ j : Nat, jv = .int .i64 (j : Int) ∧ j ≤ n ∧ OwnL wr BZ zv (alL mu iv X A B j) ∧ Below BZ w6 wr ∧ BZ ≤ wr.heap.size) (fun _ jv _ => n - (intOf jv).toNat)
      case atStart => exact ⟨0, rfl, Nat.zero_le _, own7, hb7, lB7⟩
      case round =>
        obtain ⟨j, rfl, hj, own, hb, lBwr⟩ := hrel
        clear own7 hb7 lB7
        by_cases hlt : j < n
        · have hji : (j : Int) < (n : Int) := by omega
          obtain ⟨L, eL⟩ : ∃ L, L = alL mu iv X A B j := ⟨_, rfl⟩
          have HL : Hid (L.length = j + 1 ∧ L.getD j 0 = alz mu iv X A B j ∧ alL mu iv X A B (j + 1) = L ++ [mu (alz mu iv X A B j) (mu (A j) (iv (B j)))]) := by rw [eL]; exact ⟨alL_len _ _ _ _ _ _, alL_at _ _ _ _ _ _, alL_succ _ _ _ _ _ _⟩
          rw [← eL] at own
          clear eL
          have hjl : (j : Int) < (L.length : Int) := by have := HL.out.1; omega
          have hjL : j < L.length := by omega
          have hL9 : L.length ≤ 1000 := by have := HL.out.1; omega
          have HPM : Hid (alz mu iv X A B j < 115792089237316195423570985008687907853269984665640564039457584007913129639936) := by
            cases j with
            | zero => exact HEM.out
            | succ q => exact HMM.out _ _
          obtain ⟨p, ep⟩ : ∃ z, z = alz mu iv X A B j := ⟨_, rfl⟩
          rw [← ep] at HL HPM
          obtain ⟨x, ex⟩ : ∃ z, z = A j := ⟨_, rfl⟩
          have hxM : x < 115792089237316195423570985008687907853269984665640564039457584007913129639936 := by rw [ex]; exact HAM.out j hlt
          obtain ⟨r, er⟩ : ∃ z, z = B j := ⟨_, rfl⟩
          obtain ⟨v, ev⟩ : ∃ z, z = iv (B j) := ⟨_, rfl⟩
          have hvM : v < 115792089237316195423570985008687907853269984665640564039457584007913129639936 := by rw [ev]; exact HIM.out _
          rw [← ex, ← ev] at HL
          have HM1 : Hid (∀ w, Glob w → _) := fun w hg => HMU.out x v hxM hvM w hg
          have HM2 : Hid (∀ w, Glob w → _) := fun w hg => HMU.out p (mu x v) HPM.out (HMM.out _ _) w hg
          obtain ⟨t, et⟩ : ∃ z, z = mu x v := ⟨_, rfl⟩
          rw [← et] at HM1 HM2 HL
          obtain ⟨y, ey⟩ : ∃ z, z = mu p t := ⟨_, rfl⟩
          rw [← ey] at HM2 HL
          have hbB := hb
          obtain ⟨hA4, hB4⟩ := HR6.out.2 j hlt
          rw [← ex] at hA4
          rw [← er] at hB4
          have x0 := (hb.cell (p := ⟨g, j * 8 + 0, none⟩) lgB).trans (hA4 0 (by decide)); have x1 := (hb.cell (p := ⟨g, j * 8 + 1, none⟩) lgB).trans (hA4 1 (by decide)); have x2 := (hb.cell (p := ⟨g, j * 8 + 2, none⟩) lgB).trans (hA4 2 (by decide)); have x3 := (hb.cell (p := ⟨g, j * 8 + 3, none⟩) lgB).trans (hA4 3 (by decide))
          have y0 := (hb.cell (p := ⟨g, j * 8 + 4 + 0, none⟩) lgB).trans (hB4 0 (by decide)); have y1 := (hb.cell (p := ⟨g, j * 8 + 4 + 1, none⟩) lgB).trans (hB4 1 (by decide)); have y2 := (hb.cell (p := ⟨g, j * 8 + 4 + 2, none⟩) lgB).trans (hB4 2 (by decide)); have y3 := (hb.cell (p := ⟨g, j * 8 + 4 + 3, none⟩) lgB).trans (hB4 3 (by decide))
          rw [Nat.add_zero] at x0
          simp only [Nat.add_assoc, Nat.reduceAdd] at y0 y1 y2 y3
          have hi4 := HI6.out.cell j hlt
          rw [← ev] at hi4
          have v0 := hi4 0 (by decide); have v1 := hi4 1 (by decide); have v2 := hi4 2 (by decide); have v3 := hi4 3 (by decide)
          rw [Nat.add_zero] at v0
          have RI : Rd4 wr GI (j * 4) v := (show Rd4 w6 GI (j * 4) v from ⟨v0, v1, v2, v3⟩).below hb lGI6
          have hes := own.es
          rcases own.2 with ⟨_, h0⟩ | ⟨zb, cap, cur, rfl, hbz, hgz, hcp, hcm, hcs, htk⟩
          · exact absurd h0 (by omega)
          rcases hes with ⟨hc0, _⟩ | ⟨ab, ao, c', hvz, _, _, lab, hcl⟩
          · cases hc0
          cases hvz
          have z0 := hcl j hjL 0 (by decide); have z1 := hcl j hjL 1 (by decide); have z2 := hcl j hjL 2 (by decide); have z3 := hcl j hjL 3 (by decide)
          simp only [Nat.zero_add, Nat.add_zero] at z0 z1 z2 z3
          rw [HL.out.2.1] at z0 z1 z2 z3
          have RZ : Rd4 wr zb (j * 4) p := ⟨z0, z1, z2, z3⟩
          clear hA4 hB4 hi4 v0 v1 v2 v3 z0 z1 z2 z3 hcl ex er ev et ep ey hgz hcs htk hxM hvM
          go_upto_region 16 with fail
          obtain ⟨wa, hwa⟩ : ∃ z : World, z = wr.alloc (.cells #[.int .u64 ((limb 0 x : Nat) : Int), .int .u64 ((limb 1 x : Nat) : Int), .int .u64 ((limb 2 x : Nat) : Int), .int .u64 ((limb 3 x : Nat) : Int), .int .u64 ((limb 0 r : Nat) : Int), .int .u64 ((limb 1 r : Nat) : Int), .int .u64 ((limb 2 r : Nat) : Int), .int .u64 ((limb 3 r : Nat) : Int)] 170) := ⟨_, rfl⟩
          obtain ⟨N17, e17⟩ : ∃ z, z = wr.heap.size := ⟨_, rfl⟩
          have b17 : Lay wa 170 N17 #[.int .u64 ((limb 0 x : Nat) : Int), .int .u64 ((limb 1 x : Nat) : Int), .int .u64 ((limb 2 x : Nat) : Int), .int .u64 ((limb 3 x : Nat) : Int), .int .u64 ((limb 0 r : Nat) : Int), .int .u64 ((limb 1 r : Nat) : Int), .int .u64 ((limb 2 r : Nat) : Int), .int .u64 ((limb 3 r : Nat) : Int)] := by rw [hwa]; exact Lay.newAt _ _ _ e17
          have hba : Below wr.heap.size wr wa := by rw [hwa]; exact bAlloc (Below.refl _ _) _
          rw [← hwa]
          try rw [← e17]
          have owna := own.below hba
          have R1 := RZ.below hba lab; have R3 := RI.below hba (Nat.lt_of_lt_of_le lGI6 lBwr)
          have R2 : Rd4 wa N17 0 x := ⟨b17.at (o := 0) rfl, b17.at (o := 1) rfl, b17.at (o := 2) rfl, b17.at (o := 3) rfl⟩
          have lzb : zb < wa.heap.size := Nat.lt_of_lt_of_le lab hba.size
          have l17 : N17 < wa.heap.size := b17.lt
          have lGa : GI < wa.heap.size := Nat.lt_of_lt_of_le lGI6 (Nat.le_trans lBwr hba.size)
          have nz17 : zb ≠ N17 := by omega
          have nzG : GI ≠ zb := by omega
          have lBwa : BZ ≤ wa.heap.size := Nat.le_trans lBwr hba.size
          have hba6 : Below BZ w6 wa := hbB.trans (hba.mono lBwr)
          have HGA : Hid (Glob wa) := H60.out.belowM (Nat.le_trans HG.out.ge lwB) hba6
          clear hwa e17 own hba RZ RI b17 x0 x1 x2 x3 y0 y1 y2 y3 hb hbB lab
          refine wp_region_Z (fun w' => Rd4 w' zb (j * 4) p ∧ Rd4 w' N17 0 x ∧ Rd4 w' GI (j * 4) v) 99 (by kernel_rfl) ?_
          obtain ⟨wD, hD⟩ : ∃ z : World, z = wa.drew := ⟨_, rfl⟩
          rw [← hD]
          have lowD : Below wa.heap.size wa wD := by rw [hD]; exact (Below.refl _ _).drew
          clear hD
          have HS0 : Rd4 wD zb (j * 4) p ∧ Rd4 wD N17 0 x ∧ Rd4 wD GI (j * 4) v := ⟨R1.below lowD lzb, R2.below lowD l17, R3.below lowD lGa⟩
          refine wpZ_take (i := 0) (v := .slice (some ⟨zb, 0, none⟩) L.length cap) 56 rfl rfl (by kernel_rfl) (by kernel_rfl) (by kernel_rfl) (Or.inr (by decide)) (fun _ _ _ h => h) (Or.inl ⟨by rfl, fun w hSw => by go_simp⟩) HS0 ?_
          simp only [Act.put, List.setIfInBounds_toArray]
          dsimp only [List.set_cons_zero, List.set_cons_succ]
          refine wpZ_take (i := 1) (v := .int .i64 si) 57 rfl rfl (by kernel_rfl) (by kernel_rfl) (by kernel_rfl) (Or.inr (by decide)) (fun _ _ _ h => h) (Or.inl ⟨by rfl, fun w hSw => by go_simp⟩) HS0 ?_
          simp only [Act.put, List.setIfInBounds_toArray]
          dsimp only [List.set_cons_zero, List.set_cons_succ]
          refine wpZ_take (i := 2) (v := .slice (some ⟨zb, 0, none⟩) L.length cap) 58 rfl rfl (by kernel_rfl) (by kernel_rfl) (by kernel_rfl) (Or.inr (by decide)) (fun _ _ _ h => h) (Or.inl ⟨by rfl, fun w hSw => by go_simp⟩) HS0 ?_
          simp only [Act.put, List.setIfInBounds_toArray]
          dsimp only [List.set_cons_zero, List.set_cons_succ]
          refine wpZ_take (i := 3) (v := .int .i64 (j : Int)) 59 rfl rfl (by kernel_rfl) (by kernel_rfl) (by kernel_rfl) (Or.inr (by decide)) (fun _ _ _ h => h) (Or.inl ⟨by rfl, fun w hSw => by go_simp⟩) HS0 ?_
          simp only [Act.put, List.setIfInBounds_toArray]
          dsimp only [List.set_cons_zero, List.set_cons_succ]
          refine wpZ_take (i := 4) (v := .pointer (some ⟨zb, j * 4, none⟩)) 60 rfl rfl (by kernel_rfl) (by kernel_rfl) (by kernel_rfl) (Or.inr (by decide)) (fun _ _ _ h => h) (Or.inl ⟨by rfl, fun w hSw => by go_simp⟩) HS0 ?_
          simp only [Act.put, List.setIfInBounds_toArray]
          dsimp only [List.set_cons_zero, List.set_cons_succ]
          refine wpZ_take (i := 5) (v := .agg #[.int .u64 ((limb 0 (p) : Nat) : Int), .int .u64 ((limb 1 (p) : Nat) : Int), .int .u64 ((limb 2 (p) : Nat) : Int), .int .u64 ((limb 3 (p) : Nat) : Int)]) 61 rfl rfl (by kernel_rfl) (by kernel_rfl) (by kernel_rfl) (Or.inr (by decide)) (fun _ _ _ h => h) (Or.inl ⟨by rfl, fun w hSw => by (obtain ⟨q0, q1, q2, q3⟩ : w.cell? ⟨zb, j * 4, none⟩ = _ ∧ w.cell? ⟨zb, j * 4 + 1, none⟩ = _ ∧ w.cell? ⟨zb, j * 4 + 2, none⟩ = _ ∧ w.cell? ⟨zb, j * 4 + 3, none⟩ = _ := hSw.1; clear hSw; go_simp)⟩) HS0 ?_
          simp only [Act.put, List.setIfInBounds_toArray]
          dsimp only [List.set_cons_zero, List.set_cons_succ]
          refine wpZ_take (i := 6) (v := .int .i64 si) 62 rfl rfl (by kernel_rfl) (by kernel_rfl) (by kernel_rfl) (Or.inr (by decide)) (fun _ _ _ h => h) (Or.inl ⟨by rfl, fun w hSw => by go_simp⟩) HS0 ?_
          simp only [Act.put, List.setIfInBounds_toArray]
          dsimp only [List.set_cons_zero, List.set_cons_succ]
          refine wpZ_take (i := 7) (v := .pointer (some ⟨N17, 0, none⟩)) 63 rfl rfl (by kernel_rfl) (by kernel_rfl) (by kernel_rfl) (Or.inr (by decide)) (fun _ _ _ h => h) (Or.inl ⟨by rfl, fun w hSw => by go_simp⟩) HS0 ?_
          simp only [Act.put, List.setIfInBounds_toArray]
          dsimp only [List.set_cons_zero, List.set_cons_succ]
          refine wpZ_take (i := 8) (v := .agg #[.int .u64 ((limb 0 (x) : Nat) : Int), .int .u64 ((limb 1 (x) : Nat) : Int), .int .u64 ((limb 2 (x) : Nat) : Int), .int .u64 ((limb 3 (x) : Nat) : Int)]) 64 rfl rfl (by kernel_rfl) (by kernel_rfl) (by kernel_rfl) (Or.inr (by decide)) (fun _ _ _ h => h) (Or.inl ⟨by rfl, fun w hSw => by (obtain ⟨q0, q1, q2, q3⟩ : w.cell? ⟨N17, 0, none⟩ = _ ∧ w.cell? ⟨N17, 1, none⟩ = _ ∧ w.cell? ⟨N17, 2, none⟩ = _ ∧ w.cell? ⟨N17, 3, none⟩ = _ := hSw.2.1; clear hSw; go_simp)⟩) HS0 ?_
          simp only [Act.put, List.setIfInBounds_toArray]
          dsimp only [List.set_cons_zero, List.set_cons_succ]
          refine wpZ_take (i := 9) (v := .slice (some ⟨GI, 0, none⟩) n n) 65 rfl rfl (by kernel_rfl) (by kernel_rfl) (by kernel_rfl) (Or.inr (by decide)) (fun _ _ _ h => h) (Or.inl ⟨by rfl, fun w hSw => by go_simp⟩) HS0 ?_
          simp only [Act.put, List.setIfInBounds_toArray]
          dsimp only [List.set_cons_zero, List.set_cons_succ]
          refine wpZ_take (i := 10) (v := .int .i64 (j : Int)) 66 rfl rfl (by kernel_rfl) (by kernel_rfl) (by kernel_rfl) (Or.inr (by decide)) (fun _ _ _ h => h) (Or.inl ⟨by rfl, fun w hSw => by go_simp⟩) HS0 ?_
          simp only [Act.put, List.setIfInBounds_toArray]
          dsimp only [List.set_cons_zero, List.set_cons_succ]
          refine wpZ_take (i := 11) (v := .pointer (some ⟨GI, j * 4, none⟩)) 67 rfl rfl (by kernel_rfl) (by kernel_rfl) (by kernel_rfl) (Or.inr (by decide)) (fun _ _ _ h => h) (Or.inl ⟨by rfl, fun w hSw => by go_simp⟩) HS0 ?_
          simp only [Act.put, List.setIfInBounds_toArray]
          dsimp only [List.set_cons_zero, List.set_cons_succ]
          refine wpZ_take (i := 12) (v := .agg #[.int .u64 ((limb 0 (v) : Nat) : Int), .int .u64 ((limb 1 (v) : Nat) : Int), .int .u64 ((limb 2 (v) : Nat) : Int), .int .u64 ((limb 3 (v) : Nat) : Int)]) 68 rfl rfl (by kernel_rfl) (by kernel_rfl) (by kernel_rfl) (Or.inr (by decide)) (fun _ _ _ h => h) (Or.inl ⟨by rfl, fun w hSw => by (obtain ⟨q0, q1, q2, q3⟩ : w.cell? ⟨GI, j * 4, none⟩ = _ ∧ w.cell? ⟨GI, j * 4 + 1, none⟩ = _ ∧ w.cell? ⟨GI, j * 4 + 2, none⟩ = _ ∧ w.cell? ⟨GI, j * 4 + 3, none⟩ = _ := hSw.2.2; clear hSw; go_simp)⟩) HS0 ?_
          simp only [Act.put, List.setIfInBounds_toArray]
          dsimp only [List.set_cons_zero, List.set_cons_succ]
          refine wpZ_one (i := 13) (by kernel_rfl) rfl (fun K hK => ?_)
          go_simp
          refine (HM1.out wD (HGA.out.below lowD)).mono ?_
          rintro e wE ⟨rfl, hbx⟩
          have lowE := bStep lowD hbx
          have SwE : Rd4 wE zb (j * 4) p ∧ Rd4 wE N17 0 x ∧ Rd4 wE GI (j * 4) v := ⟨R1.below lowE lzb, R2.below lowE l17, R3.below lowE lGa⟩
          clear hbx
          go_wp2_with fail
          refine hK.out _ _ (fun _ => SwE) ?_
          clear hK K
          refine wpZ_one (i := 14) (by kernel_rfl) rfl (fun K hK => ?_)
          go_simp
          refine (HM2.out wE (HGA.out.below lowE)).mono ?_
          rintro e wF ⟨rfl, hbx⟩
          have lowF := bStep lowE hbx
          have SwF : Rd4 wF zb (j * 4) p ∧ Rd4 wF N17 0 x ∧ Rd4 wF GI (j * 4) v := ⟨R1.below lowF lzb, R2.below lowF l17, R3.below lowF lGa⟩
          clear hbx
          go_wp2_with fail
          refine hK.out _ _ (fun _ => SwF) ?_
          clear hK K
          refine wpZ_one (i := 15) (by kernel_rfl) rfl (fun K hK => ?_)
          go_simp
          have ownF := owna.below lowF
          obtain ⟨wG, hwG⟩ : ∃ z : World, z = wF.alloc (.cells #[.int .u64 ((limb 0 y : Nat) : Int), .int .u64 ((limb 1 y : Nat) : Int), .int .u64 ((limb 2 y : Nat) : Int), .int .u64 ((limb 3 y : Nat) : Int)] 25) := ⟨_, rfl⟩
          obtain ⟨NF, eF⟩ : ∃ z, z = wF.heap.size := ⟨_, rfl⟩
          have bF : Blk wG 25 NF (fun i => limb i y) := by rw [hwG]; exact Blk.newAt _ _ _ (fun i => limb i y) eF
          have hbG : Below wF.heap.size wF wG := by rw [hwG]; exact bAlloc (Below.refl _ _) _
          have lowG := bStep lowF hbG
          have ownG := ownF.below hbG
          have SG : Rd4 wG zb (j * 4) p ∧ Rd4 wG N17 0 x ∧ Rd4 wG GI (j * 4) v := ⟨R1.below lowG lzb, R2.below lowG l17, R3.below lowG lGa⟩
          rw [← hwG, ← eF]
          refine hK.out _ _ (fun _ => SG) ?_
          clear hK K hwG eF hbG ownF
          have cF := bF.cell
          have lBG : BZ ≤ wG.heap.size := Nat.le_trans lBwa lowG.size
          have lzG : zb < wG.heap.size := Nat.lt_of_lt_of_le lzb lowG.size
          have l17G : N17 < wG.heap.size := Nat.lt_of_lt_of_le l17 lowG.size
          have lGG : GI < wG.heap.size := Nat.lt_of_lt_of_le lGa lowG.size
          refine wpZ_one (i := 16) (by kernel_rfl) rfl (fun K hK => ?_)
          rw [if_pos (show Region.wanted _ _ = true from rfl)]
          refine wp_append_keep wG _ _ 26 rfl BZ 25 i0 (.agg #[.int .u64 0, .int .u64 0, .int .u64 0, .int .u64 0]) 4 32 Tryz.underlying26 HI.out HZ.out.1 HZ.out.2.1 HZ.out.2.2 rfl (by decide) _ L.length (els (fun i => L.getD i 0) L.length) rfl ownG ⟨NF, 0, none⟩ 1 1 [.int .u64 ((limb 0 y : Nat) : Int), .int .u64 ((limb 1 y : Nat) : Int), .int .u64 ((limb 2 y : Nat) : Int), .int .u64 ((limb 3 y : Nat) : Int)] rfl rfl ?c1 ?c2 ?c3 ?c4 lBG ?_
          case c1 =>
            intro q u hu
            have hadd : (⟨NF, 0, none⟩ : Addr).add q = ⟨NF, q, none⟩ := by unfold Addr.add; split <;> simp_all
            rw [hadd]
            match q, hu with
            | 0, hu => simp at hu; subst hu; exact cF 0 (by decide)
            | 1, hu => simp at hu; subst hu; exact cF 1 (by decide)
            | 2, hu => simp at hu; subst hu; exact cF 2 (by decide)
            | 3, hu => simp at hu; subst hu; exact cF 3 (by decide)
            | q + 4, hu => simp at hu
          case c2 => first | exact ⟨rfl, rfl, rfl, rfl⟩ | (intro u hu; simp at hu; rcases hu with rfl | rfl | rfl | rfl <;> rfl)
          case c3 => unfold maxLen; omega
          case c4 => omega
          intro v6 wH own6' hgr6 hkp
          have own6 := OwnL.push own6'
          have ek := fun l (hl : l < 4) => els_get (fun i => L.getD i 0) L.length j l hjL hl
          rw [HL.out.2.1] at ek
          have S6 : Rd4 wH zb (j * 4) p ∧ Rd4 wH N17 0 x ∧ Rd4 wH GI (j * 4) v := ⟨⟨hkp zb rfl _ _ (ek 0 (by decide)), hkp zb rfl _ _ (ek 1 (by decide)), hkp zb rfl _ _ (ek 2 (by decide)), hkp zb rfl _ _ (ek 3 (by decide))⟩, SG.2.1.same (hgr6.block N17 l17G (fun h => nz17 (Option.some.inj h).symm)), SG.2.2.same (hgr6.block GI lGG (fun h => nzG (Option.some.inj h)))⟩
          have hbGH : Below BZ wG wH := (Below.refl BZ wG).grown hgr6 lBG (fun q hq => own_block_geE ownG hq)
          have hbH : Below BZ w6 wH := (hba6.trans (lowG.mono lBwa)).trans hbGH
          have lBH : BZ ≤ wH.heap.size := Nat.le_trans lBG hbGH.size
          have HOH : Hid (OwnL wH BZ v6 (alL mu iv X A B (j + 1))) := by show OwnL _ _ _ _; rw [HL.out.2.2]; exact own6
          refine hK.out _ _ (fun _ => S6) ?_
          clear hK K own6' hgr6 hkp ek own6 ownG SG hbGH owna
          refine wpZ_take (i := 17) (v := v6) 15 rfl rfl (by kernel_rfl) (by kernel_rfl) (by kernel_rfl) (Or.inr (by decide)) (fun _ _ _ h => h) (Or.inl ⟨by rfl, fun w hSw => by go_simp⟩) S6 ?_
          simp only [Act.put, List.setIfInBounds_toArray]
          try dsimp only [List.set_cons_zero, List.set_cons_succ]
          refine wpZ_done (by kernel_rfl) ?_ _
          go_wp2
          go_roundw
          case measure => simp [intOf]; omega
          case rel => exact ⟨j + 1, by go_num, by omega, HOH.out, hbH, lBH⟩
        · have hji : ¬ (j : Int) < (n : Int) := by omega
          obtain rfl : n = j := by omega
          have hlen : (alL mu iv X A B n).length ≤ 1000 := by rw [alL_len]; omega
          have hbw : Below w.heap.size w wr := H6.out.trans (hb.mono lwB)
          have hpu := HPU.out.below (hbw.mono HPB.out)
          have hoo := ownL_base own lwB
          have HD := HHD.out w.heap.size _ _ wr hlen (HG.out.below hbw) HPB.out hbw.size hoo hpu
          clear own hb
          go_wp2_with fail
          refine HD.mono ?_
          rintro e w9 ⟨he, hk⟩
          have hke : KU w.heap.size b w w9 := ((KU.refl _ b w).below hbw).trans hk
          clear HD hk hbw hpu hoo
          rcases he with ⟨hm, rfl⟩ | ⟨hm, z, rfl, ho, hq⟩
          · go_wp2
            refine bodyPost_ret (v := .tuple #[.slice none 0 0, .int .i64 81]) (by simp [results, Tryz.results61, go_sem]) rfl ⟨Or.inl ⟨hm, rfl⟩, hke⟩
          · have HQ : Hid (OwnL w9 w.heap.size z (alL mu iv X A B n ++ coinL el f 3) ∧ PurseS w9 pb b (m - 3) (fun i => f (i + 3))) := ⟨ho, hq⟩
            clear ho hq
            go_wp2
            refine bodyPost_ret (v := .tuple #[z, .int .i64 0]) (by simp [results, Tryz.results61, go_sem]) rfl ⟨Or.inr ⟨hm, z, rfl, HQ.out.1, HQ.out.2⟩, hke⟩
end Go.Proofs.YtfbfenljfdnggaaGreatDoor

/- permute.Products in a sort that there is. -/
namespace Go.Proofs.YtfbfenljfdnggaaGreatDoor
open Go.RowKit
/-- Where chunk j's product starts. -/
def svP (s be ga m u : Nat) (X Y : Nat → Nat → Nat) (pt : Nat → Nat) : Nat → Nat
  | 0 => 1
  | j + 1 => alz (mulP s) (invU (modN s)) (addP s (svP s be ga m u X Y pt j) 0) (rUp s be ga m X pt j) (rDn s be ga m X Y j) u
/-- Chunk j's product, in the rows that are told in. -/
def zlP (s be ga m u : Nat) (X Y : Nat → Nat → Nat) (pt : Nat → Nat) (j : Nat) : List Nat := alL (mulP s) (invU (modN s)) (addP s (svP s be ga m u X Y pt j) 0) (rUp s be ga m X pt j) (rDn s be ga m X Y j) u
/-- Is a divisor of chunk j 0? -/
def badP (s be ga m u : Nat) (X Y : Nat → Nat → Nat) (j : Nat) : Prop := pre (modN s) (rDn s be ga m X Y j) u = 0
theorem alz_M {s : Nat} {iv : Nat → Nat} {A B : Nat → Nat} {x : Nat} (hx : x < 115792089237316195423570985008687907853269984665640564039457584007913129639936) : ∀ k, alz (mulP s) iv x A B k < 115792089237316195423570985008687907853269984665640564039457584007913129639936
  | 0 => hx
  | _ + 1 => mulP_M _ _ _
theorem svP_M (s be ga m u : Nat) (X Y : Nat → Nat → Nat) (pt : Nat → Nat) : ∀ j, svP s be ga m u X Y pt j < 115792089237316195423570985008687907853269984665640564039457584007913129639936
  | 0 => by show 1 < 115792089237316195423570985008687907853269984665640564039457584007913129639936; decide
  | _ + 1 => alz_M (addP_M _ _ _) _
theorem pprod_in (s q m b cm cn be ga mm : Nat) (om on : Option Addr) (F F2 : Nat → Value) (L L2 : Nat → Nat) (X Y : Nat → Nat → Nat) (f : Nat → Nat) (hs : s < 4) (hq : 3 ≤ q ∧ q ≤ 5) (hm8 : m ≤ 8) (hbe : be < 115792089237316195423570985008687907853269984665640564039457584007913129639936) (hga : ga < 115792089237316195423570985008687907853269984665640564039457584007913129639936) (hX : ∀ r i, i < m → X i r < 115792089237316195423570985008687907853269984665640564039457584007913129639936) (hY : ∀ r i, i < m → Y i r < 115792089237316195423570985008687907853269984665640564039457584007913129639936) (hf : ∀ i, i < mm → f i < 115792089237316195423570985008687907853269984665640564039457584007913129639936)
    (hL : ∀ i, i < m → L i = 2 ^ q) (hL2 : ∀ i, i < m → L2 i = 2 ^ q) (w : World) (hg : GlobD w) (h3b : 3 ≤ b) (h1 : Tab w (.slice om m cm) m F L X) (h2 : Tab w (.slice on m cn) m F2 L2 Y) (hp : PurseS w w.heap.size b mm f) :
    Calls Tryz.prog 10 #[.int .i64 (s : Int), .int .i64 (q : Int), .slice om m cm, .slice on m cn, .agg #[.int .u64 ((limb 0 (be) : Nat) : Int), .int .u64 ((limb 1 (be) : Nat) : Int), .int .u64 ((limb 2 (be) : Nat) : Int), .int .u64 ((limb 3 (be) : Nat) : Int)], .agg #[.int .u64 ((limb 0 (ga) : Nat) : Int), .int .u64 ((limb 1 (ga) : Nat) : Int), .int .u64 ((limb 2 (ga) : Nat) : Int), .int .u64 ((limb 3 (ga) : Nat) : Int)], .pointer (some ⟨b, 0, none⟩)] w fun e w' => (∃ wc, w.heap.size ≤ wc.heap.size ∧ PrsE wc w' ((m + 1) / 2) mm b (badP s be ga m (2 ^ q - 4) X Y) (zlP s be ga m (2 ^ q - 4) X Y (fun r => expP s (rootP s q) r)) (fun v => addP s v 0) f e) ∧ KU w.heap.size b w w' := by
  have hu : 2 ^ q - 4 ≤ 900 := by have : 2 ^ q ≤ 32 := Nat.pow_le_pow_right (n := 2) (by decide) hq.2; omega
  refine pprod_ok s q m b cm cn be ga mm om on F F2 L L2 X Y f (fun r => expP s (rootP s q) r) (fun v => addP s v 0) (svP s be ga m (2 ^ q - 4) X Y (fun r => expP s (rootP s q) r)) (badP s be ga m (2 ^ q - 4) X Y) (zlP s be ga m (2 ^ q - 4) X Y (fun r => expP s (rootP s q) r)) hs hq hm8 hbe hga hX hY (fun r => lt_M s _ (expP_lt _ _ _)) (fun w hg => dPts_in s q hs (by omega) w hg) hL hL2 (fun j => alL_len _ _ _ _ _ _) (fun j => alL_at _ _ _ _ _ _) rfl (fun j hj h3j pb Z w' hg' hpb hr hpr => ?_) w hg h3b h1 h2 hp
  have hBM : ∀ i, i < 2 ^ q - 4 → rDn s be ga m X Y j i < 115792089237316195423570985008687907853269984665640564039457584007913129639936 := fun i _ => upV_M _ _ _ _ _ _ _
  by_cases hz : pre (modN s) (rDn s be ga m X Y j) (2 ^ q - 4) = 0
  · refine (along_bad s (2 ^ q - 4) Z b _ _ (rUp s be ga m X _ j) (rDn s be ga m X Y j) hs (by omega) hBM hz w' hg' hr.rtB).mono ?_
    rintro e w2 ⟨rfl, hb⟩
    exact ⟨Or.inl ⟨hz, rfl⟩, (KU.refl _ _ _).below hb⟩
  · refine (along_ok s (2 ^ q - 4) Z pb b _ _ (mm - 3 * j) (rUp s be ga m X _ j) (rDn s be ga m X Y j) (fun i => f (i + 3 * j)) (fld_in s hs) hs hu (svP_M _ _ _ _ _ _ _ _ _) (fun i _ => upV_M _ _ _ _ _ _ _) hBM (fun i hi => hf _ (by omega)) hz w' hg' h3b hr.rtB hpb hpr).mono ?_
    rintro e w2 ⟨hh, hk⟩
    exact ⟨Or.inr ⟨hz, hh⟩, hk⟩
end Go.Proofs.YtfbfenljfdnggaaGreatDoor

