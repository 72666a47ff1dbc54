/- The reference's Some(0, 1). -/
import Derived.Test.YtjpjnmhjbmmaiaaGreatDoorUKD
import Derived.Test.YtjpjnmhjbmmaiaaGreatDoorUK7
import Derived.Test.YtjpjnmhjbmmaiaaGreatDoorURC
import Derived.Test.YtjpjnmhjbmmaiaaGreatDoorUKU
import Derived.Test.YtjpjnmhjbmmaiaaGreatDoorUYA
namespace Go.Proofs.YtjpjnmhjbmmaiaaGreatDoor
open Go.RowKit
theorem pow_one' {m a e : Nat} (m' a' e' f : Nat) (hm : m = m') (ha : a = a') (hx : e = e') (he : e' < 2 ^ f) (h : pm m' a' f e' = 1) : powM m a e = 1 := by
  subst hm ha hx; unfold powM; rw [← pm_eq _ _ f _ he]; exact h
set_option maxRecDepth 100000 in
theorem euler24 : powM (modN 0) (24 % modN 0) ((2 * oddH 0 + 1) * 2 ^ (adicN 0 - 1)) = 1 := pow_one' 16513537 24 8256768 24 (by rfl) (by rfl) (by rfl) (by decide) (by decide +kernel)
theorem int_one : intP 0 1 = 1 := by decide
theorem sq_one : sqY 0 1 = 24 := by decide
set_option maxHeartbeats 4000000 in
set_option maxRecDepth 20000 in
theorem rsome_one (w : World) : Calls Tryz.prog 26 #[.int .i64 0, .int .i64 1] w fun e w' => ∃ r, r < modN 0 ∧ mulP 0 r r = 24 ∧ e = .returned (.agg #[.int .u64 ((limb 0 (1) : Nat) : Int), .int .u64 ((limb 1 (1) : Nat) : Int), .int .u64 ((limb 2 (1) : Nat) : Int), .int .u64 ((limb 3 (1) : Nat) : Int), .int .u64 ((limb 0 (r) : Nat) : Int), .int .u64 ((limb 1 (r) : Nat) : Int), .int .u64 ((limb 2 (r) : Nat) : Int), .int .u64 ((limb 3 (r) : Nat) : Int), .bool false]) ∧ Below w.heap.size w w' := by
  have HS : Hid (∀ w, _) := fun w => ref2Sqrt_any 0 24 (by decide) (by decide) w
  rw [show (((0 : Nat)) : Int) = 0 from rfl] at HS
  obtain ⟨x, ex⟩ : ∃ x, x = 1 := ⟨_, rfl⟩
  obtain ⟨a, ea⟩ : ∃ a, a = 24 := ⟨_, rfl⟩
  have HI : Hid (∀ w, Calls Tryz.prog 52 #[.int .i64 0, .int .i64 1] w fun e w' => e = .returned (.agg #[.int .u64 ((limb 0 (x) : Nat) : Int), .int .u64 ((limb 1 (x) : Nat) : Int), .int .u64 ((limb 2 (x) : Nat) : Int), .int .u64 ((limb 3 (x) : Nat) : Int)]) ∧ Below w.heap.size w w') := fun w => by
    have h := rInt_any 0 1 (by decide) w
    rw [int_one] at h
    rw [ex]
    exact h
  have HC : Hid (∀ w, Calls Tryz.prog 34 #[.int .i64 0, .agg #[.int .u64 ((limb 0 (x) : Nat) : Int), .int .u64 ((limb 1 (x) : Nat) : Int), .int .u64 ((limb 2 (x) : Nat) : Int), .int .u64 ((limb 3 (x) : Nat) : Int)]] w fun e w' => e = .returned (.agg #[.int .u64 ((limb 0 (a) : Nat) : Int), .int .u64 ((limb 1 (a) : Nat) : Int), .int .u64 ((limb 2 (a) : Nat) : Int), .int .u64 ((limb 3 (a) : Nat) : Int)]) ∧ Below w.heap.size w w') := fun w => by
    have h := rcube_any 0 1 (by decide) (by decide) w
    rw [sq_one] at h
    rw [ex, ea]
    exact h
  have QX : ∀ w, (binOp .neq 24 (.agg #[.int .u64 ((limb 0 (x) : Nat) : Int), .int .u64 ((limb 1 (x) : Nat) : Int), .int .u64 ((limb 2 (x) : Nat) : Int), .int .u64 ((limb 3 (x) : Nat) : Int)]) (.agg #[.int .u64 0, .int .u64 0, .int .u64 0, .int .u64 0])).run Tryz.prog w = .ok (.bool true) w := fun w => by rw [ex]; exact neqZ 1 (by decide) w
  have QY := fun (r : Nat) (hr : r < 115792089237316195423570985008687907853269984665640564039457584007913129639936) w => neqZ r hr w
  have HQY := (show Hid _ from QY)
  have EX : Hid (x = 1) := ex
  clear QY
  have HS' : Hid (∀ w, Calls Tryz.prog 48 #[.int .i64 0, .agg #[.int .u64 ((limb 0 (a) : Nat) : Int), .int .u64 ((limb 1 (a) : Nat) : Int), .int .u64 ((limb 2 (a) : Nat) : Int), .int .u64 ((limb 3 (a) : Nat) : Int)]] w fun e w' => (∃ r, r < modN 0 ∧ r ≠ 0 ∧ mulP 0 r r = 24 ∧ e = .returned (.tuple #[.agg #[.int .u64 ((limb 0 (r) : Nat) : Int), .int .u64 ((limb 1 (r) : Nat) : Int), .int .u64 ((limb 2 (r) : Nat) : Int), .int .u64 ((limb 3 (r) : Nat) : Int)], .int .i64 0])) ∧ Below w.heap.size w w') := fun w => by
    rw [ea]
    refine (HS.out w).mono ?_
    rintro e w' ⟨h | h, hb⟩
    · obtain ⟨r, h1, _, h3, rfl⟩ := h
      have h4 : mulP 0 r r = 24 := h3
      refine ⟨⟨r, h1, fun h0 => ?_, h4, rfl⟩, hb⟩
      rw [h0] at h4
      exact absurd h4 (by decide)
    · exact absurd euler24 h.2.1
  clear HS ex ea
  go_enter Tryz.func26, Tryz.ntmps26
  go_wp2_with fail
  go_loopw [1] (fun nv wr => nv = .int .i64 1 ∧ Below w.heap.size w wr ∧ Pt wr w.heap.size 0 0 false) (fun _ _ => 0)
  case atStart => exact ⟨rfl, (Below.refl _ _).alloc (Nat.le_refl _) _, Pt.zeroAt _ _ rfl⟩
  case round =>
    obtain ⟨rfl, hbr, br⟩ := hrel
    go_wp2_with fail
    refine (HI.out _).mono ?_
    rintro e w1 ⟨rfl, hb1⟩
    have br1 := (br.belowAll hb1).alloc (.cells #[.int .u64 ((limb 0 (x) : Nat) : Int), .int .u64 ((limb 1 (x) : Nat) : Int), .int .u64 ((limb 2 (x) : Nat) : Int), .int .u64 ((limb 3 (x) : Nat) : Int)] 24)
    have bx1 : Blk (w1.alloc (.cells #[.int .u64 ((limb 0 (x) : Nat) : Int), .int .u64 ((limb 1 (x) : Nat) : Int), .int .u64 ((limb 2 (x) : Nat) : Int), .int .u64 ((limb 3 (x) : Nat) : Int)] 24)) 24 w1.heap.size (fun i => limb i x) := Blk.newAt _ _ _ (fun i => limb i x) rfl
    have hbw1 := bAlloc (bStep hbr hb1) (.cells #[.int .u64 ((limb 0 (x) : Nat) : Int), .int .u64 ((limb 1 (x) : Nat) : Int), .int .u64 ((limb 2 (x) : Nat) : Int), .int .u64 ((limb 3 (x) : Nat) : Int)] 24)
    clear br hbr hb1 HI
    go_upto_region 2 with fail
    obtain ⟨w2, hw2⟩ : ∃ y : World, y = w1.alloc (.cells #[.int .u64 ((limb 0 (x) : Nat) : Int), .int .u64 ((limb 1 (x) : Nat) : Int), .int .u64 ((limb 2 (x) : Nat) : Int), .int .u64 ((limb 3 (x) : Nat) : Int)] 24) := ⟨_, rfl⟩
    obtain ⟨N5, hN5⟩ : ∃ N, N = w1.heap.size := ⟨_, rfl⟩
    rw [← hw2] at br1 bx1 hbw1 ⊢
    rw [← hN5] at bx1 ⊢
    clear hw2 hN5
    have cx := bx1.cell
    go_wp2_with fail
    refine (HC.out _).mono ?_
    rintro e w3 ⟨rfl, hb3⟩
    clear cx
    have br3 := br1.belowAll hb3; have bx3 := bx1.belowAll hb3
    have hbw3 := bStep hbw1 hb3
    clear br1 bx1 hbw1 hb3
    go_wp2_with fail
    refine (HS'.out _).mono ?_
    rintro e w4 ⟨⟨r, hr1, hr0, hr2, rfl⟩, hb4⟩
    have QR := fun w => HQY.out r (lt_M 0 _ hr1) w
    rw [show (!decide (r = 0)) = true from by simp [hr0]] at QR
    have HR := (show Hid _ from And.intro hr1 hr2)
    have br5 := ((br3.belowAll hb4).alloc (.cells #[.int .u64 ((limb 0 (r) : Nat) : Int), .int .u64 ((limb 1 (r) : Nat) : Int), .int .u64 ((limb 2 (r) : Nat) : Int), .int .u64 ((limb 3 (r) : Nat) : Int)] 24)).alloc (.cells #[.int .u64 0, .int .u64 0, .int .u64 0, .int .u64 0] 24)
    have bx5 := ((bx3.belowAll hb4).alloc (.cells #[.int .u64 ((limb 0 (r) : Nat) : Int), .int .u64 ((limb 1 (r) : Nat) : Int), .int .u64 ((limb 2 (r) : Nat) : Int), .int .u64 ((limb 3 (r) : Nat) : Int)] 24)).alloc (.cells #[.int .u64 0, .int .u64 0, .int .u64 0, .int .u64 0] 24)
    have by5 : Blk ((w4.alloc (.cells #[.int .u64 ((limb 0 (r) : Nat) : Int), .int .u64 ((limb 1 (r) : Nat) : Int), .int .u64 ((limb 2 (r) : Nat) : Int), .int .u64 ((limb 3 (r) : Nat) : Int)] 24)).alloc (.cells #[.int .u64 0, .int .u64 0, .int .u64 0, .int .u64 0] 24)) 24 w4.heap.size (fun i => limb i r) := (Blk.newAt _ _ _ (fun i => limb i r) rfl).alloc _
    have bz5 : Blk ((w4.alloc (.cells #[.int .u64 ((limb 0 (r) : Nat) : Int), .int .u64 ((limb 1 (r) : Nat) : Int), .int .u64 ((limb 2 (r) : Nat) : Int), .int .u64 ((limb 3 (r) : Nat) : Int)] 24)).alloc (.cells #[.int .u64 0, .int .u64 0, .int .u64 0, .int .u64 0] 24)) 24 (w4.heap.size + 1) (fun _ => 0) := Blk.newAt _ _ _ (fun _ => 0) (by simp)
    have hbw5 := bAlloc (bAlloc (bStep hbw3 hb4) (.cells #[.int .u64 ((limb 0 (r) : Nat) : Int), .int .u64 ((limb 1 (r) : Nat) : Int), .int .u64 ((limb 2 (r) : Nat) : Int), .int .u64 ((limb 3 (r) : Nat) : Int)] 24)) (.cells #[.int .u64 0, .int .u64 0, .int .u64 0, .int .u64 0] 24)
    clear br3 bx3 hbw3 hb4 hr1 hr2 hr0 HQY HS' HC
    go_upto_region 4 with fail
    obtain ⟨w5, hw5⟩ : ∃ y : World, y = (w4.alloc (.cells #[.int .u64 ((limb 0 (r) : Nat) : Int), .int .u64 ((limb 1 (r) : Nat) : Int), .int .u64 ((limb 2 (r) : Nat) : Int), .int .u64 ((limb 3 (r) : Nat) : Int)] 24)).alloc (.cells #[.int .u64 0, .int .u64 0, .int .u64 0, .int .u64 0] 24) := ⟨_, rfl⟩
    obtain ⟨N6, hN6⟩ : ∃ N, N = w4.heap.size := ⟨_, rfl⟩
    rw [← hw5] at br5 bx5 by5 bz5 hbw5 ⊢
    rw [← hN6] at by5 bz5 ⊢
    clear hw5 hN6
    have cx := bx5.cell; have cy := by5.cell; have cz := bz5.cell
    obtain ⟨r0, r1, r2, r3, r4, r5, r6, r7, r8, rf⟩ := br5.cells
    go_wp2
    (try simp only [Exit.inBlock, Exit.then])
    refine bodyPost_ret (v := .agg #[.int .u64 ((limb 0 (x) : Nat) : Int), .int .u64 ((limb 1 (x) : Nat) : Int), .int .u64 ((limb 2 (x) : Nat) : Int), .int .u64 ((limb 3 (x) : Nat) : Int), .int .u64 ((limb 0 (r) : Nat) : Int), .int .u64 ((limb 1 (r) : Nat) : Int), .int .u64 ((limb 2 (r) : Nat) : Int), .int .u64 ((limb 3 (r) : Nat) : Int), .bool false]) (by simp [results, Tryz.results26, go_sem, r0, r1, r2, r3, r4, r5, r6, r7, r8]) rfl ⟨r, HR.out.1, HR.out.2, by rw [EX.out], ?_⟩
    exact bSet9 hbw5 (Nat.le_refl _) _ _ _ _ _ _ _ _ _
end Go.Proofs.YtjpjnmhjbmmaiaaGreatDoor
/- curve.Decode(0, 32 noughts); alive. -/
namespace Go.Proofs.YtjpjnmhjbmmaiaaGreatDoor
open Go.RowKit
theorem conv_zero (w : World) (g c : Nat) (h : BlkB w 5 g 32 (fun _ => 0)) :
    (convert 34 9 (.slice (some ⟨g, 0, none⟩) 32 c)).run Tryz.prog w = .ok (.string ⟨(List.replicate 32 (0 : UInt8)).toArray⟩) w := by
  have hc := run_convert_bytes_back (P := Tryz.prog) w 34 9 5 ⟨g, 0, none⟩ c (List.replicate 32 (0 : UInt8)) Tryz.underlying34 Tryz.underlying5 Tryz.underlying9 (fun j hj => by
    have hj' : j < 32 := by simpa using hj
    have hadd : (⟨g, 0, none⟩ : Addr).add j = ⟨g, j, none⟩ := by unfold Addr.add; split <;> simp_all
    rw [hadd, h.cell j hj', List.getElem_replicate]
    rfl)
  rw [List.length_replicate] at hc
  exact hc
set_option maxHeartbeats 1000000 in
theorem equal_zero (w : World) (g h c d : Nat) (hg : BlkB w 5 g 32 (fun _ => 0)) (hh : BlkB w 5 h 32 (fun _ => 0)) :
    Calls Tryz.prog 43 #[.slice (some ⟨g, 0, none⟩) 32 c, .slice (some ⟨h, 0, none⟩) 32 d] w fun e w' => e = .returned (.bool true) ∧ w' = w := by
  have C1 := conv_zero w g c hg
  have C2 := conv_zero w h d hh
  obtain ⟨s, es⟩ : ∃ s : ByteArray, s = ⟨(List.replicate 32 (0 : UInt8)).toArray⟩ := ⟨_, rfl⟩
  rw [← es] at C1 C2
  clear es hg hh
  go_enter Tryz.func43, Tryz.ntmps43
  go_wp2
  go_ret
  exact ⟨by simp, rfl⟩
set_option maxHeartbeats 3000000 in
set_option maxRecDepth 20000 in
theorem decode_zero (w : World) (g c : Nat) (hB : BlkB w 5 g 32 (fun _ => 0)) :
    Calls Tryz.prog 19 #[.int .i64 0, .slice (some ⟨g, 0, none⟩) 32 c] w fun e w' => e = .returned (.tuple #[.agg #[.int .u64 ((limb 0 (0) : Nat) : Int), .int .u64 ((limb 1 (0) : Nat) : Int), .int .u64 ((limb 2 (0) : Nat) : Int), .int .u64 ((limb 3 (0) : Nat) : Int), .int .u64 ((limb 0 (0) : Nat) : Int), .int .u64 ((limb 1 (0) : Nat) : Int), .int .u64 ((limb 2 (0) : Nat) : Int), .int .u64 ((limb 3 (0) : Nat) : Int), .bool true], .int .i64 0]) ∧ Below w.heap.size w w' := by
  obtain ⟨i0, hi, hz0, hz1, hz2⟩ := byteInfo
  have HI := (show Hid _ from hi); have HZ := (show Hid _ from And.intro hz0 (And.intro hz1 hz2)); clear hi hz0 hz1 hz2
  have HIC : Hid (∀ w, Calls Tryz.prog 27 #[.int .i64 0] w fun e w' => e = .returned (.bool true) ∧ w' = w) := fun w => isCurve_in 0 (by decide) w
  have HIN : Hid (∀ w, _) := infinity_any
  go_enter Tryz.func19, Tryz.ntmps19
  go_upto_region 1 with fail
  obtain ⟨w0, hw0⟩ : ∃ w0 : World, w0 = w.alloc (.cells #[.int .u64 0, .int .u64 0, .int .u64 0, .int .u64 0, .int .u64 0, .int .u64 0, .int .u64 0, .int .u64 0, .bool false] 26) := ⟨_, rfl⟩
  have br0 : Pt w0 w.heap.size 0 0 false := by rw [hw0]; exact Pt.zeroAt _ _ rfl
  have bB0 : BlkB w0 5 g 32 (fun _ => 0) := by rw [hw0]; exact hB.alloc _
  have hbw0 : Below w.heap.size w w0 := by rw [hw0]; exact (Below.refl _ _).alloc (Nat.le_refl _) _
  rw [← hw0]
  clear hw0
  go_wp2_with fail
  refine (HIC.out _).mono ?_
  rintro e w1 ⟨rfl, hw1⟩
  rw [hw1]
  clear hw1
  go_wp2_with (first
    | (at_make; refine wpList_make_full _ rfl _ _ 34 rfl w0.heap.size 5 i0 (.int .u8 0) 1 Tryz.underlying34 HI.out HZ.out.1 HZ.out.2.1 .i64 .i64 32 32 32 rfl rfl rfl rfl ?c1 (by decide) (Nat.le_refl _) ?_)
    | go_in)
  case c1 => rw [HZ.out.2.2]; decide
  intro w5 hown hgrow
  obtain ⟨bS, _⟩ := own_blkB (f := fun _ => 0) hown (by intro i hi; simp [madeCells]; exact ⟨i, by simp [hi], by rw [Nat.mod_one]; rfl⟩) (by decide)
  have hbe : Below w0.heap.size w0 w5 := (Below.refl _ w0).grown hgrow (Nat.le_refl _) (fun j hj => by cases hj)
  have br5 := br0.belowAll hbe
  have bB5 := bB0.belowAll hbe
  have hbw5 := bStep hbw0 hbe
  have HEQ := fun (_ : Unit) => equal_zero w5 g w0.heap.size c 32 bB5 bS
  have HE := (show Hid _ from HEQ)
  clear hown hgrow hbe HEQ br0 bB0 hbw0 bS bB5
  go_wp2_with fail
  refine (HE.out ()).mono ?_
  rintro e w6 ⟨rfl, hw6⟩
  rw [hw6]
  clear hw6 HE
  go_wp2_with fail
  refine (HIN.out _).mono ?_
  rintro e w7 ⟨rfl, hb7⟩
  obtain ⟨r0, r1, r2, r3, r4, r5, r6, r7, r8, rf⟩ := (br5.belowAll hb7).cells
  go_wp2
  refine bodyPost_ret (v := .tuple #[.agg #[.int .u64 ((limb 0 (0) : Nat) : Int), .int .u64 ((limb 1 (0) : Nat) : Int), .int .u64 ((limb 2 (0) : Nat) : Int), .int .u64 ((limb 3 (0) : Nat) : Int), .int .u64 ((limb 0 (0) : Nat) : Int), .int .u64 ((limb 1 (0) : Nat) : Int), .int .u64 ((limb 2 (0) : Nat) : Int), .int .u64 ((limb 3 (0) : Nat) : Int), .bool true], .int .i64 0]) (by simp [results, Tryz.results19, go_sem, r0, r1, r2, r3, r4, r5, r6, r7, r8]) rfl ⟨rfl, ?_⟩
  exact bSet9 (bStep hbw5 hb7) (Nat.le_refl _) _ _ _ _ _ _ _ _ _
end Go.Proofs.YtjpjnmhjbmmaiaaGreatDoor
/- alive, of curve's statements. -/
namespace Go.Proofs.YtjpjnmhjbmmaiaaGreatDoor
open Go.RowKit
set_option maxHeartbeats 4000000 in
set_option maxRecDepth 20000 in
theorem alive4_any (w : World) (hg : GlobC w) : Calls Tryz.prog 9 #[] w fun e w' => e = .returned (.bool true) ∧ Below w.heap.size w w' := by
  obtain ⟨i0, hi, hz0, hz1, hz2⟩ := byteInfo
  have HI := (show Hid _ from hi); have HZ := (show Hid _ from And.intro hz0 (And.intro hz1 hz2)); clear hi hz0 hz1 hz2
  have HG0 : Hid (GlobC w) := hg
  obtain ⟨o, eo⟩ : ∃ o, o = 0 := ⟨_, rfl⟩
  obtain ⟨x, ex⟩ : ∃ x, x = 1 := ⟨_, rfl⟩
  have HIN : Hid (∀ w, Calls Tryz.prog 24 #[] w fun e w' => e = .returned (.agg #[.int .u64 ((limb 0 (o) : Nat) : Int), .int .u64 ((limb 1 (o) : Nat) : Int), .int .u64 ((limb 2 (o) : Nat) : Int), .int .u64 ((limb 3 (o) : Nat) : Int), .int .u64 ((limb 0 (o) : Nat) : Int), .int .u64 ((limb 1 (o) : Nat) : Int), .int .u64 ((limb 2 (o) : Nat) : Int), .int .u64 ((limb 3 (o) : Nat) : Int), .bool true]) ∧ Below w.heap.size w w') := fun w => by rw [eo]; exact infinity_any w
  have HDE : Hid (∀ (w : World) (g c : Nat), BlkB w 5 g 32 (fun _ => 0) → Calls Tryz.prog 19 #[.int .i64 0, .slice (some ⟨g, 0, none⟩) 32 c] w fun e w' => e = .returned (.tuple #[.agg #[.int .u64 ((limb 0 (o) : Nat) : Int), .int .u64 ((limb 1 (o) : Nat) : Int), .int .u64 ((limb 2 (o) : Nat) : Int), .int .u64 ((limb 3 (o) : Nat) : Int), .int .u64 ((limb 0 (o) : Nat) : Int), .int .u64 ((limb 1 (o) : Nat) : Int), .int .u64 ((limb 2 (o) : Nat) : Int), .int .u64 ((limb 3 (o) : Nat) : Int), .bool true], .int .i64 0]) ∧ Below w.heap.size w w') := fun w g c h => by rw [eo]; exact decode_zero w g c h
  have HSO : Hid (∀ w, Calls Tryz.prog 26 #[.int .i64 0, .int .i64 1] w fun e w' => ∃ r, r < modN 0 ∧ mulP 0 r r = 24 ∧ e = .returned (.agg #[.int .u64 ((limb 0 (x) : Nat) : Int), .int .u64 ((limb 1 (x) : Nat) : Int), .int .u64 ((limb 2 (x) : Nat) : Int), .int .u64 ((limb 3 (x) : Nat) : Int), .int .u64 ((limb 0 (r) : Nat) : Int), .int .u64 ((limb 1 (r) : Nat) : Int), .int .u64 ((limb 2 (r) : Nat) : Int), .int .u64 ((limb 3 (r) : Nat) : Int), .bool false]) ∧ Below w.heap.size w w') := fun w => by rw [ex]; exact rsome_one w
  have HON : Hid (∀ r, r < modN 0 → mulP 0 r r = 24 → ∀ w, GlobC w → Calls Tryz.prog 10 #[.int .i64 0, .agg #[.int .u64 ((limb 0 (x) : Nat) : Int), .int .u64 ((limb 1 (x) : Nat) : Int), .int .u64 ((limb 2 (x) : Nat) : Int), .int .u64 ((limb 3 (x) : Nat) : Int), .int .u64 ((limb 0 (r) : Nat) : Int), .int .u64 ((limb 1 (r) : Nat) : Int), .int .u64 ((limb 2 (r) : Nat) : Int), .int .u64 ((limb 3 (r) : Nat) : Int), .bool false]] w fun e w' => e = .returned (.bool true) ∧ Below w.heap.size w w') := fun r h1 h2 w hg => by
    have h := on_in 0 1 r false (by decide) (by decide) (lt_M 0 _ h1) w hg
    have hon : onC 0 1 r false := Or.inr ⟨rfl, by decide, h1, h2.trans sq_one.symm⟩
    rw [decide_eq_true hon] at h
    rw [ex]
    exact h
  have HMU : Hid (∀ r, r < modN 0 → mulP 0 r r = 24 → ∀ w, GlobC w → Calls Tryz.prog 16 #[.int .i64 0, .agg #[.int .u64 1, .int .u64 0, .int .u64 0, .int .u64 0], .agg #[.int .u64 ((limb 0 (x) : Nat) : Int), .int .u64 ((limb 1 (x) : Nat) : Int), .int .u64 ((limb 2 (x) : Nat) : Int), .int .u64 ((limb 3 (x) : Nat) : Int), .int .u64 ((limb 0 (r) : Nat) : Int), .int .u64 ((limb 1 (r) : Nat) : Int), .int .u64 ((limb 2 (r) : Nat) : Int), .int .u64 ((limb 3 (r) : Nat) : Int), .bool false]] w fun e w' => e = .returned (.agg #[.int .u64 ((limb 0 (x) : Nat) : Int), .int .u64 ((limb 1 (x) : Nat) : Int), .int .u64 ((limb 2 (x) : Nat) : Int), .int .u64 ((limb 3 (x) : Nat) : Int), .int .u64 ((limb 0 (r) : Nat) : Int), .int .u64 ((limb 1 (r) : Nat) : Int), .int .u64 ((limb 2 (r) : Nat) : Int), .int .u64 ((limb 3 (r) : Nat) : Int), .bool false]) ∧ Below w.heap.size w w') := fun r h1 h2 w hg => by
    rw [ex]
    exact mul_one0 1 r (by decide) h1 (Or.inr ⟨rfl, by decide, h1, h2.trans sq_one.symm⟩) w hg
  have QO : ∀ w, (binOp .eql 26 (.agg #[.int .u64 ((limb 0 (o) : Nat) : Int), .int .u64 ((limb 1 (o) : Nat) : Int), .int .u64 ((limb 2 (o) : Nat) : Int), .int .u64 ((limb 3 (o) : Nat) : Int), .int .u64 ((limb 0 (o) : Nat) : Int), .int .u64 ((limb 1 (o) : Nat) : Int), .int .u64 ((limb 2 (o) : Nat) : Int), .int .u64 ((limb 3 (o) : Nat) : Int), .bool true]) (.agg #[.int .u64 ((limb 0 (o) : Nat) : Int), .int .u64 ((limb 1 (o) : Nat) : Int), .int .u64 ((limb 2 (o) : Nat) : Int), .int .u64 ((limb 3 (o) : Nat) : Int), .int .u64 ((limb 0 (o) : Nat) : Int), .int .u64 ((limb 1 (o) : Nat) : Int), .int .u64 ((limb 2 (o) : Nat) : Int), .int .u64 ((limb 3 (o) : Nat) : Int), .bool true])).run Tryz.prog w = .ok (.bool true) w := fun w => by
    have h := eqlP o o o o true true (by rw [eo]; decide) (by rw [eo]; decide) (by rw [eo]; decide) (by rw [eo]; decide) w
    rw [decide_eq_true (⟨rfl, rfl, rfl⟩ : o = o ∧ o = o ∧ true = true)] at h
    exact h
  have QG : Hid (∀ r, r < modN 0 → ∀ w, (binOp .eql 26 (.agg #[.int .u64 ((limb 0 (x) : Nat) : Int), .int .u64 ((limb 1 (x) : Nat) : Int), .int .u64 ((limb 2 (x) : Nat) : Int), .int .u64 ((limb 3 (x) : Nat) : Int), .int .u64 ((limb 0 (r) : Nat) : Int), .int .u64 ((limb 1 (r) : Nat) : Int), .int .u64 ((limb 2 (r) : Nat) : Int), .int .u64 ((limb 3 (r) : Nat) : Int), .bool false]) (.agg #[.int .u64 ((limb 0 (x) : Nat) : Int), .int .u64 ((limb 1 (x) : Nat) : Int), .int .u64 ((limb 2 (x) : Nat) : Int), .int .u64 ((limb 3 (x) : Nat) : Int), .int .u64 ((limb 0 (r) : Nat) : Int), .int .u64 ((limb 1 (r) : Nat) : Int), .int .u64 ((limb 2 (r) : Nat) : Int), .int .u64 ((limb 3 (r) : Nat) : Int), .bool false])).run Tryz.prog w = .ok (.bool true) w) := fun r h1 w => by
    have h := eqlP x r x r false false (by rw [ex]; decide) (lt_M 0 _ h1) (by rw [ex]; decide) (lt_M 0 _ h1) w
    rw [decide_eq_true (⟨rfl, rfl, rfl⟩ : x = x ∧ r = r ∧ false = false)] at h
    exact h
  clear hg eo ex
  go_enter Tryz.func9, Tryz.ntmps9
  go_wp2_with (first
    | (at_make; refine wpList_make_full _ rfl _ _ 34 rfl w.heap.size 5 i0 (.int .u8 0) 1 Tryz.underlying34 HI.out HZ.out.1 HZ.out.2.1 .i64 .i64 32 32 32 rfl rfl rfl rfl ?c1 (by decide) (Nat.le_refl _) ?_)
    | go_in)
  case c1 => rw [HZ.out.2.2]; decide
  intro w1 hown hgrow
  obtain ⟨bS, _⟩ := own_blkB (f := fun _ => 0) hown (by intro i hi; simp [madeCells]; exact ⟨i, by simp [hi], by rw [Nat.mod_one]; rfl⟩) (by decide)
  have hbw1 : Below w.heap.size w w1 := (Below.refl _ w).grown hgrow (Nat.le_refl _) (fun j hj => by cases hj)
  have HD := (show Hid _ from fun (_ : Unit) => HDE.out w1 w.heap.size 32 bS)
  clear hown hgrow bS HDE
  go_wp2_with fail
  refine (HD.out ()).mono ?_
  rintro e w2 ⟨rfl, hb2⟩
  have hal : Below w2.heap.size w2 (w2.alloc (.cells #[.int .u64 ((limb 0 o : Nat) : Int), .int .u64 ((limb 1 o : Nat) : Int), .int .u64 ((limb 2 o : Nat) : Int), .int .u64 ((limb 3 o : Nat) : Int), .int .u64 ((limb 0 o : Nat) : Int), .int .u64 ((limb 1 o : Nat) : Int), .int .u64 ((limb 2 o : Nat) : Int), .int .u64 ((limb 3 o : Nat) : Int), .bool true] 26)) := (Below.refl _ _).alloc (Nat.le_refl _) _
  have bp3 : Pt (w2.alloc (.cells #[.int .u64 ((limb 0 o : Nat) : Int), .int .u64 ((limb 1 o : Nat) : Int), .int .u64 ((limb 2 o : Nat) : Int), .int .u64 ((limb 3 o : Nat) : Int), .int .u64 ((limb 0 o : Nat) : Int), .int .u64 ((limb 1 o : Nat) : Int), .int .u64 ((limb 2 o : Nat) : Int), .int .u64 ((limb 3 o : Nat) : Int), .bool true] 26)) w2.heap.size o o true := Pt.newAt _ _ _ _ _ rfl
  have hbw3 := bStep (bStep hbw1 hb2) hal
  clear HD hb2 hbw1 hal
  go_upto_region 2 with fail
  obtain ⟨w3, hw3⟩ : ∃ WW : World, WW = w2.alloc (.cells #[.int .u64 ((limb 0 o : Nat) : Int), .int .u64 ((limb 1 o : Nat) : Int), .int .u64 ((limb 2 o : Nat) : Int), .int .u64 ((limb 3 o : Nat) : Int), .int .u64 ((limb 0 o : Nat) : Int), .int .u64 ((limb 1 o : Nat) : Int), .int .u64 ((limb 2 o : Nat) : Int), .int .u64 ((limb 3 o : Nat) : Int), .bool true] 26) := ⟨_, rfl⟩
  obtain ⟨N1, hN1⟩ : ∃ N, N = w2.heap.size := ⟨_, rfl⟩
  rw [← hw3] at bp3 hbw3 ⊢
  rw [← hN1] at bp3 ⊢
  clear hw3 hN1
  go_wp2_with fail
  refine (HSO.out _).mono ?_
  rintro e w4 ⟨r, hr1, hr2, rfl, hb4⟩
  have bp5 := (bp3.belowAll hb4).alloc (.cells #[.int .u64 ((limb 0 x : Nat) : Int), .int .u64 ((limb 1 x : Nat) : Int), .int .u64 ((limb 2 x : Nat) : Int), .int .u64 ((limb 3 x : Nat) : Int), .int .u64 ((limb 0 r : Nat) : Int), .int .u64 ((limb 1 r : Nat) : Int), .int .u64 ((limb 2 r : Nat) : Int), .int .u64 ((limb 3 r : Nat) : Int), .bool false] 26)
  have bg5 : Pt (w4.alloc (.cells #[.int .u64 ((limb 0 x : Nat) : Int), .int .u64 ((limb 1 x : Nat) : Int), .int .u64 ((limb 2 x : Nat) : Int), .int .u64 ((limb 3 x : Nat) : Int), .int .u64 ((limb 0 r : Nat) : Int), .int .u64 ((limb 1 r : Nat) : Int), .int .u64 ((limb 2 r : Nat) : Int), .int .u64 ((limb 3 r : Nat) : Int), .bool false] 26)) w4.heap.size x r false := Pt.newAt _ _ _ _ _ rfl
  have hbw5 := bAlloc (bStep hbw3 hb4) (.cells #[.int .u64 ((limb 0 x : Nat) : Int), .int .u64 ((limb 1 x : Nat) : Int), .int .u64 ((limb 2 x : Nat) : Int), .int .u64 ((limb 3 x : Nat) : Int), .int .u64 ((limb 0 r : Nat) : Int), .int .u64 ((limb 1 r : Nat) : Int), .int .u64 ((limb 2 r : Nat) : Int), .int .u64 ((limb 3 r : Nat) : Int), .bool false] 26)
  have HO := (show Hid _ from HON.out r hr1 hr2)
  have HM := (show Hid _ from HMU.out r hr1 hr2)
  have QR := QG.out r hr1
  clear hb4 hbw3 bp3 HSO HON HMU hr1 hr2 QG
  go_upto_region 3 with fail
  obtain ⟨w5, hw5⟩ : ∃ WW : World, WW = w4.alloc (.cells #[.int .u64 ((limb 0 x : Nat) : Int), .int .u64 ((limb 1 x : Nat) : Int), .int .u64 ((limb 2 x : Nat) : Int), .int .u64 ((limb 3 x : Nat) : Int), .int .u64 ((limb 0 r : Nat) : Int), .int .u64 ((limb 1 r : Nat) : Int), .int .u64 ((limb 2 r : Nat) : Int), .int .u64 ((limb 3 r : Nat) : Int), .bool false] 26) := ⟨_, rfl⟩
  obtain ⟨N3, hN3⟩ : ∃ N, N = w4.heap.size := ⟨_, rfl⟩
  rw [← hw5] at bp5 bg5 hbw5 ⊢
  rw [← hN3] at bg5 ⊢
  clear hw5 hN3
  have HG : Hid (GlobC w5) := HG0.out.below hbw5
  have HS0 : Hid (Below w5.heap.size w5 w5.drew) := (Below.refl _ _).drew
  refine wp_region_Z (fun w' => Below w5.heap.size w5 w') 99 (by kernel_rfl) ?_
  refine wpZ_take (i := 0) (v := .int .i64 0) 10 rfl rfl (by kernel_rfl) (by kernel_rfl) (by kernel_rfl) (Or.inr (by decide)) (fun _ _ _ h => h) (Or.inl ⟨by rfl, fun w hSw => by go_simp⟩) HS0.out ?_
  simp only [Act.put, List.setIfInBounds_toArray]
  dsimp only [List.set_cons_zero, List.set_cons_succ]
  refine wpZ_take (i := 1) (v := .bool true) 11 rfl rfl (by kernel_rfl) (by kernel_rfl) (by kernel_rfl) (Or.inr (by decide)) (fun _ _ _ h => h) (Or.inl ⟨by rfl, fun w hSw => by go_simp⟩) HS0.out ?_
  simp only [Act.put, List.setIfInBounds_toArray]
  dsimp only [List.set_cons_zero, List.set_cons_succ]
  refine wpZ_take (i := 2) (v := .bool true) 12 rfl rfl (by kernel_rfl) (by kernel_rfl) (by kernel_rfl) (Or.inr (by decide)) (fun _ _ _ h => h) (Or.inl ⟨by rfl, fun w hSw => by go_simp⟩) HS0.out ?_
  simp only [Act.put, List.setIfInBounds_toArray]
  dsimp only [List.set_cons_zero, List.set_cons_succ]
  refine wpZ_take (i := 3) (v := .agg #[.int .u64 ((limb 0 (o) : Nat) : Int), .int .u64 ((limb 1 (o) : Nat) : Int), .int .u64 ((limb 2 (o) : Nat) : Int), .int .u64 ((limb 3 (o) : Nat) : Int), .int .u64 ((limb 0 (o) : Nat) : Int), .int .u64 ((limb 1 (o) : Nat) : Int), .int .u64 ((limb 2 (o) : Nat) : Int), .int .u64 ((limb 3 (o) : Nat) : Int), .bool true]) 13 rfl rfl (by kernel_rfl) (by kernel_rfl) (by kernel_rfl) (Or.inr (by decide)) (fun _ _ _ h => h) (Or.inl ⟨by rfl, fun w hSw => by (obtain ⟨q0, q1, q2, q3, q4, q5, q6, q7, q8, qf⟩ := (bp5.belowAll hSw).cells; clear hSw; go_simp)⟩) HS0.out ?_
  simp only [Act.put, List.setIfInBounds_toArray]
  dsimp only [List.set_cons_zero, List.set_cons_succ]
  refine wpZ_one (i := 4) (by kernel_rfl) rfl (fun K hK => ?_)
  go_simp
  refine (HIN.out w5.drew).mono ?_
  rintro e wK1 ⟨rfl, hbK1⟩
  have hSK1 : Below w5.heap.size w5 wK1 := bStep (HS0.out) hbK1
  go_wp2_with fail
  refine hK.out _ _ (fun _ => hSK1) ?_
  clear hK K
  refine wpZ_take (i := 5) (v := .bool true) 15 rfl rfl (by kernel_rfl) (by kernel_rfl) (by kernel_rfl) (Or.inr (by decide)) (fun _ _ _ h => h) (Or.inl ⟨by rfl, fun w hSw => by go_simp⟩) hSK1 ?_
  simp only [Act.put, List.setIfInBounds_toArray]
  dsimp only [List.set_cons_zero, List.set_cons_succ]
  refine wpZ_take (i := 6) (v := .bool true) 16 rfl rfl (by kernel_rfl) (by kernel_rfl) (by kernel_rfl) (Or.inr (by decide)) (fun _ _ _ h => h) (Or.inl ⟨by rfl, fun w hSw => by go_simp⟩) hSK1 ?_
  simp only [Act.put, List.setIfInBounds_toArray]
  dsimp only [List.set_cons_zero, List.set_cons_succ]
  refine wpZ_take (i := 7) (v := .bool true) 17 rfl rfl (by kernel_rfl) (by kernel_rfl) (by kernel_rfl) (Or.inr (by decide)) (fun _ _ _ h => h) (Or.inl ⟨by rfl, fun w hSw => by go_simp⟩) hSK1 ?_
  simp only [Act.put, List.setIfInBounds_toArray]
  dsimp only [List.set_cons_zero, List.set_cons_succ]
  refine wpZ_take (i := 8) (v := .pointer (some ⟨N1, 8, none⟩)) 18 rfl rfl (by kernel_rfl) (by kernel_rfl) (by kernel_rfl) (Or.inr (by decide)) (fun _ _ _ h => h) (Or.inl ⟨by rfl, fun w hSw => by go_simp⟩) hSK1 ?_
  simp only [Act.put, List.setIfInBounds_toArray]
  dsimp only [List.set_cons_zero, List.set_cons_succ]
  refine wpZ_take (i := 9) (v := .bool true) 19 rfl rfl (by kernel_rfl) (by kernel_rfl) (by kernel_rfl) (Or.inr (by decide)) (fun _ _ _ h => h) (Or.inl ⟨by rfl, fun w hSw => by (obtain ⟨q0, q1, q2, q3, q4, q5, q6, q7, q8, qf⟩ := (bp5.belowAll hSw).cells; clear hSw; go_simp)⟩) hSK1 ?_
  simp only [Act.put, List.setIfInBounds_toArray]
  dsimp only [List.set_cons_zero, List.set_cons_succ]
  refine wpZ_take (i := 10) (v := .bool true) 20 rfl rfl (by kernel_rfl) (by kernel_rfl) (by kernel_rfl) (Or.inr (by decide)) (fun _ _ _ h => h) (Or.inl ⟨by rfl, fun w hSw => by go_simp⟩) hSK1 ?_
  simp only [Act.put, List.setIfInBounds_toArray]
  dsimp only [List.set_cons_zero, List.set_cons_succ]
  refine wpZ_take (i := 11) (v := .bool true) 21 rfl rfl (by kernel_rfl) (by kernel_rfl) (by kernel_rfl) (Or.inr (by decide)) (fun _ _ _ h => h) (Or.inl ⟨by rfl, fun w hSw => by go_simp⟩) hSK1 ?_
  simp only [Act.put, List.setIfInBounds_toArray]
  dsimp only [List.set_cons_zero, List.set_cons_succ]
  refine wpZ_take (i := 12) (v := .agg #[.int .u64 ((limb 0 (x) : Nat) : Int), .int .u64 ((limb 1 (x) : Nat) : Int), .int .u64 ((limb 2 (x) : Nat) : Int), .int .u64 ((limb 3 (x) : Nat) : Int), .int .u64 ((limb 0 (r) : Nat) : Int), .int .u64 ((limb 1 (r) : Nat) : Int), .int .u64 ((limb 2 (r) : Nat) : Int), .int .u64 ((limb 3 (r) : Nat) : Int), .bool false]) 22 rfl rfl (by kernel_rfl) (by kernel_rfl) (by kernel_rfl) (Or.inr (by decide)) (fun _ _ _ h => h) (Or.inl ⟨by rfl, fun w hSw => by (obtain ⟨q0, q1, q2, q3, q4, q5, q6, q7, q8, qf⟩ := (bg5.belowAll hSw).cells; clear hSw; go_simp)⟩) hSK1 ?_
  simp only [Act.put, List.setIfInBounds_toArray]
  dsimp only [List.set_cons_zero, List.set_cons_succ]
  refine wpZ_one (i := 13) (by kernel_rfl) rfl (fun K hK => ?_)
  go_simp
  refine (HO.out wK1 (HG.out.below (hSK1))).mono ?_
  rintro e wK2 ⟨rfl, hbK2⟩
  have hSK2 : Below w5.heap.size w5 wK2 := bStep (hSK1) hbK2
  go_wp2_with fail
  refine hK.out _ _ (fun _ => hSK2) ?_
  clear hK K
  refine wpZ_take (i := 14) (v := .bool true) 24 rfl rfl (by kernel_rfl) (by kernel_rfl) (by kernel_rfl) (Or.inr (by decide)) (fun _ _ _ h => h) (Or.inl ⟨by rfl, fun w hSw => by go_simp⟩) hSK2 ?_
  simp only [Act.put, List.setIfInBounds_toArray]
  dsimp only [List.set_cons_zero, List.set_cons_succ]
  refine wpZ_take (i := 15) (v := .bool true) 25 rfl rfl (by kernel_rfl) (by kernel_rfl) (by kernel_rfl) (Or.inr (by decide)) (fun _ _ _ h => h) (Or.inl ⟨by rfl, fun w hSw => by go_simp⟩) hSK2 ?_
  simp only [Act.put, List.setIfInBounds_toArray]
  dsimp only [List.set_cons_zero, List.set_cons_succ]
  refine wpZ_take (i := 16) (v := .agg #[.int .u64 1, .int .u64 0, .int .u64 0, .int .u64 0]) 26 rfl rfl (by kernel_rfl) (by kernel_rfl) (by kernel_rfl) (Or.inr (by decide)) (fun _ _ _ h => h) (Or.inl ⟨by rfl, fun w hSw => by go_simp⟩) hSK2 ?_
  simp only [Act.put, List.setIfInBounds_toArray]
  dsimp only [List.set_cons_zero, List.set_cons_succ]
  refine wpZ_take (i := 17) (v := .agg #[.int .u64 ((limb 0 (x) : Nat) : Int), .int .u64 ((limb 1 (x) : Nat) : Int), .int .u64 ((limb 2 (x) : Nat) : Int), .int .u64 ((limb 3 (x) : Nat) : Int), .int .u64 ((limb 0 (r) : Nat) : Int), .int .u64 ((limb 1 (r) : Nat) : Int), .int .u64 ((limb 2 (r) : Nat) : Int), .int .u64 ((limb 3 (r) : Nat) : Int), .bool false]) 27 rfl rfl (by kernel_rfl) (by kernel_rfl) (by kernel_rfl) (Or.inr (by decide)) (fun _ _ _ h => h) (Or.inl ⟨by rfl, fun w hSw => by (obtain ⟨q0, q1, q2, q3, q4, q5, q6, q7, q8, qf⟩ := (bg5.belowAll hSw).cells; clear hSw; go_simp)⟩) hSK2 ?_
  simp only [Act.put, List.setIfInBounds_toArray]
  dsimp only [List.set_cons_zero, List.set_cons_succ]
  refine wpZ_take (i := 19) (v := .agg #[.int .u64 ((limb 0 (x) : Nat) : Int), .int .u64 ((limb 1 (x) : Nat) : Int), .int .u64 ((limb 2 (x) : Nat) : Int), .int .u64 ((limb 3 (x) : Nat) : Int), .int .u64 ((limb 0 (r) : Nat) : Int), .int .u64 ((limb 1 (r) : Nat) : Int), .int .u64 ((limb 2 (r) : Nat) : Int), .int .u64 ((limb 3 (r) : Nat) : Int), .bool false]) 29 rfl rfl (by kernel_rfl) (by kernel_rfl) (by kernel_rfl) (Or.inr (by decide)) (fun _ _ _ h => h) (Or.inl ⟨by rfl, fun w hSw => by (obtain ⟨q0, q1, q2, q3, q4, q5, q6, q7, q8, qf⟩ := (bg5.belowAll hSw).cells; clear hSw; go_simp)⟩) hSK2 ?_
  simp only [Act.put, List.setIfInBounds_toArray]
  dsimp only [List.set_cons_zero, List.set_cons_succ]
  refine wpZ_one (i := 18) (by kernel_rfl) rfl (fun K hK => ?_)
  go_simp
  refine (HM.out wK2 (HG.out.below (hSK2))).mono ?_
  rintro e wK3 ⟨rfl, hbK3⟩
  have hSK3 : Below w5.heap.size w5 wK3 := bStep (hSK2) hbK3
  go_wp2_with fail
  refine hK.out _ _ (fun _ => hSK3) ?_
  clear hK K
  refine wpZ_take (i := 20) (v := .bool true) 30 rfl rfl (by kernel_rfl) (by kernel_rfl) (by kernel_rfl) (Or.inr (by decide)) (fun _ _ _ h => h) (Or.inl ⟨by rfl, fun w hSw => by go_simp⟩) hSK3 ?_
  simp only [Act.put, List.setIfInBounds_toArray]
  dsimp only [List.set_cons_zero, List.set_cons_succ]
  refine wpZ_take (i := 21) (v := .bool true) 31 rfl rfl (by kernel_rfl) (by kernel_rfl) (by kernel_rfl) (Or.inr (by decide)) (fun _ _ _ h => h) (Or.inl ⟨by rfl, fun w hSw => by go_simp⟩) hSK3 ?_
  simp only [Act.put, List.setIfInBounds_toArray]
  dsimp only [List.set_cons_zero, List.set_cons_succ]
  refine wpZ_take (i := 22) (v := .bool true) 0 rfl rfl (by kernel_rfl) (by kernel_rfl) (by kernel_rfl) (Or.inr (by decide)) (fun _ _ _ h => h) (Or.inl ⟨by rfl, fun w hSw => by go_simp⟩) hSK3 ?_
  simp only [Act.put, List.setIfInBounds_toArray]
  dsimp only [List.set_cons_zero, List.set_cons_succ]
  refine wpZ_done (by kernel_rfl) ?_ _
  go_wp2
  go_ret
  exact ⟨rfl, bStep hbw5 (hSK3)⟩
end Go.Proofs.YtjpjnmhjbmmaiaaGreatDoor
