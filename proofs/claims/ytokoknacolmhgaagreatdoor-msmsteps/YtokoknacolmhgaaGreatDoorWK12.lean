import Derived.Test.YtokoknacolmhgaaGreatDoorWXE
import Derived.Test.YtokoknacolmhgaaGreatDoorWXI
import Derived.Test.YtokoknacolmhgaaGreatDoorWXG
namespace Go.Proofs.YtokoknacolmhgaaGreatDoor
open Go.RowKit
theorem pow_one' {m a e : Nat} (m' a' e' f : Nat) (hm : m = m') (ha : a = a') (hx : e = e') (he : e' < 2 ^ f) (h : pm m' a' f e' = 1) : powM m a e = 1 := by
 subst hm ha hx; unfold powM; rw [← pm_eq _ _ f _ he]; exact h
set_option maxRecDepth 100000 in
theorem euler24 : powM (modN 0) (24 % modN 0) ((2 * oddH 0 + 1) * 2 ^ (adicN 0 - 1)) = 1 := pow_one' 16513537 24 8256768 24 (by rfl) (by rfl) (by rfl) (by decide) (by decide +kernel)
theorem int_one : intP 0 1 = 1 := by decide
theorem sq_one : sqY 0 1 = 24 := by decide
set_option maxHeartbeats 4000000 in
set_option maxRecDepth 20000 in
theorem rsome_one (w : World) : Calls Tryz.prog 26 #[.int .i64 0, .int .i64 1] w fun e w' => ∃ r, r < modN 0 ∧ mulP 0 r r = 24 ∧ e = .returned (.agg #[.int .u64 (limb 0 1), .int .u64 (limb 1 1), .int .u64 (limb 2 1), .int .u64 (limb 3 1), .int .u64 (limb 0 r), .int .u64 (limb 1 r), .int .u64 (limb 2 r), .int .u64 (limb 3 r), .bool false]) ∧ Below w.heap.size w w' := by
 have HS : Hid (∀ w, _) := fun w => ref2Sqrt_any 0 24 (by decide) (by decide) w
 rw [show (((0 : Nat)) : Int) = 0 from rfl] at HS
 obtain ⟨x, ex⟩ : ∃ x, x = 1 := ⟨_, rfl⟩
 obtain ⟨a, ea⟩ : ∃ a, a = 24 := ⟨_, rfl⟩
 have HI : Hid (∀ w, Calls Tryz.prog 49 #[.int .i64 0, .int .i64 1] w fun e w' => e = .returned (.agg #[.int .u64 (limb 0 x), .int .u64 (limb 1 x), .int .u64 (limb 2 x), .int .u64 (limb 3 x)]) ∧ Below w.heap.size w w') := fun w => by
  have h := rInt_any 0 1 (by decide) w
  rw [int_one] at h
  rw [ex]
  exact h
 have HC : Hid (∀ w, Calls Tryz.prog 39 #[.int .i64 0, .agg #[.int .u64 (limb 0 x), .int .u64 (limb 1 x), .int .u64 (limb 2 x), .int .u64 (limb 3 x)]] w fun e w' => e = .returned (.agg #[.int .u64 (limb 0 a), .int .u64 (limb 1 a), .int .u64 (limb 2 a), .int .u64 (limb 3 a)]) ∧ Below w.heap.size w w') := fun w => by
  have h := rcube_any 0 1 (by decide) (by decide) w
  rw [sq_one] at h
  rw [ex, ea]
  exact h
 have QX : ∀ w, (binOp .neq 28 (.agg #[.int .u64 (limb 0 x), .int .u64 (limb 1 x), .int .u64 (limb 2 x), .int .u64 (limb 3 x)]) (.agg #[.int .u64 0, .int .u64 0, .int .u64 0, .int .u64 0])).run Tryz.prog w = .ok (.bool true) w := fun w => by rw [ex]; exact neqZ 1 (by decide) w
 have QY := fun (r : Nat) (hr : r < 115792089237316195423570985008687907853269984665640564039457584007913129639936) w => neqZ r hr w
 have HQY := (show Hid _ from QY)
 have EX : Hid (x = 1) := ex
 clear QY
 have HS' : Hid (∀ w, Calls Tryz.prog 50 #[.int .i64 0, .agg #[.int .u64 (limb 0 a), .int .u64 (limb 1 a), .int .u64 (limb 2 a), .int .u64 (limb 3 a)]] w fun e w' => (∃ r, r < modN 0 ∧ r ≠ 0 ∧ mulP 0 r r = 24 ∧ e = .returned (.tuple #[.agg #[.int .u64 (limb 0 r), .int .u64 (limb 1 r), .int .u64 (limb 2 r), .int .u64 (limb 3 r)], .int .i64 0])) ∧ Below w.heap.size w w') := fun w => by
  rw [ea]
  refine (HS.out w).mono ?_
  rintro e w' ⟨h | h, hb⟩
  ·obtain ⟨r, h1, _, h3, rfl⟩ := h
   have h4 : mulP 0 r r = 24 := h3
   refine ⟨⟨r, h1, fun h0 => ?_, h4, rfl⟩, hb⟩
   rw [h0] at h4
   exact absurd h4 (by decide)
  ·exact absurd euler24 h.2.1
 clear HS ex ea
 go_enter Tryz.func26, Tryz.ntmps26
 go_wp2_with fail
 go_loopw [1] (fun nv wr => nv = .int .i64 1 ∧ Below w.heap.size w wr ∧ Pt wr w.heap.size 0 0 false) (fun _ _ => 0)
 case atStart => exact ⟨rfl, (Below.refl _ _).alloc (Nat.le_refl _) _, Pt.zeroAt _ _ rfl⟩
 case round =>
  obtain ⟨rfl, hbr, br⟩ := hrel
  go_wp2_with fail
  refine (HI.out _).mono ?_
  rintro e w1 ⟨rfl, hb1⟩
  have br1 := (br.belowAll hb1).alloc (.cells #[.int .u64 (limb 0 x), .int .u64 (limb 1 x), .int .u64 (limb 2 x), .int .u64 (limb 3 x)] 28)
  have bx1 : Blk (w1.alloc (.cells #[.int .u64 (limb 0 x), .int .u64 (limb 1 x), .int .u64 (limb 2 x), .int .u64 (limb 3 x)] 28)) 28 w1.heap.size (fun i => limb i x) := Blk.newAt _ _ _ (fun i => limb i x) rfl
  have hbw1 := bAlloc (bStep hbr hb1) (.cells #[.int .u64 (limb 0 x), .int .u64 (limb 1 x), .int .u64 (limb 2 x), .int .u64 (limb 3 x)] 28)
  clear br hbr hb1 HI
  go_upto_region 2 with fail
  obtain ⟨w2, hw2⟩ : ∃ y : World, y = w1.alloc (.cells #[.int .u64 (limb 0 x), .int .u64 (limb 1 x), .int .u64 (limb 2 x), .int .u64 (limb 3 x)] 28) := ⟨_, rfl⟩
  obtain ⟨N5, hN5⟩ : ∃ N, N = w1.heap.size := ⟨_, rfl⟩
  rw [← hw2] at br1 bx1 hbw1 ⊢
  rw [← hN5] at bx1 ⊢
  clear hw2 hN5
  have cx := bx1.cell
  go_wp2_with fail
  refine (HC.out _).mono ?_
  rintro e w3 ⟨rfl, hb3⟩
  clear cx
  have br3 := br1.belowAll hb3; have bx3 := bx1.belowAll hb3
  have hbw3 := bStep hbw1 hb3
  clear br1 bx1 hbw1 hb3
  go_wp2_with fail
  refine (HS'.out _).mono ?_
  rintro e w4 ⟨⟨r, hr1, hr0, hr2, rfl⟩, hb4⟩
  have QR := fun w => HQY.out r (lt_M 0 _ hr1) w
  rw [show (!decide (r = 0)) = true from by simp [hr0]] at QR
  have HR := (show Hid _ from And.intro hr1 hr2)
  have br5 := ((br3.belowAll hb4).alloc (.cells #[.int .u64 (limb 0 r), .int .u64 (limb 1 r), .int .u64 (limb 2 r), .int .u64 (limb 3 r)] 28)).alloc (.cells #[.int .u64 0, .int .u64 0, .int .u64 0, .int .u64 0] 28)
  have bx5 := ((bx3.belowAll hb4).alloc (.cells #[.int .u64 (limb 0 r), .int .u64 (limb 1 r), .int .u64 (limb 2 r), .int .u64 (limb 3 r)] 28)).alloc (.cells #[.int .u64 0, .int .u64 0, .int .u64 0, .int .u64 0] 28)
  have by5 : Blk ((w4.alloc (.cells #[.int .u64 (limb 0 r), .int .u64 (limb 1 r), .int .u64 (limb 2 r), .int .u64 (limb 3 r)] 28)).alloc (.cells #[.int .u64 0, .int .u64 0, .int .u64 0, .int .u64 0] 28)) 28 w4.heap.size (fun i => limb i r) := (Blk.newAt _ _ _ (fun i => limb i r) rfl).alloc _
  have bz5 : Blk ((w4.alloc (.cells #[.int .u64 (limb 0 r), .int .u64 (limb 1 r), .int .u64 (limb 2 r), .int .u64 (limb 3 r)] 28)).alloc (.cells #[.int .u64 0, .int .u64 0, .int .u64 0, .int .u64 0] 28)) 28 (w4.heap.size + 1) (fun _ => 0) := Blk.newAt _ _ _ (fun _ => 0) (by simp)
  have hbw5 := bAlloc (bAlloc (bStep hbw3 hb4) (.cells #[.int .u64 (limb 0 r), .int .u64 (limb 1 r), .int .u64 (limb 2 r), .int .u64 (limb 3 r)] 28)) (.cells #[.int .u64 0, .int .u64 0, .int .u64 0, .int .u64 0] 28)
  clear br3 bx3 hbw3 hb4 hr1 hr2 hr0 HQY HS' HC
  go_upto_region 4 with fail
  obtain ⟨w5, hw5⟩ : ∃ y : World, y = (w4.alloc (.cells #[.int .u64 (limb 0 r), .int .u64 (limb 1 r), .int .u64 (limb 2 r), .int .u64 (limb 3 r)] 28)).alloc (.cells #[.int .u64 0, .int .u64 0, .int .u64 0, .int .u64 0] 28) := ⟨_, rfl⟩
  obtain ⟨N6, hN6⟩ : ∃ N, N = w4.heap.size := ⟨_, rfl⟩
  rw [← hw5] at br5 bx5 by5 bz5 hbw5 ⊢
  rw [← hN6] at by5 bz5 ⊢
  clear hw5 hN6
  have cx := bx5.cell; have cy := by5.cell; have cz := bz5.cell
  obtain ⟨r0, r1, r2, r3, r4, r5, r6, r7, r8, rf⟩ := br5.cells
  go_wp2
  (try simp only [Exit.inBlock, Exit.then])
  refine bodyPost_ret (v := .agg #[.int .u64 (limb 0 x), .int .u64 (limb 1 x), .int .u64 (limb 2 x), .int .u64 (limb 3 x), .int .u64 (limb 0 r), .int .u64 (limb 1 r), .int .u64 (limb 2 r), .int .u64 (limb 3 r), .bool false]) (by simp [results, Tryz.results26, go_sem, r0, r1, r2, r3, r4, r5, r6, r7, r8]) rfl ⟨r, HR.out.1, HR.out.2, by rw [EX.out], ?_⟩
  exact bSet9 hbw5 (Nat.le_refl _) _ _ _ _ _ _ _ _ _
end Go.Proofs.YtokoknacolmhgaaGreatDoor
