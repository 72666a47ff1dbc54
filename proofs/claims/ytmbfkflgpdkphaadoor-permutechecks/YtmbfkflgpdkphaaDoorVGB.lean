/- What the second reference's Add, Neg and Sub do. -/
import Derived.Test.YtmbfkflgpdkphaaDoorVGA
import Derived.Test.YtmbfkflgpdkphaaDoorVFC
namespace Go.Proofs.YtmbfkflgpdkphaaDoor
open Go.RowKit
theorem word_agg' (n : Nat) (hn : n < 18446744073709551616) : (.agg #[.int .u64 ((limb 0 (n) : Nat) : Int), .int .u64 ((limb 1 (n) : Nat) : Int), .int .u64 ((limb 2 (n) : Nat) : Int), .int .u64 ((limb 3 (n) : Nat) : Int)] : Value) = .agg #[.int .u64 (n : Int), .int .u64 0, .int .u64 0, .int .u64 0] := by
  rw [limb_small n 0 hn, limb_small n 1 hn, limb_small n 2 hn, limb_small n 3 hn, if_pos rfl, if_neg (by decide), if_neg (by decide), if_neg (by decide)]
  rfl
theorem idx0 (a0 a1 a2 a3 : Int) (w : World) : (Instr.index 24 (.agg #[.int .u64 a0, .int .u64 a1, .int .u64 a2, .int .u64 a3]) (.int .i64 0)).run Tryd.prog w = .ok (.int .u64 a0) w := by kernel_rfl
set_option maxHeartbeats 4000000 in
set_option maxRecDepth 20000 in
/-- The second reference's Add, of a little field. -/
theorem ref2AddL_any (s a b : Nat) (hs : s < 2) (ha : a < 115792089237316195423570985008687907853269984665640564039457584007913129639936) (hb : b < 115792089237316195423570985008687907853269984665640564039457584007913129639936) (w : World) :
    Calls Tryd.prog 25 #[.int .i64 (s : Int), .agg #[.int .u64 ((limb 0 (a) : Nat) : Int), .int .u64 ((limb 1 (a) : Nat) : Int), .int .u64 ((limb 2 (a) : Nat) : Int), .int .u64 ((limb 3 (a) : Nat) : Int)], .agg #[.int .u64 ((limb 0 (b) : Nat) : Int), .int .u64 ((limb 1 (b) : Nat) : Int), .int .u64 ((limb 2 (b) : Nat) : Int), .int .u64 ((limb 3 (b) : Nat) : Int)]] w fun e w' => e = .returned (.agg #[.int .u64 ((limb 0 (addP s a b) : Nat) : Int), .int .u64 ((limb 1 (addP s a b) : Nat) : Int), .int .u64 ((limb 2 (addP s a b) : Nat) : Int), .int .u64 ((limb 3 (addP s a b) : Nat) : Int)]) ∧ Below w.heap.size w w' := by
  obtain ⟨hms, hm0⟩ := modN_small s hs
  have HL := fun w => little_any s hs w
  have OA := fun w => ref2Of_any s a (by omega) ha w
  have OB := fun w => ref2Of_any s b (by omega) hb w
  have E1 : Hid ((a % modN s + b % modN s) % modN s = addP s a b) := addP_eq s a b
  have lx := Nat.mod_lt a hm0
  have ly := Nat.mod_lt b hm0
  obtain ⟨m, em⟩ : ∃ m, m = modN s := ⟨_, rfl⟩
  rw [← em] at hms hm0 HL OA OB E1 lx ly
  clear em
  obtain ⟨x, ex⟩ : ∃ x, x = a % m := ⟨_, rfl⟩
  obtain ⟨y, ey⟩ : ∃ y, y = b % m := ⟨_, rfl⟩
  rw [← ex] at OA E1 lx
  rw [← ey] at OB E1 ly
  clear ex ey
  have x0 : limb 0 x = x := limb_small x 0 (by omega)
  have y0 : limb 0 y = y := limb_small y 0 (by omega)
  have lr : (x + y) % m < m := Nat.mod_lt _ hm0
  have w1 : IntKind.u64.wrap ((x : Int) + (y : Int)) = ((x + y : Nat) : Int) := by rw [IntKind.wrap_u64]; omega
  have w2 : ((x + y : Nat) : Int) % (m : Int) = (((x + y) % m : Nat) : Int) := by rw [← Int.natCast_emod]
  have w3 : ((x + y : Nat) : Int).tmod (m : Int) = (((x + y) % m : Nat) : Int) := (Int.ofNat_tmod _ _).symm
  have hmN : ¬ m = 0 := by omega
  have E2 : Hid ((.agg #[.int .u64 ((limb 0 (addP s a b) : Nat) : Int), .int .u64 ((limb 1 (addP s a b) : Nat) : Int), .int .u64 ((limb 2 (addP s a b) : Nat) : Int), .int .u64 ((limb 3 (addP s a b) : Nat) : Int)] : Value) = .agg #[.int .u64 (((x + y) % m : Nat) : Int), .int .u64 0, .int .u64 0, .int .u64 0]) := by
    show _ = _
    rw [← E1.out]; exact word_agg' _ (by omega)
  obtain ⟨r, er⟩ : ∃ r, r = (x + y) % m := ⟨_, rfl⟩
  rw [← er] at E2 w2 w3 lr
  obtain ⟨t, et⟩ : ∃ t, t = x + y := ⟨_, rfl⟩
  rw [← et] at w1 w2 w3
  clear er et
  have ix := idx0
  have hm0' : ¬ (m : Int) = 0 := by omega
  have hmb : ((m : Int) == 0) = false := by rw [beq_eq_false_iff_ne]; exact hm0'
  have h2 : s = 0 ∨ s = 1 := by omega
  have hd : ((s : Int) == 0) = true ∨ (((s : Int) == 0) = false ∧ ((s : Int) == 1) = true) := by
    rcases h2 with rfl | rfl
    · exact Or.inl rfl
    · exact Or.inr ⟨rfl, rfl⟩
  clear h2
  go_enter Tryd.func25, Tryd.ntmps25
  rcases hd with hd | ⟨hd, hd1⟩
  · go_wp2_with fail
    obtain ⟨w0, hw0⟩ : ∃ w0 : World, w0 = ((w.alloc (.cells #[.int .u64 ((limb 0 (a) : Nat) : Int), .int .u64 ((limb 1 (a) : Nat) : Int), .int .u64 ((limb 2 (a) : Nat) : Int), .int .u64 ((limb 3 (a) : Nat) : Int)] 24)).alloc (.cells #[.int .u64 ((limb 0 (b) : Nat) : Int), .int .u64 ((limb 1 (b) : Nat) : Int), .int .u64 ((limb 2 (b) : Nat) : Int), .int .u64 ((limb 3 (b) : Nat) : Int)] 24)).alloc (.cells #[.int .u64 0, .int .u64 0, .int .u64 0, .int .u64 0] 24) := ⟨_, rfl⟩
    have ba0 : Blk w0 24 w.heap.size (fun i => limb i a) := by rw [hw0]; exact ((Blk.newAt _ _ _ (fun i => limb i a) (by simp)).alloc _).alloc _
    have bb0 : Blk w0 24 (w.heap.size + 1) (fun i => limb i b) := by rw [hw0]; exact (Blk.newAt _ _ _ (fun i => limb i b) (by simp)).alloc _
    have br0 : Blk w0 24 (w.heap.size + 1 + 1) (fun _ => 0) := by rw [hw0]; exact Blk.newAt _ _ _ (fun _ => 0) (by simp)
    have hb0 : Below w.heap.size w w0 := by
      rw [hw0]
      repeat (first | with_reducible exact Below.refl _ _ | with_reducible refine Below.alloc ?_ (by first | omega | (simp; omega) | simp) _)
    rw [← hw0]
    clear hw0
    go_region_held3 (fun w' => (∀ i, i < 4 → w'.cell? ⟨w.heap.size, i, none⟩ = some (.int .u64 ((limb i a : Nat) : Int))) ∧ (∀ i, i < 4 → w'.cell? ⟨(w.heap.size + 1), i, none⟩ = some (.int .u64 ((limb i b : Nat) : Int))))
      (first | with_reducible exact far2 _ _ _ _ (by omega) (by omega) (by with_reducible assumption) | with_reducible exact hold2 hb4 (by with_reducible assumption) | with_reducible exact hold2 hb3 (by with_reducible assumption) | with_reducible assumption | with_reducible exact ⟨ba0.drew.cell, bb0.drew.cell⟩)
      (first | (go_at_call 23; with_reducible refine (OA _).mono ?_; rintro e w3 ⟨rfl, hb3⟩) | (go_at_call 23; with_reducible refine (OB _).mono ?_; rintro e w4 ⟨rfl, hb4⟩; have br4 := (br0.drew.belowAll hb3).belowAll hb4; have cr := br4.cell; have fr := br4.frozen) | (go_at_call 48; with_reducible refine (HL _).mono ?_; rintro e w5 ⟨rfl, rfl⟩) | fail)
    all_goals
      have hbw4 := bStep (bStep hb0.drew hb3) hb4
      have lr4 := br4.lt
      go_wp2
      refine bodyPost_ret (v := .agg #[.int .u64 (r : Int), .int .u64 0, .int .u64 0, .int .u64 0]) (by simp [results, Tryd.results25, go_sem, cr]) rfl ⟨by rw [E2.out], ?_⟩
      repeat (first | with_reducible exact hbw4 | with_reducible refine Below.setCell ?_ (by first | omega | (simp; omega) | simp) _)
  · go_wp2_with fail
    obtain ⟨w0, hw0⟩ : ∃ w0 : World, w0 = ((w.alloc (.cells #[.int .u64 ((limb 0 (a) : Nat) : Int), .int .u64 ((limb 1 (a) : Nat) : Int), .int .u64 ((limb 2 (a) : Nat) : Int), .int .u64 ((limb 3 (a) : Nat) : Int)] 24)).alloc (.cells #[.int .u64 ((limb 0 (b) : Nat) : Int), .int .u64 ((limb 1 (b) : Nat) : Int), .int .u64 ((limb 2 (b) : Nat) : Int), .int .u64 ((limb 3 (b) : Nat) : Int)] 24)).alloc (.cells #[.int .u64 0, .int .u64 0, .int .u64 0, .int .u64 0] 24) := ⟨_, rfl⟩
    have ba0 : Blk w0 24 w.heap.size (fun i => limb i a) := by rw [hw0]; exact ((Blk.newAt _ _ _ (fun i => limb i a) (by simp)).alloc _).alloc _
    have bb0 : Blk w0 24 (w.heap.size + 1) (fun i => limb i b) := by rw [hw0]; exact (Blk.newAt _ _ _ (fun i => limb i b) (by simp)).alloc _
    have br0 : Blk w0 24 (w.heap.size + 1 + 1) (fun _ => 0) := by rw [hw0]; exact Blk.newAt _ _ _ (fun _ => 0) (by simp)
    have hb0 : Below w.heap.size w w0 := by
      rw [hw0]
      repeat (first | with_reducible exact Below.refl _ _ | with_reducible refine Below.alloc ?_ (by first | omega | (simp; omega) | simp) _)
    rw [← hw0]
    clear hw0
    go_region_held3 (fun w' => (∀ i, i < 4 → w'.cell? ⟨w.heap.size, i, none⟩ = some (.int .u64 ((limb i a : Nat) : Int))) ∧ (∀ i, i < 4 → w'.cell? ⟨(w.heap.size + 1), i, none⟩ = some (.int .u64 ((limb i b : Nat) : Int))))
      (first | with_reducible exact far2 _ _ _ _ (by omega) (by omega) (by with_reducible assumption) | with_reducible exact hold2 hb4 (by with_reducible assumption) | with_reducible exact hold2 hb3 (by with_reducible assumption) | with_reducible assumption | with_reducible exact ⟨ba0.drew.cell, bb0.drew.cell⟩)
      (first | (go_at_call 23; with_reducible refine (OA _).mono ?_; rintro e w3 ⟨rfl, hb3⟩) | (go_at_call 23; with_reducible refine (OB _).mono ?_; rintro e w4 ⟨rfl, hb4⟩; have br4 := (br0.drew.belowAll hb3).belowAll hb4; have cr := br4.cell; have fr := br4.frozen) | (go_at_call 48; with_reducible refine (HL _).mono ?_; rintro e w5 ⟨rfl, rfl⟩) | fail)
    all_goals
      have hbw4 := bStep (bStep hb0.drew hb3) hb4
      have lr4 := br4.lt
      go_wp2
      refine bodyPost_ret (v := .agg #[.int .u64 (r : Int), .int .u64 0, .int .u64 0, .int .u64 0]) (by simp [results, Tryd.results25, go_sem, cr]) rfl ⟨by rw [E2.out], ?_⟩
      repeat (first | with_reducible exact hbw4 | with_reducible refine Below.setCell ?_ (by first | omega | (simp; omega) | simp) _)
set_option maxHeartbeats 4000000 in
set_option maxRecDepth 20000 in
/-- The second reference's Add, of a great field. -/
theorem ref2AddG_any (s a b : Nat) (hs2 : 2 ≤ s) (hs : s < 4) (ha : a < 115792089237316195423570985008687907853269984665640564039457584007913129639936) (hb : b < 115792089237316195423570985008687907853269984665640564039457584007913129639936) (w : World) :
    Calls Tryd.prog 25 #[.int .i64 (s : Int), .agg #[.int .u64 ((limb 0 (a) : Nat) : Int), .int .u64 ((limb 1 (a) : Nat) : Int), .int .u64 ((limb 2 (a) : Nat) : Int), .int .u64 ((limb 3 (a) : Nat) : Int)], .agg #[.int .u64 ((limb 0 (b) : Nat) : Int), .int .u64 ((limb 1 (b) : Nat) : Int), .int .u64 ((limb 2 (b) : Nat) : Int), .int .u64 ((limb 3 (b) : Nat) : Int)]] w fun e w' => e = .returned (.agg #[.int .u64 ((limb 0 (addP s a b) : Nat) : Int), .int .u64 ((limb 1 (addP s a b) : Nat) : Int), .int .u64 ((limb 2 (addP s a b) : Nat) : Int), .int .u64 ((limb 3 (addP s a b) : Nat) : Int)]) ∧ Below w.heap.size w w' := by
  have hgl := (modN_good s).lt
  have OA := fun w => ref2Of_any s a hs ha w
  have OB := fun w => ref2Of_any s b hs hb w
  have OS := fun x (hx : x < 115792089237316195423570985008687907853269984665640564039457584007913129639936) w => ref2Of_any s x hs hx w
  have E1 : Hid ((a % modN s + b % modN s) % modN s = addP s a b) := addP_eq s a b
  have lx := Nat.mod_lt a hgl.1
  have ly := Nat.mod_lt b hgl.1
  obtain ⟨m, em⟩ : ∃ m, m = modN s := ⟨_, rfl⟩
  rw [← em] at hgl OA OB OS E1 lx ly
  clear em
  obtain ⟨h0, hm2, hm⟩ := hgl
  obtain ⟨x, ex⟩ : ∃ x, x = a % m := ⟨_, rfl⟩
  obtain ⟨y, ey⟩ : ∃ y, y = b % m := ⟨_, rfl⟩
  rw [← ex] at OA E1 lx
  rw [← ey] at OB E1 ly
  clear ex ey
  have PX := fun w => ref2Plus_any x y (by omega) (by omega) w
  rw [show add256 x y = x + y from Nat.mod_eq_of_lt (by omega)] at PX
  have OT := fun w => OS (x + y) (by omega) w
  have n0 : ((s : Int) == 0) = false := by rw [beq_eq_false_iff_ne]; omega
  have n1 : ((s : Int) == 1) = false := by rw [beq_eq_false_iff_ne]; omega
  obtain ⟨t, et⟩ : ∃ t, t = x + y := ⟨_, rfl⟩
  rw [← et] at PX OT E1
  clear et OS
  go_enter Tryd.func25, Tryd.ntmps25
  go_wp2_with fail
  obtain ⟨w0, hw0⟩ : ∃ w0 : World, w0 = ((w.alloc (.cells #[.int .u64 ((limb 0 (a) : Nat) : Int), .int .u64 ((limb 1 (a) : Nat) : Int), .int .u64 ((limb 2 (a) : Nat) : Int), .int .u64 ((limb 3 (a) : Nat) : Int)] 24)).alloc (.cells #[.int .u64 ((limb 0 (b) : Nat) : Int), .int .u64 ((limb 1 (b) : Nat) : Int), .int .u64 ((limb 2 (b) : Nat) : Int), .int .u64 ((limb 3 (b) : Nat) : Int)] 24)).alloc (.cells #[.int .u64 0, .int .u64 0, .int .u64 0, .int .u64 0] 24) := ⟨_, rfl⟩
  have ba0 : Blk w0 24 w.heap.size (fun i => limb i a) := by rw [hw0]; exact ((Blk.newAt _ _ _ (fun i => limb i a) (by simp)).alloc _).alloc _
  have bb0 : Blk w0 24 (w.heap.size + 1) (fun i => limb i b) := by rw [hw0]; exact (Blk.newAt _ _ _ (fun i => limb i b) (by simp)).alloc _
  have br0 : Blk w0 24 (w.heap.size + 1 + 1) (fun _ => 0) := by rw [hw0]; exact Blk.newAt _ _ _ (fun _ => 0) (by simp)
  have hb0 : Below w.heap.size w w0 := by
    rw [hw0]
    repeat (first | with_reducible exact Below.refl _ _ | with_reducible refine Below.alloc ?_ (by first | omega | (simp; omega) | simp) _)
  rw [← hw0]
  clear hw0
  go_region_held3 (fun w' => (∀ i, i < 4 → w'.cell? ⟨w.heap.size, i, none⟩ = some (.int .u64 ((limb i a : Nat) : Int))) ∧ (∀ i, i < 4 → w'.cell? ⟨(w.heap.size + 1), i, none⟩ = some (.int .u64 ((limb i b : Nat) : Int))))
    (first | with_reducible exact far2 _ _ _ _ (by omega) (by omega) (by with_reducible assumption) | with_reducible exact hold2 hb6 (by with_reducible assumption) | with_reducible exact hold2 hb5 (by with_reducible assumption) | with_reducible exact hold2 hb4 (by with_reducible assumption) | with_reducible exact hold2 hb3 (by with_reducible assumption) | with_reducible exact ⟨ba0.drew.cell, bb0.drew.cell⟩)
    (first | (go_at_call 23; with_reducible refine (OA _).mono ?_; rintro e w3 ⟨rfl, hb3⟩) | (go_at_call 23; with_reducible refine (OB _).mono ?_; rintro e w4 ⟨rfl, hb4⟩) | (go_at_call 54; with_reducible refine (PX _).mono ?_; rintro e w5 ⟨rfl, hb5⟩) | (go_at_call 23; with_reducible refine (OT _).mono ?_; rintro e w6 ⟨rfl, hb6⟩; have br6 := (((br0.drew.belowAll hb3).belowAll hb4).belowAll hb5).belowAll hb6; have cr := br6.cell; have fr := br6.frozen) | fail)
  have hbw6 := bStep (bStep (bStep (bStep hb0.drew hb3) hb4) hb5) hb6
  have lr6 := br6.lt
  go_wp2
  refine bodyPost_ret (v := .agg #[.int .u64 ((limb 0 (t % m) : Nat) : Int), .int .u64 ((limb 1 (t % m) : Nat) : Int), .int .u64 ((limb 2 (t % m) : Nat) : Int), .int .u64 ((limb 3 (t % m) : Nat) : Int)]) (by simp [results, Tryd.results25, go_sem, cr]) rfl ⟨by rw [E1.out], ?_⟩
  repeat (first | with_reducible exact hbw6 | with_reducible refine Below.setCell ?_ (by first | omega | (simp; omega) | simp) _)
/-- The second reference's Add. -/
theorem ref2Add_any (s a b : Nat) (hs : s < 4) (ha : a < 115792089237316195423570985008687907853269984665640564039457584007913129639936) (hb : b < 115792089237316195423570985008687907853269984665640564039457584007913129639936) (w : World) :
    Calls Tryd.prog 25 #[.int .i64 (s : Int), .agg #[.int .u64 ((limb 0 (a) : Nat) : Int), .int .u64 ((limb 1 (a) : Nat) : Int), .int .u64 ((limb 2 (a) : Nat) : Int), .int .u64 ((limb 3 (a) : Nat) : Int)], .agg #[.int .u64 ((limb 0 (b) : Nat) : Int), .int .u64 ((limb 1 (b) : Nat) : Int), .int .u64 ((limb 2 (b) : Nat) : Int), .int .u64 ((limb 3 (b) : Nat) : Int)]] w fun e w' => e = .returned (.agg #[.int .u64 ((limb 0 (addP s a b) : Nat) : Int), .int .u64 ((limb 1 (addP s a b) : Nat) : Int), .int .u64 ((limb 2 (addP s a b) : Nat) : Int), .int .u64 ((limb 3 (addP s a b) : Nat) : Int)]) ∧ Below w.heap.size w w' := by
  rcases Nat.lt_or_ge s 2 with h | h
  · exact ref2AddL_any s a b h ha hb w
  · exact ref2AddG_any s a b h hs ha hb w
end Go.Proofs.YtmbfkflgpdkphaaDoor
/- What the second reference's Neg and Sub do. -/
namespace Go.Proofs.YtmbfkflgpdkphaaDoor
open Go.RowKit
set_option maxHeartbeats 4000000 in
set_option maxRecDepth 20000 in
/-- The second reference's Neg. -/
theorem ref2Neg_any (s a : Nat) (hs : s < 4) (ha : a < 115792089237316195423570985008687907853269984665640564039457584007913129639936) (w : World) :
    Calls Tryd.prog 61 #[.int .i64 (s : Int), .agg #[.int .u64 ((limb 0 (a) : Nat) : Int), .int .u64 ((limb 1 (a) : Nat) : Int), .int .u64 ((limb 2 (a) : Nat) : Int), .int .u64 ((limb 3 (a) : Nat) : Int)]] w fun e w' => e = .returned (.agg #[.int .u64 ((limb 0 (subP s 0 a) : Nat) : Int), .int .u64 ((limb 1 (subP s 0 a) : Nat) : Int), .int .u64 ((limb 2 (subP s 0 a) : Nat) : Int), .int .u64 ((limb 3 (subP s 0 a) : Nat) : Int)]) ∧ Below w.heap.size w w' := by
  have hgl := (modN_good s).lt
  have HM := fun w => ref2Modulus_any s hs w
  have OA := fun w => ref2Of_any s a hs ha w
  have OS := fun x (hx : x < 115792089237316195423570985008687907853269984665640564039457584007913129639936) w => ref2Of_any s x hs hx w
  have E1 : Hid ((modN s - a % modN s) % modN s = subP s 0 a) := by show _ = _; unfold subP; rw [Nat.zero_add]
  have lx := Nat.mod_lt a hgl.1
  obtain ⟨m, em⟩ : ∃ m, m = modN s := ⟨_, rfl⟩
  rw [← em] at hgl HM OA OS E1 lx
  clear em
  obtain ⟨h0, hm2, hm⟩ := hgl
  obtain ⟨x, ex⟩ : ∃ x, x = a % m := ⟨_, rfl⟩
  rw [← ex] at OA E1 lx
  clear ex
  have PX := fun w => ref2Minus_any m x hm (by omega) w
  rw [show sub256 m x = m - x from sub256_ge m x hm (by omega)] at PX
  have OT := fun w => OS (m - x) (by omega) w
  obtain ⟨t, et⟩ : ∃ t, t = m - x := ⟨_, rfl⟩
  rw [← et] at PX OT E1
  clear et OS
  go_enter Tryd.func61, Tryd.ntmps61
  go_wp2_with fail
  obtain ⟨w0, hw0⟩ : ∃ w0 : World, w0 = (w.alloc (.cells #[.int .u64 ((limb 0 (a) : Nat) : Int), .int .u64 ((limb 1 (a) : Nat) : Int), .int .u64 ((limb 2 (a) : Nat) : Int), .int .u64 ((limb 3 (a) : Nat) : Int)] 24)).alloc (.cells #[.int .u64 0, .int .u64 0, .int .u64 0, .int .u64 0] 24) := ⟨_, rfl⟩
  have ba0 : Blk w0 24 w.heap.size (fun i => limb i a) := by rw [hw0]; exact (Blk.newAt _ _ _ (fun i => limb i a) (by simp)).alloc _
  have br0 : Blk w0 24 (w.heap.size + 1) (fun _ => 0) := by rw [hw0]; exact Blk.newAt _ _ _ (fun _ => 0) (by simp)
  have hb0 : Below w.heap.size w w0 := by
    rw [hw0]
    repeat (first | with_reducible exact Below.refl _ _ | with_reducible refine Below.alloc ?_ (by first | omega | (simp; omega) | simp) _)
  rw [← hw0]
  clear hw0
  refine (HM _).mono ?_
  rintro e w1 ⟨rfl, hb1⟩
  have ba1 := ba0.belowAll hb1; have br1 := br0.belowAll hb1
  have hbw1 := bStep hb0 hb1
  clear ba0 br0 hb0 hb1 HM
  go_wp2_with fail
  obtain ⟨w2, hw2⟩ : ∃ w2 : World, w2 = w1.alloc (.cells #[.int .u64 ((limb 0 (m) : Nat) : Int), .int .u64 ((limb 1 (m) : Nat) : Int), .int .u64 ((limb 2 (m) : Nat) : Int), .int .u64 ((limb 3 (m) : Nat) : Int)] 24) := ⟨_, rfl⟩
  have ba2 : Blk w2 24 w.heap.size (fun i => limb i a) := by rw [hw2]; exact ba1.alloc _
  have br2 : Blk w2 24 (w.heap.size + 1) (fun _ => 0) := by rw [hw2]; exact br1.alloc _
  have bm2 : Blk w2 24 w1.heap.size (fun i => limb i m) := by rw [hw2]; exact Blk.new w1 _ (fun i => limb i m)
  have hbw2 : Below w.heap.size w w2 := by rw [hw2]; exact bAlloc hbw1 _
  have lr1 := br1.lt
  rw [← hw2]
  clear hw2 ba1 br1 hbw1
  have hne1 : w.heap.size + 1 ≠ w1.heap.size := by omega
  go_region_held3 (fun w' => (∀ i, i < 4 → w'.cell? ⟨w1.heap.size, i, none⟩ = some (.int .u64 ((limb i m : Nat) : Int))) ∧ (∀ i, i < 4 → w'.cell? ⟨w.heap.size, i, none⟩ = some (.int .u64 ((limb i a : Nat) : Int))))
    (first | with_reducible exact far2 _ _ _ _ hne1 (by omega) (by with_reducible assumption) | with_reducible exact hold2 hb5 (by with_reducible assumption) | with_reducible exact hold2 hb4 (by with_reducible assumption) | with_reducible exact hold2 hb3 (by with_reducible assumption) | with_reducible exact ⟨bm2.drew.cell, ba2.drew.cell⟩)
    (first | (go_at_call 23; with_reducible refine (OA _).mono ?_; rintro e w3 ⟨rfl, hb3⟩) | (go_at_call 51; with_reducible refine (PX _).mono ?_; rintro e w4 ⟨rfl, hb4⟩) | (go_at_call 23; with_reducible refine (OT _).mono ?_; rintro e w5 ⟨rfl, hb5⟩; have br5 := ((br2.drew.belowAll hb3).belowAll hb4).belowAll hb5; have cr := br5.cell; have fr := br5.frozen) | fail)
  all_goals
    have hbw5 := bStep (bStep (bStep hbw2.drew hb3) hb4) hb5
    have lr5 := br5.lt
    go_wp2
    refine bodyPost_ret (v := .agg #[.int .u64 ((limb 0 (t % m) : Nat) : Int), .int .u64 ((limb 1 (t % m) : Nat) : Int), .int .u64 ((limb 2 (t % m) : Nat) : Int), .int .u64 ((limb 3 (t % m) : Nat) : Int)]) (by simp [results, Tryd.results61, go_sem, cr]) rfl ⟨by rw [E1.out], ?_⟩
    repeat (first | with_reducible exact hbw5 | with_reducible refine Below.setCell ?_ (by first | omega | (simp; omega) | simp) _)
theorem add_neg (s a b : Nat) : addP s a (subP s 0 b) = subP s a b := by
  unfold addP subP; rw [Nat.zero_add, Nat.add_mod_mod]
set_option maxHeartbeats 4000000 in
set_option maxRecDepth 20000 in
/-- The second reference's Sub. -/
theorem ref2Sub_any (s a b : Nat) (hs : s < 4) (ha : a < 115792089237316195423570985008687907853269984665640564039457584007913129639936) (hb : b < 115792089237316195423570985008687907853269984665640564039457584007913129639936) (w : World) :
    Calls Tryd.prog 32 #[.int .i64 (s : Int), .agg #[.int .u64 ((limb 0 (a) : Nat) : Int), .int .u64 ((limb 1 (a) : Nat) : Int), .int .u64 ((limb 2 (a) : Nat) : Int), .int .u64 ((limb 3 (a) : Nat) : Int)], .agg #[.int .u64 ((limb 0 (b) : Nat) : Int), .int .u64 ((limb 1 (b) : Nat) : Int), .int .u64 ((limb 2 (b) : Nat) : Int), .int .u64 ((limb 3 (b) : Nat) : Int)]] w fun e w' => e = .returned (.agg #[.int .u64 ((limb 0 (subP s a b) : Nat) : Int), .int .u64 ((limb 1 (subP s a b) : Nat) : Int), .int .u64 ((limb 2 (subP s a b) : Nat) : Int), .int .u64 ((limb 3 (subP s a b) : Nat) : Int)]) ∧ Below w.heap.size w w' := by
  have hM := (modN_good s).lt.2.2
  have ln := subP_lt s 0 b
  have NB := fun w => ref2Neg_any s b hs hb w
  have AN := fun w => ref2Add_any s a (subP s 0 b) hs ha (by omega) w
  rw [add_neg] at AN
  obtain ⟨t, et⟩ : ∃ t, t = subP s 0 b := ⟨_, rfl⟩
  rw [← et] at NB AN ln
  clear et
  obtain ⟨r, er⟩ : ∃ r, r = subP s a b := ⟨_, rfl⟩
  have ER := (show Hid _ from er)
  rw [← er] at AN
  clear er
  go_enter Tryd.func32, Tryd.ntmps32
  go_wp2_with fail
  obtain ⟨w0, hw0⟩ : ∃ w0 : World, w0 = ((w.alloc (.cells #[.int .u64 ((limb 0 (a) : Nat) : Int), .int .u64 ((limb 1 (a) : Nat) : Int), .int .u64 ((limb 2 (a) : Nat) : Int), .int .u64 ((limb 3 (a) : Nat) : Int)] 24)).alloc (.cells #[.int .u64 ((limb 0 (b) : Nat) : Int), .int .u64 ((limb 1 (b) : Nat) : Int), .int .u64 ((limb 2 (b) : Nat) : Int), .int .u64 ((limb 3 (b) : Nat) : Int)] 24)).alloc (.cells #[.int .u64 0, .int .u64 0, .int .u64 0, .int .u64 0] 24) := ⟨_, rfl⟩
  have ba0 : Blk w0 24 w.heap.size (fun i => limb i a) := by rw [hw0]; exact ((Blk.newAt _ _ _ (fun i => limb i a) (by simp)).alloc _).alloc _
  have bb0 : Blk w0 24 (w.heap.size + 1) (fun i => limb i b) := by rw [hw0]; exact (Blk.newAt _ _ _ (fun i => limb i b) (by simp)).alloc _
  have br0 : Blk w0 24 (w.heap.size + 1 + 1) (fun _ => 0) := by rw [hw0]; exact Blk.newAt _ _ _ (fun _ => 0) (by simp)
  have hb0 : Below w.heap.size w w0 := by
    rw [hw0]
    repeat (first | with_reducible exact Below.refl _ _ | with_reducible refine Below.alloc ?_ (by first | omega | (simp; omega) | simp) _)
  rw [← hw0]
  clear hw0
  go_region_held3 (fun w' => (∀ i, i < 4 → w'.cell? ⟨w.heap.size, i, none⟩ = some (.int .u64 ((limb i a : Nat) : Int))) ∧ (∀ i, i < 4 → w'.cell? ⟨(w.heap.size + 1), i, none⟩ = some (.int .u64 ((limb i b : Nat) : Int))))
    (first | with_reducible exact far2 _ _ _ _ (by omega) (by omega) (by with_reducible assumption) | with_reducible exact hold2 hb4 (by with_reducible assumption) | with_reducible exact hold2 hb3 (by with_reducible assumption) | with_reducible exact ⟨ba0.drew.cell, bb0.drew.cell⟩)
    (first | (go_at_call 61; with_reducible refine (NB _).mono ?_; rintro e w3 ⟨rfl, hb3⟩) | (go_at_call 25; with_reducible refine (AN _).mono ?_; rintro e w4 ⟨rfl, hb4⟩; have br4 := (br0.drew.belowAll hb3).belowAll hb4; have cr := br4.cell; have fr := br4.frozen) | fail)
  all_goals
    have hbw4 := bStep (bStep hb0.drew hb3) hb4
    have lr4 := br4.lt
    go_wp2
    refine bodyPost_ret (v := .agg #[.int .u64 ((limb 0 (r) : Nat) : Int), .int .u64 ((limb 1 (r) : Nat) : Int), .int .u64 ((limb 2 (r) : Nat) : Int), .int .u64 ((limb 3 (r) : Nat) : Int)]) (by simp [results, Tryd.results32, go_sem, cr]) rfl ⟨by rw [ER.out], ?_⟩
    repeat (first | with_reducible exact hbw4 | with_reducible refine Below.setCell ?_ (by first | omega | (simp; omega) | simp) _)
end Go.Proofs.YtmbfkflgpdkphaaDoor
/- What field.Modulus and field.Adicity do, and the second reference's Adicity. -/
namespace Go.Proofs.YtmbfkflgpdkphaaDoor
open Go.RowKit
set_option maxHeartbeats 2000000 in
/-- field.Modulus of a sort that there is. -/
theorem fModulus_any (s : Nat) (hs : s < 4) (w : World) (hg : Glob w) :
    Calls Tryd.prog 41 #[.int .i64 (s : Int)] w fun e w' => e = .returned (.tuple #[.agg #[.int .u64 ((limb 0 (modN s) : Nat) : Int), .int .u64 ((limb 1 (modN s) : Nat) : Int), .int .u64 ((limb 2 (modN s) : Nat) : Int), .int .u64 ((limb 3 (modN s) : Nat) : Int)], .int .i64 0]) ∧ Below w.heap.size w w' := by
  have HM := fun w hg => modulus_any s hs w hg
  obtain ⟨m, em⟩ : ∃ m, m = modN s := ⟨_, rfl⟩
  rw [← em] at HM ⊢
  clear em hs
  go_enter Tryd.func41, Tryd.ntmps41
  go_wp2_with fail
  obtain ⟨w0, hw0⟩ : ∃ w0 : World, w0 = w.alloc (.cells #[.int .u64 0, .int .u64 0, .int .u64 0, .int .u64 0] 24) := ⟨_, rfl⟩
  have br0 : Blk w0 24 w.heap.size (fun _ => 0) := by rw [hw0]; exact Blk.newAt _ _ _ (fun _ => 0) (by simp)
  have hg0 : Glob w0 := by rw [hw0]; exact hg.alloc _
  have hb0 : Below w.heap.size w w0 := by rw [hw0]; exact (Below.refl _ _).alloc (Nat.le_refl _) _
  rw [← hw0]
  clear hw0 hg
  refine (HM _ hg0).mono ?_
  rintro e w1 ⟨rfl, hb1⟩
  have br1 := br0.belowAll hb1
  have hbw1 := bStep hb0 hb1
  have lr1 := br1.lt
  clear br0 hb0 hb1 hg0 HM
  go_wp2_with fail
  refine (toElem_any m _).mono ?_
  rintro e w2 ⟨rfl, hb2⟩
  have br2 := (br1.alloc _).belowAll hb2
  have hbw2 := bStep (bAlloc hbw1 _) hb2
  have cr := br2.cell; have fr := br2.frozen; have lr2 := br2.lt
  clear br1 hbw1 hb2
  go_wp2
  refine bodyPost_ret (v := .tuple #[.agg #[.int .u64 ((limb 0 (m) : Nat) : Int), .int .u64 ((limb 1 (m) : Nat) : Int), .int .u64 ((limb 2 (m) : Nat) : Int), .int .u64 ((limb 3 (m) : Nat) : Int)], .int .i64 0]) (by simp [results, Tryd.results41, go_sem, cr]) rfl ⟨rfl, ?_⟩
  repeat (first | with_reducible exact hbw2 | with_reducible refine Below.setCell ?_ (by first | omega | (simp; omega) | simp) _)
set_option maxHeartbeats 2000000 in
/-- The second reference's Adicity of a sort that there is. -/
theorem ref2Adicity_any (s : Nat) (hs : s < 4) (w : World) :
    Calls Tryd.prog 62 #[.int .i64 (s : Int)] w fun e w' => e = .returned (.tuple #[.int .i64 ((adicN s : Nat) : Int), .int .i64 0]) ∧ Below w.heap.size w w' := by
  have h4 : s = 0 ∨ s = 1 ∨ s = 2 ∨ s = 3 := by omega
  rcases h4 with rfl | rfl | rfl | rfl
  · go_enter Tryd.func62, Tryd.ntmps62
    go_wp2
    refine bodyPost_ret (v := .tuple #[.int .i64 9, .int .i64 0]) (by simp [results, Tryd.results62, go_sem]) rfl ⟨rfl, ?_⟩
    repeat (first | with_reducible exact Below.refl _ _ | with_reducible refine Below.drew ?_ | with_reducible refine Below.setCell ?_ (by first | omega | (simp; omega) | simp) _ | with_reducible refine Below.alloc ?_ (by first | omega | (simp; omega) | simp) _)
  · go_enter Tryd.func62, Tryd.ntmps62
    go_wp2
    refine bodyPost_ret (v := .tuple #[.int .i64 11, .int .i64 0]) (by simp [results, Tryd.results62, go_sem]) rfl ⟨rfl, ?_⟩
    repeat (first | with_reducible exact Below.refl _ _ | with_reducible refine Below.drew ?_ | with_reducible refine Below.setCell ?_ (by first | omega | (simp; omega) | simp) _ | with_reducible refine Below.alloc ?_ (by first | omega | (simp; omega) | simp) _)
  · go_enter Tryd.func62, Tryd.ntmps62
    go_wp2
    refine bodyPost_ret (v := .tuple #[.int .i64 32, .int .i64 0]) (by simp [results, Tryd.results62, go_sem]) rfl ⟨rfl, ?_⟩
    repeat (first | with_reducible exact Below.refl _ _ | with_reducible refine Below.drew ?_ | with_reducible refine Below.setCell ?_ (by first | omega | (simp; omega) | simp) _ | with_reducible refine Below.alloc ?_ (by first | omega | (simp; omega) | simp) _)
  · go_enter Tryd.func62, Tryd.ntmps62
    go_wp2
    refine bodyPost_ret (v := .tuple #[.int .i64 32, .int .i64 0]) (by simp [results, Tryd.results62, go_sem]) rfl ⟨rfl, ?_⟩
    repeat (first | with_reducible exact Below.refl _ _ | with_reducible refine Below.drew ?_ | with_reducible refine Below.setCell ?_ (by first | omega | (simp; omega) | simp) _ | with_reducible refine Below.alloc ?_ (by first | omega | (simp; omega) | simp) _)
end Go.Proofs.YtmbfkflgpdkphaaDoor
