/- WordTurns: for every a and b the call returns true: sums and products are the same either way round, what is added is taken away again, and a product leaves no remainder by its factor. No condition. The walk. -/
import Derived.Test.YtidnnjbljeemeabSplits
import Derived.Deep.RegionHeld3
namespace Go.Proofs.Ytidnnjbljeemeab
open Go.RowKit

theorem add256_comm (a b : Nat) : add256 a b = add256 b a := by unfold add256; rw [Nat.add_comm]
theorem over256_comm (a b : Nat) : over256 a b = over256 b a := by unfold over256; rw [Nat.add_comm]
theorem sub_add256 (a b : Nat) (ha : a < 115792089237316195423570985008687907853269984665640564039457584007913129639936) (hb : b < 115792089237316195423570985008687907853269984665640564039457584007913129639936) : sub256 (add256 a b) b = a := by unfold sub256 add256; omega
theorem below_add256 (a b : Nat) (ha : a < 115792089237316195423570985008687907853269984665640564039457584007913129639936) (hb : b < 115792089237316195423570985008687907853269984665640564039457584007913129639936) : below256 (add256 a b) b = over256 a b := by
  unfold below256 over256 add256; rw [Bool.eq_iff_iff]; simp only [decide_eq_true_eq]; omega
theorem mulMod_self (a b : Nat) : mulMod a b a = 0 := by unfold mulMod; exact Nat.mul_mod_right a b
theorem rem_zero' (A B m : Nat) (h : m = 0) (w : World) :
    Calls Try.prog 9 #[.agg #[.int .u64 ((limb 0 (A) : Nat) : Int), .int .u64 ((limb 1 (A) : Nat) : Int), .int .u64 ((limb 2 (A) : Nat) : Int), .int .u64 ((limb 3 (A) : Nat) : Int)], .agg #[.int .u64 ((limb 0 (B) : Nat) : Int), .int .u64 ((limb 1 (B) : Nat) : Int), .int .u64 ((limb 2 (B) : Nat) : Int), .int .u64 ((limb 3 (B) : Nat) : Int)], .agg #[.int .u64 ((limb 0 (m) : Nat) : Int), .int .u64 ((limb 1 (m) : Nat) : Int), .int .u64 ((limb 2 (m) : Nat) : Int), .int .u64 ((limb 3 (m) : Nat) : Int)]] w fun e w' => e = .returned (.tuple #[.agg #[.int .u64 ((limb 0 (0) : Nat) : Int), .int .u64 ((limb 1 (0) : Nat) : Int), .int .u64 ((limb 2 (0) : Nat) : Int), .int .u64 ((limb 3 (0) : Nat) : Int)], .int .i64 10]) ∧ Below w.heap.size w w' := by
  subst h; exact rem_zero A B w
theorem acell3 {w : World} : ∀ o1 o2 o3 b o, b < w.heap.size → (((w.alloc o1).alloc o2).alloc o3).cell? ⟨b, o, none⟩ = w.cell? ⟨b, o, none⟩ := by
  have hb : ∀ o1 o2 o3, Below w.heap.size w (((w.alloc o1).alloc o2).alloc o3) := fun o1 o2 o3 => (((Below.refl _ _).alloc (Nat.le_refl _) _).alloc (by simp) _).alloc (by simp; omega) _
  exact fun o1 o2 o3 b o h => (hb o1 o2 o3).cell (p := ⟨b, o, none⟩) h
section
variable {W w1 : World} {n1 n2 n3 n4 : Nat} {f1 f2 f3 f4 : Nat → Nat}
theorem four_below (hb : Below W.heap.size W w1) (h : (∀ i, i < 4 → W.cell? ⟨n1, i, none⟩ = some (.int .u64 ((f1 i : Nat) : Int))) ∧ (∀ i, i < 4 → W.cell? ⟨n2, i, none⟩ = some (.int .u64 ((f2 i : Nat) : Int))) ∧ (∀ i, i < 4 → W.cell? ⟨n3, i, none⟩ = some (.int .u64 ((f3 i : Nat) : Int))) ∧ (∀ i, i < 4 → W.cell? ⟨n4, i, none⟩ = some (.int .u64 ((f4 i : Nat) : Int)))) :
    (∀ i, i < 4 → w1.cell? ⟨n1, i, none⟩ = some (.int .u64 ((f1 i : Nat) : Int))) ∧ (∀ i, i < 4 → w1.cell? ⟨n2, i, none⟩ = some (.int .u64 ((f2 i : Nat) : Int))) ∧ (∀ i, i < 4 → w1.cell? ⟨n3, i, none⟩ = some (.int .u64 ((f3 i : Nat) : Int))) ∧ (∀ i, i < 4 → w1.cell? ⟨n4, i, none⟩ = some (.int .u64 ((f4 i : Nat) : Int))) :=
  ⟨cells_below hb h.1, cells_below hb h.2.1, cells_below hb h.2.2.1, cells_below hb h.2.2.2⟩
end

set_option maxHeartbeats 8000000 in
theorem turns_walk (a b : Nat) (ha : a < 115792089237316195423570985008687907853269984665640564039457584007913129639936) (hb : b < 115792089237316195423570985008687907853269984665640564039457584007913129639936) (w : World) :
    Calls Try.prog 3 #[.agg #[.int .u64 ((limb 0 (a) : Nat) : Int), .int .u64 ((limb 1 (a) : Nat) : Int), .int .u64 ((limb 2 (a) : Nat) : Int), .int .u64 ((limb 3 (a) : Nat) : Int)], .agg #[.int .u64 ((limb 0 (b) : Nat) : Int), .int .u64 ((limb 1 (b) : Nat) : Int), .int .u64 ((limb 2 (b) : Nat) : Int), .int .u64 ((limb 3 (b) : Nat) : Int)]] w fun e w' => e = .returned (.bool true) ∧ Below w.heap.size w w' := by
  go_enter Try.func3, Try.ntmps3
  go_wp2_with fail
  obtain ⟨w0, hw0⟩ : ∃ w0 : World, w0 = (w.alloc (.cells #[.int .u64 ((limb 0 (a) : Nat) : Int), .int .u64 ((limb 1 (a) : Nat) : Int), .int .u64 ((limb 2 (a) : Nat) : Int), .int .u64 ((limb 3 (a) : Nat) : Int)] 24)).alloc (.cells #[.int .u64 ((limb 0 (b) : Nat) : Int), .int .u64 ((limb 1 (b) : Nat) : Int), .int .u64 ((limb 2 (b) : Nat) : Int), .int .u64 ((limb 3 (b) : Nat) : Int)] 24) := ⟨_, rfl⟩
  have ba0 : Blk w0 24 w.heap.size (fun i => limb i a) := by rw [hw0]; exact (Blk.newAt _ _ _ (fun i => limb i a) rfl).alloc _
  have bb0 : Blk w0 24 (w.heap.size + 1) (fun i => limb i b) := by rw [hw0]; exact Blk.newAt _ _ _ (fun i => limb i b) (by simp)
  have hb0 : Below w.heap.size w w0 := by
    rw [hw0]
    repeat (first | with_reducible exact Below.refl _ _ | with_reducible refine Below.alloc ?_ (by first | omega | (simp; omega) | simp) _)
  rw [← hw0]
  clear hw0
  refine (alive_any _).mono ?_
  rintro e w1 ⟨rfl, hb1⟩
  have ba1 := ba0.belowAll hb1
  have bb1 := bb0.belowAll hb1
  have hbw1 := bStep hb0 hb1
  clear ba0 bb0 hb0 hb1
  have ca := ba1.cell; have cb := bb1.cell
  go_wp2_with fail
  refine (add_any a b ha hb _).mono ?_
  rintro e w2 ⟨rfl, hb2⟩
  have ba2 := ba1.belowAll hb2
  have bb2 := bb1.belowAll hb2
  have hbw2 := bStep hbw1 hb2
  clear ba1 bb1 hbw1 hb2 ca cb
  have ca := ba2.cell; have cb := bb2.cell; have la := ba2.lt; have lb := bb2.lt
  obtain ⟨hA, hG⟩ := acell (w := w2) (n := w2.heap.size) (Nat.le_refl _)
  go_wp2_with fail
  refine (add_any b a hb ha _).mono ?_
  rintro e w3 ⟨rfl, hb3⟩
  rw [← add256_comm a b, ← over256_comm a b]
  have ba3 := (ba2.alloc _).belowAll hb3
  have bb3 := (bb2.alloc _).belowAll hb3
  have bs3 : Blk w3 24 w2.heap.size (fun i => limb i (add256 a b)) := (Blk.new w2 _ (fun i => limb i (add256 a b))).belowAll hb3
  have hbw3 := bStep (bAlloc hbw2 _) hb3
  clear ba2 bb2 hbw2 hb3 ca cb la lb hA hG
  have cb := bb3.cell; have lb := bb3.lt; have cs := bs3.cell; have ls := bs3.lt
  obtain ⟨hA, hG⟩ := acell (w := w3) (n := w3.heap.size) (Nat.le_refl _)
  go_wp2_with fail
  refine (sub_any (add256 a b) b (add256_lt _ _) hb _).mono ?_
  rintro e w4 ⟨rfl, hb4⟩
  rw [sub_add256 a b ha hb, below_add256 a b ha hb]
  have ba4 := (ba3.alloc _).belowAll hb4
  have bb4 := (bb3.alloc _).belowAll hb4
  have bs4 := (bs3.alloc _).belowAll hb4
  have bt4 : Blk w4 24 w3.heap.size (fun i => limb i (add256 a b)) := (Blk.new w3 _ (fun i => limb i (add256 a b))).belowAll hb4
  have hbw4 := bStep (bAlloc hbw3 _) hb4
  clear ba3 bb3 bs3 hbw3 hb4 cb lb cs ls hA hG
  have ca := ba4.cell; have la := ba4.lt; have cb := bb4.cell; have lb := bb4.lt
  obtain ⟨hA, hG⟩ := acell (w := w4) (n := w4.heap.size) (Nat.le_refl _)
  go_wp2_with fail
  refine (mul_any a b ha hb _).mono ?_
  rintro e w5 ⟨rfl, hb5⟩
  have ba5 := (ba4.alloc _).belowAll hb5
  have bb5 := (bb4.alloc _).belowAll hb5
  have bs5 := (bs4.alloc _).belowAll hb5
  have bt5 := (bt4.alloc _).belowAll hb5
  have bk5 : Blk w5 24 w4.heap.size (fun i => limb i a) := (Blk.new w4 _ (fun i => limb i a)).belowAll hb5
  have hbw5 := bStep (bAlloc hbw4 _) hb5
  clear ba4 bb4 bs4 bt4 hbw4 hb5 ca cb la lb hA hG
  have ca := ba5.cell; have la := ba5.lt; have cb := bb5.cell; have lb := bb5.lt
  obtain ⟨hA, hG⟩ := acell2 (w := w5)
  go_wp2_with fail
  refine (mul_any b a hb ha _).mono ?_
  rintro e w6 ⟨rfl, hb6⟩
  rw [Nat.mul_comm b a]
  have ba6 := ((ba5.alloc _).alloc _).belowAll hb6
  have bb6 := ((bb5.alloc _).alloc _).belowAll hb6
  have bs6 := ((bs5.alloc _).alloc _).belowAll hb6
  have bt6 := ((bt5.alloc _).alloc _).belowAll hb6
  have bk6 := ((bk5.alloc _).alloc _).belowAll hb6
  have bl6 : Blk w6 24 w5.heap.size (fun i => limb i (lo256 (a * b))) := ((Blk.newAt _ _ _ (fun i => limb i (lo256 (a * b))) rfl).alloc _).belowAll hb6
  have bh6 : Blk w6 24 (w5.heap.size + 1) (fun i => limb i (hi256 (a * b))) := (Blk.newAt _ _ _ (fun i => limb i (hi256 (a * b))) (by simp)).belowAll hb6
  have hbw6 := bStep (bAlloc (bAlloc hbw5 _) _) hb6
  clear ba5 bb5 bs5 bt5 bk5 hbw5 hb6 ca cb la lb hA hG
  have ca := ba6.cell; have la := ba6.lt; have cs := bs6.cell; have ls := bs6.lt; have ct := bt6.cell; have lt := bt6.lt
  have ck := bk6.cell; have lk := bk6.lt; have cl := bl6.cell; have ll := bl6.lt; have ch := bh6.cell; have lh := bh6.lt
  obtain ⟨hA, hG⟩ := acell2 (w := w6)
  have n1 := fun w => neqE (add256 a b) (add256 a b) (add256_lt _ _) (add256_lt _ _) w
  rw [show decide (add256 a b = add256 a b) = true from by simp] at n1
  have n2 := fun w => neqE a a ha ha w
  rw [show decide (a = a) = true from by simp] at n2
  have n3 := fun w => neqE (lo256 (a * b)) (lo256 (a * b)) (lo256_lt _) (lo256_lt _) w
  rw [show decide (lo256 (a * b) = lo256 (a * b)) = true from by simp] at n3
  have n4 := fun w => neqE (hi256 (a * b)) (hi256 (a * b)) (hi256_lt a b ha hb) (hi256_lt a b ha hb) w
  rw [show decide (hi256 (a * b) = hi256 (a * b)) = true from by simp] at n4
  obtain ⟨ov, hov⟩ : ∃ ov, ov = over256 a b := ⟨_, rfl⟩
  rw [← hov]
  clear hov
  have hA3 := acell3 (w := w6)
  go_wp2_with fail
  by_cases h0 : a = 0
  · refine (rem_zero' (lo256 (a * b)) (hi256 (a * b)) a h0 _).mono ?_
    rintro e w7 ⟨rfl, hb7⟩
    have hbw7 := bStep (bAlloc (bAlloc (bAlloc hbw6 _) _) _) hb7
    have ba7 := (((ba6.alloc _).alloc _).alloc _).belowAll hb7
    have bz7 : Blk w7 24 (w6.heap.size + 1 + 1) (fun _ => 0) := (Blk.newAt _ _ _ (fun _ => 0) (by simp)).belowAll hb7
    have hq := fun w => eql0 a ha w
    rw [show decide (a = 0) = true from by simp [h0]] at hq
    clear h0 ba6 bb6 bs6 bt6 bk6 bl6 bh6 hbw6 hb7 ca la cs ls ct lt ck lk cl ll ch lh hA hG n1 n2 n3 n4 hA3
    have ca := ba7.cell; have la := ba7.lt; have cz := bz7.cell; have lz := bz7.lt
    obtain ⟨hA, hG⟩ := acell (w := w7) (n := w7.heap.size) (Nat.le_refl _)
    go_wp2
    go_ret
    exact ⟨rfl, bAlloc hbw7 _⟩
  · refine (remP a b a ha hb ha h0 _).mono ?_
    rintro e w7 ⟨rfl, hb7⟩
    have hbw7 := bStep (bAlloc (bAlloc (bAlloc hbw6 _) _) _) hb7
    have ba7 := (((ba6.alloc _).alloc _).alloc _).belowAll hb7
    have bb7 := (((bb6.alloc _).alloc _).alloc _).belowAll hb7
    have bz7 : Blk w7 24 (w6.heap.size + 1 + 1) (fun _ => 0) := (Blk.newAt _ _ _ (fun _ => 0) (by simp)).belowAll hb7
    have hq := fun w => eql0 a ha w
    rw [show decide (a = 0) = false from by simp [h0]] at hq
    have hq2 := fun w => eql0 (mulMod a b a) (by rw [mulMod_self]; decide) w
    rw [show decide (mulMod a b a = 0) = true from by simp [mulMod_self]] at hq2
    have hq3 := fun w => eqlE a b ha hb w
    clear h0 ba6 bb6 bs6 bt6 bk6 bl6 bh6 hbw6 hb7 ca la cs ls ct lt ck lk cl ll ch lh hA hG n1 n2 n3 n4 hA3
    have ca := ba7.cell; have la := ba7.lt; have cz := bz7.cell; have lz := bz7.lt
    obtain ⟨hA, hG⟩ := acell (w := w7) (n := w7.heap.size) (Nat.le_refl _)
    go_wp2_with fail
    obtain ⟨w8, hw8⟩ : ∃ w8 : World, w8 = w7.alloc (.cells #[.int .u64 ((limb 0 (mulMod a b a) : Nat) : Int), .int .u64 ((limb 1 (mulMod a b a) : Nat) : Int), .int .u64 ((limb 2 (mulMod a b a) : Nat) : Int), .int .u64 ((limb 3 (mulMod a b a) : Nat) : Int)] 24) := ⟨_, rfl⟩
    have ba8 : Blk w8 24 w.heap.size (fun i => limb i a) := by rw [hw8]; exact ba7.alloc _
    have bb8 : Blk w8 24 (w.heap.size + 1) (fun i => limb i b) := by rw [hw8]; exact bb7.alloc _
    have bz8 : Blk w8 24 (w6.heap.size + 1 + 1) (fun _ => 0) := by rw [hw8]; exact bz7.alloc _
    have br8 : Blk w8 24 w7.heap.size (fun i => limb i (mulMod a b a)) := by rw [hw8]; exact Blk.new w7 _ (fun i => limb i (mulMod a b a))
    have hbw8 : Below w.heap.size w w8 := by rw [hw8]; exact bAlloc hbw7 _
    rw [← hw8]
    clear hw8 ba7 bb7 bz7 hbw7 ca la cz lz hA hG hq
    by_cases hlt : b < a
    · have e1 : below256 b a = true := by simp [below256, hlt]
      have e2 : (!below256 a b) = true := by
        have : ¬ a < b := by omega
        simp [below256, this]
      clear hlt hq3
      have E1 := (show Hid _ from e1); clear e1
      have E2 := (show Hid _ from e2); clear e2
      refine wp_region_held_drew (S := (fun w' => (∀ i, i < 4 → w'.cell? ⟨w.heap.size, i, none⟩ = some (.int .u64 ((limb i a : Nat) : Int))) ∧ (∀ i, i < 4 → w'.cell? ⟨w.heap.size + 1, i, none⟩ = some (.int .u64 ((limb i b : Nat) : Int))) ∧ (∀ i, i < 4 → w'.cell? ⟨w6.heap.size + 1 + 1, i, none⟩ = some (.int .u64 ((0 : Nat) : Int))) ∧ (∀ i, i < 4 → w'.cell? ⟨w7.heap.size, i, none⟩ = some (.int .u64 ((limb i (mulMod a b a) : Nat) : Int))))) (by kernel_rfl) ⟨ba8.drew.cell, bb8.drew.cell, bz8.drew.cell, br8.drew.cell⟩ (fun hHeld => ?_)
      refine wpAnyH_take (i := 0) (oi := { dst := some 91, op := _, type := _, pos := _, after := _, guard := _ }) (v := ?v1) rfl (by kernel_rfl) (by kernel_rfl) (by kernel_rfl) (fun _ _ _ h => h) (Or.inl ⟨by rfl, ?hy1⟩) hHeld ?_
      case hy1 => (intro w hSw; (try dsimp only at hSw); go_simp; try (with_reducible rfl))
      try simp only [Act.put, List.setIfInBounds_toArray, List.set_cons_zero, List.set_cons_succ]
      refine wpAnyH_take (i := 1) (oi := { dst := some 92, op := _, type := _, pos := _, after := _, guard := _ }) (v := ?v2) rfl (by kernel_rfl) (by kernel_rfl) (by kernel_rfl) (fun _ _ _ h => h) (Or.inl ⟨by rfl, ?hy2⟩) hHeld ?_
      case hy2 => (intro w hSw; (try dsimp only at hSw); go_simp; try (with_reducible rfl))
      try simp only [Act.put, List.setIfInBounds_toArray, List.set_cons_zero, List.set_cons_succ]
      refine wpAnyH_take (i := 2) (oi := { dst := some 93, op := _, type := _, pos := _, after := _, guard := _ }) (v := ?v3) rfl (by kernel_rfl) (by kernel_rfl) (by kernel_rfl) (fun _ _ _ h => h) (Or.inl ⟨by rfl, ?hy3⟩) hHeld ?_
      case hy3 => (intro w hSw; (try dsimp only at hSw); go_simp; try (with_reducible rfl))
      try simp only [Act.put, List.setIfInBounds_toArray, List.set_cons_zero, List.set_cons_succ]
      refine wpAnyH_take (i := 3) (oi := { dst := some 94, op := _, type := _, pos := _, after := _, guard := _ }) (v := ?v4) rfl (by kernel_rfl) (by kernel_rfl) (by kernel_rfl) (fun _ _ _ h => h) (Or.inl ⟨by rfl, ?hy4⟩) hHeld ?_
      case hy4 => (intro w hSw; (try dsimp only at hSw); go_simp; try (with_reducible rfl))
      try simp only [Act.put, List.setIfInBounds_toArray, List.set_cons_zero, List.set_cons_succ]
      refine wpAnyH_take (i := 4) (oi := { dst := some 95, op := _, type := _, pos := _, after := _, guard := _ }) (v := ?v5) rfl (by kernel_rfl) (by kernel_rfl) (by kernel_rfl) (fun _ _ _ h => h) (Or.inl ⟨by rfl, ?hy5⟩) hHeld ?_
      case hy5 => (intro w hSw; (try dsimp only at hSw); go_simp; try (with_reducible rfl))
      try simp only [Act.put, List.setIfInBounds_toArray, List.set_cons_zero, List.set_cons_succ]
      refine wpAnyH_take (i := 5) (oi := { dst := some 96, op := _, type := _, pos := _, after := _, guard := _ }) (v := ?v6) rfl (by kernel_rfl) (by kernel_rfl) (by kernel_rfl) (fun _ _ _ h => h) (Or.inl ⟨by rfl, ?hy6⟩) hHeld ?_
      case hy6 => (intro w hSw; (try dsimp only at hSw); go_simp; try (with_reducible rfl))
      try simp only [Act.put, List.setIfInBounds_toArray, List.set_cons_zero, List.set_cons_succ]
      refine wpAnyH_take (i := 6) (oi := { dst := some 97, op := _, type := _, pos := _, after := _, guard := _ }) (v := ?v7) rfl (by kernel_rfl) (by kernel_rfl) (by kernel_rfl) (fun _ _ _ h => h) (Or.inl ⟨by rfl, ?hy7⟩) hHeld ?_
      case hy7 => (intro w hSw; (try dsimp only at hSw); go_simp; try (with_reducible rfl))
      try simp only [Act.put, List.setIfInBounds_toArray, List.set_cons_zero, List.set_cons_succ]
      refine wpAnyH_take (i := 7) (oi := { dst := some 98, op := _, type := _, pos := _, after := _, guard := _ }) (v := ?v8) rfl (by kernel_rfl) (by kernel_rfl) (by kernel_rfl) (fun _ _ _ h => h) (Or.inl ⟨by rfl, ?hy8⟩) hHeld ?_
      case hy8 => (intro w hSw; (try dsimp only at hSw); go_simp; try (with_reducible rfl))
      try simp only [Act.put, List.setIfInBounds_toArray, List.set_cons_zero, List.set_cons_succ]
      refine wpAnyH_take (i := 8) (oi := { dst := some 99, op := _, type := _, pos := _, after := _, guard := _ }) (v := ?v9) rfl (by kernel_rfl) (by kernel_rfl) (by kernel_rfl) (fun _ _ _ h => h) (Or.inl ⟨by rfl, ?hy9⟩) hHeld ?_
      case hy9 => (intro w hSw; (try dsimp only at hSw); go_simp; try (with_reducible rfl))
      try simp only [Act.put, List.setIfInBounds_toArray, List.set_cons_zero, List.set_cons_succ]
      refine wpAnyH_take (i := 9) (oi := { dst := some 100, op := _, type := _, pos := _, after := _, guard := _ }) (v := ?v10) rfl (by kernel_rfl) (by kernel_rfl) (by kernel_rfl) (fun _ _ _ h => h) (Or.inl ⟨by rfl, ?hy10⟩) hHeld ?_
      case hy10 => (intro w hSw; (try dsimp only at hSw); go_simp; try (with_reducible rfl))
      try simp only [Act.put, List.setIfInBounds_toArray, List.set_cons_zero, List.set_cons_succ]
      refine wpAnyH_take (i := 11) (oi := { dst := some 102, op := _, type := _, pos := _, after := _, guard := _ }) (v := ?v11) rfl (by kernel_rfl) (by kernel_rfl) (by kernel_rfl) (fun _ _ _ h => h) (Or.inl ⟨by rfl, ?hy11⟩) hHeld ?_
      case hy11 => (intro w hSw; (try dsimp only at hSw); go_simp; try (with_reducible rfl))
      try simp only [Act.put, List.setIfInBounds_toArray, List.set_cons_zero, List.set_cons_succ]
      refine wpAnyH_take (i := 12) (oi := { dst := some 103, op := _, type := _, pos := _, after := _, guard := _ }) (v := ?v12) rfl (by kernel_rfl) (by kernel_rfl) (by kernel_rfl) (fun _ _ _ h => h) (Or.inl ⟨by rfl, ?hy12⟩) hHeld ?_
      case hy12 => (intro w hSw; (try dsimp only at hSw); go_simp; try (with_reducible rfl))
      try simp only [Act.put, List.setIfInBounds_toArray, List.set_cons_zero, List.set_cons_succ]
      refine wpAnyH_ready (rs := [10]) (by kernel_rfl) (by simp) ?_
      refine AllReadyH.cons rfl (fun K hK => ?_) AllReadyH.nil
      go_simp
      refine (less_any a b ha hb _).mono ?_
      rintro e w9 ⟨rfl, hb9⟩
      go_wp2_with fail
      refine hK.out _ _ (four_below hb9 hHeld) (fun hHeld2 => ?_)
      clear hK K hHeld
      have hHeld := hHeld2
      clear hHeld2
      try simp only [Act.put, List.setIfInBounds_toArray, List.set_cons_zero, List.set_cons_succ]
      refine wpAnyH_ready (rs := [13]) (by kernel_rfl) (by simp) ?_
      refine AllReadyH.cons rfl (fun K hK => ?_) AllReadyH.nil
      go_simp
      refine (less_any b a hb ha _).mono ?_
      rintro e w10 ⟨rfl, hb10⟩
      rw [E1.out]
      go_wp2_with fail
      refine hK.out _ _ (four_below hb10 hHeld) (fun hHeld2 => ?_)
      clear hK K hHeld
      have hHeld := hHeld2
      clear hHeld2
      try simp only [Act.put, List.setIfInBounds_toArray, List.set_cons_zero, List.set_cons_succ]
      refine wpAnyH_take (i := 14) (oi := { dst := some 105, op := _, type := _, pos := _, after := _, guard := _ }) (v := ?v13) rfl (by kernel_rfl) (by kernel_rfl) (by kernel_rfl) (fun _ _ _ h => h) (Or.inl ⟨by rfl, ?hy13⟩) hHeld ?_
      case hy13 => (intro w hSw; (try dsimp only at hSw); go_simp; try (with_reducible rfl))
      try simp only [Act.put, List.setIfInBounds_toArray, List.set_cons_zero, List.set_cons_succ]
      refine wpAnyH_take (i := 15) (oi := { dst := some 106, op := _, type := _, pos := _, after := _, guard := _ }) (v := undef) rfl (by kernel_rfl) (by kernel_rfl) (by kernel_rfl) (fun _ _ _ h => h) (Or.inr ⟨by rfl, rfl⟩) hHeld ?_
      try simp only [Act.put, List.setIfInBounds_toArray, List.set_cons_zero, List.set_cons_succ]
      refine wpAnyH_take (i := 16) (oi := { dst := some 107, op := _, type := _, pos := _, after := _, guard := _ }) (v := undef) rfl (by kernel_rfl) (by kernel_rfl) (by kernel_rfl) (fun _ _ _ h => h) (Or.inr ⟨by rfl, rfl⟩) hHeld ?_
      try simp only [Act.put, List.setIfInBounds_toArray, List.set_cons_zero, List.set_cons_succ]
      refine wpAnyH_take (i := 17) (oi := { dst := some 108, op := _, type := _, pos := _, after := _, guard := _ }) (v := undef) rfl (by kernel_rfl) (by kernel_rfl) (by kernel_rfl) (fun _ _ _ h => h) (Or.inr ⟨by rfl, rfl⟩) hHeld ?_
      try simp only [Act.put, List.setIfInBounds_toArray, List.set_cons_zero, List.set_cons_succ]
      refine wpAnyH_take (i := 18) (oi := { dst := some 109, op := _, type := _, pos := _, after := _, guard := _ }) (v := ?v17) rfl (by kernel_rfl) (by kernel_rfl) (by kernel_rfl) (fun _ _ _ h => h) (Or.inl ⟨by rfl, ?hy17⟩) hHeld ?_
      case hy17 => (intro w hSw; (try dsimp only at hSw); go_simp; try (with_reducible rfl))
      try simp only [Act.put, List.setIfInBounds_toArray, List.set_cons_zero, List.set_cons_succ]
      refine wpAnyH_take (i := 19) (oi := { dst := some 110, op := _, type := _, pos := _, after := _, guard := _ }) (v := ?v18) rfl (by kernel_rfl) (by kernel_rfl) (by kernel_rfl) (fun _ _ _ h => h) (Or.inl ⟨by rfl, ?hy18⟩) hHeld ?_
      case hy18 => (intro w hSw; (try dsimp only at hSw); go_simp; try (with_reducible rfl))
      try simp only [Act.put, List.setIfInBounds_toArray, List.set_cons_zero, List.set_cons_succ]
      refine wpAnyH_take (i := 20) (oi := { dst := some 111, op := _, type := _, pos := _, after := _, guard := _ }) (v := ?v19) rfl (by kernel_rfl) (by kernel_rfl) (by kernel_rfl) (fun _ _ _ h => h) (Or.inl ⟨by rfl, ?hy19⟩) hHeld ?_
      case hy19 => (intro w hSw; (try dsimp only at hSw); go_simp; try (with_reducible rfl))
      try simp only [Act.put, List.setIfInBounds_toArray, List.set_cons_zero, List.set_cons_succ]
      refine wpAnyH_take (i := 21) (oi := { dst := some 4, op := _, type := _, pos := _, after := _, guard := _ }) (v := ?v20) rfl (by kernel_rfl) (by kernel_rfl) (by kernel_rfl) (fun _ _ _ h => h) (Or.inl ⟨by rfl, ?hy20⟩) hHeld ?_
      case hy20 => (intro w hSw; (try dsimp only at hSw); go_simp; try (with_reducible rfl))
      try simp only [Act.put, List.setIfInBounds_toArray, List.set_cons_zero, List.set_cons_succ]
      refine wpAnyH_done (by kernel_rfl) ?_ _
      go_wp2
      go_ret
      refine ⟨?_, bStep hbw8.drew (hb9.trans (hb10.mono hb9.size))⟩
      show Ending.returned (.bool (!below256 a b)) = _
      rw [E2.out]
    · have e1 : below256 b a = false := by simp [below256, hlt]
      have e2 : (!(below256 a b == decide (a = b))) = true := by
        unfold below256
        by_cases h : a = b
        · subst h; simp
        · have : a < b := by omega
          simp [this, h]
      obtain ⟨q, hqe⟩ : ∃ q, q = decide (a = b) := ⟨_, rfl⟩
      rw [← hqe] at hq3 e2
      clear hqe hlt
      have E1 := (show Hid _ from e1); clear e1
      have E2 := (show Hid _ from e2); clear e2
      go_region_held3 (fun w' => (∀ i, i < 4 → w'.cell? ⟨w.heap.size, i, none⟩ = some (.int .u64 ((limb i a : Nat) : Int))) ∧ (∀ i, i < 4 → w'.cell? ⟨w.heap.size + 1, i, none⟩ = some (.int .u64 ((limb i b : Nat) : Int))) ∧ (∀ i, i < 4 → w'.cell? ⟨w6.heap.size + 1 + 1, i, none⟩ = some (.int .u64 ((0 : Nat) : Int))) ∧ (∀ i, i < 4 → w'.cell? ⟨w7.heap.size, i, none⟩ = some (.int .u64 ((limb i (mulMod a b a) : Nat) : Int))))
        (first | with_reducible exact four_below hb10 (by with_reducible assumption) | with_reducible exact four_below hb9 (by with_reducible assumption) | with_reducible exact ⟨ba8.drew.cell, bb8.drew.cell, bz8.drew.cell, br8.drew.cell⟩)
        (first | (go_at_call 10; with_reducible refine (less_any a b ha hb _).mono ?_; rintro e w9 ⟨rfl, hb9⟩) | (go_at_call 10; with_reducible refine (less_any b a hb ha _).mono ?_; rintro e w10 ⟨rfl, hb10⟩; rw [E1.out]))
      go_wp2
      go_ret
      refine ⟨?_, bStep hbw8.drew (hb9.trans (hb10.mono hb9.size))⟩
      show Ending.returned (.bool (!(below256 a b == q))) = _
      rw [E2.out]

end Go.Proofs.Ytidnnjbljeemeab
