/- What the second reference's Modulus, little and Of do. -/
import Derived.Test.YtaeembdabnomaaaGreatDoorG1
import Derived.Test.YtaeembdabnomaaaGreatDoorF8
import Derived.Test.YtaeembdabnomaaaGreatDoorCore6
namespace Go.Proofs.YtaeembdabnomaaaGreatDoor
open Go.RowKit

theorem mod_step (x H l m : Nat) : (x % m * H + l) % m = (x * H + l) % m := by
  rw [Nat.add_mod, Nat.mod_mul_mod, ← Nat.add_mod]
theorem of_words (r h l m : Nat) : ((r * 4294967296 + h) % m * 4294967296 + l) % m = (r * 18446744073709551616 + (h * 4294967296 + l)) % m := by
  rw [mod_step, Nat.add_mul, Nat.mul_assoc, show (4294967296 : Nat) * 4294967296 = 18446744073709551616 from by decide, Nat.add_assoc]
theorem of_next (A m k : Nat) : (A / 18446744073709551616 ^ (k + 1) % m * 18446744073709551616 + limb k A) % m = A / 18446744073709551616 ^ k % m := by
  rw [mod_step]
  congr 1
  rw [limb_eq_div A k]; omega
theorem of_int (r x m y : Nat) (hx : x < 18446744073709551616) (hm : m < 33554432) (hy : y = (r * 4294967296 + x / 4294967296) % m) (ly : y < m) :
    (IntKind.u64.wrap (IntKind.u64.wrap (((r : Int) * 4294967296 + (x : Int) / 4294967296) % (m : Int) * 4294967296) + bits BinOp.and IntKind.u64 (x : Int) 4294967295)).tmod (m : Int) = (((y * 4294967296 + x % 4294967296) % m : Nat) : Int) := by
  have h1 : ((r : Int) * 4294967296 + (x : Int) / 4294967296) % (m : Int) = ((y : Nat) : Int) := by
    rw [hy, Int.natCast_emod]
    rfl
  rw [h1, maskN x hx]
  have h2 : IntKind.u64.wrap (((y : Nat) : Int) * 4294967296) = ((y * 4294967296 : Nat) : Int) := by rw [IntKind.wrap_u64]; omega
  rw [h2]
  have h3 : IntKind.u64.wrap (((y * 4294967296 : Nat) : Int) + ((x % 4294967296 : Nat) : Int)) = ((y * 4294967296 + x % 4294967296 : Nat) : Int) := by rw [IntKind.wrap_u64]; omega
  rw [h3]
  exact (Int.ofNat_tmod _ _).symm
theorem word_halves (x : Nat) : x = x / 4294967296 * 4294967296 + x % 4294967296 := (Nat.div_add_mod' x _).symm

set_option maxHeartbeats 1000000 in
/-- The second reference's little. -/
theorem little_any (s : Nat) (hs : s < 2) (w : World) :
    Calls Tryz.prog 59 #[.int .i64 (s : Int)] w fun e w' => e = .returned (.int .u64 ((modN s : Nat) : Int)) ∧ w' = w := by
  have h2 : s = 0 ∨ s = 1 := by omega
  rcases h2 with rfl | rfl
  · go_enter Tryz.func59, Tryz.ntmps59
    go_wp2
    go_ret
    exact ⟨rfl, rfl⟩
  · go_enter Tryz.func59, Tryz.ntmps59
    go_wp2
    go_ret
    exact ⟨rfl, rfl⟩

theorem modN_small (s : Nat) (hs : s < 2) : modN s < 33554432 ∧ 0 < modN s := by
  have h2 : s = 0 ∨ s = 1 := by omega
  rcases h2 with rfl | rfl <;> decide

set_option maxHeartbeats 4000000 in
set_option maxRecDepth 20000 in
/-- The second reference's Of, of a little field. -/
theorem ofLittle_any (s A : Nat) (hs : s < 2) (hA : A < 115792089237316195423570985008687907853269984665640564039457584007913129639936) (w : World) :
    Calls Tryz.prog 32 #[.int .i64 (s : Int), .agg #[.int .u64 ((limb 0 (A) : Nat) : Int), .int .u64 ((limb 1 (A) : Nat) : Int), .int .u64 ((limb 2 (A) : Nat) : Int), .int .u64 ((limb 3 (A) : Nat) : Int)]] w fun e w' => e = .returned (.agg #[.int .u64 ((limb 0 (A % modN s) : Nat) : Int), .int .u64 ((limb 1 (A % modN s) : Nat) : Int), .int .u64 ((limb 2 (A % modN s) : Nat) : Int), .int .u64 ((limb 3 (A % modN s) : Nat) : Int)]) ∧ Below w.heap.size w w' := by
  obtain ⟨hms, hm0⟩ := modN_small s hs
  have HL := fun w => little_any s hs w
  obtain ⟨m, em⟩ : ∃ m, m = modN s := ⟨_, rfl⟩
  rw [← em] at hms hm0 HL ⊢
  clear em
  have h2 : s = 0 ∨ s = 1 := by omega
  rcases h2 with rfl | rfl
  · go_enter Tryz.func32, Tryz.ntmps32
    go_wp2_with fail
    refine (HL _).mono ?_
    rintro e w' ⟨rfl, rfl⟩
    go_wp2
    go_loopw [6, 7] (fun r i wr => ∃ k : Nat, i = .int .i64 ((k : Int) - 1) ∧ k ≤ 4 ∧ r = .int .u64 ((A / 18446744073709551616 ^ k % m : Nat) : Int) ∧ Below w.heap.size w wr ∧ Blk wr 24 w.heap.size (fun i => limb i A) ∧ Blk wr 24 (w.heap.size + 1) (fun _ => 0)) (fun _ i _ => (intOf i + 1).toNat)
    case atStart =>
      refine ⟨4, rfl, by decide, ?_, ?_, (Blk.newAt _ _ _ (fun i => limb i A) rfl).alloc _, Blk.newAt _ _ _ (fun _ => 0) (by simp)⟩
      · rw [show (18446744073709551616 : Nat) ^ 4 = 115792089237316195423570985008687907853269984665640564039457584007913129639936 from by decide, Nat.div_eq_of_lt hA, Nat.zero_mod]; rfl
      · repeat (first | with_reducible exact Below.refl _ _ | with_reducible refine Below.alloc ?_ (by first | omega | (simp; omega) | simp) _)
    case round =>
      obtain ⟨k, rfl, hk, rfl, hbr, bA, b0⟩ := hrel
      by_cases hk0 : k = 0
      · subst hk0
        have hr : A / 18446744073709551616 ^ 0 % m = A % m := by rw [Nat.pow_zero, Nat.div_one]
        rw [hr]
        have lr : A % m < m := Nat.mod_lt _ hm0
        obtain ⟨r, er⟩ : ∃ r, r = A % m := ⟨_, rfl⟩
        rw [← er] at lr ⊢
        have E1 : Hid ((.agg #[.int .u64 ((limb 0 (A % m) : Nat) : Int), .int .u64 ((limb 1 (A % m) : Nat) : Int), .int .u64 ((limb 2 (A % m) : Nat) : Int), .int .u64 ((limb 3 (A % m) : Nat) : Int)] : Value) = .agg #[.int .u64 (r : Int), .int .u64 0, .int .u64 0, .int .u64 0]) := by
          show _ = _
          rw [← er, limb_small r 0 (by omega), limb_small r 1 (by omega), limb_small r 2 (by omega), limb_small r 3 (by omega), if_pos rfl, if_neg (by decide), if_neg (by decide), if_neg (by decide)]; rfl
        have c0 := b0.cell; have f0 := b0.frozen
        clear hr er
        go_wp2
        refine bodyPost_ret (v := .agg #[.int .u64 (r : Int), .int .u64 0, .int .u64 0, .int .u64 0]) (by simp [results, Tryz.results32, go_sem, c0]) rfl ⟨by rw [E1.out], ?_⟩
        repeat (first | with_reducible exact hbr | with_reducible refine Below.setCell ?_ (by first | omega | (simp; omega) | simp) _)
      · obtain ⟨j, rfl⟩ : ∃ j, k = j + 1 := ⟨k - 1, by omega⟩
        have e1 : ((j + 1 : Nat) : Int) - 1 = (j : Int) := by omega
        rw [e1]
        have hm1 : (0 : Int) ≤ (j : Int) := by omega
        have hmn : (j : Int) < 4 := by omega
        have cA := bA.cell j (by omega)
        have lr : A / 18446744073709551616 ^ (j + 1) % m < m := Nat.mod_lt _ hm0
        have hn := of_next A m j
        obtain ⟨r, er⟩ : ∃ r, r = A / 18446744073709551616 ^ (j + 1) % m := ⟨_, rfl⟩
        rw [← er] at lr hn ⊢
        have lx := limb_lt j A
        obtain ⟨x, ex⟩ : ∃ x, x = limb j A := ⟨_, rfl⟩
        rw [← ex] at cA lx hn
        obtain ⟨y, ey⟩ : ∃ y, y = (r * 4294967296 + x / 4294967296) % m := ⟨_, rfl⟩
        have ly : y < m := by rw [ey]; exact Nat.mod_lt _ hm0
        have hy : (y * 4294967296 + x % 4294967296) % m = A / 18446744073709551616 ^ j % m := by rw [ey, of_words, ← word_halves, hn]
        have HY := (show Hid _ from hy); have EY := (show Hid _ from ey)
        clear e1 er ex ey hy hn
        go_wp2
        go_roundw
        case measure => simp [intOf]
        case rel =>
          refine ⟨j, rfl, by omega, ?_, hbr, bA, b0⟩
          rw [of_int r x m y lx hms EY.out ly, HY.out]
  · go_enter Tryz.func32, Tryz.ntmps32
    go_wp2_with fail
    refine (HL _).mono ?_
    rintro e w' ⟨rfl, rfl⟩
    go_wp2
    go_loopw [6, 7] (fun r i wr => ∃ k : Nat, i = .int .i64 ((k : Int) - 1) ∧ k ≤ 4 ∧ r = .int .u64 ((A / 18446744073709551616 ^ k % m : Nat) : Int) ∧ Below w.heap.size w wr ∧ Blk wr 24 w.heap.size (fun i => limb i A) ∧ Blk wr 24 (w.heap.size + 1) (fun _ => 0)) (fun _ i _ => (intOf i + 1).toNat)
    case atStart =>
      refine ⟨4, rfl, by decide, ?_, ?_, (Blk.newAt _ _ _ (fun i => limb i A) rfl).alloc _, Blk.newAt _ _ _ (fun _ => 0) (by simp)⟩
      · rw [show (18446744073709551616 : Nat) ^ 4 = 115792089237316195423570985008687907853269984665640564039457584007913129639936 from by decide, Nat.div_eq_of_lt hA, Nat.zero_mod]; rfl
      · repeat (first | with_reducible exact Below.refl _ _ | with_reducible refine Below.alloc ?_ (by first | omega | (simp; omega) | simp) _)
    case round =>
      obtain ⟨k, rfl, hk, rfl, hbr, bA, b0⟩ := hrel
      by_cases hk0 : k = 0
      · subst hk0
        have hr : A / 18446744073709551616 ^ 0 % m = A % m := by rw [Nat.pow_zero, Nat.div_one]
        rw [hr]
        have lr : A % m < m := Nat.mod_lt _ hm0
        obtain ⟨r, er⟩ : ∃ r, r = A % m := ⟨_, rfl⟩
        rw [← er] at lr ⊢
        have E1 : Hid ((.agg #[.int .u64 ((limb 0 (A % m) : Nat) : Int), .int .u64 ((limb 1 (A % m) : Nat) : Int), .int .u64 ((limb 2 (A % m) : Nat) : Int), .int .u64 ((limb 3 (A % m) : Nat) : Int)] : Value) = .agg #[.int .u64 (r : Int), .int .u64 0, .int .u64 0, .int .u64 0]) := by
          show _ = _
          rw [← er, limb_small r 0 (by omega), limb_small r 1 (by omega), limb_small r 2 (by omega), limb_small r 3 (by omega), if_pos rfl, if_neg (by decide), if_neg (by decide), if_neg (by decide)]; rfl
        have c0 := b0.cell; have f0 := b0.frozen
        clear hr er
        go_wp2
        refine bodyPost_ret (v := .agg #[.int .u64 (r : Int), .int .u64 0, .int .u64 0, .int .u64 0]) (by simp [results, Tryz.results32, go_sem, c0]) rfl ⟨by rw [E1.out], ?_⟩
        repeat (first | with_reducible exact hbr | with_reducible refine Below.setCell ?_ (by first | omega | (simp; omega) | simp) _)
      · obtain ⟨j, rfl⟩ : ∃ j, k = j + 1 := ⟨k - 1, by omega⟩
        have e1 : ((j + 1 : Nat) : Int) - 1 = (j : Int) := by omega
        rw [e1]
        have hm1 : (0 : Int) ≤ (j : Int) := by omega
        have hmn : (j : Int) < 4 := by omega
        have cA := bA.cell j (by omega)
        have lr : A / 18446744073709551616 ^ (j + 1) % m < m := Nat.mod_lt _ hm0
        have hn := of_next A m j
        obtain ⟨r, er⟩ : ∃ r, r = A / 18446744073709551616 ^ (j + 1) % m := ⟨_, rfl⟩
        rw [← er] at lr hn ⊢
        have lx := limb_lt j A
        obtain ⟨x, ex⟩ : ∃ x, x = limb j A := ⟨_, rfl⟩
        rw [← ex] at cA lx hn
        obtain ⟨y, ey⟩ : ∃ y, y = (r * 4294967296 + x / 4294967296) % m := ⟨_, rfl⟩
        have ly : y < m := by rw [ey]; exact Nat.mod_lt _ hm0
        have hy : (y * 4294967296 + x % 4294967296) % m = A / 18446744073709551616 ^ j % m := by rw [ey, of_words, ← word_halves, hn]
        have HY := (show Hid _ from hy); have EY := (show Hid _ from ey)
        clear e1 er ex ey hy hn
        go_wp2
        go_roundw
        case measure => simp [intOf]
        case rel =>
          refine ⟨j, rfl, by omega, ?_, hbr, bA, b0⟩
          rw [of_int r x m y lx hms EY.out ly, HY.out]

end Go.Proofs.YtaeembdabnomaaaGreatDoor
