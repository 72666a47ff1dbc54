/- What math/bits.Len64, LeadingZeros64 and Div64 answer. -/
import Derived.Test.YtfbfenljfdnggaaGreatDoorVWM
import Derived.Test.YtfbfenljfdnggaaGreatDoorVLen
import Derived.Test.YtfbfenljfdnggaaGreatDoorVBN
import Derived.Deep.CutBlock
import Derived.Deep.DeepCutAuto
import Derived.Lib.Strings
import Derived.Lib.Slices
import Derived.Lib.Small
import Derived.Lib.Walk
import Derived.Lib.BitFns
namespace Go.Proofs.YtfbfenljfdnggaaGreatDoor
open Go.RowKit
theorem bitLen_top (x : Nat) (hx : x < 18446744073709551616) : x < 2 ^ Lib.bitLen x ∧ (0 < x → 2 ^ (Lib.bitLen x - 1) ≤ x ∧ 1 ≤ Lib.bitLen x) := by
  have key : ∀ (k x : Nat), x < 2 ^ k → k ≤ 64 → x < 2 ^ Lib.bitLen x ∧ (0 < x → 2 ^ (Lib.bitLen x - 1) ≤ x ∧ 1 ≤ Lib.bitLen x) := by
    intro k
    induction k with
    | zero =>
      intro x h _
      have : x = 0 := by simpa using h
      subst this
      exact ⟨by decide, fun h => by omega⟩
    | succ k ih =>
      intro x h hk
      by_cases h0 : x = 0
      · subst h0; exact ⟨by decide, fun h => by omega⟩
      · have hx64 : x < 2 ^ 64 := Nat.lt_of_lt_of_le h (Nat.pow_le_pow_right (by decide) hk)
        have e := Lib.bitLen_half x h0 hx64
        obtain ⟨i1, i2⟩ := ih (x / 2) (by rw [Nat.pow_succ] at h; omega) (by omega)
        rw [e, Nat.add_comm 1]
        refine ⟨by rw [Nat.pow_succ]; omega, fun _ => ⟨?_, by omega⟩⟩
        rw [Nat.add_sub_cancel]
        by_cases h2 : 0 < x / 2
        · obtain ⟨j1, j2⟩ := i2 h2
          have : 2 ^ Lib.bitLen (x / 2) = 2 ^ (Lib.bitLen (x / 2) - 1) * 2 := by rw [← Nat.pow_succ]; congr 1; omega
          omega
        · have hz : x / 2 = 0 := by omega
          rw [hz, show Lib.bitLen 0 = 0 from by decide]; omega
  exact key 64 x hx (by decide)
theorem lz64_any (x : Nat) (hx : x < 18446744073709551616) (w : World) :
    Calls Tryz.prog 187 #[.int .u64 (x : Int)] w fun e w' => e = .returned (.int .i64 ((64 - Lib.bitLen x : Nat) : Int)) ∧ w' = w := by
  have l : Lib.bitLen x ≤ 64 := Lib.bitLen_le x 64 (by decide) hx
  go_enter Tryz.func187, Tryz.ntmps187
  go_wp2_with fail
  refine (len64_int (x : Int) (by omega) (by omega) _).mono ?_
  rintro e w' ⟨rfl, rfl⟩
  rw [Int.toNat_natCast]
  go_wp2
  go_ret
  refine ⟨congrArg Ending.returned (congrArg (Value.int IntKind.i64) ?_), rfl⟩
  omega
theorem wrap_id {x : Int} (h0 : 0 ≤ x) (h1 : x < 18446744073709551616) : IntKind.u64.wrap x = x := by rw [IntKind.wrap_u64]; omega
set_option maxHeartbeats 2000000 in
theorem div64_walk (h l y s Y Y1 Y0 U V V1 V0 q0 r0 p0 Q1 R1 P1 q2 r2 p2 Q2 R2 P2 : Nat) (HF : Hid (HalfF U V1 Y Y1 Y0)) (hst : Hid (HalfInv U V1 Y Y1 ((q0 : Nat) : Int).toNat ((r0 : Nat) : Int).toNat))
    (HQ1 : Hid (Q1 = (U * 4294967296 + V1) / Y)) (HG : Hid (HalfF R1 V0 Y Y1 Y0)) (hst2 : Hid (HalfInv R1 V0 Y Y1 ((q2 : Nat) : Int).toNat ((r2 : Nat) : Int).toNat)) (HQ2 : Hid (Q2 = (R1 * 4294967296 + V0) / Y))
    (hh : 0 < h) (hy : h < y) (_hY : y < 18446744073709551616) (_hl : l < 18446744073709551616) (hs : s ≤ 63) (w : World)
    (e1 : IntKind.u64.wrap ((y : Int) * 2 ^ s) = (Y : Int)) (e2 : (Y : Int) / 4294967296 = (Y1 : Int)) (e3 : bits .and .u64 (Y : Int) 4294967295 = (Y0 : Int)) (hY1 : 0 < Y1)
    (e4 : bits BinOp.or IntKind.u64 (IntKind.u64.wrap ((h : Int) * 2 ^ s)) ((l : Int) / 2 ^ (64 - s)) = (U : Int)) (e5 : IntKind.u64.wrap ((l : Int) * 2 ^ s) = (V : Int))
    (e6 : (V : Int) / 4294967296 = (V1 : Int)) (e7 : bits .and .u64 (V : Int) 4294967295 = (V0 : Int))
    (e8 : IntKind.u64.wrap ((U : Int) / (Y1 : Int)) = (q0 : Int)) (e9 : IntKind.u64.wrap ((q0 : Int) * (Y1 : Int)) = (p0 : Int)) (e10 : IntKind.u64.wrap ((U : Int) - (p0 : Int)) = (r0 : Int))
    (f1 : IntKind.u64.wrap ((Q1 : Int) * (Y : Int)) = (P1 : Int)) (f2 : IntKind.u64.wrap (IntKind.u64.wrap (IntKind.u64.wrap ((U : Int) * 4294967296) + (V1 : Int)) - (P1 : Int)) = (R1 : Int))
    (f3 : IntKind.u64.wrap ((R1 : Int) / (Y1 : Int)) = (q2 : Int)) (f4 : IntKind.u64.wrap ((q2 : Int) * (Y1 : Int)) = (p2 : Int)) (f5 : IntKind.u64.wrap ((R1 : Int) - (p2 : Int)) = (r2 : Int))
    (f6 : IntKind.u64.wrap ((Q2 : Int) * (Y : Int)) = (P2 : Int)) (f7 : IntKind.u64.wrap (IntKind.u64.wrap (IntKind.u64.wrap ((R1 : Int) * 4294967296) + (V0 : Int)) - (P2 : Int)) = (R2 : Int))
    (hlz : ∀ w, Calls Tryz.prog 187 #[.int .u64 (y : Int)] w fun e w' => e = .returned (.int .i64 (s : Int)) ∧ w' = w) :
    Calls Tryz.prog 208 #[.int .u64 (h : Int), .int .u64 (l : Int), .int .u64 (y : Int)] w fun e w' =>
      e = .returned (.tuple #[.int .u64 (IntKind.u64.wrap (IntKind.u64.wrap ((Q1 : Int) * 4294967296) + (Q2 : Int))), .int .u64 ((R2 : Int) / 2 ^ s)]) ∧ w' = w := by
  have HL := (show Hid _ from hlz); clear hlz
  have t1 : ((y : Int) == 0) = false := by rw [beq_eq_false_iff_ne]; omega
  have t3 : ((h : Int) == 0) = false := by rw [beq_eq_false_iff_ne]; omega
  go_enter Tryz.func208, Tryz.ntmps208
  go_wp2_with fail
  refine (HL.out _).mono ?_
  rintro e w' ⟨rfl, rfl⟩
  go_upto_block 0 with fail
  go_cut [15, 16] (fun a b wx => ∃ bb : Int, a = .int .u64 (Q1 : Int) ∧ b = .int .u64 bb ∧ wx = w')
  case first =>
    go_wp2_with fail
    go_loop [15, 16] (fun a b => ∃ A B : Int, a = .int .u64 A ∧ b = .int .u64 B ∧ 0 ≤ A ∧ 0 ≤ B ∧ Hid (HalfInv U V1 Y Y1 A.toNat B.toNat)) (fun a _ => (intOf a).toNat)
    case atStart =>
      exact ⟨q0, r0, rfl, rfl, by omega, by omega, hst⟩
    case round =>
      obtain ⟨A, B, rfl, rfl, hA0, hB0, hinv⟩ := hrel
      have hle := int_le HF.out hA0 hB0 hinv.out
      have hY1b : (Y1 : Int) < 4294967296 := by have := HF.out.2.2.2.1; omega
      have hUb : (U : Int) < 18446744073709551616 := by have := HF.out.2.2.2.2.1; have := HF.out.lt; omega
      have hV1b : (V1 : Int) < 4294967296 := by have := HF.out.2.2.2.2.2; omega
      by_cases ht : 4294967296 ≤ A ∨ 4294967296 * B + (V1 : Int) < A * (Y0 : Int)
      · obtain ⟨m1, m2, m3⟩ := int_more HF.out hA0 hB0 hinv.out ht
        have M2 := (show Hid _ from m2); clear m2
        have M3 := (show Hid _ from m3); clear m3
        have w4 : IntKind.u64.wrap (A - 1) = A - 1 := wrap_id (by omega) (by omega)
        have w5 : IntKind.u64.wrap (B + (Y1 : Int)) = B + (Y1 : Int) := wrap_id (by omega) (by omega)
        by_cases hbr : 4294967296 ≤ B + (Y1 : Int)
        · have hq : A - 1 = (Q1 : Int) := by rw [HQ1.out]; exact int_break HF.out m1 M2.out M3.out hbr
          have W4 := (show Hid _ from hq); clear hq
          by_cases hA : 4294967296 ≤ A
          · clear ht
            go_wp2
            go_meet
            exact ⟨_, by rw [W4.out], rfl, rfl⟩
          · have hlt : 4294967296 * B + (V1 : Int) < A * (Y0 : Int) := ht.resolve_left hA
            have hp := int_prod HF.out hA0 hA
            have w1 : IntKind.u64.wrap (A * (Y0 : Int)) = A * (Y0 : Int) := wrap_id hp.1 hp.2
            have w2 : IntKind.u64.wrap (4294967296 * B) = 4294967296 * B := wrap_id (by omega) (by omega)
            have w3 : IntKind.u64.wrap (4294967296 * B + (V1 : Int)) = 4294967296 * B + (V1 : Int) := wrap_id (by omega) (by omega)
            clear ht hp
            go_wp2
            go_meet
            exact ⟨_, by rw [W4.out], rfl, rfl⟩
        · have hrel' : Hid (HalfInv U V1 Y Y1 (A - 1).toNat (B + (Y1 : Int)).toNat) := ⟨M2.out, M3.out, by omega⟩
          by_cases hA : 4294967296 ≤ A
          · clear ht
            go_wp2
            go_round
            case rel => exact ⟨A - 1, B + (Y1 : Int), rfl, rfl, by omega, by omega, hrel'⟩
            case measure => simp [intOf]; omega
          · have hlt : 4294967296 * B + (V1 : Int) < A * (Y0 : Int) := ht.resolve_left hA
            have hp := int_prod HF.out hA0 hA
            have w1 : IntKind.u64.wrap (A * (Y0 : Int)) = A * (Y0 : Int) := wrap_id hp.1 hp.2
            have w2 : IntKind.u64.wrap (4294967296 * B) = 4294967296 * B := wrap_id (by omega) (by omega)
            have w3 : IntKind.u64.wrap (4294967296 * B + (V1 : Int)) = 4294967296 * B + (V1 : Int) := wrap_id (by omega) (by omega)
            clear ht hp
            go_wp2
            go_round
            case rel => exact ⟨A - 1, B + (Y1 : Int), rfl, rfl, by omega, by omega, hrel'⟩
            case measure => simp [intOf]; omega
      · have hA : ¬ 4294967296 ≤ A := fun h => ht (Or.inl h)
        have hlt : ¬ 4294967296 * B + (V1 : Int) < A * (Y0 : Int) := fun h => ht (Or.inr h)
        have hq : A = (Q1 : Int) := by rw [HQ1.out]; exact int_done HF.out hA0 hB0 hinv.out hlt
        have W4 := (show Hid _ from hq); clear hq
        have hp := int_prod HF.out hA0 hA
        have w1 : IntKind.u64.wrap (A * (Y0 : Int)) = A * (Y0 : Int) := wrap_id hp.1 hp.2
        have w2 : IntKind.u64.wrap (4294967296 * B) = 4294967296 * B := wrap_id (by omega) (by omega)
        have w3 : IntKind.u64.wrap (4294967296 * B + (V1 : Int)) = 4294967296 * B + (V1 : Int) := wrap_id (by omega) (by omega)
        clear ht hp
        go_wp2
        go_meet
        exact ⟨B, by rw [← W4.out], rfl, rfl⟩
  case rest =>
    obtain ⟨bb, rfl, rfl, hw⟩ := hcut
    subst hw
    clear e1 e2 e3 e4 e5 e6 e7 e8 e9 e10 hst HF HQ1
    go_upto_block 2 with fail
    go_cut [18, 16] (fun a b wx => ∃ bb : Int, a = .int .u64 (Q2 : Int) ∧ b = .int .u64 bb ∧ wx = wc)
    case first =>
     go_wp2_with fail
     go_loop [18, 16] (fun a b => ∃ A B : Int, a = .int .u64 A ∧ b = .int .u64 B ∧ 0 ≤ A ∧ 0 ≤ B ∧ Hid (HalfInv R1 V0 Y Y1 A.toNat B.toNat)) (fun a _ => (intOf a).toNat)
     case atStart =>
      exact ⟨q2, r2, rfl, rfl, by omega, by omega, hst2⟩
     case round =>
      obtain ⟨A, B, rfl, rfl, hA0, hB0, hinv⟩ := hrel
      have hle := int_le HG.out hA0 hB0 hinv.out
      have hY1b : (Y1 : Int) < 4294967296 := by have := HG.out.2.2.2.1; omega
      have hUb : (R1 : Int) < 18446744073709551616 := by have := HG.out.2.2.2.2.1; have := HG.out.lt; omega
      have hV1b : (V0 : Int) < 4294967296 := by have := HG.out.2.2.2.2.2; omega
      by_cases ht : 4294967296 ≤ A ∨ 4294967296 * B + (V0 : Int) < A * (Y0 : Int)
      · obtain ⟨m1, m2, m3⟩ := int_more HG.out hA0 hB0 hinv.out ht
        have M2 := (show Hid _ from m2); clear m2
        have M3 := (show Hid _ from m3); clear m3
        have w4 : IntKind.u64.wrap (A - 1) = A - 1 := wrap_id (by omega) (by omega)
        have w5 : IntKind.u64.wrap (B + (Y1 : Int)) = B + (Y1 : Int) := wrap_id (by omega) (by omega)
        by_cases hbr : 4294967296 ≤ B + (Y1 : Int)
        · have hq : A - 1 = (Q2 : Int) := by rw [HQ2.out]; exact int_break HG.out m1 M2.out M3.out hbr
          have W4 := (show Hid _ from hq); clear hq
          by_cases hA : 4294967296 ≤ A
          · clear ht
            go_wp2
            go_meet
            exact ⟨_, by rw [W4.out], rfl, rfl⟩
          · have hlt : 4294967296 * B + (V0 : Int) < A * (Y0 : Int) := ht.resolve_left hA
            have hp := int_prod HG.out hA0 hA
            have w1 : IntKind.u64.wrap (A * (Y0 : Int)) = A * (Y0 : Int) := wrap_id hp.1 hp.2
            have w2 : IntKind.u64.wrap (4294967296 * B) = 4294967296 * B := wrap_id (by omega) (by omega)
            have w3 : IntKind.u64.wrap (4294967296 * B + (V0 : Int)) = 4294967296 * B + (V0 : Int) := wrap_id (by omega) (by omega)
            clear ht hp
            go_wp2
            go_meet
            exact ⟨_, by rw [W4.out], rfl, rfl⟩
        · have hrel' : Hid (HalfInv R1 V0 Y Y1 (A - 1).toNat (B + (Y1 : Int)).toNat) := ⟨M2.out, M3.out, by omega⟩
          by_cases hA : 4294967296 ≤ A
          · clear ht
            go_wp2
            go_round
            case rel => exact ⟨A - 1, B + (Y1 : Int), rfl, rfl, by omega, by omega, hrel'⟩
            case measure => simp [intOf]; omega
          · have hlt : 4294967296 * B + (V0 : Int) < A * (Y0 : Int) := ht.resolve_left hA
            have hp := int_prod HG.out hA0 hA
            have w1 : IntKind.u64.wrap (A * (Y0 : Int)) = A * (Y0 : Int) := wrap_id hp.1 hp.2
            have w2 : IntKind.u64.wrap (4294967296 * B) = 4294967296 * B := wrap_id (by omega) (by omega)
            have w3 : IntKind.u64.wrap (4294967296 * B + (V0 : Int)) = 4294967296 * B + (V0 : Int) := wrap_id (by omega) (by omega)
            clear ht hp
            go_wp2
            go_round
            case rel => exact ⟨A - 1, B + (Y1 : Int), rfl, rfl, by omega, by omega, hrel'⟩
            case measure => simp [intOf]; omega
      · have hA : ¬ 4294967296 ≤ A := fun h => ht (Or.inl h)
        have hlt : ¬ 4294967296 * B + (V0 : Int) < A * (Y0 : Int) := fun h => ht (Or.inr h)
        have hq : A = (Q2 : Int) := by rw [HQ2.out]; exact int_done HG.out hA0 hB0 hinv.out hlt
        have W4 := (show Hid _ from hq); clear hq
        have hp := int_prod HG.out hA0 hA
        have w1 : IntKind.u64.wrap (A * (Y0 : Int)) = A * (Y0 : Int) := wrap_id hp.1 hp.2
        have w2 : IntKind.u64.wrap (4294967296 * B) = 4294967296 * B := wrap_id (by omega) (by omega)
        have w3 : IntKind.u64.wrap (4294967296 * B + (V0 : Int)) = 4294967296 * B + (V0 : Int) := wrap_id (by omega) (by omega)
        clear ht hp
        go_wp2
        go_meet
        exact ⟨B, by rw [← W4.out], rfl, rfl⟩
    case rest =>
      obtain ⟨bb, rfl, rfl, hw⟩ := hcut
      subst hw
      go_wp2
      go_ret2
      exact ⟨rfl, rfl⟩
def divQ (h l y : Nat) : Nat := (h * 18446744073709551616 + l) / y
def divR (h l y : Nat) : Nat := (h * 18446744073709551616 + l) % y
theorem half_rest (U V Y Q : Nat) (hY : 0 < Y) (hYQ : Y < 18446744073709551616) (hQ : Q = (U * 4294967296 + V) / Y) (R : Nat) (hR : R = (U * 4294967296 + V) % Y) :
    IntKind.u64.wrap (IntKind.u64.wrap (IntKind.u64.wrap ((U : Int) * 4294967296) + (V : Int)) - (((Q * Y % 18446744073709551616 : Nat)) : Int)) = (R : Int) := by
  have e := Nat.div_add_mod (U * 4294967296 + V) Y
  have l := Nat.mod_lt (U * 4294967296 + V) hY
  rw [← hQ, ← hR, Nat.mul_comm] at e
  rw [← hR] at l
  rw [IntKind.wrap_u64, IntKind.wrap_u64, IntKind.wrap_u64]
  clear hQ hR
  omega
theorem quo_rest (U Y1 : Nat) (hU : U < 18446744073709551616) : IntKind.u64.wrap ((U : Int) / (Y1 : Int)) = ((U / Y1 : Nat) : Int) ∧ IntKind.u64.wrap (((U / Y1 : Nat) : Int) * (Y1 : Int)) = ((U / Y1 * Y1 : Nat) : Int) ∧
    IntKind.u64.wrap ((U : Int) - ((U / Y1 * Y1 : Nat) : Int)) = ((U % Y1 : Nat) : Int) := by
  have e := Nat.div_add_mod U Y1
  have l : U / Y1 ≤ U := Nat.div_le_self _ _
  rw [Nat.mul_comm] at e
  refine ⟨?_, ?_, ?_⟩
  · rw [← Int.natCast_ediv]
    generalize U / Y1 = q at *
    exact wrap_id (by omega) (by omega)
  · rw [← Int.natCast_mul]
    exact wrap_id (by omega) (by omega)
  · rw [IntKind.wrap_u64]
    generalize U / Y1 * Y1 = a at *
    omega
theorem maskH (a : Nat) (ha : a < 18446744073709551616) : bits .and .u64 (a : Int) 4294967295 = ((a % 4294967296 : Nat) : Int) := maskN a ha
set_option maxHeartbeats 1000000 in
theorem div64_zero (l y : Nat) (hy : 0 < y) (w : World) :
    Calls Tryz.prog 208 #[.int .u64 0, .int .u64 (l : Int), .int .u64 (y : Int)] w fun e w' =>
      e = .returned (.tuple #[.int .u64 (IntKind.u64.wrap ((l : Int) / (y : Int))), .int .u64 ((l : Int) % (y : Int))]) ∧ Below w.heap.size w w' := by
  have t1 : ((y : Int) == 0) = false := by rw [beq_eq_false_iff_ne]; omega
  go_enter Tryz.func208, Tryz.ntmps208
  go_wp2
  go_region
  go_wp2
  go_ret2
  exact ⟨rfl, (Below.refl _ _).drew⟩
theorem wrap_nat (n : Nat) (h : n < 18446744073709551616) : IntKind.u64.wrap ((n : Nat) : Int) = (n : Int) := wrap_id (by omega) (by omega)
theorem pow_cast (a s : Nat) : ((a : Int) * 2 ^ s) = ((a * 2 ^ s : Nat) : Int) := by simp
theorem dpow_cast (a s : Nat) : ((a : Int) / 2 ^ s) = ((a / 2 ^ s : Nat) : Int) := by simp
theorem join_wrap (a b N : Nat) (ha : a < 4294967296) (hb : b < 4294967296) (h : a * 4294967296 + b = N) : IntKind.u64.wrap (IntKind.u64.wrap ((a : Int) * 4294967296) + (b : Int)) = (N : Int) := by
  rw [IntKind.wrap_u64, IntKind.wrap_u64]
  omega
/-- math/bits.Div64, where the quotient is a word: quotient and remainder. -/
theorem div64_any (h l y : Nat) (hy : h < y) (hY : y < 18446744073709551616) (hl : l < 18446744073709551616) (w : World) :
    Calls Tryz.prog 208 #[.int .u64 (h : Int), .int .u64 (l : Int), .int .u64 (y : Int)] w fun e w' =>
      e = .returned (.tuple #[.int .u64 ((divQ h l y : Nat) : Int), .int .u64 ((divR h l y : Nat) : Int)]) ∧ Below w.heap.size w w' := by
  by_cases hh : h = 0
  · subst hh
    refine (div64_zero l y hy w).mono ?_
    rintro e w' ⟨rfl, hb⟩
    refine ⟨?_, hb⟩
    have e1 : IntKind.u64.wrap ((l : Int) / (y : Int)) = ((divQ 0 l y : Nat) : Int) := by
      rw [← Int.natCast_ediv, wrap_nat _ (Nat.lt_of_le_of_lt (Nat.div_le_self _ _) hl)]; simp [divQ]
    have e2 : (l : Int) % (y : Int) = ((divR 0 l y : Nat) : Int) := by
      rw [← Int.natCast_emod]; simp [divR]
    rw [e1, e2]
  · obtain ⟨L, hL⟩ : ∃ L, L = Lib.bitLen y := ⟨_, rfl⟩
    have hL64 : L ≤ 64 := by rw [hL]; exact Lib.bitLen_le y 64 (by decide) hY
    have bt := bitLen_top y hY
    rw [← hL] at bt
    obtain ⟨bt1, bt2⟩ := bt
    obtain ⟨bt2, bt3⟩ := bt2 (by omega)
    have nt := norm_top y L bt1 bt2 bt3 hL64
    obtain ⟨s, hs⟩ : ∃ s, s = 64 - L := ⟨_, rfl⟩
    rw [← hs] at nt
    have dn := div_norm h l s (by omega) hl
    have hul := norm_lt h l y s _ _ dn.1 hy hl
    obtain ⟨Y, eY⟩ : ∃ Y, Y = y * 2 ^ s := ⟨_, rfl⟩
    obtain ⟨U, eU⟩ : ∃ U, U = h * 2 ^ s + l / 2 ^ (64 - s) := ⟨_, rfl⟩
    obtain ⟨V, eV⟩ : ∃ V, V = l * 2 ^ s % 18446744073709551616 := ⟨_, rfl⟩
    have hhs : h * 2 ^ s < 18446744073709551616 := by
      have := mul_le_right h y (2 ^ s) (by omega)
      generalize h * 2 ^ s = a at *; generalize y * 2 ^ s = b at *; omega
    have e4 : bits BinOp.or IntKind.u64 (IntKind.u64.wrap ((h : Int) * 2 ^ s)) ((l : Int) / 2 ^ (64 - s)) = (U : Int) := by
      rw [pow_cast, dpow_cast, wrap_nat _ hhs, bits_or_u64_nat _ _ hhs (Nat.lt_of_le_of_lt (Nat.div_le_self _ _) hl), eU]
      have t := Nat.two_pow_add_eq_or_of_lt dn.2 h
      rw [Nat.mul_comm] at t
      rw [← t]
    rw [← eY] at nt hul
    rw [← eU, ← eV] at dn
    rw [← eU] at hul
    have hVQ : V < 18446744073709551616 := by rw [eV]; exact Nat.mod_lt _ (by decide)
    have F : HalfF U (V / 4294967296) Y (Y / 4294967296) (Y % 4294967296) := by
      refine ⟨by omega, by omega, by omega, by omega, hul, by omega⟩
    have hR1 : (U * 4294967296 + V / 4294967296) % Y < Y := Nat.mod_lt _ (by omega)
    have G : HalfF ((U * 4294967296 + V / 4294967296) % Y) (V % 4294967296) Y (Y / 4294967296) (Y % 4294967296) := by
      refine ⟨F.1, F.2.1, F.2.2.1, F.2.2.2.1, hR1, by omega⟩
    have qa := quo_rest U (Y / 4294967296) (by omega)
    have qb := quo_rest ((U * 4294967296 + V / 4294967296) % Y) (Y / 4294967296) (Nat.lt_trans hR1 nt.1)
    have l1 := half_lt U (V / 4294967296) Y hul F.2.2.2.2.2
    have l2 := half_lt ((U * 4294967296 + V / 4294967296) % Y) (V % 4294967296) Y hR1 G.2.2.2.2.2
    have hst : HalfInv U (V / 4294967296) Y (Y / 4294967296) (((U / (Y / 4294967296) : Nat) : Int)).toNat (((U % (Y / 4294967296) : Nat) : Int)).toNat := by
      rw [Int.toNat_natCast, Int.toNat_natCast]; exact half_start U _ Y _ _ F.1 F.2.2.1 F.2.2.2.1 F.2.2.2.2.2
    have hst2 : HalfInv ((U * 4294967296 + V / 4294967296) % Y) (V % 4294967296) Y (Y / 4294967296) (((((U * 4294967296 + V / 4294967296) % Y) / (Y / 4294967296) : Nat) : Int)).toNat (((((U * 4294967296 + V / 4294967296) % Y) % (Y / 4294967296) : Nat) : Int)).toNat := by
      rw [Int.toNat_natCast, Int.toNat_natCast]; exact half_start _ _ Y _ _ F.1 F.2.2.1 F.2.2.2.1 G.2.2.2.2.2
    have W := div64_walk h l y s Y (Y / 4294967296) (Y % 4294967296) U V (V / 4294967296) (V % 4294967296) _ _ _ _ _ _ _ _ _ _ ((((U * 4294967296 + V / 4294967296) % Y) * 4294967296 + V % 4294967296) % Y) _ F hst rfl G hst2 rfl
      (by omega) hy hY hl (by omega) w (by rw [pow_cast, ← eY]; exact wrap_nat _ nt.1) (by omega) (maskH Y nt.1) F.2.2.1 e4 (by rw [pow_cast, wrapM, ← eV]) (by omega) (maskH V hVQ)
      qa.1 qa.2.1 qa.2.2 (by rw [← Int.natCast_mul, wrapM]) (half_rest U _ Y _ F.lt.2 nt.1 rfl _ rfl) qb.1 qb.2.1 qb.2.2 (by rw [← Int.natCast_mul, wrapM]) (half_rest _ _ Y _ F.lt.2 nt.1 rfl _ rfl)
      (fun w => by rw [hs, hL]; exact lz64_any y hY w)
    refine W.mono ?_
    rintro e w' ⟨rfl, rfl⟩
    refine ⟨?_, Below.refl _ _⟩
    have dj := div_join U (V / 4294967296) (V % 4294967296) Y F.lt.2
    have eVV : V / 4294967296 * 4294967296 + V % 4294967296 = V := by omega
    rw [eVV, dn.1, eY] at dj
    have ds := div_shift (h * 18446744073709551616 + l) y s
    rw [ds.1] at dj
    have c1 : IntKind.u64.wrap (IntKind.u64.wrap ((((U * 4294967296 + V / 4294967296) / Y : Nat) : Int) * 4294967296) + (((((U * 4294967296 + V / 4294967296) % Y) * 4294967296 + V % 4294967296) / Y : Nat) : Int)) = ((divQ h l y : Nat) : Int) := by
      rw [← eY] at dj
      exact join_wrap _ _ _ l1 l2 dj.1
    have c2 : (((((U * 4294967296 + V / 4294967296) % Y) * 4294967296 + V % 4294967296) % Y : Nat) : Int) / 2 ^ s = ((divR h l y : Nat) : Int) := by
      rw [dpow_cast]
      have d2 := dj.2
      rw [← eY] at d2
      rw [d2, eY, ds.2]; rfl
    rw [c1, c2]
end Go.Proofs.YtfbfenljfdnggaaGreatDoor
