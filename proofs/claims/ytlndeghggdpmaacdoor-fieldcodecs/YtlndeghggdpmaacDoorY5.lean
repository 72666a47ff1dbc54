/- What field.littleEndian does. -/
import Derived.Test.YtlndeghggdpmaacDoorY4
namespace Go.Proofs.YtlndeghggdpmaacDoor
open Go.RowKit

/-- The number of the first k bytes, the least first. -/
def leN (f : Nat → Nat) : Nat → Nat
  | 0 => 0
  | k + 1 => leN f k + f k * 256 ^ k
theorem leN_lt (f : Nat → Nat) : ∀ k, (∀ i, i < k → f i < 256) → leN f k < 256 ^ k
  | 0, _ => by simp [leN]
  | k + 1, h => by
    have h1 := leN_lt f k (fun i hi => h i (by omega))
    have h2 := h k (by omega)
    have h3 : f k * 256 ^ k ≤ 255 * 256 ^ k := Nat.mul_le_mul_right _ (by omega)
    unfold leN
    rw [Nat.pow_succ]
    omega
theorem leN_or (f : Nat → Nat) (k : Nat) (h : ∀ i, i < k → f i < 256) : leN f (k + 1) = 2 ^ (8 * k) * f k ||| leN f k := by
  have h1 := leN_lt f k h
  rw [show (256 : Nat) = 2 ^ 8 from by decide, ← Nat.pow_mul] at h1
  rw [← Nat.two_pow_add_eq_or_of_lt h1]
  show leN f k + f k * 256 ^ k = _
  rw [show (256 : Nat) = 2 ^ 8 from by decide, ← Nat.pow_mul, Nat.mul_comm (f k), Nat.add_comm]
theorem byte_high (x t : Nat) (hx : x < 256) (ht : 8 ≤ t) : x.testBit t = false :=
  Nat.testBit_lt_two_pow (Nat.lt_of_lt_of_le hx (by have := Nat.pow_le_pow_right (show 0 < 2 by decide) ht; simpa using this))
theorem leN_limb (f : Nat → Nat) (k j : Nat) (h : ∀ i, i < k + 1 → f i < 256) : limb j (leN f (k + 1)) = if j = k / 8 then limb j (leN f k) ||| (f k * 2 ^ (8 * (k % 8)) % 18446744073709551616) else limb j (leN f k) := by
  have hk := h k (by omega)
  rw [leN_or f k (fun i hi => h i (by omega))]
  by_cases e : j = k / 8
  · rw [if_pos e]
    apply Nat.eq_of_testBit_eq
    intro t
    rw [Nat.testBit_or, limb_test, limb_test, Nat.testBit_or, Nat.mul_comm (2 ^ (8 * k)), Nat.testBit_mul_two_pow, show (18446744073709551616 : Nat) = 2 ^ 64 from by decide, Nat.testBit_mod_two_pow, Nat.testBit_mul_two_pow]
    by_cases ht : t < 64
    · by_cases h2 : 8 * (k % 8) ≤ t
      · simp [ht, h2, show 8 * k ≤ 64 * j + t from by omega, show 64 * j + t - 8 * k = t - 8 * (k % 8) from by omega, Bool.or_comm]
      · simp [ht, h2, show ¬ 8 * k ≤ 64 * j + t from by omega]
    · simp [ht]
  · rw [if_neg e]
    apply Nat.eq_of_testBit_eq
    intro t
    rw [limb_test, limb_test, Nat.testBit_or, Nat.mul_comm (2 ^ (8 * k)), Nat.testBit_mul_two_pow]
    by_cases ht : t < 64
    · by_cases h2 : 8 * k ≤ 64 * j + t
      · have hb := byte_high (f k) (64 * j + t - 8 * k) hk (by omega)
        simp [ht, hb]
      · simp [ht, h2]
    · simp [ht]
theorem le_or_run (x b t : Nat) (hx : x < 18446744073709551616) : bits BinOp.or IntKind.u64 (x : Int) (IntKind.u64.wrap ((b : Int) * 2 ^ t)) = ((x ||| (b * 2 ^ t % 18446744073709551616) : Nat) : Int) := by
  have h1 : IntKind.u64.wrap ((b : Int) * 2 ^ t) = ((b * 2 ^ t % 18446744073709551616 : Nat) : Int) := by
    have e : (b : Int) * 2 ^ t = ((b * 2 ^ t : Nat) : Int) := by simp
    rw [e, IntKind.wrap_u64]
    generalize b * 2 ^ t = y
    omega
  rw [h1, bits_or_u64_nat _ _ hx (Nat.mod_lt _ (by decide))]

set_option maxHeartbeats 4000000 in
set_option maxRecDepth 20000 in
theorem le_some (a : Addr) (c : Nat) (f : Nat → Nat) (w : World) (hl : a.block < w.heap.size) (hf : ∀ i, i < 32 → f i < 256) (hc : ∀ i, i < 32 → w.cell? (a.add i) = some (.int .u8 ((f i : Nat) : Int))) :
    Calls Tryd.prog 31 #[.slice (some a) 32 c] w fun e w' => e = .returned (.agg #[.int .u64 ((limb 0 (leN f 32) : Nat) : Int), .int .u64 ((limb 1 (leN f 32) : Nat) : Int), .int .u64 ((limb 2 (leN f 32) : Nat) : Int), .int .u64 ((limb 3 (leN f 32) : Nat) : Int)]) ∧ Below w.heap.size w w' := by
  have HC := (show Hid _ from hc); have HF := (show Hid _ from hf)
  clear hc hf
  go_enter Tryd.func31, Tryd.ntmps31
  go_wp2
  go_loopw [8] (fun iv wr => ∃ k : Nat, iv = .int .i64 (k : Int) ∧ k ≤ 32 ∧ Below w.heap.size w wr ∧ Blk wr 24 w.heap.size (fun _ => 0) ∧ Blk wr 24 (w.heap.size + 1) (fun i => limb i (leN f k))) (fun iv _ => 32 - (intOf iv).toNat)
  case atStart =>
    refine ⟨0, rfl, by decide, ?_, (Blk.newAt _ _ _ (fun _ => 0) rfl).alloc _, (Blk.newAt _ _ _ (fun _ => 0) (by simp)).congr (fun i _ => limbz i)⟩
    repeat (first | with_reducible exact Below.refl _ _ | with_reducible refine Below.alloc ?_ (by first | omega | (simp; omega) | simp) _)
  case round =>
    obtain ⟨k, rfl, hk, hbr, bR, bE⟩ := hrel
    by_cases hlt : k < 32
    · have hL := fun j => leN_limb f k j (fun i hi => HF.out i (by omega))
      have HL := (show Hid _ from hL)
      have hv : limb (k / 8) (leN f k) ||| (f k * 2 ^ (8 * (k % 8)) % 18446744073709551616) = limb (k / 8) (leN f (k + 1)) := by rw [hL (k / 8), if_pos rfl]
      have hR := le_or_run (limb (k / 8) (leN f k)) (f k) (8 * (k % 8)) (limb_lt _ _)
      rw [hv] at hR
      clear hL hv
      have cb : wr.cell? (a.add k) = some (.int .u8 ((f k : Nat) : Int)) := by
        rw [hbr.cell (p := a.add k) (by unfold Addr.add; split <;> exact hl)]
        exact HC.out k hlt
      have hfk := HF.out k hlt
      obtain ⟨iv, eiv⟩ : ∃ iv : Int, iv = (k : Int) := ⟨_, rfl⟩
      rw [← eiv]
      have h0 : 0 ≤ iv := by omega
      have h32 : iv < 32 := by omega
      have hq : iv / 8 = ((k / 8 : Nat) : Int) := by omega
      have hr : iv % 8 = ((k % 8 : Nat) : Int) := by omega
      have ht : ((k % 8 : Nat) : Int) * 8 = ((8 * (k % 8) : Nat) : Int) := by omega
      have tN : iv.toNat = k := by omega
      have q4 : k / 8 < 4 := by omega
      have t64 : 8 * (k % 8) < 64 := by omega
      have cE := bE.cell (k / 8) q4; have fE := bE.frozen
      have HIV := (show Hid _ from eiv)
      have wv : IntKind.u64.wrap ((f k : Nat) : Int) = ((f k : Nat) : Int) := by rw [IntKind.wrap_u64]; omega
      obtain ⟨q, eq⟩ : ∃ q, q = k / 8 := ⟨_, rfl⟩
      obtain ⟨r, er⟩ : ∃ r, r = k % 8 := ⟨_, rfl⟩
      have EQ := (show Hid _ from eq)
      rw [← eq] at hR hq q4 cE
      rw [← er] at hR hr ht t64
      obtain ⟨t, et⟩ : ∃ t, t = 8 * r := ⟨_, rfl⟩
      rw [← et] at hR ht t64
      obtain ⟨X, eX⟩ : ∃ X : Int, X = ((limb q (leN f k) : Nat) : Int) := ⟨_, rfl⟩
      rw [← eX] at hR cE
      obtain ⟨B, eB⟩ : ∃ B : Int, B = ((f k : Nat) : Int) := ⟨_, rfl⟩
      rw [← eB] at hR cb wv
      have hB0 : 0 ≤ B := by omega
      have hB1 : B < 256 := by omega
      obtain ⟨Y, eY⟩ : ∃ Y, Y = limb q (leN f (k + 1)) := ⟨_, rfl⟩
      rw [← eY] at hR
      have EY := (show Hid _ from eY)
      clear eiv eq er et eX eB eY hfk
      go_wp2_with fail
      go_region
      go_wp2
      go_roundw
      case measure => rw [HIV.out]; simp [intOf]; omega
      case rel =>
        refine ⟨k + 1, by rw [HIV.out]; go_num, by omega, (hbr.setCell (by dsimp only; omega) _).drew, (bR.other (by dsimp only; omega) _).drew, Blk.drew ((bE.set q q4 Y).congr ?_)⟩
        intro j _
        rw [HL.out j, ← EQ.out]
        by_cases hj : j = q
        · subst hj; rw [if_pos rfl, if_pos rfl, EY.out, HL.out j, if_pos EQ.out]
        · rw [if_neg hj, if_neg hj]
    · have hki : ¬ (k : Int) < 32 := by omega
      have hk32 : k = 32 := by omega
      subst hk32
      clear hlt
      obtain ⟨o, eo⟩ : ∃ o, o = leN f 32 := ⟨_, rfl⟩
      rw [← eo] at bE
      have EO := (show Hid _ from eo)
      clear eo
      have cE := bE.cell; have cr := bR.cell; have fr := bR.frozen
      go_wp2
      refine bodyPost_ret (v := .agg #[.int .u64 ((limb 0 (o) : Nat) : Int), .int .u64 ((limb 1 (o) : Nat) : Int), .int .u64 ((limb 2 (o) : Nat) : Int), .int .u64 ((limb 3 (o) : Nat) : Int)]) (by simp [results, Tryd.results31, go_sem, cr]) rfl ⟨by rw [EO.out], ?_⟩
      repeat (first | with_reducible exact hbr | with_reducible refine Below.setCell ?_ (by first | omega | (simp; omega) | simp) _)

/-- field.littleEndian of 32 bytes. -/
theorem le_any (v : Value) (f : Nat → Nat) (w : World) (h : Bs w v 32 f) (hf : ∀ i, i < 32 → f i < 256) :
    Calls Tryd.prog 31 #[v] w fun e w' => e = .returned (.agg #[.int .u64 ((limb 0 (leN f 32) : Nat) : Int), .int .u64 ((limb 1 (leN f 32) : Nat) : Int), .int .u64 ((limb 2 (leN f 32) : Nat) : Int), .int .u64 ((limb 3 (leN f 32) : Nat) : Int)]) ∧ Below w.heap.size w w' := by
  rcases h with ⟨_, h0⟩ | ⟨a, c, rfl, _, _, hb, hc⟩
  · cases h0
  · exact le_some a c f w hb hf hc
theorem leN_M (f : Nat → Nat) (hf : ∀ i, i < 32 → f i < 256) : leN f 32 < 115792089237316195423570985008687907853269984665640564039457584007913129639936 := leN_lt f 32 hf
/-- What is encoded is the number again. -/
theorem leN_enc (x : Nat) : ∀ k, leN (encB x) k = x % 256 ^ k
  | 0 => by simp [leN, Nat.mod_one]
  | k + 1 => by
    show leN (encB x) k + encB x k * 256 ^ k = _
    rw [leN_enc x k]
    unfold encB
    rw [Nat.pow_succ, Nat.mod_mul, Nat.mul_comm (256 ^ k)]
theorem encB_leN (f : Nat → Nat) (n : Nat) (hf : ∀ i, i < n → f i < 256) : ∀ k, k < n → encB (leN f n) k = f k := by
  induction n with
  | zero => intro k hk; omega
  | succ n ih =>
    intro k hk
    have hlt := leN_lt f n (fun i hi => hf i (by omega))
    unfold encB
    show (leN f n + f n * 256 ^ n) / 256 ^ k % 256 = f k
    rcases Nat.lt_or_ge k n with h | h
    · rw [← ih (fun i hi => hf i (by omega)) k h]
      unfold encB
      obtain ⟨d, rfl⟩ : ∃ d, n = k + 1 + d := ⟨n - (k + 1), by omega⟩
      rw [show f (k + 1 + d) * 256 ^ (k + 1 + d) = 256 ^ k * (256 * (256 ^ d * f (k + 1 + d))) from by rw [Nat.pow_add, Nat.pow_succ, Nat.mul_comm (f (k + 1 + d)), Nat.mul_assoc, Nat.mul_assoc], Nat.add_mul_div_left _ _ (Nat.pow_pos (by decide)), Nat.add_mul_mod_self_left]
    · rw [show k = n from by omega, Nat.mul_comm (f n), Nat.add_mul_div_left _ _ (Nat.pow_pos (by decide)), Nat.div_eq_of_lt hlt, Nat.zero_add, Nat.mod_eq_of_lt (hf n (by omega))]

end Go.Proofs.YtlndeghggdpmaacDoor
