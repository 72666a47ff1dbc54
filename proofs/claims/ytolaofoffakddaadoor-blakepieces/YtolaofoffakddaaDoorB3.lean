/- Bytes as words of a block; what blake.wordsOf does. -/
import Derived.Test.YtolaofoffakddaaDoorB2
import Derived.Test.YtolaofoffakddaaDoorWB
import Derived.Test.YtolaofoffakddaaDoorNumE
import Derived.Laws.Rows
namespace Go.Proofs.YtolaofoffakddaaDoor
open Go.RowKit

theorem limbz (i : Nat) : limb i 0 = 0 := by unfold limb; rw [Nat.zero_div]
/-- The number of the first k bytes, the least first. -/
def leN (f : Nat → Nat) : Nat → Nat
  | 0 => 0
  | k + 1 => leN f k + f k * 256 ^ k
theorem leN_lt (f : Nat → Nat) : ∀ k, (∀ i, i < k → f i < 256) → leN f k < 256 ^ k
  | 0, _ => by simp [leN]
  | k + 1, h => by
    have h1 := leN_lt f k (fun i hi => h i (by omega))
    have h2 := h k (by omega)
    have h3 : f k * 256 ^ k ≤ 255 * 256 ^ k := Nat.mul_le_mul_right _ (by omega)
    unfold leN
    rw [Nat.pow_succ]
    omega
theorem leN_or (f : Nat → Nat) (k : Nat) (h : ∀ i, i < k → f i < 256) : leN f (k + 1) = 2 ^ (8 * k) * f k ||| leN f k := by
  have h1 := leN_lt f k h
  rw [show (256 : Nat) = 2 ^ 8 from by decide, ← Nat.pow_mul] at h1
  rw [← Nat.two_pow_add_eq_or_of_lt h1]
  show leN f k + f k * 256 ^ k = _
  rw [show (256 : Nat) = 2 ^ 8 from by decide, ← Nat.pow_mul, Nat.mul_comm (f k), Nat.add_comm]
theorem byte_high (x t : Nat) (hx : x < 256) (ht : 8 ≤ t) : x.testBit t = false :=
  Nat.testBit_lt_two_pow (Nat.lt_of_lt_of_le hx (by have := Nat.pow_le_pow_right (show 0 < 2 by decide) ht; simpa using this))
theorem leN_limb (f : Nat → Nat) (k j : Nat) (h : ∀ i, i < k + 1 → f i < 256) : limb j (leN f (k + 1)) = if j = k / 8 then limb j (leN f k) ||| (f k * 2 ^ (8 * (k % 8)) % 18446744073709551616) else limb j (leN f k) := by
  have hk := h k (by omega)
  rw [leN_or f k (fun i hi => h i (by omega))]
  by_cases e : j = k / 8
  · rw [if_pos e]
    apply Nat.eq_of_testBit_eq
    intro t
    rw [Nat.testBit_or, limb_test, limb_test, Nat.testBit_or, Nat.mul_comm (2 ^ (8 * k)), Nat.testBit_mul_two_pow, show (18446744073709551616 : Nat) = 2 ^ 64 from by decide, Nat.testBit_mod_two_pow, Nat.testBit_mul_two_pow]
    by_cases ht : t < 64
    · by_cases h2 : 8 * (k % 8) ≤ t
      · simp [ht, h2, show 8 * k ≤ 64 * j + t from by omega, show 64 * j + t - 8 * k = t - 8 * (k % 8) from by omega, Bool.or_comm]
      · simp [ht, h2, show ¬ 8 * k ≤ 64 * j + t from by omega]
    · simp [ht]
  · rw [if_neg e]
    apply Nat.eq_of_testBit_eq
    intro t
    rw [limb_test, limb_test, Nat.testBit_or, Nat.mul_comm (2 ^ (8 * k)), Nat.testBit_mul_two_pow]
    by_cases ht : t < 64
    · by_cases h2 : 8 * k ≤ 64 * j + t
      · have hb := byte_high (f k) (64 * j + t - 8 * k) hk (by omega)
        simp [ht, hb]
      · simp [ht, h2]
    · simp [ht]
theorem le_or_run (x b t : Nat) (hx : x < 18446744073709551616) : bits BinOp.or IntKind.u64 (x : Int) (IntKind.u64.wrap ((b : Int) * 2 ^ t)) = ((x ||| (b * 2 ^ t % 18446744073709551616) : Nat) : Int) := by
  have h1 : IntKind.u64.wrap ((b : Int) * 2 ^ t) = ((b * 2 ^ t % 18446744073709551616 : Nat) : Int) := by
    have e : (b : Int) * 2 ^ t = ((b * 2 ^ t : Nat) : Int) := by simp
    rw [e, IntKind.wrap_u64]
    generalize b * 2 ^ t = y
    omega
  rw [h1, bits_or_u64_nat _ _ hx (Nat.mod_lt _ (by decide))]


/-- Word i of the bytes f. -/
def wrd (f : Nat → Nat) (i : Nat) : Nat := limb i (leN f 128)
theorem wrd_lt (f : Nat → Nat) (i : Nat) : wrd f i < 18446744073709551616 := limb_lt _ _

/-- Block b holds the values g 0 to g (n - 1). -/
def BlkV (w : World) (t : TypeId) (b n : Nat) (g : Nat → Value) : Prop :=
  ∃ c : Array Value, w.heap[b]? = some (.cells c t) ∧ c.size = n ∧ ∀ i, i < n → c[i]? = some (g i)

theorem idx128 (c : Array Value) (k : Nat) (v : Value) (hk : k < 128) (hv : c[k]? = some v) (w : World) : (Instr.index 46 (.agg c) (.int .i64 (k : Int))).run Tryd.prog w = .ok v w := by
  unfold Instr.index
  have hsz : (sizeOf 5).run Tryd.prog w = .ok 1 w := by kernel_rfl
  have hp : (part 5 c k).run Tryd.prog w = .ok v w := by
    have ha : (isAgg 5).run Tryd.prog w = .ok false w := by kernel_rfl
    simp [part, ha, hv]
  simp [asIntOf, run_underlying Tryd.underlying46, hk, hsz, hp]

set_option maxHeartbeats 4000000 in
set_option maxRecDepth 20000 in
theorem wordsOf_any (c : Array Value) (f : Nat → Nat) (hs : c.size = 128) (hc : ∀ i, i < 128 → c[i]? = some (.int .u8 ((f i : Nat) : Int))) (hf : ∀ i, i < 128 → f i < 256) (w : World) :
    Calls Tryd.prog 20 #[.agg c] w fun e w' => e = .returned (.agg #[.int .u64 ((wrd f 0 : Nat) : Int), .int .u64 ((wrd f 1 : Nat) : Int), .int .u64 ((wrd f 2 : Nat) : Int), .int .u64 ((wrd f 3 : Nat) : Int), .int .u64 ((wrd f 4 : Nat) : Int), .int .u64 ((wrd f 5 : Nat) : Int), .int .u64 ((wrd f 6 : Nat) : Int), .int .u64 ((wrd f 7 : Nat) : Int), .int .u64 ((wrd f 8 : Nat) : Int), .int .u64 ((wrd f 9 : Nat) : Int), .int .u64 ((wrd f 10 : Nat) : Int), .int .u64 ((wrd f 11 : Nat) : Int), .int .u64 ((wrd f 12 : Nat) : Int), .int .u64 ((wrd f 13 : Nat) : Int), .int .u64 ((wrd f 14 : Nat) : Int), .int .u64 ((wrd f 15 : Nat) : Int)]) ∧ Below w.heap.size w w' := by
  have HC := (show Hid _ from hc); have HF := (show Hid _ from hf); have HS := (show Hid _ from hs)
  clear hc hf hs
  go_enter Tryd.func20, Tryd.ntmps20
  go_upto_region 2 with fail
  obtain ⟨w0, hw0⟩ : ∃ w0 : World, w0 = ((w.alloc (.cells c 46)).alloc (.cells #[.int .u64 0, .int .u64 0, .int .u64 0, .int .u64 0, .int .u64 0, .int .u64 0, .int .u64 0, .int .u64 0, .int .u64 0, .int .u64 0, .int .u64 0, .int .u64 0, .int .u64 0, .int .u64 0, .int .u64 0, .int .u64 0] 51)).alloc (.cells #[.int .u64 0, .int .u64 0, .int .u64 0, .int .u64 0, .int .u64 0, .int .u64 0, .int .u64 0, .int .u64 0, .int .u64 0, .int .u64 0, .int .u64 0, .int .u64 0, .int .u64 0, .int .u64 0, .int .u64 0, .int .u64 0] 51) := ⟨_, rfl⟩
  have bR0 : BlkN w0 51 (w.heap.size + 1) 16 (fun _ => 0) := by rw [hw0]; exact (BlkN.newAt _ _ _ 16 (fun _ => 0) _ (by simp) rfl (case16 rfl rfl rfl rfl rfl rfl rfl rfl rfl rfl rfl rfl rfl rfl rfl rfl)).alloc _
  have bM0 : BlkN w0 51 (w.heap.size + 1 + 1) 16 (fun _ => 0) := by rw [hw0]; exact BlkN.newAt _ _ _ 16 (fun _ => 0) _ (by simp) rfl (case16 rfl rfl rfl rfl rfl rfl rfl rfl rfl rfl rfl rfl rfl rfl rfl rfl)
  have hb0 : Below w.heap.size w w0 := by rw [hw0]; exact bAlloc (bAlloc ((Below.refl _ _).alloc (Nat.le_refl _) _) _) _
  have hg0 : w0.heap[w.heap.size]? = some (.cells c 46) := by
    rw [hw0, Below.heap_alloc _ _ _ (by simp; omega), Below.heap_alloc _ _ _ (by simp)]
    show (w.heap.push _)[w.heap.size]? = _
    simp
  rw [← hw0]
  clear hw0
  go_wp2_with (refine wpList_load_row rfl 46 _ rfl w.heap.size rfl 46 c _ _ hg0 Tryd.underlying46 rfl (by rw [HS.out]; kernel_rfl) ?_)
  go_loopw [7] (fun iv wr => ∃ k : Nat, iv = .int .i64 (k : Int) ∧ k ≤ 128 ∧ Below w.heap.size w wr ∧ BlkN wr 51 (w.heap.size + 1) 16 (fun _ => 0) ∧ BlkN wr 51 (w.heap.size + 1 + 1) 16 (fun i => limb i (leN f k))) (fun iv _ => 128 - (intOf iv).toNat)
  case atStart => exact ⟨0, rfl, by decide, hb0, bR0, bM0.congr (fun i _ => limbz i)⟩
  case round =>
    obtain ⟨k, rfl, hk, hbr, bR, bE⟩ := hrel
    by_cases hlt : k < 128
    · have hL := fun j => leN_limb f k j (fun i hi => HF.out i (by omega))
      have HL := (show Hid _ from hL)
      have hv : limb (k / 8) (leN f k) ||| (f k * 2 ^ (8 * (k % 8)) % 18446744073709551616) = limb (k / 8) (leN f (k + 1)) := by rw [hL (k / 8), if_pos rfl]
      have hR := le_or_run (limb (k / 8) (leN f k)) (f k) (8 * (k % 8)) (limb_lt _ _)
      rw [hv] at hR
      clear hL hv
      have hfk := HF.out k hlt
      have cb := fun w => idx128 c k _ hlt (HC.out k hlt) w
      obtain ⟨iv, eiv⟩ : ∃ iv : Int, iv = (k : Int) := ⟨_, rfl⟩
      rw [← eiv] at cb ⊢
      have h0 : 0 ≤ iv := by omega
      have h32 : iv < 128 := by omega
      have hq : iv / 8 = ((k / 8 : Nat) : Int) := by omega
      have hr : iv % 8 = ((k % 8 : Nat) : Int) := by omega
      have ht : ((k % 8 : Nat) : Int) * 8 = ((8 * (k % 8) : Nat) : Int) := by omega
      have tN : iv.toNat = k := by omega
      have q4 : k / 8 < 16 := by omega
      have t64 : 8 * (k % 8) < 64 := by omega
      have cE := bE.cell (k / 8) q4; have fE := bE.frozen
      have HIV := (show Hid _ from eiv)
      have wv : IntKind.u64.wrap ((f k : Nat) : Int) = ((f k : Nat) : Int) := by rw [IntKind.wrap_u64]; omega
      obtain ⟨q, eq⟩ : ∃ q, q = k / 8 := ⟨_, rfl⟩
      obtain ⟨r, er⟩ : ∃ r, r = k % 8 := ⟨_, rfl⟩
      have EQ := (show Hid _ from eq)
      rw [← eq] at hR hq q4 cE
      rw [← er] at hR hr ht t64
      obtain ⟨t, et⟩ : ∃ t, t = 8 * r := ⟨_, rfl⟩
      rw [← et] at hR ht t64
      obtain ⟨X, eX⟩ : ∃ X : Int, X = ((limb q (leN f k) : Nat) : Int) := ⟨_, rfl⟩
      rw [← eX] at hR cE
      obtain ⟨B, eB⟩ : ∃ B : Int, B = ((f k : Nat) : Int) := ⟨_, rfl⟩
      rw [← eB] at hR cb wv
      have hB0 : 0 ≤ B := by omega
      have hB1 : B < 256 := by omega
      obtain ⟨Y, eY⟩ : ∃ Y, Y = limb q (leN f (k + 1)) := ⟨_, rfl⟩
      rw [← eY] at hR
      have EY := (show Hid _ from eY)
      clear eiv eq er et eX eB eY hfk hb0 bR0 bM0 hg0
      go_wp2_with fail
      go_region
      go_wp2
      go_roundw
      case measure => rw [HIV.out]; simp [intOf]; omega
      case rel =>
        refine ⟨k + 1, by rw [HIV.out]; go_num, by omega, (hbr.setCell (by dsimp only; omega) _).drew, (bR.other (by dsimp only; omega) _).drew, BlkN.drew ((bE.set q q4 Y).congr ?_)⟩
        intro j _
        rw [HL.out j, ← EQ.out]
        by_cases hj : j = q
        · subst hj; rw [if_pos rfl, if_pos rfl, EY.out, HL.out j, if_pos EQ.out]
        · rw [if_neg hj, if_neg hj]
    · have hki : ¬ (k : Int) < 128 := by omega
      have hk32 : k = 128 := by omega
      subst hk32
      clear hlt hb0 bR0 bM0 hg0
      have bE := show BlkN wr 51 (w.heap.size + 1 + 1) 16 (wrd f) from bE
      have cE := bE.cell; have cr := bR.cell; have fr := bR.frozen
      go_wp2
      refine bodyPost_ret (v := .agg #[.int .u64 ((wrd f 0 : Nat) : Int), .int .u64 ((wrd f 1 : Nat) : Int), .int .u64 ((wrd f 2 : Nat) : Int), .int .u64 ((wrd f 3 : Nat) : Int), .int .u64 ((wrd f 4 : Nat) : Int), .int .u64 ((wrd f 5 : Nat) : Int), .int .u64 ((wrd f 6 : Nat) : Int), .int .u64 ((wrd f 7 : Nat) : Int), .int .u64 ((wrd f 8 : Nat) : Int), .int .u64 ((wrd f 9 : Nat) : Int), .int .u64 ((wrd f 10 : Nat) : Int), .int .u64 ((wrd f 11 : Nat) : Int), .int .u64 ((wrd f 12 : Nat) : Int), .int .u64 ((wrd f 13 : Nat) : Int), .int .u64 ((wrd f 14 : Nat) : Int), .int .u64 ((wrd f 15 : Nat) : Int)]) (by simp [results, Tryd.results20, go_sem, cr]) rfl ⟨rfl, ?_⟩
      repeat (first | with_reducible exact hbr | with_reducible refine Below.setCell ?_ (by first | omega | (simp; omega) | simp) _)

end Go.Proofs.YtolaofoffakddaaDoor
