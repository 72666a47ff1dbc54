/- field.shiftDown by any number of bits below 64; field.unityRoot, field.Root. -/
import Derived.Test.YtaeembdabnomaaaGreatDoorT0
import Derived.Deep.RegionWith
import Derived.Test.YtaeembdabnomaaaGreatDoorK5
import Derived.Laws.Rows
namespace Go.Proofs.YtaeembdabnomaaaGreatDoor
open Go.RowKit

theorem limb_down (X n i : Nat) (hn : n < 64) : (limb i X / 2 ^ n) ||| (limb (i + 1) X * 2 ^ (64 - n) % 18446744073709551616) = limb i (X / 2 ^ n) := by
  apply Nat.eq_of_testBit_eq
  intro t
  rw [Nat.testBit_or, Nat.testBit_div_two_pow, limb_test, limb_test, show (18446744073709551616 : Nat) = 2 ^ 64 from by decide, Nat.testBit_mod_two_pow, Nat.testBit_mul_two_pow, limb_test, Nat.testBit_div_two_pow]
  by_cases h1 : t < 64
  · by_cases h2 : t + n < 64
    · have h3 : ¬ 64 - n ≤ t := by omega
      simp [h1, h2, h3]
      congr 1; omega
    · have h3 : 64 - n ≤ t := by omega
      simp [h1, h2, h3, show t - (64 - n) < 64 from by omega]
      congr 1; omega
  · simp [h1, show ¬ t + n < 64 from by omega]
theorem down_run (x y n : Nat) (hx : x < 18446744073709551616) : bits BinOp.or IntKind.u64 ((x : Int) / 2 ^ n) (IntKind.u64.wrap ((y : Int) * 2 ^ (64 - n))) = (((x / 2 ^ n) ||| (y * 2 ^ (64 - n) % 18446744073709551616) : Nat) : Int) := by
  have h1 : IntKind.u64.wrap ((y : Int) * 2 ^ (64 - n)) = ((y * 2 ^ (64 - n) % 18446744073709551616 : Nat) : Int) := by
    have e : (y : Int) * 2 ^ (64 - n) = ((y * 2 ^ (64 - n) : Nat) : Int) := by simp
    rw [e, IntKind.wrap_u64]
    generalize y * 2 ^ (64 - n) = t
    omega
  have h2 : (x : Int) / 2 ^ n = ((x / 2 ^ n : Nat) : Int) := by simp
  rw [h1, h2, bits_or_u64_nat _ _ (Nat.lt_of_le_of_lt (Nat.div_le_self _ _) hx) (Nat.mod_lt _ (by decide))]
theorem limb4_zero (X : Nat) (hX : X < 115792089237316195423570985008687907853269984665640564039457584007913129639936) : limb 4 X = 0 := by
  unfold limb; rw [show (18446744073709551616 : Nat) ^ 4 = 115792089237316195423570985008687907853269984665640564039457584007913129639936 from by decide, Nat.div_eq_of_lt hX]

set_option maxHeartbeats 4000000 in
set_option maxRecDepth 20000 in
theorem shiftDown_any (X n : Nat) (hn : n < 64) (hX : X < 115792089237316195423570985008687907853269984665640564039457584007913129639936) (w : World) :
    Calls Tryz.prog 117 #[.agg #[.int .u64 ((limb 0 (X) : Nat) : Int), .int .u64 ((limb 1 (X) : Nat) : Int), .int .u64 ((limb 2 (X) : Nat) : Int), .int .u64 ((limb 3 (X) : Nat) : Int)], .int .i64 (n : Int)] w fun e w' => e = .returned (.agg #[.int .u64 ((limb 0 (X / 2 ^ n) : Nat) : Int), .int .u64 ((limb 1 (X / 2 ^ n) : Nat) : Int), .int .u64 ((limb 2 (X / 2 ^ n) : Nat) : Int), .int .u64 ((limb 3 (X / 2 ^ n) : Nat) : Int)]) ∧ Below w.heap.size w w' := by
  have e0 := down_run (limb 0 X) (limb 1 X) n (limb_lt _ _)
  have e1 := down_run (limb 1 X) (limb 2 X) n (limb_lt _ _)
  have e2 := down_run (limb 2 X) (limb 3 X) n (limb_lt _ _)
  have e3 : ((limb 3 X : Nat) : Int) / 2 ^ n = ((limb 3 X / 2 ^ n : Nat) : Int) := by simp
  have z3 := limb_down X n 3 hn
  rw [limb4_zero X hX, Nat.zero_mul, Nat.zero_mod, Nat.or_zero] at z3
  rw [limb_down X n 0 hn] at e0
  rw [limb_down X n 1 hn] at e1
  rw [limb_down X n 2 hn] at e2
  rw [z3] at e3
  clear z3
  have hu : (64 : Int) - (n : Int) = ((64 - n : Nat) : Int) := by omega
  obtain ⟨u, eu⟩ : ∃ u, u = 64 - n := ⟨_, rfl⟩
  rw [← eu] at e0 e1 e2 hu
  clear eu
  obtain ⟨Y, eY⟩ : ∃ Y, Y = X / 2 ^ n := ⟨_, rfl⟩
  rw [← eY] at e0 e1 e2 e3 ⊢
  clear eY
  go_enter Tryz.func117, Tryz.ntmps117
  go_upto_region 2 with fail
  obtain ⟨w0, hw0⟩ : ∃ w0 : World, w0 = (w.alloc (.cells #[.int .u64 ((limb 0 (X) : Nat) : Int), .int .u64 ((limb 1 (X) : Nat) : Int), .int .u64 ((limb 2 (X) : Nat) : Int), .int .u64 ((limb 3 (X) : Nat) : Int)] 63)).alloc (.cells #[.int .u64 0, .int .u64 0, .int .u64 0, .int .u64 0] 63) := ⟨_, rfl⟩
  have bx0 : Blk w0 63 w.heap.size (fun i => limb i X) := by rw [hw0]; exact (Blk.newAt _ _ _ (fun i => limb i X) rfl).alloc _
  have br0 : Blk w0 63 (w.heap.size + 1) (fun _ => 0) := by rw [hw0]; exact Blk.newAt _ _ _ (fun _ => 0) (by simp)
  have hb0 : Below w.heap.size w w0 := by
    rw [hw0]
    repeat (first | with_reducible exact Below.refl _ _ | with_reducible refine Below.alloc ?_ (by first | omega | (simp; omega) | simp) _)
  rw [← hw0]
  clear hw0
  have cr := br0.cell; have fr := br0.frozen; have lr := br0.lt
  go_wp2_with fail
  go_region_held3 (fun w' => ∀ i, i < 4 → w'.cell? ⟨w.heap.size, i, none⟩ = some (.int .u64 ((limb i X : Nat) : Int)))
    (first | with_reducible exact bx0.drew.cell | with_reducible exact far1 _ _ _ _ (by omega) bx0.drew.cell | with_reducible exact far1 _ _ _ _ (by omega) bx0.cell | exact far1 _ _ _ _ (by omega) bx0.drew.cell)
    (fail)
  go_wp2
  refine bodyPost_ret (v := .agg #[.int .u64 ((limb 0 (Y) : Nat) : Int), .int .u64 ((limb 1 (Y) : Nat) : Int), .int .u64 ((limb 2 (Y) : Nat) : Int), .int .u64 ((limb 3 (Y) : Nat) : Int)]) (by simp [results, Tryz.results117, go_sem, cr]) rfl ⟨rfl, ?_⟩
  repeat (first | with_reducible exact hb0 | with_reducible refine Below.drew ?_ | with_reducible refine Below.setCell ?_ (by first | omega | (simp; omega) | simp) _)

set_option maxHeartbeats 4000000 in
set_option maxRecDepth 20000 in
/-- field.unityRoot. -/
theorem unityRoot_any (m n : Nat) (hG : GoodMod m) (h5 : 5 < m) (hn : n < 64) (w : World) (hg : Glob w) :
    Calls Tryz.prog 126 #[.agg #[.int .u64 ((limb 0 (m) : Nat) : Int), .int .u64 ((limb 1 (m) : Nat) : Int), .int .u64 ((limb 2 (m) : Nat) : Int), .int .u64 ((limb 3 (m) : Nat) : Int)], .int .i64 (n : Int)] w fun e w' => e = .returned (.agg #[.int .u64 ((limb 0 (powM m 5 ((m - 1) / 2 ^ n)) : Nat) : Int), .int .u64 ((limb 1 (powM m 5 ((m - 1) / 2 ^ n)) : Nat) : Int), .int .u64 ((limb 2 (powM m 5 ((m - 1) / 2 ^ n)) : Nat) : Int), .int .u64 ((limb 3 (powM m 5 ((m - 1) / 2 ^ n)) : Nat) : Int)]) ∧ Below w.heap.size w w' := by
  have hgl := hG.lt
  have DF : ∀ w, Calls Tryz.prog 68 #[.agg #[.int .u64 ((limb 0 (m) : Nat) : Int), .int .u64 ((limb 1 (m) : Nat) : Int), .int .u64 ((limb 2 (m) : Nat) : Int), .int .u64 ((limb 3 (m) : Nat) : Int)], .agg #[.int .u64 0, .int .u64 0, .int .u64 0, .int .u64 0], .agg #[.int .u64 ((limb 0 (1) : Nat) : Int), .int .u64 ((limb 1 (1) : Nat) : Int), .int .u64 ((limb 2 (1) : Nat) : Int), .int .u64 ((limb 3 (1) : Nat) : Int)]] w fun e w' => e = .returned (.agg #[.int .u64 ((limb 0 (m - 1) : Nat) : Int), .int .u64 ((limb 1 (m - 1) : Nat) : Int), .int .u64 ((limb 2 (m - 1) : Nat) : Int), .int .u64 ((limb 3 (m - 1) : Nat) : Int)]) ∧ Below w.heap.size w w' := fun w => by
    have h := difference_any m 0 1 hgl.2.2 (by decide) (by decide) (by omega) w
    rw [show diffN m 0 1 = m - 1 from by unfold diffN; rw [if_pos (by decide)]; omega, limbz, limbz, limbz, limbz] at h
    exact h
  have SD := fun w => shiftDown_any (m - 1) n hn (by omega) w
  have le : (m - 1) / 2 ^ n < 115792089237316195423570985008687907853269984665640564039457584007913129639936 := Nat.lt_of_le_of_lt (Nat.div_le_self _ _) (by omega)
  have PW : ∀ w, Glob w → Calls Tryz.prog 125 #[.agg #[.int .u64 ((limb 0 (m) : Nat) : Int), .int .u64 ((limb 1 (m) : Nat) : Int), .int .u64 ((limb 2 (m) : Nat) : Int), .int .u64 ((limb 3 (m) : Nat) : Int)], .agg #[.int .u64 5, .int .u64 0, .int .u64 0, .int .u64 0], .agg #[.int .u64 ((limb 0 ((m - 1) / 2 ^ n) : Nat) : Int), .int .u64 ((limb 1 ((m - 1) / 2 ^ n) : Nat) : Int), .int .u64 ((limb 2 ((m - 1) / 2 ^ n) : Nat) : Int), .int .u64 ((limb 3 ((m - 1) / 2 ^ n) : Nat) : Int)]] w fun e w' => e = .returned (.agg #[.int .u64 ((limb 0 (powM m 5 ((m - 1) / 2 ^ n)) : Nat) : Int), .int .u64 ((limb 1 (powM m 5 ((m - 1) / 2 ^ n)) : Nat) : Int), .int .u64 ((limb 2 (powM m 5 ((m - 1) / 2 ^ n)) : Nat) : Int), .int .u64 ((limb 3 (powM m 5 ((m - 1) / 2 ^ n)) : Nat) : Int)]) ∧ Below w.heap.size w w' := fun w hg => by
    have h := power_any m 5 ((m - 1) / 2 ^ n) hG (by omega) h5 le w hg
    rw [word_agg 5 (by decide)] at h
    exact h
  obtain ⟨d, ed⟩ : ∃ d, d = m - 1 := ⟨_, rfl⟩
  rw [← ed] at DF SD PW ⊢
  obtain ⟨t, et⟩ : ∃ t, t = d / 2 ^ n := ⟨_, rfl⟩
  rw [← et] at SD PW ⊢
  obtain ⟨r, er⟩ : ∃ r, r = powM m 5 t := ⟨_, rfl⟩
  rw [← er] at PW ⊢
  clear ed et er le hgl hG h5
  have c1 := hg.2.2
  have lg := hg.1
  go_enter Tryz.func126, Tryz.ntmps126
  go_wp2_with fail
  obtain ⟨w0, hw0⟩ : ∃ w0 : World, w0 = (w.alloc (.cells #[.int .u64 ((limb 0 (m) : Nat) : Int), .int .u64 ((limb 1 (m) : Nat) : Int), .int .u64 ((limb 2 (m) : Nat) : Int), .int .u64 ((limb 3 (m) : Nat) : Int)] 63)).alloc (.cells #[.int .u64 0, .int .u64 0, .int .u64 0, .int .u64 0] 63) := ⟨_, rfl⟩
  have bm0 : Blk w0 63 w.heap.size (fun i => limb i m) := by rw [hw0]; exact (Blk.newAt _ _ _ (fun i => limb i m) rfl).alloc _
  have br0 : Blk w0 63 (w.heap.size + 1) (fun _ => 0) := by rw [hw0]; exact Blk.newAt _ _ _ (fun _ => 0) (by simp)
  have hg0 : Glob w0 := by rw [hw0]; exact (hg.alloc _).alloc _
  have hb0 : Below w.heap.size w w0 := by
    rw [hw0]
    repeat (first | with_reducible exact Below.refl _ _ | with_reducible refine Below.alloc ?_ (by first | omega | (simp; omega) | simp) _)
  rw [← hw0]
  clear hw0 hg c1
  have co : ∀ i, i < 4 → w0.drew.cell? ⟨2, i, none⟩ = some (.int .u64 ((limb i 1 : Nat) : Int)) := hg0.2.2
  have hg0d := hg0.drew
  clear hg0
  go_region_held3 (fun w' => (∀ i, i < 4 → w'.cell? ⟨w.heap.size, i, none⟩ = some (.int .u64 ((limb i m : Nat) : Int))) ∧ (∀ i, i < 4 → w'.cell? ⟨2, i, none⟩ = some (.int .u64 ((limb i 1 : Nat) : Int))))
    (first | with_reducible exact far2 _ _ _ _ (by omega) (by omega) (by with_reducible assumption) | with_reducible exact hold2 hb3 (by with_reducible assumption) | with_reducible exact hold2 hb2 (by with_reducible assumption) | with_reducible exact hold2 hb1 (by with_reducible assumption) | with_reducible exact ⟨bm0.drew.cell, co⟩)
    (first | (go_at_call 68; with_reducible refine (DF _).mono ?_; rintro e w1 ⟨rfl, hb1⟩; have hg1 := hg0d.below hb1) | (go_at_call 117; with_reducible refine (SD _).mono ?_; rintro e w2 ⟨rfl, hb2⟩; have hg2 := hg1.below hb2) | (go_at_call 125; with_reducible refine (PW _ hg2).mono ?_; rintro e w3 ⟨rfl, hb3⟩; have br3 := ((br0.drew.belowAll hb1).belowAll hb2).belowAll hb3; have cr := br3.cell; have fr := br3.frozen) | fail)
  all_goals
    have hbw3 := bStep (bStep (bStep hb0.drew hb1) hb2) hb3
    have lr3 := br3.lt
    go_wp2
    refine bodyPost_ret (v := .agg #[.int .u64 ((limb 0 (r) : Nat) : Int), .int .u64 ((limb 1 (r) : Nat) : Int), .int .u64 ((limb 2 (r) : Nat) : Int), .int .u64 ((limb 3 (r) : Nat) : Int)]) (by simp [results, Tryz.results126, go_sem, cr]) rfl ⟨rfl, ?_⟩
    repeat (first | with_reducible exact hbw3 | with_reducible refine Below.setCell ?_ (by first | omega | (simp; omega) | simp) _)

/-- The element of the order 2^k that field.Root answers. -/
def rootP (s k : Nat) : Nat := expP s 5 ((modN s - 1) / 2 ^ k)
theorem rootP_lt (s k : Nat) : rootP s k < modN s := expP_lt _ _ _
theorem modN_5 (s : Nat) : 5 < modN s := by
  match s with
  | 0 => decide
  | 1 => decide
  | 2 => show 5 < 28948022309329048855892746252171976963363056481941560715954676764349967630337; decide
  | _ + 3 => show 5 < 28948022309329048855892746252171976963363056481941647379679742748393362948097; decide
theorem adicN_le (s : Nat) : adicN s ≤ 32 := by
  match s with
  | 0 => decide
  | 1 => decide
  | _ + 2 => exact Nat.le_refl _

end Go.Proofs.YtaeembdabnomaaaGreatDoor

/- Plain arithmetic of square roots modulo a prime: repeated squares, the two roots of 1, what both ways of taking a root keep. No program is named here. -/
namespace Go.Proofs.YtaeembdabnomaaaGreatDoor

/-- a squared k times. -/
def sqs (m a k : Nat) : Nat := powM m a (2 ^ k)
theorem sqs_lt (m a k : Nat) (h : 0 < m) : sqs m a k < m := powM_lt _ _ _ h
theorem sqs_zero (m a : Nat) (h : a < m) : sqs m a 0 = a := by unfold sqs powM; rw [Nat.pow_zero, Nat.pow_one, Nat.mod_eq_of_lt h]
theorem sqs_succ (m a k : Nat) : sqs m a (k + 1) = sqs m a k * sqs m a k % m := by
  unfold sqs; rw [powM_two, Nat.pow_succ, Nat.mul_comm]
theorem powM_pow (m a j k : Nat) : powM m (powM m a j) k = powM m a (j * k) := by
  unfold powM; rw [← Nat.pow_mod, ← Nat.pow_mul]
theorem powM_mul (m a b k : Nat) : powM m (a * b % m) k = powM m a k * powM m b k % m := by
  unfold powM; rw [← Nat.pow_mod, ← Nat.mul_mod, Nat.mul_pow]
theorem powM_add (m a j k : Nat) : powM m a j * powM m a k % m = powM m a (j + k) := by
  unfold powM; rw [← Nat.mul_mod, ← Nat.pow_add]
theorem sqs_head (m a k : Nat) : sqs m a (k + 1) = sqs m (a * a % m) k := by
  unfold sqs; rw [powM_mul, powM_two, Nat.pow_succ, Nat.mul_comm]
theorem sqs_mul (m a b k : Nat) : sqs m (a * b % m) k = sqs m a k * sqs m b k % m := powM_mul _ _ _ _
theorem sqs_sqs (m a j k : Nat) : sqs m (sqs m a j) k = sqs m a (j + k) := by
  unfold sqs; rw [powM_pow, ← Nat.pow_add]
theorem sqs_pow (m a n k : Nat) : sqs m (powM m a n) k = powM m a (n * 2 ^ k) := by unfold sqs; rw [powM_pow]
theorem sqs_one (m k : Nat) (h : 1 < m) : sqs m 1 k = 1 := by unfold sqs powM; rw [Nat.one_pow, Nat.mod_eq_of_lt h]
theorem neg_sq (m : Nat) (h : 1 < m) : (m - 1) * (m - 1) % m = 1 := by
  have e : (m - 1) * (m - 1) = 1 + m * (m - 2) := by
    obtain ⟨n, rfl⟩ : ∃ n, m = n + 2 := ⟨m - 2, by omega⟩
    show (n + 1) * (n + 1) = 1 + (n + 2) * n
    rw [Nat.add_mul, Nat.mul_add, Nat.add_mul]
    omega
  rw [e, Nat.add_mul_mod_self_left, Nat.mod_eq_of_lt h]
/-- Two elements with the same square are the same, or make the modulus together. -/
theorem same_square {m x y : Nat} (hp : IsPrime m) (hx : x < m) (hy : y < m) (h : x * x % m = y * y % m) : x = y ∨ x + y = m ∨ (x = 0 ∧ y = 0) := by
  have key : ∀ x y : Nat, x ≤ y → x < m → y < m → x * x % m = y * y % m → x = y ∨ x + y = m ∨ (x = 0 ∧ y = 0) := by
    intro x y hle hx hy h
    have hd := same_rest (Nat.mul_le_mul hle hle) h
    have e : y * y - x * x = (y + x) * (y - x) := by
      obtain ⟨d, rfl⟩ := Nat.exists_eq_add_of_le hle
      rw [show x + d - x = d from by omega, Nat.add_mul x d, Nat.mul_add, Nat.mul_add, Nat.add_mul, Nat.add_mul, Nat.mul_comm d x]
      omega
    rw [e] at hd
    rcases hp.dvd_mul hd with h1 | h1
    · rcases Nat.eq_zero_or_pos (y + x) with h0 | h0
      · right; right; omega
      · obtain ⟨c, hc⟩ := h1
        have hc1 : c = 1 := by
          rcases Nat.lt_or_ge c 2 with h2 | h2
          · rcases Nat.eq_zero_or_pos c with h3 | h3
            · subst h3; omega
            · omega
          · have := Nat.mul_le_mul_left m h2
            omega
        subst hc1
        right; left; omega
    · rcases Nat.eq_zero_or_pos (y - x) with h0 | h0
      · left; omega
      · have := Nat.le_of_dvd h0 h1
        omega
  rcases Nat.le_total x y with hle | hle
  · exact key x y hle hx hy h
  · rcases key y x hle hy hx h.symm with h1 | h1 | h1
    · exact Or.inl h1.symm
    · exact Or.inr (Or.inl (by omega))
    · exact Or.inr (Or.inr ⟨h1.2, h1.1⟩)
theorem root_one {m y : Nat} (hp : IsPrime m) (hy : y < m) (h : y * y % m = 1) : y = 1 ∨ y = m - 1 := by
  have h2 := hp.1
  rcases same_square hp hy (show 1 < m by omega) (by rw [h, Nat.one_mul, Nat.mod_eq_of_lt (by omega)]) with h1 | h1 | h1
  · exact Or.inl h1
  · exact Or.inr (by omega)
  · omega
theorem even_same {m x y : Nat} (hp : IsPrime m) (hod : m % 2 = 1) (hx : x < m) (hy : y < m) (ex : x % 2 = 0) (ey : y % 2 = 0) (h : x * x % m = y * y % m) : x = y := by
  rcases same_square hp hx hy h with h1 | h1 | h1
  · exact h1
  · omega
  · omega
/-- The even one of an element and its opposite. -/
def evenR (m x : Nat) : Nat := if x % 2 = 0 then x else m - x
theorem evenR_sq {m x : Nat} (hx : x < m) : evenR m x * evenR m x % m = x * x % m := by
  unfold evenR
  split
  · rfl
  · obtain ⟨d, hd⟩ : ∃ d, m = x + d := ⟨m - x, by omega⟩
    subst hd
    rw [show x + d - x = d from by omega]
    have e : d * d + (x + d) * x = x * x + (x + d) * d := by rw [Nat.add_mul, Nat.add_mul, Nat.mul_comm d x]; omega
    have h := congrArg (· % (x + d)) e
    simpa [Nat.add_mul_mod_self_left] using h
theorem evenR_even {m x : Nat} (hod : m % 2 = 1) (hx : x < m) : evenR m x % 2 = 0 ∧ (x ≠ 0 → evenR m x < m) := by
  unfold evenR
  split
  · exact ⟨by assumption, fun _ => hx⟩
  · exact ⟨by omega, fun h => by omega⟩
theorem mul_assoc_mod (m a b c : Nat) : a * b % m * c % m = a * (b * c % m) % m := by
  rw [Nat.mod_mul_mod, Nat.mul_mod_mod, Nat.mul_assoc]
theorem mul_sq (m a b : Nat) : (a * b % m) * (a * b % m) % m = (a * a % m) * (b * b % m) % m := by
  rw [← Nat.mul_mod, ← Nat.mul_mod]
  congr 1
  rw [Nat.mul_assoc, Nat.mul_assoc, Nat.mul_left_comm b a b]
theorem mul_lt_mod (m a b : Nat) (h : 0 < m) : a * b % m < m := Nat.mod_lt _ h

/-- What the reference's loop keeps ahead of turn i. -/
def RInv (m a i x b z : Nat) : Prop := x < m ∧ b < m ∧ z < m ∧ x * x % m = a * b % m ∧ sqs m b i = 1 ∧ sqs m z i = m - 1
theorem RInv.step1 {m a i x b z : Nat} (hp : IsPrime m) (h : RInv m a (i + 1) x b z) (ht : sqs m b i = 1) : RInv m a i x b (z * z % m) := by
  obtain ⟨h1, h2, h3, h4, h5, h6⟩ := h
  have h0 : 0 < m := by have := hp.1; omega
  exact ⟨h1, h2, mul_lt_mod _ _ _ h0, h4, ht, by rw [← sqs_head]; exact h6⟩
theorem RInv.step2 {m a i x b z : Nat} (hp : IsPrime m) (h : RInv m a (i + 1) x b z) (ht : sqs m b i ≠ 1) : RInv m a i (x * z % m) (b * (z * z % m) % m) (z * z % m) := by
  obtain ⟨h1, h2, h3, h4, h5, h6⟩ := h
  have h2p := hp.1
  have h0 : 0 < m := by omega
  have hm1 : sqs m b i = m - 1 := by
    rcases root_one hp (sqs_lt m b i h0) (by rw [← sqs_succ]; exact h5) with h | h
    · exact absurd h ht
    · exact h
  refine ⟨mul_lt_mod _ _ _ h0, mul_lt_mod _ _ _ h0, mul_lt_mod _ _ _ h0, ?_, ?_, by rw [← sqs_head]; exact h6⟩
  · rw [mul_sq, h4, mul_assoc_mod]
  · rw [sqs_mul, ← sqs_head, hm1, h6, neg_sq m (by omega)]
theorem RInv.fin {m a x b z : Nat} (h : RInv m a 0 x b z) (ha : a < m) : x * x % m = a := by
  obtain ⟨h1, h2, h3, h4, h5, h6⟩ := h
  rw [sqs_zero m b h2] at h5
  subst h5
  rw [h4, Nat.mul_one, Nat.mod_eq_of_lt ha]

/-- What the program's loop keeps. -/
def PInv (m x o S root left step turns : Nat) : Prop :=
  root < m ∧ left < m ∧ step < m ∧ 1 ≤ turns ∧ turns ≤ S ∧ root * root % m = x * left % m ∧ sqs m step (turns - 1) = m - 1 ∧ ((turns = S ∧ left = powM m x o) ∨ sqs m left (turns - 1) = 1)
theorem PInv.fin {m x o S root step turns : Nat} (h : PInv m x o S root 1 step turns) (hx : x < m) : root * root % m = x := by
  obtain ⟨h1, h2, h3, h4, h5, h6, h7, h8⟩ := h
  rw [h6, Nat.mul_one, Nat.mod_eq_of_lt hx]
theorem PInv.none {m x o S root left step turns : Nat} (h : PInv m x o S root left step turns) (hn : ∀ j, j < turns → sqs m left j ≠ 1) : powM m x (o * 2 ^ (S - 1)) ≠ 1 := by
  obtain ⟨h1, h2, h3, h4, h5, h6, h7, h8⟩ := h
  rcases h8 with ⟨rfl, rfl⟩ | h8
  · have := hn (turns - 1) (by omega)
    rw [sqs_pow] at this
    exact this
  · exact absurd h8 (hn (turns - 1) (by omega))
theorem PInv.step {m x o S root left step turns k : Nat} (hp : IsPrime m) (h : PInv m x o S root left step turns) (hk : k < turns) (h1k : sqs m left k = 1) (hl : left ≠ 1) (hn : ∀ j, j < k → sqs m left j ≠ 1) :
    PInv m x o S (root * sqs m step (turns - k - 1) % m) (left * (sqs m step (turns - k - 1) * sqs m step (turns - k - 1) % m) % m) (sqs m step (turns - k - 1) * sqs m step (turns - k - 1) % m) k := by
  obtain ⟨h1, h2, h3, h4, h5, h6, h7, h8⟩ := h
  have h2p := hp.1
  have h0 : 0 < m := by omega
  have hk1 : 1 ≤ k := by
    rcases Nat.eq_zero_or_pos k with h | h
    · subst h; rw [sqs_zero m left h2] at h1k; exact absurd h1k hl
    · exact h
  have es : sqs m (sqs m step (turns - k - 1) * sqs m step (turns - k - 1) % m) (k - 1) = m - 1 := by
    rw [← sqs_head, sqs_sqs, show turns - k - 1 + (k - 1 + 1) = turns - 1 from by omega]
    exact h7
  have el : sqs m left (k - 1) = m - 1 := by
    rcases root_one hp (sqs_lt m left (k - 1) h0) (by rw [← sqs_succ, show k - 1 + 1 = k from by omega]; exact h1k) with h | h
    · exact absurd h (hn (k - 1) (by omega))
    · exact h
  refine ⟨mul_lt_mod _ _ _ h0, mul_lt_mod _ _ _ h0, mul_lt_mod _ _ _ h0, hk1, by omega, ?_, es, Or.inr ?_⟩
  · rw [mul_sq, h6, mul_assoc_mod]
  · rw [sqs_mul, es, el, neg_sq m (by omega)]

end Go.Proofs.YtaeembdabnomaaaGreatDoor

/- What field.squared and field.orderLog do. -/
namespace Go.Proofs.YtaeembdabnomaaaGreatDoor
open Go.RowKit

theorem neqS1 (X : Nat) (hX : X < 115792089237316195423570985008687907853269984665640564039457584007913129639936) (w : World) : (binOp .neq 63 (.agg #[.int .u64 ((limb 0 (X) : Nat) : Int), .int .u64 ((limb 1 (X) : Nat) : Int), .int .u64 ((limb 2 (X) : Nat) : Int), .int .u64 ((limb 3 (X) : Nat) : Int)]) (.agg #[.int .u64 ((limb 0 (1) : Nat) : Int), .int .u64 ((limb 1 (1) : Nat) : Int), .int .u64 ((limb 2 (1) : Nat) : Int), .int .u64 ((limb 3 (1) : Nat) : Int)])).run Tryz.prog w = .ok (.bool (!decide (X = 1))) w := by
  have h := eq4N X 1 hX (by decide)
  rw [run_neq_struct, eqS_in]
  simp only [Result.andThen]
  rw [← h]

theorem glob_set4 {W : World} (h : Glob W) {r : Nat} (hr : 2 < r) (v0 v1 v2 v3 : Value) : Glob ((((W.setCell ⟨r, 0, none⟩ v0).setCell ⟨r, 1, none⟩ v1).setCell ⟨r, 2, none⟩ v2).setCell ⟨r, 3, none⟩ v3) := by
  have hB : Below r W ((((W.setCell ⟨r, 0, none⟩ v0).setCell ⟨r, 1, none⟩ v1).setCell ⟨r, 2, none⟩ v2).setCell ⟨r, 3, none⟩ v3) := by
    repeat (first | exact Below.refl _ _ | refine Below.setCell ?_ (by simp) _)
  obtain ⟨h1, h2, h3⟩ := h
  refine ⟨Nat.le_trans h1 hB.size, fun s hs => ⟨fun j hj => ?_, ?_⟩, fun i hi => ?_⟩
  · rw [hB.cell (p := ⟨1, 5 * s + j, none⟩) (show 1 < r by omega)]; exact (h2 s hs).1 j hj
  · rw [hB.cell (p := ⟨1, 5 * s + 4, none⟩) (show 1 < r by omega)]; exact (h2 s hs).2
  · rw [hB.cell (p := ⟨2, i, none⟩) hr]; exact h3 i hi

set_option maxHeartbeats 4000000 in
set_option maxRecDepth 20000 in
/-- field.squared. -/
theorem squared_any (m x n : Nat) (hG : GoodMod m) (hx : x < m) (hn : n < 64) (w : World) :
    Calls Tryz.prog 128 #[.agg #[.int .u64 ((limb 0 (m) : Nat) : Int), .int .u64 ((limb 1 (m) : Nat) : Int), .int .u64 ((limb 2 (m) : Nat) : Int), .int .u64 ((limb 3 (m) : Nat) : Int)], .agg #[.int .u64 ((limb 0 (x) : Nat) : Int), .int .u64 ((limb 1 (x) : Nat) : Int), .int .u64 ((limb 2 (x) : Nat) : Int), .int .u64 ((limb 3 (x) : Nat) : Int)], .int .i64 (n : Int)] w fun r w' => r = .returned (.agg #[.int .u64 ((limb 0 (sqs m x n) : Nat) : Int), .int .u64 ((limb 1 (sqs m x n) : Nat) : Int), .int .u64 ((limb 2 (sqs m x n) : Nat) : Int), .int .u64 ((limb 3 (sqs m x n) : Nat) : Int)]) ∧ Below w.heap.size w w' := by
  have hgl := hG.lt
  have PP := fun a b (ha : a < m) (hb : b < m) w => product_any m a b hG ha hb w
  clear hG
  go_enter Tryz.func128, Tryz.ntmps128
  go_upto_region 1 with fail
  obtain ⟨w0, hw0⟩ : ∃ w0 : World, w0 = ((w.alloc (.cells #[.int .u64 ((limb 0 (m) : Nat) : Int), .int .u64 ((limb 1 (m) : Nat) : Int), .int .u64 ((limb 2 (m) : Nat) : Int), .int .u64 ((limb 3 (m) : Nat) : Int)] 63)).alloc (.cells #[.int .u64 ((limb 0 (x) : Nat) : Int), .int .u64 ((limb 1 (x) : Nat) : Int), .int .u64 ((limb 2 (x) : Nat) : Int), .int .u64 ((limb 3 (x) : Nat) : Int)] 63)).alloc (.cells #[.int .u64 0, .int .u64 0, .int .u64 0, .int .u64 0] 63) := ⟨_, rfl⟩
  have bm0 : Blk w0 63 w.heap.size (fun i => limb i m) := by rw [hw0]; exact ((Blk.newAt _ _ _ (fun i => limb i m) (by simp)).alloc _).alloc _
  have bx0 : Blk w0 63 (w.heap.size + 1) (fun i => limb i x) := by rw [hw0]; exact (Blk.newAt _ _ _ (fun i => limb i x) (by simp)).alloc _
  have br0 : Blk w0 63 (w.heap.size + 1 + 1) (fun _ => 0) := by rw [hw0]; exact Blk.newAt _ _ _ (fun _ => 0) (by simp)
  have hb0 : Below w.heap.size w w0 := by
    rw [hw0]
    repeat (first | with_reducible exact Below.refl _ _ | with_reducible refine Below.alloc ?_ (by first | omega | (simp; omega) | simp) _)
  rw [← hw0]
  clear hw0
  go_wp2
  go_loopw [8] (fun i wr => ∃ k : Nat, i = .int .i64 (k : Int) ∧ k ≤ n ∧ Below w.heap.size w wr ∧ Blk wr 63 w.heap.size (fun i => limb i m) ∧ Blk wr 63 (w.heap.size + 1) (fun i => limb i (sqs m x k)) ∧ Blk wr 63 (w.heap.size + 1 + 1) (fun _ => 0)) (fun i _ => n - (intOf i).toNat)
  case atStart =>
    refine ⟨0, rfl, by omega, hb0, bm0, ?_, br0⟩
    rw [sqs_zero m x hx]
    exact bx0
  case round =>
    obtain ⟨k, rfl, hk, hbr, bm, bx, br⟩ := hrel
    clear bm0 bx0 br0 hb0
    by_cases hlt : k < n
    · have hki : (k : Int) < (n : Int) := by omega
      have lo := sqs_lt m x k (by omega)
      have P1 := fun w => PP _ _ lo lo w
      rw [← sqs_succ] at P1
      obtain ⟨o, eo⟩ : ∃ o, o = sqs m x k := ⟨_, rfl⟩
      obtain ⟨q, eq⟩ : ∃ q, q = sqs m x (k + 1) := ⟨_, rfl⟩
      rw [← eo] at bx P1
      rw [← eq] at P1
      have EQ := (show Hid _ from eq)
      clear eo eq lo PP
      have cm := bm.cell; have cx := bx.cell
      go_wp2_with fail
      refine (P1 _).mono ?_
      rintro r w2 ⟨rfl, hb2⟩
      have bm2 := bm.belowAll hb2; have bx2 := bx.belowAll hb2; have br2 := br.belowAll hb2
      have hbw2 := bStep hbr hb2
      clear bm bx br hbr hb2 cm cx P1
      have cx := bx2.cell; have fx := bx2.frozen
      go_wp2
      go_roundw
      case measure => simp [intOf]; omega
      case rel =>
        refine ⟨k + 1, by go_num, by omega, bSet4 hbw2 (by omega) _ _ _ _, bm2.other4 (by omega) _ _ _ _, ?_, br2.other4 (by omega) _ _ _ _⟩
        rw [← EQ.out]
        exact bx2.set4 (fun i => limb i q)
    · have hkn : k = n := by omega
      subst hkn
      clear hlt PP
      obtain ⟨o, eo⟩ : ∃ o, o = sqs m x k := ⟨_, rfl⟩
      rw [← eo] at bx
      have EO := (show Hid _ from eo)
      clear eo
      have cx := bx.cell; have cr := br.cell; have fr := br.frozen
      go_wp2
      refine bodyPost_ret (v := .agg #[.int .u64 ((limb 0 (o) : Nat) : Int), .int .u64 ((limb 1 (o) : Nat) : Int), .int .u64 ((limb 2 (o) : Nat) : Int), .int .u64 ((limb 3 (o) : Nat) : Int)]) (by simp [results, Tryz.results128, go_sem, cr]) rfl ⟨by rw [EO.out], ?_⟩
      repeat (first | with_reducible exact hbr | with_reducible refine Below.setCell ?_ (by first | omega | (simp; omega) | simp) _)

set_option maxHeartbeats 4000000 in
set_option maxRecDepth 20000 in
/-- field.orderLog. -/
theorem orderLog_any (m x n : Nat) (hG : GoodMod m) (hx : x < m) (hn : n < 64) (w : World) (hg : Glob w) :
    Calls Tryz.prog 127 #[.agg #[.int .u64 ((limb 0 (m) : Nat) : Int), .int .u64 ((limb 1 (m) : Nat) : Int), .int .u64 ((limb 2 (m) : Nat) : Int), .int .u64 ((limb 3 (m) : Nat) : Int)], .agg #[.int .u64 ((limb 0 (x) : Nat) : Int), .int .u64 ((limb 1 (x) : Nat) : Int), .int .u64 ((limb 2 (x) : Nat) : Int), .int .u64 ((limb 3 (x) : Nat) : Int)], .int .i64 (n : Int)] w fun r w' => (∃ k : Nat, k ≤ n ∧ r = .returned (.int .i64 (k : Int)) ∧ (∀ j, j < k → sqs m x j ≠ 1) ∧ (k < n → sqs m x k = 1)) ∧ Below w.heap.size w w' := by
  have hgl := hG.lt
  have PP := fun a b (ha : a < m) (hb : b < m) w => product_any m a b hG ha hb w
  clear hG
  go_enter Tryz.func127, Tryz.ntmps127
  go_upto_region 1 with fail
  obtain ⟨w0, hw0⟩ : ∃ w0 : World, w0 = (w.alloc (.cells #[.int .u64 ((limb 0 (m) : Nat) : Int), .int .u64 ((limb 1 (m) : Nat) : Int), .int .u64 ((limb 2 (m) : Nat) : Int), .int .u64 ((limb 3 (m) : Nat) : Int)] 63)).alloc (.cells #[.int .u64 ((limb 0 (x) : Nat) : Int), .int .u64 ((limb 1 (x) : Nat) : Int), .int .u64 ((limb 2 (x) : Nat) : Int), .int .u64 ((limb 3 (x) : Nat) : Int)] 63) := ⟨_, rfl⟩
  have bm0 : Blk w0 63 w.heap.size (fun i => limb i m) := by rw [hw0]; exact (Blk.newAt _ _ _ (fun i => limb i m) (by simp)).alloc _
  have bx0 : Blk w0 63 (w.heap.size + 1) (fun i => limb i x) := by rw [hw0]; exact Blk.newAt _ _ _ (fun i => limb i x) (by simp)
  have hg0 : Glob w0 := by rw [hw0]; exact (hg.alloc _).alloc _
  have hb0 : Below w.heap.size w w0 := by
    rw [hw0]
    repeat (first | with_reducible exact Below.refl _ _ | with_reducible refine Below.alloc ?_ (by first | omega | (simp; omega) | simp) _)
  rw [← hw0]
  clear hw0
  have lg := hg.1
  go_wp2
  go_loopw [7] (fun i wr => ∃ k : Nat, i = .int .i64 (k : Int) ∧ k ≤ n ∧ Hid (∀ j, j < k → sqs m x j ≠ 1) ∧ Below w.heap.size w wr ∧ Glob wr ∧ Blk wr 63 w.heap.size (fun i => limb i m) ∧ Blk wr 63 (w.heap.size + 1) (fun i => limb i (sqs m x k))) (fun i _ => n - (intOf i).toNat)
  case atStart =>
    refine ⟨0, rfl, by omega, fun j hj => by omega, hb0, hg0, bm0, ?_⟩
    rw [sqs_zero m x hx]
    exact bx0
  case round =>
    obtain ⟨k, rfl, hk, hne, hbr, hgr, bm, bx⟩ := hrel
    clear bm0 bx0 hb0 hg0
    have lo := sqs_lt m x k (by omega)
    have NE := fun w => neqS1 (sqs m x k) (by omega) w
    have cx := bx.cell
    have co := hgr.2.2
    by_cases h1 : sqs m x k = 1
    · rw [show decide (sqs m x k = 1) = true from by simp [h1]] at NE
      have H1 := (show Hid _ from h1)
      clear h1
      obtain ⟨o, eo⟩ : ∃ o, o = sqs m x k := ⟨_, rfl⟩
      rw [← eo] at cx NE
      clear eo
      go_wp2
      go_ret
      exact ⟨⟨k, hk, rfl, hne.out, fun _ => H1.out⟩, hbr⟩
    · rw [show decide (sqs m x k = 1) = false from by simp [h1]] at NE
      have H1 := (show Hid _ from h1)
      clear h1
      by_cases hlt : k < n
      · have hki : (k : Int) < (n : Int) := by omega
        have P1 := fun w => PP _ _ lo lo w
        rw [← sqs_succ] at P1
        obtain ⟨o, eo⟩ : ∃ o, o = sqs m x k := ⟨_, rfl⟩
        obtain ⟨q, eq⟩ : ∃ q, q = sqs m x (k + 1) := ⟨_, rfl⟩
        rw [← eo] at cx bx NE P1
        rw [← eq] at P1
        have EQ := (show Hid _ from eq)
        clear eo eq lo PP
        have cm := bm.cell
        go_wp2_with fail
        refine (P1 _).mono ?_
        rintro r w2 ⟨rfl, hb2⟩
        have bm2 := bm.belowAll hb2; have bx2 := bx.belowAll hb2; have hg2 := hgr.below hb2
        have hbw2 := bStep hbr hb2
        clear bm bx hbr hgr hb2 cm cx co P1 NE
        have cx := bx2.cell; have fx := bx2.frozen
        go_wp2
        go_roundw
        case measure => simp [intOf]; omega
        case rel =>
          refine ⟨k + 1, by go_num, by omega, fun j hj => ?_, bSet4 hbw2 (by omega) _ _ _ _, glob_set4 hg2 (by omega) _ _ _ _, bm2.other4 (by omega) _ _ _ _, ?_⟩
          · rcases Nat.lt_or_ge j k with h | h
            · exact hne.out j h
            · rw [show j = k from by omega]; exact H1.out
          · rw [← EQ.out]
            exact bx2.set4 (fun i => limb i q)
      · have hki : ¬ (k : Int) < (n : Int) := by omega
        obtain ⟨o, eo⟩ : ∃ o, o = sqs m x k := ⟨_, rfl⟩
        rw [← eo] at cx NE
        clear eo
        go_wp2
        go_ret
        exact ⟨⟨k, hk, rfl, hne.out, fun h => absurd h hlt⟩, hbr⟩

end Go.Proofs.YtaeembdabnomaaaGreatDoor

/- What field.squareRoot does. -/
namespace Go.Proofs.YtaeembdabnomaaaGreatDoor
open Go.RowKit

/-- The modulus less 1 is an odd number times 2^S, and 5 to the power (m - 1) / 2 is the opposite of 1. -/
def OddPart (m h S : Nat) : Prop := m - 1 = (2 * h + 1) * 2 ^ S ∧ 1 ≤ S ∧ S ≤ 32 ∧ powM m 5 ((2 * h + 1) * 2 ^ (S - 1)) = m - 1
theorem OddPart.down {m h S : Nat} (hm : 1 < m) (H : OddPart m h S) : m / 2 ^ (S + 1) = h ∧ (m - 1) / 2 ^ S = 2 * h + 1 := by
  obtain ⟨h1, h2, h3, _⟩ := H
  constructor
  · have e : m = h * 2 ^ (S + 1) + (2 ^ S + 1) := by
      rw [Nat.add_mul, Nat.one_mul] at h1
      rw [Nat.pow_succ, ← Nat.mul_assoc, Nat.mul_right_comm, Nat.mul_comm h 2]
      omega
    have hp : 2 ≤ 2 ^ S := by
      have := Nat.pow_le_pow_right (show 0 < 2 by decide) h2
      simpa using this
    have hlt : 2 ^ S + 1 < 2 ^ (S + 1) := by rw [Nat.pow_succ]; omega
    rw [e, Nat.mul_comm h, Nat.mul_add_div (Nat.two_pow_pos _), Nat.div_eq_of_lt hlt, Nat.add_zero]
  · rw [h1, Nat.mul_div_cancel _ (Nat.two_pow_pos _)]
theorem PInv.start {m x h S : Nat} (hm : 1 < m) (H : OddPart m h S) :
    PInv m x (2 * h + 1) S (powM m x h * x % m) (powM m x h * x % m * powM m x h % m) (powM m 5 (2 * h + 1)) S := by
  obtain ⟨h1, h2, h3, h4⟩ := H
  have h0 : 0 < m := by omega
  have e1 : powM m x h * x % m = powM m x (h + 1) := powM_more m x h
  have e2 : powM m x h * x % m * powM m x h % m = powM m x (2 * h + 1) := by rw [e1, powM_add]; congr 1; omega
  refine ⟨mul_lt_mod _ _ _ h0, mul_lt_mod _ _ _ h0, powM_lt _ _ _ h0, h2, Nat.le_refl _, ?_, ?_, Or.inl ⟨rfl, e2⟩⟩
  · rw [e2, e1, powM_two, Nat.mul_comm x, powM_more]
    rfl
  · rw [sqs_pow]; exact h4

set_option maxHeartbeats 8000000 in
set_option maxRecDepth 20000 in
/-- field.squareRoot. -/
theorem squareRoot_any (m x h S : Nat) (hp : IsPrime m) (hG : GoodMod m) (h5 : 5 < m) (H : OddPart m h S) (hx : x < m) (w : World) (hg : Glob w) :
    Calls Tryz.prog 111 #[.agg #[.int .u64 ((limb 0 (m) : Nat) : Int), .int .u64 ((limb 1 (m) : Nat) : Int), .int .u64 ((limb 2 (m) : Nat) : Int), .int .u64 ((limb 3 (m) : Nat) : Int)], .int .i64 (S : Int), .agg #[.int .u64 ((limb 0 (x) : Nat) : Int), .int .u64 ((limb 1 (x) : Nat) : Int), .int .u64 ((limb 2 (x) : Nat) : Int), .int .u64 ((limb 3 (x) : Nat) : Int)]] w fun e w' => ((∃ r, r < m ∧ r * r % m = x ∧ e = .returned (.tuple #[.agg #[.int .u64 ((limb 0 (r) : Nat) : Int), .int .u64 ((limb 1 (r) : Nat) : Int), .int .u64 ((limb 2 (r) : Nat) : Int), .int .u64 ((limb 3 (r) : Nat) : Int)], .bool true])) ∨ (x ≠ 0 ∧ powM m x ((2 * h + 1) * 2 ^ (S - 1)) ≠ 1 ∧ e = .returned (.tuple #[.agg #[.int .u64 0, .int .u64 0, .int .u64 0, .int .u64 0], .bool false]))) ∧ Below w.heap.size w w' := by
  have hgl := hG.lt
  have hdn := H.down (by omega)
  have hS : 1 ≤ S ∧ S ≤ 32 := ⟨H.2.1, H.2.2.1⟩
  have SD := fun w => shiftDown_any m (S + 1) (by omega) hgl.2.2 w
  rw [hdn.1] at SD
  obtain ⟨S1, eS⟩ : ∃ S1, S1 = S + 1 := ⟨_, rfl⟩
  rw [← eS] at SD
  have eS1 := (show Hid _ from eS)
  clear eS
  have lh : h < 115792089237316195423570985008687907853269984665640564039457584007913129639936 := by rw [← hdn.1]; exact Nat.lt_of_le_of_lt (Nat.div_le_self _ _) hgl.2.2
  have PW := fun w hg => power_any m x h hG (by omega) hx lh w hg
  have UR := fun w hg => unityRoot_any m S hG h5 (by omega) w hg
  rw [hdn.2] at UR
  have lp := powM_lt m x h hgl.1
  have PP := fun a b (ha : a < m) (hb : b < m) w => product_any m a b hG ha hb w
  have SQ := fun a n (ha : a < m) (hn : n < 64) w => squared_any m a n hG ha hn w
  have OL := fun a n (ha : a < m) (hn : n < 64) w hg => orderLog_any m a n hG ha hn w hg
  have P1 := fun w => PP _ _ lp hx w
  have P2 := fun w => PP _ _ (mul_lt_mod m (powM m x h) x hgl.1) lp w
  have HI : Hid (PInv m x (2 * h + 1) S (powM m x h * x % m) (powM m x h * x % m * powM m x h % m) (powM m 5 (2 * h + 1)) S) := PInv.start (show 1 < m by omega) H
  have HX := (show Hid _ from hp)
  obtain ⟨o, eo⟩ : ∃ o, o = 2 * h + 1 := ⟨_, rfl⟩
  rw [← eo] at UR HI ⊢
  obtain ⟨z, ez⟩ : ∃ z, z = powM m 5 o := ⟨_, rfl⟩
  rw [← ez] at UR HI
  obtain ⟨p, ep⟩ : ∃ p, p = powM m x h := ⟨_, rfl⟩
  rw [← ep] at PW P1 P2 HI lp
  obtain ⟨q, eq⟩ : ∃ q, q = p * x % m := ⟨_, rfl⟩
  rw [← eq] at P1 P2 HI
  obtain ⟨l, el⟩ : ∃ l, l = q * p % m := ⟨_, rfl⟩
  rw [← el] at P2 HI
  have HS := (show Hid _ from hS)
  have hm := hgl.2.2
  have hm0 := hgl.1
  clear hdn hS eo ez ep eq el lh hG hp H h5 hgl
  have EQ0 := fun w => eqlS0 x (by omega) w
  go_enter Tryz.func111, Tryz.ntmps111
  go_upto_region 1 with fail
  obtain ⟨w0, hw0⟩ : ∃ w0 : World, w0 = ((w.alloc (.cells #[.int .u64 ((limb 0 (m) : Nat) : Int), .int .u64 ((limb 1 (m) : Nat) : Int), .int .u64 ((limb 2 (m) : Nat) : Int), .int .u64 ((limb 3 (m) : Nat) : Int)] 63)).alloc (.cells #[.int .u64 ((limb 0 (x) : Nat) : Int), .int .u64 ((limb 1 (x) : Nat) : Int), .int .u64 ((limb 2 (x) : Nat) : Int), .int .u64 ((limb 3 (x) : Nat) : Int)] 63)).alloc (.cells #[.int .u64 0, .int .u64 0, .int .u64 0, .int .u64 0] 63) := ⟨_, rfl⟩
  have bm0 : Blk w0 63 w.heap.size (fun i => limb i m) := by rw [hw0]; exact ((Blk.newAt _ _ _ (fun i => limb i m) (by simp)).alloc _).alloc _
  have bx0 : Blk w0 63 (w.heap.size + 1) (fun i => limb i x) := by rw [hw0]; exact (Blk.newAt _ _ _ (fun i => limb i x) (by simp)).alloc _
  have br0 : Blk w0 63 (w.heap.size + 1 + 1) (fun _ => 0) := by rw [hw0]; exact Blk.newAt _ _ _ (fun _ => 0) (by simp)
  have hg0 : Glob w0 := by rw [hw0]; exact ((hg.alloc _).alloc _).alloc _
  have hb0 : Below w.heap.size w w0 := by
    rw [hw0]
    repeat (first | with_reducible exact Below.refl _ _ | with_reducible refine Below.alloc ?_ (by first | omega | (simp; omega) | simp) _)
  rw [← hw0]
  have hgw := hg.1
  clear hw0 hg
  have cx := bx0.cell; have cr := br0.cell; have fr := br0.frozen
  by_cases hx0 : x = 0
  · rw [show decide (x = 0) = true from by simp [hx0]] at EQ0
    have HZ : Hid (x * x % m = x) := by show _ = _; rw [hx0]; simp
    clear hx0
    go_wp2
    refine bodyPost_ret (v := .tuple #[.agg #[.int .u64 ((limb 0 (x) : Nat) : Int), .int .u64 ((limb 1 (x) : Nat) : Int), .int .u64 ((limb 2 (x) : Nat) : Int), .int .u64 ((limb 3 (x) : Nat) : Int)], .bool true]) (by simp [results, Tryz.results111, go_sem, cr]) rfl ⟨Or.inl ⟨x, hx, HZ.out, rfl⟩, ?_⟩
    repeat (first | with_reducible exact hb0 | with_reducible refine Below.setCell ?_ (by first | omega | (simp; omega) | simp) _)
  · rw [show decide (x = 0) = false from by simp [hx0]] at EQ0
    have HX0 := (show Hid _ from hx0)
    clear hx0 cr fr
    have hz0 := br0.lt
    go_upto_region 3 with fail
    clear cx EQ0
    have hsi : (S : Int) + 1 = (S1 : Int) := by rw [eS1.out]; omega
    have hsb : IntKind.i64.wrap (S1 : Int) = (S1 : Int) := by
      have h33 : S1 ≤ 33 := by rw [eS1.out]; have := HS.out.2; omega
      rw [IntKind.wrap_i64]; omega
    go_wp2_with fail
    have hg0d := hg0.drew
    have hgAd := (hg0.alloc (.cells #[.int .u64 0, .int .u64 0, .int .u64 0, .int .u64 0] 63)).drew
    go_cut [8] (fun pr wx => ∃ r : Nat, pr = .pointer (some ⟨r, 0, none⟩) ∧ w0.heap.size ≤ r ∧ Blk wx 63 r (fun i => limb i p) ∧ Below w0.heap.size w0 wx)
    case first =>
      go_region_held3 (fun w' => (∀ i, i < 4 → w'.cell? ⟨w.heap.size, i, none⟩ = some (.int .u64 ((limb i m : Nat) : Int))) ∧ (∀ i, i < 4 → w'.cell? ⟨w.heap.size + 1, i, none⟩ = some (.int .u64 ((limb i x : Nat) : Int))))
        (first | with_reducible exact two_below hb4 (by with_reducible assumption) | with_reducible exact two_below hb3 (by with_reducible assumption) | with_reducible exact two_alloc _ (by with_reducible assumption) | with_reducible exact two_re _ _ (by omega) (by with_reducible assumption) | with_reducible exact two_far _ _ _ _ _ (by omega) (by with_reducible assumption) | with_reducible exact ⟨bm0.drew.cell, bx0.drew.cell⟩ | with_reducible exact ⟨(bm0.alloc _).drew.cell, (bx0.alloc _).drew.cell⟩)
        (first | (go_at_call 117; with_reducible refine (SD _).mono ?_; rintro e w3 ⟨rfl, hb3⟩; obtain ⟨hc3, hf3⟩ := bcell hb3; have hz3 := hb3.size; try simp at hz3; try (have hy3 : w0.heap.size < w3.heap.size := by omega)) | (go_at_call 125; with_reducible refine (PW _ ?_).mono ?_; (first | with_reducible exact hg0d.below hb3 | with_reducible exact hgAd.below hb3 | with_reducible exact (hg0d.below hb3).alloc _); rintro e w4 ⟨rfl, hb4⟩; obtain ⟨hc4, hf4⟩ := bcell hb4; have hz4 := hb4.size; try simp at hz4) | fail)
      all_goals (go_wp2_with fail; go_meet)
      · refine ⟨_, rfl, by omega, ?_, ?_⟩
        · exact Blk.new w4 _ (fun i => limb i p)
        · exact ((Below.refl w0.heap.size w0).drew.trans (hb3.trans (hb4.mono (show w0.heap.size ≤ w3.heap.size by omega)))).alloc (by omega) _
      · refine ⟨_, rfl, by omega, ?_, ?_⟩
        · exact ((Blk.new w3 _ (fun _ => 0)).belowAll hb4).set4 (fun i => limb i p)
        · have hb5 : Below w0.heap.size w0 w4 := ((Below.refl w0.heap.size w0).drew.trans hb3).trans ((((Below.refl w3.heap.size w3).alloc (Nat.le_refl _) _).trans (hb4.mono (by simp))).mono (by omega))
          exact (((hb5.setCell (by dsimp only; omega) _).setCell (by dsimp only; omega) _).setCell (by dsimp only; omega) _).setCell (by dsimp only; omega) _
      · refine ⟨_, rfl, by omega, ?_, ?_⟩
        · exact (((Blk.new w0 _ (fun _ => 0)).drew.belowAll hb3).belowAll hb4).set4 (fun i => limb i p)
        · have hb5 : Below w0.heap.size w0 w4 := (((Below.refl w0.heap.size w0).alloc (Nat.le_refl _) _).drew.trans (hb3.mono (by simp))).trans (hb4.mono (by omega))
          exact (((hb5.setCell (by dsimp only; omega) _).setCell (by dsimp only; omega) _).setCell (by dsimp only; omega) _).setCell (by dsimp only; omega) _
    case rest =>
      obtain ⟨N8, rfl, hN8, bp1, hbx⟩ := hcut
      have bm1 := bm0.belowAll hbx; have bx1 := bx0.belowAll hbx; have br1 := br0.belowAll hbx; have hg1 := hg0.below hbx
      have hbw1 := bStep hb0 hbx
      clear bm0 bx0 br0 hg0 hb0 hbx SD PW hsi hsb
      have cm := bm1.cell; have cx := bx1.cell; have cp := bp1.cell
      go_wp2_with fail
      refine (P1 _).mono ?_
      rintro e w2 ⟨rfl, hb2⟩
      have bm2 := bm1.belowAll hb2; have bp2 := bp1.belowAll hb2; have br2 := br1.belowAll hb2; have hg2 := hg1.below hb2
      have hbw2 := bStep hbw1 hb2
      have l8 : N8 < w2.heap.size := bp2.lt
      clear bm1 bx1 bp1 br1 hg1 hbw1 hb2 cm cx cp P1
      obtain ⟨N9, e9⟩ : ∃ N9, N9 = w2.heap.size := ⟨_, rfl⟩
      obtain ⟨w3, hw3⟩ : ∃ w3 : World, w3 = w2.alloc (.cells #[.int .u64 ((limb 0 (q) : Nat) : Int), .int .u64 ((limb 1 (q) : Nat) : Int), .int .u64 ((limb 2 (q) : Nat) : Int), .int .u64 ((limb 3 (q) : Nat) : Int)] 63) := ⟨_, rfl⟩
      have bm3 : Blk w3 63 w.heap.size (fun i => limb i m) := by rw [hw3]; exact bm2.alloc _
      have bp3 : Blk w3 63 N8 (fun i => limb i p) := by rw [hw3]; exact bp2.alloc _
      have br3 : Blk w3 63 (w.heap.size + 1 + 1) (fun _ => 0) := by rw [hw3]; exact br2.alloc _
      have bo3 : Blk w3 63 N9 (fun i => limb i q) := by rw [hw3]; exact Blk.newAt _ _ _ (fun i => limb i q) e9
      have hg3 : Glob w3 := by rw [hw3]; exact hg2.alloc _
      have hbw3 : Below w.heap.size w w3 := by rw [hw3]; exact bAlloc hbw2 _
      have r9 : w.heap.size + 1 + 1 < N9 := by have := br2.lt; omega
      go_upto_region 5 with fail
      rw [← hw3, ← e9]
      rw [← e9] at l8
      clear hw3 e9 bm2 bp2 br2 hg2 hbw2
      have cm := bm3.cell; have co := bo3.cell; have cp := bp3.cell
      go_wp2_with fail
      refine (P2 _).mono ?_
      rintro e w4 ⟨rfl, hb4⟩
      have bm4 := bm3.belowAll hb4; have bo4 := bo3.belowAll hb4; have br4 := br3.belowAll hb4; have hg4 := hg3.below hb4
      have hbw4 := bStep hbw3 hb4
      clear bm3 bp3 bo3 br3 hg3 hbw3 hb4 cm co cp P2
      obtain ⟨N10, e10⟩ : ∃ N10, N10 = w4.heap.size := ⟨_, rfl⟩
      obtain ⟨w5, hw5⟩ : ∃ w5 : World, w5 = w4.alloc (.cells #[.int .u64 ((limb 0 (l) : Nat) : Int), .int .u64 ((limb 1 (l) : Nat) : Int), .int .u64 ((limb 2 (l) : Nat) : Int), .int .u64 ((limb 3 (l) : Nat) : Int)] 63) := ⟨_, rfl⟩
      have bm5 : Blk w5 63 w.heap.size (fun i => limb i m) := by rw [hw5]; exact bm4.alloc _
      have bo5 : Blk w5 63 N9 (fun i => limb i q) := by rw [hw5]; exact bo4.alloc _
      have br5 : Blk w5 63 (w.heap.size + 1 + 1) (fun _ => 0) := by rw [hw5]; exact br4.alloc _
      have bl5 : Blk w5 63 N10 (fun i => limb i l) := by rw [hw5]; exact Blk.newAt _ _ _ (fun i => limb i l) e10
      have hg5 : Glob w5 := by rw [hw5]; exact hg4.alloc _
      have hbw5 : Below w.heap.size w w5 := by rw [hw5]; exact bAlloc hbw4 _
      have r10 : N9 < N10 := by have := bo4.lt; omega
      go_upto_region 6 with fail
      rw [← hw5, ← e10]
      clear hw5 e10 bm4 bo4 br4 hg4 hbw4
      have cm := bm5.cell
      go_wp2_with fail
      refine (UR _ hg5).mono ?_
      rintro e w6 ⟨rfl, hb6⟩
      have bm6 := bm5.belowAll hb6; have bo6 := bo5.belowAll hb6; have br6 := br5.belowAll hb6; have bl6 := bl5.belowAll hb6; have hg6 := hg5.below hb6
      have hbw6 := bStep hbw5 hb6
      clear bm5 bo5 br5 bl5 hg5 hbw5 hb6 cm UR
      obtain ⟨N11, e11⟩ : ∃ N11, N11 = w6.heap.size := ⟨_, rfl⟩
      obtain ⟨w7, hw7⟩ : ∃ w7 : World, w7 = w6.alloc (.cells #[.int .u64 ((limb 0 (z) : Nat) : Int), .int .u64 ((limb 1 (z) : Nat) : Int), .int .u64 ((limb 2 (z) : Nat) : Int), .int .u64 ((limb 3 (z) : Nat) : Int)] 63) := ⟨_, rfl⟩
      have bm7 : Blk w7 63 w.heap.size (fun i => limb i m) := by rw [hw7]; exact bm6.alloc _
      have bo7 : Blk w7 63 N9 (fun i => limb i q) := by rw [hw7]; exact bo6.alloc _
      have br7 : Blk w7 63 (w.heap.size + 1 + 1) (fun _ => 0) := by rw [hw7]; exact br6.alloc _
      have bl7 : Blk w7 63 N10 (fun i => limb i l) := by rw [hw7]; exact bl6.alloc _
      have bs7 : Blk w7 63 N11 (fun i => limb i z) := by rw [hw7]; exact Blk.newAt _ _ _ (fun i => limb i z) e11
      have hg7 : Glob w7 := by rw [hw7]; exact hg6.alloc _
      have hbw7 : Below w.heap.size w w7 := by rw [hw7]; exact bAlloc hbw6 _
      have r11 : N10 < N11 := by have := bl6.lt; omega
      go_upto_block 0 with fail
      rw [← hw7, ← e11]
      clear hw7 e11 bm6 bo6 br6 bl6 hg6 hbw6
      go_wp2_with fail
      go_loopw [12] (fun tv wr => ∃ ro le st tu : Nat, tv = .int .i64 (tu : Int) ∧ Hid (PInv m x o S ro le st tu) ∧ Below w.heap.size w wr ∧ Glob wr ∧ Blk wr 63 w.heap.size (fun i => limb i m) ∧ Blk wr 63 (w.heap.size + 1 + 1) (fun _ => 0) ∧ Blk wr 63 N9 (fun i => limb i ro) ∧ Blk wr 63 N10 (fun i => limb i le) ∧ Blk wr 63 N11 (fun i => limb i st)) (fun tv _ => (intOf tv).toNat)
      case atStart => exact ⟨q, l, z, S, rfl, HI, hbw7, hg7, bm7, br7, bo7, bl7, bs7⟩
      case round =>
        obtain ⟨ro, le, st, tu, rfl, hI, hbw0, hg0, bm0, br0, bo0, bl0, bs0⟩ := hrel
        clear bm7 br7 bo7 bl7 bs7 hbw7 hg7 HI
        have lro := hI.out.1; have lle := hI.out.2.1; have lst := hI.out.2.2.1; have ltu := hI.out.2.2.2.1; have ltS := hI.out.2.2.2.2.1
        have hS2 := HS.out.2
        have NE := fun w => neqS1 le (by omega) w
        have cl := bl0.cell; have cg := hg0.2.2
        by_cases hl1 : le = 1
        · have HF : Hid (ro * ro % m = x) := by
            show _ = _
            have := hI.out
            rw [hl1] at this
            exact this.fin hx
          rw [show decide (le = 1) = true from by simp [hl1]] at NE
          clear hl1 hI PP SQ OL
          have co := bo0.cell; have cr := br0.cell; have fr := br0.frozen
          go_wp2
          refine bodyPost_ret (v := .tuple #[.agg #[.int .u64 ((limb 0 (ro) : Nat) : Int), .int .u64 ((limb 1 (ro) : Nat) : Int), .int .u64 ((limb 2 (ro) : Nat) : Int), .int .u64 ((limb 3 (ro) : Nat) : Int)], .bool true]) (by simp [results, Tryz.results111, go_sem, cr]) rfl ⟨Or.inl ⟨ro, lro, HF.out, rfl⟩, ?_⟩
          repeat (first | with_reducible exact hbw0 | with_reducible refine Below.setCell ?_ (by first | omega | (simp; omega) | simp) _)
        · rw [show decide (le = 1) = false from by simp [hl1]] at NE
          have HL1 := (show Hid _ from hl1)
          clear hl1
          have OL1 := fun w hg => OL le tu lle (by omega) w hg
          have cm := bm0.cell
          go_wp2_with fail
          refine (OL1 _ hg0).mono ?_
          rintro e w1 ⟨⟨k, hk, rfl, hkn, hk1⟩, hb1⟩
          have bm1 := bm0.belowAll hb1; have br1 := br0.belowAll hb1; have bo1 := bo0.belowAll hb1; have bl1 := bl0.belowAll hb1; have bs1 := bs0.belowAll hb1; have hg1 := hg0.below hb1
          have hbw1 := bStep hbw0 hb1
          have HKN := (show Hid _ from hkn); have HK1 := (show Hid _ from hk1)
          clear bm0 br0 bo0 bl0 bs0 hg0 hbw0 hb1 cm cl cg NE OL OL1 hkn hk1
          by_cases hkt : k = tu
          · have HN : Hid (powM m x (o * 2 ^ (S - 1)) ≠ 1) := by
              refine hI.out.none (fun j hj => ?_)
              exact HKN.out j (by omega)
            have hkb : ((k : Int) == (tu : Int)) = true := by rw [beq_iff_eq]; omega
            clear hkt hI PP SQ HKN HK1
            have cr := br1.cell; have fr := br1.frozen
            go_wp2
            refine bodyPost_ret (v := .tuple #[.agg #[.int .u64 0, .int .u64 0, .int .u64 0, .int .u64 0], .bool false]) (by simp [results, Tryz.results111, go_sem, cr]) rfl ⟨Or.inr ⟨HX0.out, HN.out, rfl⟩, ?_⟩
            repeat (first | with_reducible exact hbw1 | with_reducible refine Below.setCell ?_ (by first | omega | (simp; omega) | simp) _)
          · have hkb : ((k : Int) == (tu : Int)) = false := by rw [beq_eq_false_iff_ne]; omega
            have hkl : k < tu := by omega
            have HP : Hid (PInv m x o S (ro * sqs m st (tu - k - 1) % m) (le * (sqs m st (tu - k - 1) * sqs m st (tu - k - 1) % m) % m) (sqs m st (tu - k - 1) * sqs m st (tu - k - 1) % m) k) := hI.out.step HX.out hkl (HK1.out hkl) HL1.out HKN.out
            have hki : (tu : Int) - (k : Int) - 1 = ((tu - k - 1 : Nat) : Int) := by omega
            have lss := sqs_lt m st (tu - k - 1) hm0
            have S1 := fun w => SQ st (tu - k - 1) lst (by omega) w
            obtain ⟨u, eu⟩ : ∃ u, u = sqs m st (tu - k - 1) := ⟨_, rfl⟩
            rw [← eu] at HP lss S1
            have M1 := fun w => PP ro u lro lss w
            have M2 := fun w => PP u u lss lss w
            have l2 := mul_lt_mod m u u hm0
            obtain ⟨v, ev⟩ : ∃ v, v = u * u % m := ⟨_, rfl⟩
            rw [← ev] at HP M2 l2
            have M3 := fun w => PP le v lle l2 w
            obtain ⟨ro2, er2⟩ : ∃ ro2, ro2 = ro * u % m := ⟨_, rfl⟩
            rw [← er2] at HP M1
            obtain ⟨le2, el2⟩ : ∃ le2, le2 = le * v % m := ⟨_, rfl⟩
            rw [← el2] at HP M3
            clear eu ev er2 el2 hI hkt HK1 HKN HL1 PP SQ
            obtain ⟨d, ed⟩ : ∃ d, d = tu - k - 1 := ⟨_, rfl⟩
            rw [← ed] at hki S1
            clear ed
            have cm := bm1.cell; have cs := bs1.cell
            go_wp2_with fail
            refine (S1 _).mono ?_
            rintro e w2 ⟨rfl, hb2⟩
            have bm2 := bm1.belowAll hb2; have br2 := br1.belowAll hb2; have bo2 := bo1.belowAll hb2; have bl2 := bl1.belowAll hb2; have bs2 := bs1.belowAll hb2; have hg2 := hg1.below hb2
            have hbw2 := bStep hbw1 hb2
            clear bm1 br1 bo1 bl1 bs1 hbw1 hb2 hg1 cm cs
            have ct := bs2.cell; have ft := bs2.frozen
            go_upto_region 12 with fail
            obtain ⟨w3, hw3⟩ : ∃ w3 : World, w3 = (((w2.setCell ⟨N11, 0, none⟩ (.int .u64 ((limb 0 u : Nat) : Int))).setCell ⟨N11, 1, none⟩ (.int .u64 ((limb 1 u : Nat) : Int))).setCell ⟨N11, 2, none⟩ (.int .u64 ((limb 2 u : Nat) : Int))).setCell ⟨N11, 3, none⟩ (.int .u64 ((limb 3 u : Nat) : Int)) := ⟨_, rfl⟩
            have bm3 : Blk w3 63 w.heap.size (fun i => limb i m) := by rw [hw3]; exact bm2.other4 (by omega) _ _ _ _
            have br3 : Blk w3 63 (w.heap.size + 1 + 1) (fun _ => 0) := by rw [hw3]; exact br2.other4 (by omega) _ _ _ _
            have bo3 : Blk w3 63 N9 (fun i => limb i ro) := by rw [hw3]; exact bo2.other4 (by omega) _ _ _ _
            have bl3 : Blk w3 63 N10 (fun i => limb i le) := by rw [hw3]; exact bl2.other4 (by omega) _ _ _ _
            have bs3 : Blk w3 63 N11 (fun i => limb i u) := by rw [hw3]; exact bs2.set4 (fun i => limb i u)
            have hg3 : Glob w3 := by rw [hw3]; exact glob_set4 hg2 (by omega) _ _ _ _
            have hbw3 : Below w.heap.size w w3 := by rw [hw3]; exact bSet4 hbw2 (by omega) _ _ _ _
            rw [← hw3]
            clear hw3 bm2 br2 bo2 bl2 bs2 hbw2 hg2 ct ft
            have cm := bm3.cell; have co := bo3.cell; have cs := bs3.cell
            go_wp2_with fail
            refine (M1 _).mono ?_
            rintro e w4 ⟨rfl, hb4⟩
            have bm4 := bm3.belowAll hb4; have br4 := br3.belowAll hb4; have bo4 := bo3.belowAll hb4; have bl4 := bl3.belowAll hb4; have bs4 := bs3.belowAll hb4; have hg4 := hg3.below hb4
            have hbw4 := bStep hbw3 hb4
            clear bm3 br3 bo3 bl3 bs3 hbw3 hb4 hg3 cm co cs
            have ct := bo4.cell; have ft := bo4.frozen
            go_upto_region 13 with fail
            obtain ⟨w5, hw5⟩ : ∃ w5 : World, w5 = (((w4.setCell ⟨N9, 0, none⟩ (.int .u64 ((limb 0 ro2 : Nat) : Int))).setCell ⟨N9, 1, none⟩ (.int .u64 ((limb 1 ro2 : Nat) : Int))).setCell ⟨N9, 2, none⟩ (.int .u64 ((limb 2 ro2 : Nat) : Int))).setCell ⟨N9, 3, none⟩ (.int .u64 ((limb 3 ro2 : Nat) : Int)) := ⟨_, rfl⟩
            have bm5 : Blk w5 63 w.heap.size (fun i => limb i m) := by rw [hw5]; exact bm4.other4 (by omega) _ _ _ _
            have br5 : Blk w5 63 (w.heap.size + 1 + 1) (fun _ => 0) := by rw [hw5]; exact br4.other4 (by omega) _ _ _ _
            have bo5 : Blk w5 63 N9 (fun i => limb i ro2) := by rw [hw5]; exact bo4.set4 (fun i => limb i ro2)
            have bl5 : Blk w5 63 N10 (fun i => limb i le) := by rw [hw5]; exact bl4.other4 (by omega) _ _ _ _
            have bs5 : Blk w5 63 N11 (fun i => limb i u) := by rw [hw5]; exact bs4.other4 (by omega) _ _ _ _
            have hg5 : Glob w5 := by rw [hw5]; exact glob_set4 hg4 (by omega) _ _ _ _
            have hbw5 : Below w.heap.size w w5 := by rw [hw5]; exact bSet4 hbw4 (by omega) _ _ _ _
            rw [← hw5]
            clear hw5 bm4 br4 bo4 bl4 bs4 hbw4 hg4 ct ft
            have cm := bm5.cell; have cs := bs5.cell
            go_wp2_with fail
            refine (M2 _).mono ?_
            rintro e w6 ⟨rfl, hb6⟩
            have bm6 := bm5.belowAll hb6; have br6 := br5.belowAll hb6; have bo6 := bo5.belowAll hb6; have bl6 := bl5.belowAll hb6; have bs6 := bs5.belowAll hb6; have hg6 := hg5.below hb6
            have hbw6 := bStep hbw5 hb6
            clear bm5 br5 bo5 bl5 bs5 hbw5 hb6 hg5 cm cs
            have ct := bs6.cell; have ft := bs6.frozen
            go_upto_region 14 with fail
            obtain ⟨w7, hw7⟩ : ∃ w7 : World, w7 = (((w6.setCell ⟨N11, 0, none⟩ (.int .u64 ((limb 0 v : Nat) : Int))).setCell ⟨N11, 1, none⟩ (.int .u64 ((limb 1 v : Nat) : Int))).setCell ⟨N11, 2, none⟩ (.int .u64 ((limb 2 v : Nat) : Int))).setCell ⟨N11, 3, none⟩ (.int .u64 ((limb 3 v : Nat) : Int)) := ⟨_, rfl⟩
            have bm7 : Blk w7 63 w.heap.size (fun i => limb i m) := by rw [hw7]; exact bm6.other4 (by omega) _ _ _ _
            have br7 : Blk w7 63 (w.heap.size + 1 + 1) (fun _ => 0) := by rw [hw7]; exact br6.other4 (by omega) _ _ _ _
            have bo7 : Blk w7 63 N9 (fun i => limb i ro2) := by rw [hw7]; exact bo6.other4 (by omega) _ _ _ _
            have bl7 : Blk w7 63 N10 (fun i => limb i le) := by rw [hw7]; exact bl6.other4 (by omega) _ _ _ _
            have bs7 : Blk w7 63 N11 (fun i => limb i v) := by rw [hw7]; exact bs6.set4 (fun i => limb i v)
            have hg7 : Glob w7 := by rw [hw7]; exact glob_set4 hg6 (by omega) _ _ _ _
            have hbw7 : Below w.heap.size w w7 := by rw [hw7]; exact bSet4 hbw6 (by omega) _ _ _ _
            rw [← hw7]
            clear hw7 bm6 br6 bo6 bl6 bs6 hbw6 hg6 ct ft
            have cm := bm7.cell; have cl := bl7.cell; have cs := bs7.cell
            go_wp2_with fail
            refine (M3 _).mono ?_
            rintro e w8 ⟨rfl, hb8⟩
            have bm8 := bm7.belowAll hb8; have br8 := br7.belowAll hb8; have bo8 := bo7.belowAll hb8; have bl8 := bl7.belowAll hb8; have bs8 := bs7.belowAll hb8; have hg8 := hg7.below hb8
            have hbw8 := bStep hbw7 hb8
            clear bm7 br7 bo7 bl7 bs7 hbw7 hb8 hg7 cm cl cs
            have ct := bl8.cell; have ft := bl8.frozen
            go_wp2
            go_roundw
            case measure => simp [intOf]; omega
            case rel =>
              exact ⟨ro2, le2, v, k, rfl, HP, bSet4 hbw8 (by omega) _ _ _ _, glob_set4 hg8 (by omega) _ _ _ _, bm8.other4 (by omega) _ _ _ _, br8.other4 (by omega) _ _ _ _, bo8.other4 (by omega) _ _ _ _, bl8.set4 (fun i => limb i le2), bs8.other4 (by omega) _ _ _ _⟩

end Go.Proofs.YtaeembdabnomaaaGreatDoor

/- What field.Sqrt does. -/
namespace Go.Proofs.YtaeembdabnomaaaGreatDoor
open Go.RowKit

section
variable {W w1 : World} {n1 n2 k : Nat} {f g : Nat → Nat} {v : Value}
theorem tri_below (hb : Below W.heap.size W w1) (h : (∀ i, i < 4 → W.cell? ⟨n1, i, none⟩ = some (.int .u64 ((f i : Nat) : Int))) ∧ (∀ i, i < 4 → W.cell? ⟨n2, i, none⟩ = some (.int .u64 ((g i : Nat) : Int))) ∧ W.cell? ⟨1, k, none⟩ = some v) : (∀ i, i < 4 → w1.cell? ⟨n1, i, none⟩ = some (.int .u64 ((f i : Nat) : Int))) ∧ (∀ i, i < 4 → w1.cell? ⟨n2, i, none⟩ = some (.int .u64 ((g i : Nat) : Int))) ∧ w1.cell? ⟨1, k, none⟩ = some v :=
  ⟨cells_below hb h.1, cells_below hb h.2.1, by rw [hb.cell (p := ⟨1, k, none⟩) (World.block_lt_of_cell? W ⟨1, k, none⟩ h.2.2)]; exact h.2.2⟩
theorem tri_alloc (o : Obj) (h : (∀ i, i < 4 → W.cell? ⟨n1, i, none⟩ = some (.int .u64 ((f i : Nat) : Int))) ∧ (∀ i, i < 4 → W.cell? ⟨n2, i, none⟩ = some (.int .u64 ((g i : Nat) : Int))) ∧ W.cell? ⟨1, k, none⟩ = some v) : (∀ i, i < 4 → (W.alloc o).cell? ⟨n1, i, none⟩ = some (.int .u64 ((f i : Nat) : Int))) ∧ (∀ i, i < 4 → (W.alloc o).cell? ⟨n2, i, none⟩ = some (.int .u64 ((g i : Nat) : Int))) ∧ (W.alloc o).cell? ⟨1, k, none⟩ = some v := tri_below ((Below.refl _ _).alloc (Nat.le_refl _) o) h
theorem tri_re (o o' : Obj) (h1 : n1 < W.heap.size) (h2 : n2 < W.heap.size) (h3 : 1 < W.heap.size) (h : (∀ i, i < 4 → (W.alloc o).cell? ⟨n1, i, none⟩ = some (.int .u64 ((f i : Nat) : Int))) ∧ (∀ i, i < 4 → (W.alloc o).cell? ⟨n2, i, none⟩ = some (.int .u64 ((g i : Nat) : Int))) ∧ (W.alloc o).cell? ⟨1, k, none⟩ = some v) : (∀ i, i < 4 → (W.alloc o').cell? ⟨n1, i, none⟩ = some (.int .u64 ((f i : Nat) : Int))) ∧ (∀ i, i < 4 → (W.alloc o').cell? ⟨n2, i, none⟩ = some (.int .u64 ((g i : Nat) : Int))) ∧ (W.alloc o').cell? ⟨1, k, none⟩ = some v := by
  refine tri_alloc o' ⟨fun i hi => ?_, fun i hi => ?_, ?_⟩
  · rw [← (acell (w := W) (Nat.le_refl _)).1 o n1 i h1]; exact h.1 i hi
  · rw [← (acell (w := W) (Nat.le_refl _)).1 o n2 i h2]; exact h.2.1 i hi
  · rw [← (acell (w := W) (Nat.le_refl _)).1 o 1 k h3]; exact h.2.2
theorem tri_far (r : Nat) (v0 v1 v2 v3 : Value) (h1 : r ≠ n1) (h2 : r ≠ n2) (h3 : 1 < r) (h : (∀ i, i < 4 → W.cell? ⟨n1, i, none⟩ = some (.int .u64 ((f i : Nat) : Int))) ∧ (∀ i, i < 4 → W.cell? ⟨n2, i, none⟩ = some (.int .u64 ((g i : Nat) : Int))) ∧ W.cell? ⟨1, k, none⟩ = some v) : (∀ i, i < 4 → ((((W.setCell ⟨r, 0, none⟩ v0).setCell ⟨r, 1, none⟩ v1).setCell ⟨r, 2, none⟩ v2).setCell ⟨r, 3, none⟩ v3).cell? ⟨n1, i, none⟩ = some (.int .u64 ((f i : Nat) : Int))) ∧ (∀ i, i < 4 → ((((W.setCell ⟨r, 0, none⟩ v0).setCell ⟨r, 1, none⟩ v1).setCell ⟨r, 2, none⟩ v2).setCell ⟨r, 3, none⟩ v3).cell? ⟨n2, i, none⟩ = some (.int .u64 ((g i : Nat) : Int))) ∧ ((((W.setCell ⟨r, 0, none⟩ v0).setCell ⟨r, 1, none⟩ v1).setCell ⟨r, 2, none⟩ v2).setCell ⟨r, 3, none⟩ v3).cell? ⟨1, k, none⟩ = some v := by
  refine ⟨cells_far4 v0 v1 v2 v3 h1 h.1, cells_far4 v0 v1 v2 v3 h2 h.2.1, ?_⟩
  have hB : Below r W ((((W.setCell ⟨r, 0, none⟩ v0).setCell ⟨r, 1, none⟩ v1).setCell ⟨r, 2, none⟩ v2).setCell ⟨r, 3, none⟩ v3) := by
    repeat (first | exact Below.refl _ _ | refine Below.setCell ?_ (by simp) _)
  rw [hB.cell (p := ⟨1, k, none⟩) h3]
  exact h.2.2
end

/-- field.squareRoot, its answer in one form. -/
theorem squareRoot_one (m x h S : Nat) (hp : IsPrime m) (hG : GoodMod m) (h5 : 5 < m) (H : OddPart m h S) (hx : x < m) (w : World) (hg : Glob w) :
    Calls Tryz.prog 111 #[.agg #[.int .u64 ((limb 0 (m) : Nat) : Int), .int .u64 ((limb 1 (m) : Nat) : Int), .int .u64 ((limb 2 (m) : Nat) : Int), .int .u64 ((limb 3 (m) : Nat) : Int)], .int .i64 (S : Int), .agg #[.int .u64 ((limb 0 (x) : Nat) : Int), .int .u64 ((limb 1 (x) : Nat) : Int), .int .u64 ((limb 2 (x) : Nat) : Int), .int .u64 ((limb 3 (x) : Nat) : Int)]] w fun e w' => (∃ (r : Nat) (b : Bool), e = .returned (.tuple #[.agg #[.int .u64 ((limb 0 (r) : Nat) : Int), .int .u64 ((limb 1 (r) : Nat) : Int), .int .u64 ((limb 2 (r) : Nat) : Int), .int .u64 ((limb 3 (r) : Nat) : Int)], .bool b]) ∧ r < m ∧ Hid ((b = true ∧ r * r % m = x) ∨ (b = false ∧ x ≠ 0 ∧ powM m x ((2 * h + 1) * 2 ^ (S - 1)) ≠ 1))) ∧ Below w.heap.size w w' := by
  refine (squareRoot_any m x h S hp hG h5 H hx w hg).mono ?_
  rintro e w' ⟨he, hb⟩
  refine ⟨?_, hb⟩
  rcases he with ⟨r, lr, hr, rfl⟩ | ⟨h0, hn, rfl⟩
  · exact ⟨r, true, rfl, lr, Or.inl ⟨rfl, hr⟩⟩
  · refine ⟨0, false, ?_, hG.lt.1, Or.inr ⟨rfl, h0, hn⟩⟩
    rw [limbz, limbz, limbz, limbz]
    rfl
theorem odd_any (p h S T : Nat) (hS : 1 ≤ S) (hS2 : S ≤ 32) (hT : 2 ^ (S - 1) = T) (hT2 : 2 ^ S = 2 * T) (h1 : p - 1 = (2 * h + 1) * (2 * T)) (h2 : pm p 5 256 ((p - 1) / 2) = p - 1 ∧ (p - 1) / 2 < 2 ^ 256) : OddPart p h S := by
  refine ⟨by rw [hT2]; exact h1, hS, hS2, ?_⟩
  have e : (2 * h + 1) * 2 ^ (S - 1) = (p - 1) / 2 := by
    rw [hT, h1, Nat.mul_left_comm, Nat.mul_div_cancel_left _ (by decide)]
  rw [e]
  have h3 := pm_eq p 5 256 ((p - 1) / 2) h2.2
  rw [h2.1] at h3
  exact h3.symm
def oddH : Nat → Nat
  | 0 => 16126
  | 1 => 4033
  | 2 => 3369993333393829974333376885877453834209946971612698481878577354870
  | _ => 3369993333393829974333376885877453834209946971612708570864021632400
theorem oddH_ok (s : Nat) : OddPart (modN s) (oddH s) (adicN s) := by
  match s with
  | 0 => exact odd_any 16513537 16126 9 256 (by decide) (by decide) (by decide) (by decide) (by decide) (by decide +kernel)
  | 1 => exact odd_any 16521217 4033 11 1024 (by decide) (by decide) (by decide) (by decide) (by decide) (by decide +kernel)
  | 2 => exact odd_any 28948022309329048855892746252171976963363056481941560715954676764349967630337 3369993333393829974333376885877453834209946971612698481878577354870 32 2147483648 (by decide) (by decide) (by decide) (by decide) (by decide) (by decide +kernel)
  | _ + 3 => exact odd_any 28948022309329048855892746252171976963363056481941647379679742748393362948097 3369993333393829974333376885877453834209946971612708570864021632400 32 2147483648 (by decide) (by decide) (by decide) (by decide) (by decide) (by decide +kernel)

set_option maxHeartbeats 8000000 in
set_option maxRecDepth 20000 in
/-- field.Sqrt of a sort that there is. -/
theorem fSqrt_any (s a : Nat) (hs : s < 4) (ha : a < 115792089237316195423570985008687907853269984665640564039457584007913129639936) (w : World) (hg : Glob w) :
    Calls Tryz.prog 84 #[.int .i64 (s : Int), .agg #[.int .u64 ((limb 0 (a) : Nat) : Int), .int .u64 ((limb 1 (a) : Nat) : Int), .int .u64 ((limb 2 (a) : Nat) : Int), .int .u64 ((limb 3 (a) : Nat) : Int)]] w fun e w' => ((∃ r, r < modN s ∧ r % 2 = 0 ∧ r * r % modN s = a % modN s ∧ e = .returned (.tuple #[.agg #[.int .u64 ((limb 0 (r) : Nat) : Int), .int .u64 ((limb 1 (r) : Nat) : Int), .int .u64 ((limb 2 (r) : Nat) : Int), .int .u64 ((limb 3 (r) : Nat) : Int)], .int .i64 0])) ∨ (a % modN s ≠ 0 ∧ powM (modN s) (a % modN s) ((2 * oddH s + 1) * 2 ^ (adicN s - 1)) ≠ 1 ∧ e = .returned (.tuple #[.agg #[.int .u64 0, .int .u64 0, .int .u64 0, .int .u64 0], .int .i64 22]))) ∧ Below w.heap.size w w' := by
  have hG := modN_good s
  have hgl := hG.lt
  have hod := modN_odd s
  have HM := fun w hg => modulus_any s hs w hg
  have H := oddH_ok s
  have hp := modN_prime s
  have h5 := modN_5 s
  have cAd : ∀ w : World, Glob w → w.cell? ⟨1, 5 * s + 4, none⟩ = some (.int .i64 ((adicN s : Nat) : Int)) := fun w hg => (hg.2.1 s hs).2
  obtain ⟨A, eA⟩ : ∃ A, A = adicN s := ⟨_, rfl⟩
  rw [← eA] at cAd H ⊢
  clear eA
  obtain ⟨h, eh⟩ : ∃ h, h = oddH s := ⟨_, rfl⟩
  rw [← eh] at H ⊢
  clear eh
  obtain ⟨m, em⟩ : ∃ m, m = modN s := ⟨_, rfl⟩
  rw [← em] at hG hgl hod HM H hp h5 ⊢
  clear em
  have lx := Nat.mod_lt a hgl.1
  have EA := fun w => element_any m a hgl.1 hgl.2.2 ha w
  obtain ⟨x, ex⟩ : ∃ x, x = a % m := ⟨_, rfl⟩
  rw [← ex] at lx EA ⊢
  clear ex
  have SR := fun w hg => squareRoot_one m x h A hp hG h5 H lx w hg
  have DF : ∀ r w, 0 < r → r < m → Calls Tryz.prog 68 #[.agg #[.int .u64 ((limb 0 (m) : Nat) : Int), .int .u64 ((limb 1 (m) : Nat) : Int), .int .u64 ((limb 2 (m) : Nat) : Int), .int .u64 ((limb 3 (m) : Nat) : Int)], .agg #[.int .u64 0, .int .u64 0, .int .u64 0, .int .u64 0], .agg #[.int .u64 ((limb 0 (r) : Nat) : Int), .int .u64 ((limb 1 (r) : Nat) : Int), .int .u64 ((limb 2 (r) : Nat) : Int), .int .u64 ((limb 3 (r) : Nat) : Int)]] w fun e w' => e = .returned (.agg #[.int .u64 ((limb 0 (m - r) : Nat) : Int), .int .u64 ((limb 1 (m - r) : Nat) : Int), .int .u64 ((limb 2 (m - r) : Nat) : Int), .int .u64 ((limb 3 (m - r) : Nat) : Int)]) ∧ Below w.heap.size w w' := fun r w h0 hr => by
    have h := difference_any m 0 r hgl.2.2 (by decide) (by omega) (by omega) w
    rw [show diffN m 0 r = m - r from by unfold diffN; rw [if_pos h0]; omega, limbz, limbz, limbz, limbz] at h
    exact h
  have HD : Unit → _ := fun _ => DF
  have HO := (show Hid _ from hod.1)
  obtain ⟨Q0, eQ⟩ : ∃ Q0 : Nat, Q0 = (2 * h + 1) * 2 ^ (A - 1) := ⟨_, rfl⟩
  rw [← eQ] at SR ⊢
  have hm := hgl.2.2
  have hm0 := hgl.1
  clear eQ hG hgl hod hp h5 H DF
  have hs4 : s = 0 ∨ s = 1 ∨ s = 2 ∨ s = 3 := by omega
  clear hs
  rcases hs4 with rfl | rfl | rfl | rfl
  · go_enter Tryz.func84, Tryz.ntmps84
    go_wp2_with fail
    obtain ⟨w0, hw0⟩ : ∃ w0 : World, w0 = (w.alloc (.cells #[.int .u64 ((limb 0 (a) : Nat) : Int), .int .u64 ((limb 1 (a) : Nat) : Int), .int .u64 ((limb 2 (a) : Nat) : Int), .int .u64 ((limb 3 (a) : Nat) : Int)] 24)).alloc (.cells #[.int .u64 0, .int .u64 0, .int .u64 0, .int .u64 0] 24) := ⟨_, rfl⟩
    have ba0 : Blk w0 24 w.heap.size (fun i => limb i a) := by rw [hw0]; exact (Blk.newAt _ _ _ (fun i => limb i a) (by simp)).alloc _
    have br0 : Blk w0 24 (w.heap.size + 1) (fun _ => 0) := by rw [hw0]; exact Blk.newAt _ _ _ (fun _ => 0) (by simp)
    have hg0 : Glob w0 := by rw [hw0]; exact (hg.alloc _).alloc _
    have hb0 : Below w.heap.size w w0 := by rw [hw0]; exact bAlloc ((Below.refl _ _).alloc (Nat.le_refl _) _) _
    have hgw := hg.1
    rw [← hw0]
    clear hw0 hg
    refine (HM _ hg0).mono ?_
    rintro e w1 ⟨rfl, hb1⟩
    have ba1 := ba0.belowAll hb1; have br1 := br0.belowAll hb1; have hg1 := hg0.below hb1
    have hbw1 := bStep hb0 hb1
    have lr1 := br1.lt
    clear ba0 br0 hb0 hb1 hg0 HM
    obtain ⟨w2, hw2⟩ : ∃ w2 : World, w2 = w1.alloc (.cells #[.int .u64 ((limb 0 (m) : Nat) : Int), .int .u64 ((limb 1 (m) : Nat) : Int), .int .u64 ((limb 2 (m) : Nat) : Int), .int .u64 ((limb 3 (m) : Nat) : Int)] 63) := ⟨_, rfl⟩
    have ba2 : Blk w2 24 w.heap.size (fun i => limb i a) := by rw [hw2]; exact ba1.alloc _
    have br2 : Blk w2 24 (w.heap.size + 1) (fun _ => 0) := by rw [hw2]; exact br1.alloc _
    have bm2 : Blk w2 63 w1.heap.size (fun i => limb i m) := by rw [hw2]; exact Blk.new w1 _ (fun i => limb i m)
    have hg2 : Glob w2 := by rw [hw2]; exact hg1.alloc _
    have hbw2 : Below w.heap.size w w2 := by rw [hw2]; exact bAlloc hbw1 _
    have cA := cAd w2 hg2
    have lg2 : 1 < w2.heap.size := by have := hg2.1; omega
    have lm2 := bm2.lt
    have la2 := ba2.lt
    go_upto_region 4 with fail
    rw [← hw2]
    clear hw2 ba1 br1 hbw1 hg1 cAd
    go_wp2_with fail
    have hg2d := hg2.drew
    have hgAd := (hg2.alloc (.cells #[.int .u64 0, .int .u64 0, .int .u64 0, .int .u64 0] 63)).drew
    have cAd2 : w2.drew.cell? ⟨1, 4, none⟩ = some (.int .i64 (A : Int)) := cA
    have hSA := tri_alloc (W := w2.drew) (.cells #[.int .u64 0, .int .u64 0, .int .u64 0, .int .u64 0] 63) ⟨bm2.drew.cell, ba2.drew.cell, cAd2⟩
    go_cut [8, 7] (fun pr ov wx => ∃ (B ro : Nat) (b : Bool), pr = .pointer (some ⟨B, 0, none⟩) ∧ ov = .bool b ∧ ro < m ∧ Hid ((b = true ∧ ro * ro % m = x) ∨ (b = false ∧ x ≠ 0 ∧ powM m x Q0 ≠ 1)) ∧ w2.heap.size ≤ B ∧ Blk wx 63 B (fun i => limb i ro) ∧ Below w2.heap.size w2 wx)
    case first =>
      go_region_held3 (fun w' => (∀ i, i < 4 → w'.cell? ⟨w1.heap.size, i, none⟩ = some (.int .u64 ((limb i m : Nat) : Int))) ∧ (∀ i, i < 4 → w'.cell? ⟨w.heap.size, i, none⟩ = some (.int .u64 ((limb i a : Nat) : Int))) ∧ w'.cell? ⟨1, 4, none⟩ = some (.int .i64 (A : Int)))
        (first | with_reducible exact tri_below hb4 (by with_reducible assumption) | with_reducible exact tri_below hb3 (by with_reducible assumption) | with_reducible exact tri_alloc _ (by with_reducible assumption) | with_reducible exact tri_re _ _ (by omega) (by omega) (by omega) (by with_reducible assumption) | with_reducible exact tri_far _ _ _ _ _ (by omega) (by omega) (by omega) (by with_reducible assumption) | with_reducible exact ⟨bm2.drew.cell, ba2.drew.cell, cAd2⟩ | exact hSA)
        (first | (go_at_call 56; with_reducible refine (EA _).mono ?_; rintro e w3 ⟨rfl, hb3⟩; obtain ⟨hc3, hf3⟩ := bcell hb3; have hz3 := hb3.size; try simp at hz3; try (have hy3 : w2.heap.size < w3.heap.size := by omega)) | (go_at_call 111; with_reducible refine (SR _ ?_).mono ?_; (first | with_reducible exact hg2d.below hb3 | with_reducible exact hgAd.below hb3 | with_reducible exact (hg2d.below hb3).alloc _); rintro e w4 ⟨⟨ro, b, rfl, lro, hro⟩, hb4⟩; obtain ⟨hc4, hf4⟩ := bcell hb4; have hz4 := hb4.size; try simp at hz4) | fail)
      all_goals (go_wp2_with fail; go_meet)
      · refine ⟨_, ro, b, rfl, rfl, lro, hro, by omega, ?_, ?_⟩
        · exact Blk.new w4 _ (fun i => limb i ro)
        · exact ((Below.refl w2.heap.size w2).drew.trans (hb3.trans (hb4.mono (show w2.heap.size ≤ w3.heap.size by omega)))).alloc (by omega) _
      · refine ⟨_, ro, b, rfl, rfl, lro, hro, by omega, ?_, ?_⟩
        · exact ((Blk.new w3 _ (fun _ => 0)).belowAll hb4).set4 (fun i => limb i ro)
        · have hb5 : Below w2.heap.size w2 w4 := ((Below.refl w2.heap.size w2).drew.trans hb3).trans ((((Below.refl w3.heap.size w3).alloc (Nat.le_refl _) _).trans (hb4.mono (by simp))).mono (by omega))
          exact (((hb5.setCell (by dsimp only; omega) _).setCell (by dsimp only; omega) _).setCell (by dsimp only; omega) _).setCell (by dsimp only; omega) _
      · refine ⟨_, ro, b, rfl, rfl, lro, hro, by omega, ?_, ?_⟩
        · exact (((Blk.new w2 _ (fun _ => 0)).drew.belowAll hb3).belowAll hb4).set4 (fun i => limb i ro)
        · have hb5 : Below w2.heap.size w2 w4 := (((Below.refl w2.heap.size w2).alloc (Nat.le_refl _) _).drew.trans (hb3.mono (by simp))).trans (hb4.mono (by omega))
          exact (((hb5.setCell (by dsimp only; omega) _).setCell (by dsimp only; omega) _).setCell (by dsimp only; omega) _).setCell (by dsimp only; omega) _
    case rest =>
      obtain ⟨B, ro, b, rfl, rfl, lro, hro, hB, bo3, hbx⟩ := hcut
      have bm3 := bm2.belowAll hbx; have br3 := br2.belowAll hbx
      have hbw3 := bStep hbw2 hbx
      have rB : w.heap.size + 1 < B := by have := br2.lt; omega
      clear ba2 bm2 br2 hg2 hg2d hgAd hbw2 hbx cA cAd2 hSA EA SR
      rcases hro.out with ⟨rfl, hsq⟩ | ⟨rfl, hx0, hpw⟩
      · have HQ := (show Hid _ from hsq)
        clear hsq hro
        have hl0 : limb 0 ro % 2 = ro % 2 := by rw [limb0]; omega
        have c0 : wc.cell? ⟨B, 0, none⟩ = some (.int .u64 ((limb 0 ro : Nat) : Int)) := bo3.cell 0 (by decide)
        by_cases hev : ro % 2 = 0
        · have hb2 : (((limb 0 ro : Nat) : Int) % 2) = 0 := by omega
          have HE := (show Hid _ from hev)
          clear hev hl0
          have TE := fun w => toElem_any ro w
          have co := bo3.cell
          go_wp2_with fail
          refine (TE _).mono ?_
          rintro e w4 ⟨rfl, hb4⟩
          have br4 := br3.belowAll hb4
          have hbw4 := bStep hbw3 hb4
          have cr := br4.cell; have fr := br4.frozen; have lr := br4.lt
          clear br3 bm3 bo3 hbw3 hb4 c0 co
          go_wp2
          refine bodyPost_ret (v := .tuple #[.agg #[.int .u64 ((limb 0 (ro) : Nat) : Int), .int .u64 ((limb 1 (ro) : Nat) : Int), .int .u64 ((limb 2 (ro) : Nat) : Int), .int .u64 ((limb 3 (ro) : Nat) : Int)], .int .i64 0]) (by simp [results, Tryz.results84, go_sem, cr]) rfl ⟨Or.inl ⟨ro, lro, HE.out, HQ.out, rfl⟩, ?_⟩
          repeat (first | with_reducible exact hbw4 | with_reducible refine Below.setCell ?_ (by first | omega | (simp; omega) | simp) _)
        · have hb2 : (((limb 0 ro : Nat) : Int) % 2) = 1 := by omega
          have HE : Hid ((m - ro) % 2 = 0) := by show _ = _; have := HO.out; omega
          have HR : Hid ((m - ro) * (m - ro) % m = x) := by
            show _ = _
            rw [← HQ.out, ← evenR_sq lro]
            unfold evenR
            rw [if_neg hev]
          have D1 := fun w => HD () ro w (by omega) lro
          have l2 : m - ro < m := by omega
          obtain ⟨u, eu⟩ : ∃ u, u = m - ro := ⟨_, rfl⟩
          rw [← eu] at D1 HE HR l2
          clear hev hl0 eu HQ
          have TE := fun w => toElem_any u w
          have co := bo3.cell; have cm := bm3.cell
          go_wp2_with fail
          refine (D1 _).mono ?_
          rintro e w4 ⟨rfl, hb4⟩
          have br4 := br3.belowAll hb4; have bo4 := bo3.belowAll hb4
          have hbw4 := bStep hbw3 hb4
          clear br3 bm3 bo3 hbw3 hb4 c0 co cm
          have co := bo4.cell; have fo := bo4.frozen
          have bo5 := bo4.set4 (fun i => limb i u)
          have br5 := br4.other4 (show w.heap.size + 1 ≠ B by omega) (.int .u64 ((limb 0 u : Nat) : Int)) (.int .u64 ((limb 1 u : Nat) : Int)) (.int .u64 ((limb 2 u : Nat) : Int)) (.int .u64 ((limb 3 u : Nat) : Int))
          have hbw5 := bSet4 hbw4 (show w.heap.size ≤ B by omega) (.int .u64 ((limb 0 u : Nat) : Int)) (.int .u64 ((limb 1 u : Nat) : Int)) (.int .u64 ((limb 2 u : Nat) : Int)) (.int .u64 ((limb 3 u : Nat) : Int))
          go_upto_region 9 with fail
          obtain ⟨w5, hw5⟩ : ∃ w5 : World, w5 = (((w4.setCell ⟨B, 0, none⟩ (.int .u64 ((limb 0 u : Nat) : Int))).setCell ⟨B, 1, none⟩ (.int .u64 ((limb 1 u : Nat) : Int))).setCell ⟨B, 2, none⟩ (.int .u64 ((limb 2 u : Nat) : Int))).setCell ⟨B, 3, none⟩ (.int .u64 ((limb 3 u : Nat) : Int)) := ⟨_, rfl⟩
          rw [← hw5] at bo5 br5 hbw5 ⊢
          clear hw5 br4 bo4 hbw4 co fo
          have co := bo5.cell
          go_wp2_with fail
          refine (TE _).mono ?_
          rintro e w6 ⟨rfl, hb6⟩
          have br6 := br5.belowAll hb6
          have hbw6 := bStep hbw5 hb6
          have cr := br6.cell; have fr := br6.frozen; have lr := br6.lt
          clear br5 bo5 hbw5 hb6 co
          go_wp2
          refine bodyPost_ret (v := .tuple #[.agg #[.int .u64 ((limb 0 (u) : Nat) : Int), .int .u64 ((limb 1 (u) : Nat) : Int), .int .u64 ((limb 2 (u) : Nat) : Int), .int .u64 ((limb 3 (u) : Nat) : Int)], .int .i64 0]) (by simp [results, Tryz.results84, go_sem, cr]) rfl ⟨Or.inl ⟨u, l2, HE.out, HR.out, rfl⟩, ?_⟩
          repeat (first | with_reducible exact hbw6 | with_reducible refine Below.setCell ?_ (by first | omega | (simp; omega) | simp) _)
      · have H0 := (show Hid _ from hx0); have H1 := (show Hid _ from hpw)
        clear hx0 hpw hro
        have cr := br3.cell; have fr := br3.frozen; have lr := br3.lt
        clear bo3 bm3
        go_wp2
        refine bodyPost_ret (v := .tuple #[.agg #[.int .u64 0, .int .u64 0, .int .u64 0, .int .u64 0], .int .i64 22]) (by simp [results, Tryz.results84, go_sem, cr]) rfl ⟨Or.inr ⟨H0.out, H1.out, rfl⟩, ?_⟩
        repeat (first | with_reducible exact hbw3 | with_reducible refine Below.setCell ?_ (by first | omega | (simp; omega) | simp) _)
  · go_enter Tryz.func84, Tryz.ntmps84
    go_wp2_with fail
    obtain ⟨w0, hw0⟩ : ∃ w0 : World, w0 = (w.alloc (.cells #[.int .u64 ((limb 0 (a) : Nat) : Int), .int .u64 ((limb 1 (a) : Nat) : Int), .int .u64 ((limb 2 (a) : Nat) : Int), .int .u64 ((limb 3 (a) : Nat) : Int)] 24)).alloc (.cells #[.int .u64 0, .int .u64 0, .int .u64 0, .int .u64 0] 24) := ⟨_, rfl⟩
    have ba0 : Blk w0 24 w.heap.size (fun i => limb i a) := by rw [hw0]; exact (Blk.newAt _ _ _ (fun i => limb i a) (by simp)).alloc _
    have br0 : Blk w0 24 (w.heap.size + 1) (fun _ => 0) := by rw [hw0]; exact Blk.newAt _ _ _ (fun _ => 0) (by simp)
    have hg0 : Glob w0 := by rw [hw0]; exact (hg.alloc _).alloc _
    have hb0 : Below w.heap.size w w0 := by rw [hw0]; exact bAlloc ((Below.refl _ _).alloc (Nat.le_refl _) _) _
    have hgw := hg.1
    rw [← hw0]
    clear hw0 hg
    refine (HM _ hg0).mono ?_
    rintro e w1 ⟨rfl, hb1⟩
    have ba1 := ba0.belowAll hb1; have br1 := br0.belowAll hb1; have hg1 := hg0.below hb1
    have hbw1 := bStep hb0 hb1
    have lr1 := br1.lt
    clear ba0 br0 hb0 hb1 hg0 HM
    obtain ⟨w2, hw2⟩ : ∃ w2 : World, w2 = w1.alloc (.cells #[.int .u64 ((limb 0 (m) : Nat) : Int), .int .u64 ((limb 1 (m) : Nat) : Int), .int .u64 ((limb 2 (m) : Nat) : Int), .int .u64 ((limb 3 (m) : Nat) : Int)] 63) := ⟨_, rfl⟩
    have ba2 : Blk w2 24 w.heap.size (fun i => limb i a) := by rw [hw2]; exact ba1.alloc _
    have br2 : Blk w2 24 (w.heap.size + 1) (fun _ => 0) := by rw [hw2]; exact br1.alloc _
    have bm2 : Blk w2 63 w1.heap.size (fun i => limb i m) := by rw [hw2]; exact Blk.new w1 _ (fun i => limb i m)
    have hg2 : Glob w2 := by rw [hw2]; exact hg1.alloc _
    have hbw2 : Below w.heap.size w w2 := by rw [hw2]; exact bAlloc hbw1 _
    have cA := cAd w2 hg2
    have lg2 : 1 < w2.heap.size := by have := hg2.1; omega
    have lm2 := bm2.lt
    have la2 := ba2.lt
    go_upto_region 4 with fail
    rw [← hw2]
    clear hw2 ba1 br1 hbw1 hg1 cAd
    go_wp2_with fail
    have hg2d := hg2.drew
    have hgAd := (hg2.alloc (.cells #[.int .u64 0, .int .u64 0, .int .u64 0, .int .u64 0] 63)).drew
    have cAd2 : w2.drew.cell? ⟨1, 9, none⟩ = some (.int .i64 (A : Int)) := cA
    have hSA := tri_alloc (W := w2.drew) (.cells #[.int .u64 0, .int .u64 0, .int .u64 0, .int .u64 0] 63) ⟨bm2.drew.cell, ba2.drew.cell, cAd2⟩
    go_cut [8, 7] (fun pr ov wx => ∃ (B ro : Nat) (b : Bool), pr = .pointer (some ⟨B, 0, none⟩) ∧ ov = .bool b ∧ ro < m ∧ Hid ((b = true ∧ ro * ro % m = x) ∨ (b = false ∧ x ≠ 0 ∧ powM m x Q0 ≠ 1)) ∧ w2.heap.size ≤ B ∧ Blk wx 63 B (fun i => limb i ro) ∧ Below w2.heap.size w2 wx)
    case first =>
      go_region_held3 (fun w' => (∀ i, i < 4 → w'.cell? ⟨w1.heap.size, i, none⟩ = some (.int .u64 ((limb i m : Nat) : Int))) ∧ (∀ i, i < 4 → w'.cell? ⟨w.heap.size, i, none⟩ = some (.int .u64 ((limb i a : Nat) : Int))) ∧ w'.cell? ⟨1, 9, none⟩ = some (.int .i64 (A : Int)))
        (first | with_reducible exact tri_below hb4 (by with_reducible assumption) | with_reducible exact tri_below hb3 (by with_reducible assumption) | with_reducible exact tri_alloc _ (by with_reducible assumption) | with_reducible exact tri_re _ _ (by omega) (by omega) (by omega) (by with_reducible assumption) | with_reducible exact tri_far _ _ _ _ _ (by omega) (by omega) (by omega) (by with_reducible assumption) | with_reducible exact ⟨bm2.drew.cell, ba2.drew.cell, cAd2⟩ | exact hSA)
        (first | (go_at_call 56; with_reducible refine (EA _).mono ?_; rintro e w3 ⟨rfl, hb3⟩; obtain ⟨hc3, hf3⟩ := bcell hb3; have hz3 := hb3.size; try simp at hz3; try (have hy3 : w2.heap.size < w3.heap.size := by omega)) | (go_at_call 111; with_reducible refine (SR _ ?_).mono ?_; (first | with_reducible exact hg2d.below hb3 | with_reducible exact hgAd.below hb3 | with_reducible exact (hg2d.below hb3).alloc _); rintro e w4 ⟨⟨ro, b, rfl, lro, hro⟩, hb4⟩; obtain ⟨hc4, hf4⟩ := bcell hb4; have hz4 := hb4.size; try simp at hz4) | fail)
      all_goals (go_wp2_with fail; go_meet)
      · refine ⟨_, ro, b, rfl, rfl, lro, hro, by omega, ?_, ?_⟩
        · exact Blk.new w4 _ (fun i => limb i ro)
        · exact ((Below.refl w2.heap.size w2).drew.trans (hb3.trans (hb4.mono (show w2.heap.size ≤ w3.heap.size by omega)))).alloc (by omega) _
      · refine ⟨_, ro, b, rfl, rfl, lro, hro, by omega, ?_, ?_⟩
        · exact ((Blk.new w3 _ (fun _ => 0)).belowAll hb4).set4 (fun i => limb i ro)
        · have hb5 : Below w2.heap.size w2 w4 := ((Below.refl w2.heap.size w2).drew.trans hb3).trans ((((Below.refl w3.heap.size w3).alloc (Nat.le_refl _) _).trans (hb4.mono (by simp))).mono (by omega))
          exact (((hb5.setCell (by dsimp only; omega) _).setCell (by dsimp only; omega) _).setCell (by dsimp only; omega) _).setCell (by dsimp only; omega) _
      · refine ⟨_, ro, b, rfl, rfl, lro, hro, by omega, ?_, ?_⟩
        · exact (((Blk.new w2 _ (fun _ => 0)).drew.belowAll hb3).belowAll hb4).set4 (fun i => limb i ro)
        · have hb5 : Below w2.heap.size w2 w4 := (((Below.refl w2.heap.size w2).alloc (Nat.le_refl _) _).drew.trans (hb3.mono (by simp))).trans (hb4.mono (by omega))
          exact (((hb5.setCell (by dsimp only; omega) _).setCell (by dsimp only; omega) _).setCell (by dsimp only; omega) _).setCell (by dsimp only; omega) _
    case rest =>
      obtain ⟨B, ro, b, rfl, rfl, lro, hro, hB, bo3, hbx⟩ := hcut
      have bm3 := bm2.belowAll hbx; have br3 := br2.belowAll hbx
      have hbw3 := bStep hbw2 hbx
      have rB : w.heap.size + 1 < B := by have := br2.lt; omega
      clear ba2 bm2 br2 hg2 hg2d hgAd hbw2 hbx cA cAd2 hSA EA SR
      rcases hro.out with ⟨rfl, hsq⟩ | ⟨rfl, hx0, hpw⟩
      · have HQ := (show Hid _ from hsq)
        clear hsq hro
        have hl0 : limb 0 ro % 2 = ro % 2 := by rw [limb0]; omega
        have c0 : wc.cell? ⟨B, 0, none⟩ = some (.int .u64 ((limb 0 ro : Nat) : Int)) := bo3.cell 0 (by decide)
        by_cases hev : ro % 2 = 0
        · have hb2 : (((limb 0 ro : Nat) : Int) % 2) = 0 := by omega
          have HE := (show Hid _ from hev)
          clear hev hl0
          have TE := fun w => toElem_any ro w
          have co := bo3.cell
          go_wp2_with fail
          refine (TE _).mono ?_
          rintro e w4 ⟨rfl, hb4⟩
          have br4 := br3.belowAll hb4
          have hbw4 := bStep hbw3 hb4
          have cr := br4.cell; have fr := br4.frozen; have lr := br4.lt
          clear br3 bm3 bo3 hbw3 hb4 c0 co
          go_wp2
          refine bodyPost_ret (v := .tuple #[.agg #[.int .u64 ((limb 0 (ro) : Nat) : Int), .int .u64 ((limb 1 (ro) : Nat) : Int), .int .u64 ((limb 2 (ro) : Nat) : Int), .int .u64 ((limb 3 (ro) : Nat) : Int)], .int .i64 0]) (by simp [results, Tryz.results84, go_sem, cr]) rfl ⟨Or.inl ⟨ro, lro, HE.out, HQ.out, rfl⟩, ?_⟩
          repeat (first | with_reducible exact hbw4 | with_reducible refine Below.setCell ?_ (by first | omega | (simp; omega) | simp) _)
        · have hb2 : (((limb 0 ro : Nat) : Int) % 2) = 1 := by omega
          have HE : Hid ((m - ro) % 2 = 0) := by show _ = _; have := HO.out; omega
          have HR : Hid ((m - ro) * (m - ro) % m = x) := by
            show _ = _
            rw [← HQ.out, ← evenR_sq lro]
            unfold evenR
            rw [if_neg hev]
          have D1 := fun w => HD () ro w (by omega) lro
          have l2 : m - ro < m := by omega
          obtain ⟨u, eu⟩ : ∃ u, u = m - ro := ⟨_, rfl⟩
          rw [← eu] at D1 HE HR l2
          clear hev hl0 eu HQ
          have TE := fun w => toElem_any u w
          have co := bo3.cell; have cm := bm3.cell
          go_wp2_with fail
          refine (D1 _).mono ?_
          rintro e w4 ⟨rfl, hb4⟩
          have br4 := br3.belowAll hb4; have bo4 := bo3.belowAll hb4
          have hbw4 := bStep hbw3 hb4
          clear br3 bm3 bo3 hbw3 hb4 c0 co cm
          have co := bo4.cell; have fo := bo4.frozen
          have bo5 := bo4.set4 (fun i => limb i u)
          have br5 := br4.other4 (show w.heap.size + 1 ≠ B by omega) (.int .u64 ((limb 0 u : Nat) : Int)) (.int .u64 ((limb 1 u : Nat) : Int)) (.int .u64 ((limb 2 u : Nat) : Int)) (.int .u64 ((limb 3 u : Nat) : Int))
          have hbw5 := bSet4 hbw4 (show w.heap.size ≤ B by omega) (.int .u64 ((limb 0 u : Nat) : Int)) (.int .u64 ((limb 1 u : Nat) : Int)) (.int .u64 ((limb 2 u : Nat) : Int)) (.int .u64 ((limb 3 u : Nat) : Int))
          go_upto_region 9 with fail
          obtain ⟨w5, hw5⟩ : ∃ w5 : World, w5 = (((w4.setCell ⟨B, 0, none⟩ (.int .u64 ((limb 0 u : Nat) : Int))).setCell ⟨B, 1, none⟩ (.int .u64 ((limb 1 u : Nat) : Int))).setCell ⟨B, 2, none⟩ (.int .u64 ((limb 2 u : Nat) : Int))).setCell ⟨B, 3, none⟩ (.int .u64 ((limb 3 u : Nat) : Int)) := ⟨_, rfl⟩
          rw [← hw5] at bo5 br5 hbw5 ⊢
          clear hw5 br4 bo4 hbw4 co fo
          have co := bo5.cell
          go_wp2_with fail
          refine (TE _).mono ?_
          rintro e w6 ⟨rfl, hb6⟩
          have br6 := br5.belowAll hb6
          have hbw6 := bStep hbw5 hb6
          have cr := br6.cell; have fr := br6.frozen; have lr := br6.lt
          clear br5 bo5 hbw5 hb6 co
          go_wp2
          refine bodyPost_ret (v := .tuple #[.agg #[.int .u64 ((limb 0 (u) : Nat) : Int), .int .u64 ((limb 1 (u) : Nat) : Int), .int .u64 ((limb 2 (u) : Nat) : Int), .int .u64 ((limb 3 (u) : Nat) : Int)], .int .i64 0]) (by simp [results, Tryz.results84, go_sem, cr]) rfl ⟨Or.inl ⟨u, l2, HE.out, HR.out, rfl⟩, ?_⟩
          repeat (first | with_reducible exact hbw6 | with_reducible refine Below.setCell ?_ (by first | omega | (simp; omega) | simp) _)
      · have H0 := (show Hid _ from hx0); have H1 := (show Hid _ from hpw)
        clear hx0 hpw hro
        have cr := br3.cell; have fr := br3.frozen; have lr := br3.lt
        clear bo3 bm3
        go_wp2
        refine bodyPost_ret (v := .tuple #[.agg #[.int .u64 0, .int .u64 0, .int .u64 0, .int .u64 0], .int .i64 22]) (by simp [results, Tryz.results84, go_sem, cr]) rfl ⟨Or.inr ⟨H0.out, H1.out, rfl⟩, ?_⟩
        repeat (first | with_reducible exact hbw3 | with_reducible refine Below.setCell ?_ (by first | omega | (simp; omega) | simp) _)
  · go_enter Tryz.func84, Tryz.ntmps84
    go_wp2_with fail
    obtain ⟨w0, hw0⟩ : ∃ w0 : World, w0 = (w.alloc (.cells #[.int .u64 ((limb 0 (a) : Nat) : Int), .int .u64 ((limb 1 (a) : Nat) : Int), .int .u64 ((limb 2 (a) : Nat) : Int), .int .u64 ((limb 3 (a) : Nat) : Int)] 24)).alloc (.cells #[.int .u64 0, .int .u64 0, .int .u64 0, .int .u64 0] 24) := ⟨_, rfl⟩
    have ba0 : Blk w0 24 w.heap.size (fun i => limb i a) := by rw [hw0]; exact (Blk.newAt _ _ _ (fun i => limb i a) (by simp)).alloc _
    have br0 : Blk w0 24 (w.heap.size + 1) (fun _ => 0) := by rw [hw0]; exact Blk.newAt _ _ _ (fun _ => 0) (by simp)
    have hg0 : Glob w0 := by rw [hw0]; exact (hg.alloc _).alloc _
    have hb0 : Below w.heap.size w w0 := by rw [hw0]; exact bAlloc ((Below.refl _ _).alloc (Nat.le_refl _) _) _
    have hgw := hg.1
    rw [← hw0]
    clear hw0 hg
    refine (HM _ hg0).mono ?_
    rintro e w1 ⟨rfl, hb1⟩
    have ba1 := ba0.belowAll hb1; have br1 := br0.belowAll hb1; have hg1 := hg0.below hb1
    have hbw1 := bStep hb0 hb1
    have lr1 := br1.lt
    clear ba0 br0 hb0 hb1 hg0 HM
    obtain ⟨w2, hw2⟩ : ∃ w2 : World, w2 = w1.alloc (.cells #[.int .u64 ((limb 0 (m) : Nat) : Int), .int .u64 ((limb 1 (m) : Nat) : Int), .int .u64 ((limb 2 (m) : Nat) : Int), .int .u64 ((limb 3 (m) : Nat) : Int)] 63) := ⟨_, rfl⟩
    have ba2 : Blk w2 24 w.heap.size (fun i => limb i a) := by rw [hw2]; exact ba1.alloc _
    have br2 : Blk w2 24 (w.heap.size + 1) (fun _ => 0) := by rw [hw2]; exact br1.alloc _
    have bm2 : Blk w2 63 w1.heap.size (fun i => limb i m) := by rw [hw2]; exact Blk.new w1 _ (fun i => limb i m)
    have hg2 : Glob w2 := by rw [hw2]; exact hg1.alloc _
    have hbw2 : Below w.heap.size w w2 := by rw [hw2]; exact bAlloc hbw1 _
    have cA := cAd w2 hg2
    have lg2 : 1 < w2.heap.size := by have := hg2.1; omega
    have lm2 := bm2.lt
    have la2 := ba2.lt
    go_upto_region 4 with fail
    rw [← hw2]
    clear hw2 ba1 br1 hbw1 hg1 cAd
    go_wp2_with fail
    have hg2d := hg2.drew
    have hgAd := (hg2.alloc (.cells #[.int .u64 0, .int .u64 0, .int .u64 0, .int .u64 0] 63)).drew
    have cAd2 : w2.drew.cell? ⟨1, 14, none⟩ = some (.int .i64 (A : Int)) := cA
    have hSA := tri_alloc (W := w2.drew) (.cells #[.int .u64 0, .int .u64 0, .int .u64 0, .int .u64 0] 63) ⟨bm2.drew.cell, ba2.drew.cell, cAd2⟩
    go_cut [8, 7] (fun pr ov wx => ∃ (B ro : Nat) (b : Bool), pr = .pointer (some ⟨B, 0, none⟩) ∧ ov = .bool b ∧ ro < m ∧ Hid ((b = true ∧ ro * ro % m = x) ∨ (b = false ∧ x ≠ 0 ∧ powM m x Q0 ≠ 1)) ∧ w2.heap.size ≤ B ∧ Blk wx 63 B (fun i => limb i ro) ∧ Below w2.heap.size w2 wx)
    case first =>
      go_region_held3 (fun w' => (∀ i, i < 4 → w'.cell? ⟨w1.heap.size, i, none⟩ = some (.int .u64 ((limb i m : Nat) : Int))) ∧ (∀ i, i < 4 → w'.cell? ⟨w.heap.size, i, none⟩ = some (.int .u64 ((limb i a : Nat) : Int))) ∧ w'.cell? ⟨1, 14, none⟩ = some (.int .i64 (A : Int)))
        (first | with_reducible exact tri_below hb4 (by with_reducible assumption) | with_reducible exact tri_below hb3 (by with_reducible assumption) | with_reducible exact tri_alloc _ (by with_reducible assumption) | with_reducible exact tri_re _ _ (by omega) (by omega) (by omega) (by with_reducible assumption) | with_reducible exact tri_far _ _ _ _ _ (by omega) (by omega) (by omega) (by with_reducible assumption) | with_reducible exact ⟨bm2.drew.cell, ba2.drew.cell, cAd2⟩ | exact hSA)
        (first | (go_at_call 56; with_reducible refine (EA _).mono ?_; rintro e w3 ⟨rfl, hb3⟩; obtain ⟨hc3, hf3⟩ := bcell hb3; have hz3 := hb3.size; try simp at hz3; try (have hy3 : w2.heap.size < w3.heap.size := by omega)) | (go_at_call 111; with_reducible refine (SR _ ?_).mono ?_; (first | with_reducible exact hg2d.below hb3 | with_reducible exact hgAd.below hb3 | with_reducible exact (hg2d.below hb3).alloc _); rintro e w4 ⟨⟨ro, b, rfl, lro, hro⟩, hb4⟩; obtain ⟨hc4, hf4⟩ := bcell hb4; have hz4 := hb4.size; try simp at hz4) | fail)
      all_goals (go_wp2_with fail; go_meet)
      · refine ⟨_, ro, b, rfl, rfl, lro, hro, by omega, ?_, ?_⟩
        · exact Blk.new w4 _ (fun i => limb i ro)
        · exact ((Below.refl w2.heap.size w2).drew.trans (hb3.trans (hb4.mono (show w2.heap.size ≤ w3.heap.size by omega)))).alloc (by omega) _
      · refine ⟨_, ro, b, rfl, rfl, lro, hro, by omega, ?_, ?_⟩
        · exact ((Blk.new w3 _ (fun _ => 0)).belowAll hb4).set4 (fun i => limb i ro)
        · have hb5 : Below w2.heap.size w2 w4 := ((Below.refl w2.heap.size w2).drew.trans hb3).trans ((((Below.refl w3.heap.size w3).alloc (Nat.le_refl _) _).trans (hb4.mono (by simp))).mono (by omega))
          exact (((hb5.setCell (by dsimp only; omega) _).setCell (by dsimp only; omega) _).setCell (by dsimp only; omega) _).setCell (by dsimp only; omega) _
      · refine ⟨_, ro, b, rfl, rfl, lro, hro, by omega, ?_, ?_⟩
        · exact (((Blk.new w2 _ (fun _ => 0)).drew.belowAll hb3).belowAll hb4).set4 (fun i => limb i ro)
        · have hb5 : Below w2.heap.size w2 w4 := (((Below.refl w2.heap.size w2).alloc (Nat.le_refl _) _).drew.trans (hb3.mono (by simp))).trans (hb4.mono (by omega))
          exact (((hb5.setCell (by dsimp only; omega) _).setCell (by dsimp only; omega) _).setCell (by dsimp only; omega) _).setCell (by dsimp only; omega) _
    case rest =>
      obtain ⟨B, ro, b, rfl, rfl, lro, hro, hB, bo3, hbx⟩ := hcut
      have bm3 := bm2.belowAll hbx; have br3 := br2.belowAll hbx
      have hbw3 := bStep hbw2 hbx
      have rB : w.heap.size + 1 < B := by have := br2.lt; omega
      clear ba2 bm2 br2 hg2 hg2d hgAd hbw2 hbx cA cAd2 hSA EA SR
      rcases hro.out with ⟨rfl, hsq⟩ | ⟨rfl, hx0, hpw⟩
      · have HQ := (show Hid _ from hsq)
        clear hsq hro
        have hl0 : limb 0 ro % 2 = ro % 2 := by rw [limb0]; omega
        have c0 : wc.cell? ⟨B, 0, none⟩ = some (.int .u64 ((limb 0 ro : Nat) : Int)) := bo3.cell 0 (by decide)
        by_cases hev : ro % 2 = 0
        · have hb2 : (((limb 0 ro : Nat) : Int) % 2) = 0 := by omega
          have HE := (show Hid _ from hev)
          clear hev hl0
          have TE := fun w => toElem_any ro w
          have co := bo3.cell
          go_wp2_with fail
          refine (TE _).mono ?_
          rintro e w4 ⟨rfl, hb4⟩
          have br4 := br3.belowAll hb4
          have hbw4 := bStep hbw3 hb4
          have cr := br4.cell; have fr := br4.frozen; have lr := br4.lt
          clear br3 bm3 bo3 hbw3 hb4 c0 co
          go_wp2
          refine bodyPost_ret (v := .tuple #[.agg #[.int .u64 ((limb 0 (ro) : Nat) : Int), .int .u64 ((limb 1 (ro) : Nat) : Int), .int .u64 ((limb 2 (ro) : Nat) : Int), .int .u64 ((limb 3 (ro) : Nat) : Int)], .int .i64 0]) (by simp [results, Tryz.results84, go_sem, cr]) rfl ⟨Or.inl ⟨ro, lro, HE.out, HQ.out, rfl⟩, ?_⟩
          repeat (first | with_reducible exact hbw4 | with_reducible refine Below.setCell ?_ (by first | omega | (simp; omega) | simp) _)
        · have hb2 : (((limb 0 ro : Nat) : Int) % 2) = 1 := by omega
          have HE : Hid ((m - ro) % 2 = 0) := by show _ = _; have := HO.out; omega
          have HR : Hid ((m - ro) * (m - ro) % m = x) := by
            show _ = _
            rw [← HQ.out, ← evenR_sq lro]
            unfold evenR
            rw [if_neg hev]
          have D1 := fun w => HD () ro w (by omega) lro
          have l2 : m - ro < m := by omega
          obtain ⟨u, eu⟩ : ∃ u, u = m - ro := ⟨_, rfl⟩
          rw [← eu] at D1 HE HR l2
          clear hev hl0 eu HQ
          have TE := fun w => toElem_any u w
          have co := bo3.cell; have cm := bm3.cell
          go_wp2_with fail
          refine (D1 _).mono ?_
          rintro e w4 ⟨rfl, hb4⟩
          have br4 := br3.belowAll hb4; have bo4 := bo3.belowAll hb4
          have hbw4 := bStep hbw3 hb4
          clear br3 bm3 bo3 hbw3 hb4 c0 co cm
          have co := bo4.cell; have fo := bo4.frozen
          have bo5 := bo4.set4 (fun i => limb i u)
          have br5 := br4.other4 (show w.heap.size + 1 ≠ B by omega) (.int .u64 ((limb 0 u : Nat) : Int)) (.int .u64 ((limb 1 u : Nat) : Int)) (.int .u64 ((limb 2 u : Nat) : Int)) (.int .u64 ((limb 3 u : Nat) : Int))
          have hbw5 := bSet4 hbw4 (show w.heap.size ≤ B by omega) (.int .u64 ((limb 0 u : Nat) : Int)) (.int .u64 ((limb 1 u : Nat) : Int)) (.int .u64 ((limb 2 u : Nat) : Int)) (.int .u64 ((limb 3 u : Nat) : Int))
          go_upto_region 9 with fail
          obtain ⟨w5, hw5⟩ : ∃ w5 : World, w5 = (((w4.setCell ⟨B, 0, none⟩ (.int .u64 ((limb 0 u : Nat) : Int))).setCell ⟨B, 1, none⟩ (.int .u64 ((limb 1 u : Nat) : Int))).setCell ⟨B, 2, none⟩ (.int .u64 ((limb 2 u : Nat) : Int))).setCell ⟨B, 3, none⟩ (.int .u64 ((limb 3 u : Nat) : Int)) := ⟨_, rfl⟩
          rw [← hw5] at bo5 br5 hbw5 ⊢
          clear hw5 br4 bo4 hbw4 co fo
          have co := bo5.cell
          go_wp2_with fail
          refine (TE _).mono ?_
          rintro e w6 ⟨rfl, hb6⟩
          have br6 := br5.belowAll hb6
          have hbw6 := bStep hbw5 hb6
          have cr := br6.cell; have fr := br6.frozen; have lr := br6.lt
          clear br5 bo5 hbw5 hb6 co
          go_wp2
          refine bodyPost_ret (v := .tuple #[.agg #[.int .u64 ((limb 0 (u) : Nat) : Int), .int .u64 ((limb 1 (u) : Nat) : Int), .int .u64 ((limb 2 (u) : Nat) : Int), .int .u64 ((limb 3 (u) : Nat) : Int)], .int .i64 0]) (by simp [results, Tryz.results84, go_sem, cr]) rfl ⟨Or.inl ⟨u, l2, HE.out, HR.out, rfl⟩, ?_⟩
          repeat (first | with_reducible exact hbw6 | with_reducible refine Below.setCell ?_ (by first | omega | (simp; omega) | simp) _)
      · have H0 := (show Hid _ from hx0); have H1 := (show Hid _ from hpw)
        clear hx0 hpw hro
        have cr := br3.cell; have fr := br3.frozen; have lr := br3.lt
        clear bo3 bm3
        go_wp2
        refine bodyPost_ret (v := .tuple #[.agg #[.int .u64 0, .int .u64 0, .int .u64 0, .int .u64 0], .int .i64 22]) (by simp [results, Tryz.results84, go_sem, cr]) rfl ⟨Or.inr ⟨H0.out, H1.out, rfl⟩, ?_⟩
        repeat (first | with_reducible exact hbw3 | with_reducible refine Below.setCell ?_ (by first | omega | (simp; omega) | simp) _)
  · go_enter Tryz.func84, Tryz.ntmps84
    go_wp2_with fail
    obtain ⟨w0, hw0⟩ : ∃ w0 : World, w0 = (w.alloc (.cells #[.int .u64 ((limb 0 (a) : Nat) : Int), .int .u64 ((limb 1 (a) : Nat) : Int), .int .u64 ((limb 2 (a) : Nat) : Int), .int .u64 ((limb 3 (a) : Nat) : Int)] 24)).alloc (.cells #[.int .u64 0, .int .u64 0, .int .u64 0, .int .u64 0] 24) := ⟨_, rfl⟩
    have ba0 : Blk w0 24 w.heap.size (fun i => limb i a) := by rw [hw0]; exact (Blk.newAt _ _ _ (fun i => limb i a) (by simp)).alloc _
    have br0 : Blk w0 24 (w.heap.size + 1) (fun _ => 0) := by rw [hw0]; exact Blk.newAt _ _ _ (fun _ => 0) (by simp)
    have hg0 : Glob w0 := by rw [hw0]; exact (hg.alloc _).alloc _
    have hb0 : Below w.heap.size w w0 := by rw [hw0]; exact bAlloc ((Below.refl _ _).alloc (Nat.le_refl _) _) _
    have hgw := hg.1
    rw [← hw0]
    clear hw0 hg
    refine (HM _ hg0).mono ?_
    rintro e w1 ⟨rfl, hb1⟩
    have ba1 := ba0.belowAll hb1; have br1 := br0.belowAll hb1; have hg1 := hg0.below hb1
    have hbw1 := bStep hb0 hb1
    have lr1 := br1.lt
    clear ba0 br0 hb0 hb1 hg0 HM
    obtain ⟨w2, hw2⟩ : ∃ w2 : World, w2 = w1.alloc (.cells #[.int .u64 ((limb 0 (m) : Nat) : Int), .int .u64 ((limb 1 (m) : Nat) : Int), .int .u64 ((limb 2 (m) : Nat) : Int), .int .u64 ((limb 3 (m) : Nat) : Int)] 63) := ⟨_, rfl⟩
    have ba2 : Blk w2 24 w.heap.size (fun i => limb i a) := by rw [hw2]; exact ba1.alloc _
    have br2 : Blk w2 24 (w.heap.size + 1) (fun _ => 0) := by rw [hw2]; exact br1.alloc _
    have bm2 : Blk w2 63 w1.heap.size (fun i => limb i m) := by rw [hw2]; exact Blk.new w1 _ (fun i => limb i m)
    have hg2 : Glob w2 := by rw [hw2]; exact hg1.alloc _
    have hbw2 : Below w.heap.size w w2 := by rw [hw2]; exact bAlloc hbw1 _
    have cA := cAd w2 hg2
    have lg2 : 1 < w2.heap.size := by have := hg2.1; omega
    have lm2 := bm2.lt
    have la2 := ba2.lt
    go_upto_region 4 with fail
    rw [← hw2]
    clear hw2 ba1 br1 hbw1 hg1 cAd
    go_wp2_with fail
    have hg2d := hg2.drew
    have hgAd := (hg2.alloc (.cells #[.int .u64 0, .int .u64 0, .int .u64 0, .int .u64 0] 63)).drew
    have cAd2 : w2.drew.cell? ⟨1, 19, none⟩ = some (.int .i64 (A : Int)) := cA
    have hSA := tri_alloc (W := w2.drew) (.cells #[.int .u64 0, .int .u64 0, .int .u64 0, .int .u64 0] 63) ⟨bm2.drew.cell, ba2.drew.cell, cAd2⟩
    go_cut [8, 7] (fun pr ov wx => ∃ (B ro : Nat) (b : Bool), pr = .pointer (some ⟨B, 0, none⟩) ∧ ov = .bool b ∧ ro < m ∧ Hid ((b = true ∧ ro * ro % m = x) ∨ (b = false ∧ x ≠ 0 ∧ powM m x Q0 ≠ 1)) ∧ w2.heap.size ≤ B ∧ Blk wx 63 B (fun i => limb i ro) ∧ Below w2.heap.size w2 wx)
    case first =>
      go_region_held3 (fun w' => (∀ i, i < 4 → w'.cell? ⟨w1.heap.size, i, none⟩ = some (.int .u64 ((limb i m : Nat) : Int))) ∧ (∀ i, i < 4 → w'.cell? ⟨w.heap.size, i, none⟩ = some (.int .u64 ((limb i a : Nat) : Int))) ∧ w'.cell? ⟨1, 19, none⟩ = some (.int .i64 (A : Int)))
        (first | with_reducible exact tri_below hb4 (by with_reducible assumption) | with_reducible exact tri_below hb3 (by with_reducible assumption) | with_reducible exact tri_alloc _ (by with_reducible assumption) | with_reducible exact tri_re _ _ (by omega) (by omega) (by omega) (by with_reducible assumption) | with_reducible exact tri_far _ _ _ _ _ (by omega) (by omega) (by omega) (by with_reducible assumption) | with_reducible exact ⟨bm2.drew.cell, ba2.drew.cell, cAd2⟩ | exact hSA)
        (first | (go_at_call 56; with_reducible refine (EA _).mono ?_; rintro e w3 ⟨rfl, hb3⟩; obtain ⟨hc3, hf3⟩ := bcell hb3; have hz3 := hb3.size; try simp at hz3; try (have hy3 : w2.heap.size < w3.heap.size := by omega)) | (go_at_call 111; with_reducible refine (SR _ ?_).mono ?_; (first | with_reducible exact hg2d.below hb3 | with_reducible exact hgAd.below hb3 | with_reducible exact (hg2d.below hb3).alloc _); rintro e w4 ⟨⟨ro, b, rfl, lro, hro⟩, hb4⟩; obtain ⟨hc4, hf4⟩ := bcell hb4; have hz4 := hb4.size; try simp at hz4) | fail)
      all_goals (go_wp2_with fail; go_meet)
      · refine ⟨_, ro, b, rfl, rfl, lro, hro, by omega, ?_, ?_⟩
        · exact Blk.new w4 _ (fun i => limb i ro)
        · exact ((Below.refl w2.heap.size w2).drew.trans (hb3.trans (hb4.mono (show w2.heap.size ≤ w3.heap.size by omega)))).alloc (by omega) _
      · refine ⟨_, ro, b, rfl, rfl, lro, hro, by omega, ?_, ?_⟩
        · exact ((Blk.new w3 _ (fun _ => 0)).belowAll hb4).set4 (fun i => limb i ro)
        · have hb5 : Below w2.heap.size w2 w4 := ((Below.refl w2.heap.size w2).drew.trans hb3).trans ((((Below.refl w3.heap.size w3).alloc (Nat.le_refl _) _).trans (hb4.mono (by simp))).mono (by omega))
          exact (((hb5.setCell (by dsimp only; omega) _).setCell (by dsimp only; omega) _).setCell (by dsimp only; omega) _).setCell (by dsimp only; omega) _
      · refine ⟨_, ro, b, rfl, rfl, lro, hro, by omega, ?_, ?_⟩
        · exact (((Blk.new w2 _ (fun _ => 0)).drew.belowAll hb3).belowAll hb4).set4 (fun i => limb i ro)
        · have hb5 : Below w2.heap.size w2 w4 := (((Below.refl w2.heap.size w2).alloc (Nat.le_refl _) _).drew.trans (hb3.mono (by simp))).trans (hb4.mono (by omega))
          exact (((hb5.setCell (by dsimp only; omega) _).setCell (by dsimp only; omega) _).setCell (by dsimp only; omega) _).setCell (by dsimp only; omega) _
    case rest =>
      obtain ⟨B, ro, b, rfl, rfl, lro, hro, hB, bo3, hbx⟩ := hcut
      have bm3 := bm2.belowAll hbx; have br3 := br2.belowAll hbx
      have hbw3 := bStep hbw2 hbx
      have rB : w.heap.size + 1 < B := by have := br2.lt; omega
      clear ba2 bm2 br2 hg2 hg2d hgAd hbw2 hbx cA cAd2 hSA EA SR
      rcases hro.out with ⟨rfl, hsq⟩ | ⟨rfl, hx0, hpw⟩
      · have HQ := (show Hid _ from hsq)
        clear hsq hro
        have hl0 : limb 0 ro % 2 = ro % 2 := by rw [limb0]; omega
        have c0 : wc.cell? ⟨B, 0, none⟩ = some (.int .u64 ((limb 0 ro : Nat) : Int)) := bo3.cell 0 (by decide)
        by_cases hev : ro % 2 = 0
        · have hb2 : (((limb 0 ro : Nat) : Int) % 2) = 0 := by omega
          have HE := (show Hid _ from hev)
          clear hev hl0
          have TE := fun w => toElem_any ro w
          have co := bo3.cell
          go_wp2_with fail
          refine (TE _).mono ?_
          rintro e w4 ⟨rfl, hb4⟩
          have br4 := br3.belowAll hb4
          have hbw4 := bStep hbw3 hb4
          have cr := br4.cell; have fr := br4.frozen; have lr := br4.lt
          clear br3 bm3 bo3 hbw3 hb4 c0 co
          go_wp2
          refine bodyPost_ret (v := .tuple #[.agg #[.int .u64 ((limb 0 (ro) : Nat) : Int), .int .u64 ((limb 1 (ro) : Nat) : Int), .int .u64 ((limb 2 (ro) : Nat) : Int), .int .u64 ((limb 3 (ro) : Nat) : Int)], .int .i64 0]) (by simp [results, Tryz.results84, go_sem, cr]) rfl ⟨Or.inl ⟨ro, lro, HE.out, HQ.out, rfl⟩, ?_⟩
          repeat (first | with_reducible exact hbw4 | with_reducible refine Below.setCell ?_ (by first | omega | (simp; omega) | simp) _)
        · have hb2 : (((limb 0 ro : Nat) : Int) % 2) = 1 := by omega
          have HE : Hid ((m - ro) % 2 = 0) := by show _ = _; have := HO.out; omega
          have HR : Hid ((m - ro) * (m - ro) % m = x) := by
            show _ = _
            rw [← HQ.out, ← evenR_sq lro]
            unfold evenR
            rw [if_neg hev]
          have D1 := fun w => HD () ro w (by omega) lro
          have l2 : m - ro < m := by omega
          obtain ⟨u, eu⟩ : ∃ u, u = m - ro := ⟨_, rfl⟩
          rw [← eu] at D1 HE HR l2
          clear hev hl0 eu HQ
          have TE := fun w => toElem_any u w
          have co := bo3.cell; have cm := bm3.cell
          go_wp2_with fail
          refine (D1 _).mono ?_
          rintro e w4 ⟨rfl, hb4⟩
          have br4 := br3.belowAll hb4; have bo4 := bo3.belowAll hb4
          have hbw4 := bStep hbw3 hb4
          clear br3 bm3 bo3 hbw3 hb4 c0 co cm
          have co := bo4.cell; have fo := bo4.frozen
          have bo5 := bo4.set4 (fun i => limb i u)
          have br5 := br4.other4 (show w.heap.size + 1 ≠ B by omega) (.int .u64 ((limb 0 u : Nat) : Int)) (.int .u64 ((limb 1 u : Nat) : Int)) (.int .u64 ((limb 2 u : Nat) : Int)) (.int .u64 ((limb 3 u : Nat) : Int))
          have hbw5 := bSet4 hbw4 (show w.heap.size ≤ B by omega) (.int .u64 ((limb 0 u : Nat) : Int)) (.int .u64 ((limb 1 u : Nat) : Int)) (.int .u64 ((limb 2 u : Nat) : Int)) (.int .u64 ((limb 3 u : Nat) : Int))
          go_upto_region 9 with fail
          obtain ⟨w5, hw5⟩ : ∃ w5 : World, w5 = (((w4.setCell ⟨B, 0, none⟩ (.int .u64 ((limb 0 u : Nat) : Int))).setCell ⟨B, 1, none⟩ (.int .u64 ((limb 1 u : Nat) : Int))).setCell ⟨B, 2, none⟩ (.int .u64 ((limb 2 u : Nat) : Int))).setCell ⟨B, 3, none⟩ (.int .u64 ((limb 3 u : Nat) : Int)) := ⟨_, rfl⟩
          rw [← hw5] at bo5 br5 hbw5 ⊢
          clear hw5 br4 bo4 hbw4 co fo
          have co := bo5.cell
          go_wp2_with fail
          refine (TE _).mono ?_
          rintro e w6 ⟨rfl, hb6⟩
          have br6 := br5.belowAll hb6
          have hbw6 := bStep hbw5 hb6
          have cr := br6.cell; have fr := br6.frozen; have lr := br6.lt
          clear br5 bo5 hbw5 hb6 co
          go_wp2
          refine bodyPost_ret (v := .tuple #[.agg #[.int .u64 ((limb 0 (u) : Nat) : Int), .int .u64 ((limb 1 (u) : Nat) : Int), .int .u64 ((limb 2 (u) : Nat) : Int), .int .u64 ((limb 3 (u) : Nat) : Int)], .int .i64 0]) (by simp [results, Tryz.results84, go_sem, cr]) rfl ⟨Or.inl ⟨u, l2, HE.out, HR.out, rfl⟩, ?_⟩
          repeat (first | with_reducible exact hbw6 | with_reducible refine Below.setCell ?_ (by first | omega | (simp; omega) | simp) _)
      · have H0 := (show Hid _ from hx0); have H1 := (show Hid _ from hpw)
        clear hx0 hpw hro
        have cr := br3.cell; have fr := br3.frozen; have lr := br3.lt
        clear bo3 bm3
        go_wp2
        refine bodyPost_ret (v := .tuple #[.agg #[.int .u64 0, .int .u64 0, .int .u64 0, .int .u64 0], .int .i64 22]) (by simp [results, Tryz.results84, go_sem, cr]) rfl ⟨Or.inr ⟨H0.out, H1.out, rfl⟩, ?_⟩
        repeat (first | with_reducible exact hbw3 | with_reducible refine Below.setCell ?_ (by first | omega | (simp; omega) | simp) _)

end Go.Proofs.YtaeembdabnomaaaGreatDoor

/- jacobian: points that stand for infinity; Plain; so often 1. -/
namespace Go.Proofs.YtaeembdabnomaaaGreatDoor
open Go.RowKit

/-- Block b holds a point without inverses. -/
def Jt (w : World) (b x y z : Nat) : Prop := w.heap[b]? = some (.cells #[.int .u64 ((limb 0 x : Nat) : Int), .int .u64 ((limb 1 x : Nat) : Int), .int .u64 ((limb 2 x : Nat) : Int), .int .u64 ((limb 3 x : Nat) : Int), .int .u64 ((limb 0 y : Nat) : Int), .int .u64 ((limb 1 y : Nat) : Int), .int .u64 ((limb 2 y : Nat) : Int), .int .u64 ((limb 3 y : Nat) : Int), .int .u64 ((limb 0 z : Nat) : Int), .int .u64 ((limb 1 z : Nat) : Int), .int .u64 ((limb 2 z : Nat) : Int), .int .u64 ((limb 3 z : Nat) : Int)] 80)
section
variable {w w' : World} {b x y z : Nat}
theorem Jt.lt (h : Jt w b x y z) : b < w.heap.size := by
  rcases Nat.lt_or_ge b w.heap.size with hl | hl
  · exact hl
  · unfold Jt at h; rw [Array.getElem?_eq_none hl] at h; cases h
theorem Jt.cells (h : Jt w b x y z) : w.cell? ⟨b, 0, none⟩ = some (.int .u64 ((limb 0 x : Nat) : Int)) ∧ w.cell? ⟨b, 1, none⟩ = some (.int .u64 ((limb 1 x : Nat) : Int)) ∧ w.cell? ⟨b, 2, none⟩ = some (.int .u64 ((limb 2 x : Nat) : Int)) ∧ w.cell? ⟨b, 3, none⟩ = some (.int .u64 ((limb 3 x : Nat) : Int)) ∧ w.cell? ⟨b, 4, none⟩ = some (.int .u64 ((limb 0 y : Nat) : Int)) ∧ w.cell? ⟨b, 5, none⟩ = some (.int .u64 ((limb 1 y : Nat) : Int)) ∧ w.cell? ⟨b, 6, none⟩ = some (.int .u64 ((limb 2 y : Nat) : Int)) ∧ w.cell? ⟨b, 7, none⟩ = some (.int .u64 ((limb 3 y : Nat) : Int)) ∧ w.cell? ⟨b, 8, none⟩ = some (.int .u64 ((limb 0 z : Nat) : Int)) ∧ w.cell? ⟨b, 9, none⟩ = some (.int .u64 ((limb 1 z : Nat) : Int)) ∧ w.cell? ⟨b, 10, none⟩ = some (.int .u64 ((limb 2 z : Nat) : Int)) ∧ w.cell? ⟨b, 11, none⟩ = some (.int .u64 ((limb 3 z : Nat) : Int)) ∧ ∀ o, w.frozen? ⟨b, o, none⟩ = false := by
  unfold Jt at h
  refine ⟨?_, ?_, ?_, ?_, ?_, ?_, ?_, ?_, ?_, ?_, ?_, ?_, ?_⟩ <;> simp [World.cell?, World.frozen?, h]
theorem Jt.below {m : Nat} (h : Jt w b x y z) (hb : Below m w w') (hm : b < m) : Jt w' b x y z := by unfold Jt; rw [hb.block b hm]; exact h
theorem Jt.belowAll (h : Jt w b x y z) (hb : Below w.heap.size w w') : Jt w' b x y z := h.below hb h.lt
theorem Jt.alloc (h : Jt w b x y z) (o : Obj) : Jt (w.alloc o) b x y z := h.belowAll ((Below.refl _ _).alloc (Nat.le_refl _) o)
end
theorem Jt.newAt (w : World) (b x y z : Nat) (hb : b = w.heap.size) : Jt (w.alloc (.cells #[.int .u64 ((limb 0 x : Nat) : Int), .int .u64 ((limb 1 x : Nat) : Int), .int .u64 ((limb 2 x : Nat) : Int), .int .u64 ((limb 3 x : Nat) : Int), .int .u64 ((limb 0 y : Nat) : Int), .int .u64 ((limb 1 y : Nat) : Int), .int .u64 ((limb 2 y : Nat) : Int), .int .u64 ((limb 3 y : Nat) : Int), .int .u64 ((limb 0 z : Nat) : Int), .int .u64 ((limb 1 z : Nat) : Int), .int .u64 ((limb 2 z : Nat) : Int), .int .u64 ((limb 3 z : Nat) : Int)] 80)) b x y z := by
  subst hb
  unfold Jt
  show (w.heap.push _)[w.heap.size]? = _
  simp
theorem Jt.zeroAt (w : World) (b : Nat) (hb : b = w.heap.size) : Jt (w.alloc (.cells #[.int .u64 0, .int .u64 0, .int .u64 0, .int .u64 0, .int .u64 0, .int .u64 0, .int .u64 0, .int .u64 0, .int .u64 0, .int .u64 0, .int .u64 0, .int .u64 0] 80)) b 0 0 0 := by
  have h := Jt.newAt w b 0 0 0 hb
  simp only [limb_zero] at h
  exact h
theorem bSet12 {w W : World} (h : Below w.heap.size w W) {r : Nat} (hr : w.heap.size ≤ r) (v0 v1 v2 v3 v4 v5 v6 v7 v8 v9 v10 v11 : Value) : Below w.heap.size w ((((((((((((W.setCell ⟨r, 0, none⟩ v0).setCell ⟨r, 1, none⟩ v1).setCell ⟨r, 2, none⟩ v2).setCell ⟨r, 3, none⟩ v3).setCell ⟨r, 4, none⟩ v4).setCell ⟨r, 5, none⟩ v5).setCell ⟨r, 6, none⟩ v6).setCell ⟨r, 7, none⟩ v7).setCell ⟨r, 8, none⟩ v8).setCell ⟨r, 9, none⟩ v9).setCell ⟨r, 10, none⟩ v10).setCell ⟨r, 11, none⟩ v11) := ((((((((((((h.setCell hr _).setCell hr _).setCell hr _).setCell hr _).setCell hr _).setCell hr _).setCell hr _).setCell hr _).setCell hr _).setCell hr _).setCell hr _).setCell hr _)
set_option maxHeartbeats 2000000 in
theorem isInf_any (X Y Z : Nat) (hZ : Z < 115792089237316195423570985008687907853269984665640564039457584007913129639936) (w : World) : Calls Tryz.prog 103 #[.agg #[.int .u64 ((limb 0 (X) : Nat) : Int), .int .u64 ((limb 1 (X) : Nat) : Int), .int .u64 ((limb 2 (X) : Nat) : Int), .int .u64 ((limb 3 (X) : Nat) : Int), .int .u64 ((limb 0 (Y) : Nat) : Int), .int .u64 ((limb 1 (Y) : Nat) : Int), .int .u64 ((limb 2 (Y) : Nat) : Int), .int .u64 ((limb 3 (Y) : Nat) : Int), .int .u64 ((limb 0 (Z) : Nat) : Int), .int .u64 ((limb 1 (Z) : Nat) : Int), .int .u64 ((limb 2 (Z) : Nat) : Int), .int .u64 ((limb 3 (Z) : Nat) : Int)]] w fun e w' => e = .returned (.bool (decide (Z = 0))) ∧ Below w.heap.size w w' := by
  have QZ := fun w => eqlN Z 0 hZ (by decide) w
  rw [show (((0 : Nat)) : Int) = 0 from rfl] at QZ
  obtain ⟨d, ed⟩ : ∃ d, d = decide (Z = 0) := ⟨_, rfl⟩
  rw [← ed] at QZ ⊢
  clear ed
  go_enter Tryz.func103, Tryz.ntmps103
  go_upto_region 1 with fail
  obtain ⟨w0, hw0⟩ : ∃ w0 : World, w0 = w.alloc (.cells #[.int .u64 ((limb 0 X : Nat) : Int), .int .u64 ((limb 1 X : Nat) : Int), .int .u64 ((limb 2 X : Nat) : Int), .int .u64 ((limb 3 X : Nat) : Int), .int .u64 ((limb 0 Y : Nat) : Int), .int .u64 ((limb 1 Y : Nat) : Int), .int .u64 ((limb 2 Y : Nat) : Int), .int .u64 ((limb 3 Y : Nat) : Int), .int .u64 ((limb 0 Z : Nat) : Int), .int .u64 ((limb 1 Z : Nat) : Int), .int .u64 ((limb 2 Z : Nat) : Int), .int .u64 ((limb 3 Z : Nat) : Int)] 80) := ⟨_, rfl⟩
  have bp : Jt w0 w.heap.size X Y Z := by rw [hw0]; exact Jt.newAt _ _ _ _ _ rfl
  have hbw0 : Below w.heap.size w w0 := by rw [hw0]; exact (Below.refl _ _).alloc (Nat.le_refl _) _
  rw [← hw0]
  clear hw0
  obtain ⟨q0, q1, q2, q3, q4, q5, q6, q7, q8, q9, q10, q11, qf⟩ := bp.cells
  go_wp2
  go_ret
  exact ⟨rfl, hbw0⟩
set_option maxHeartbeats 1000000 in
theorem jone_any (w : World) : Calls Tryz.prog 102 #[] w fun e w' => e = .returned (.agg #[.int .u64 ((limb 0 (1) : Nat) : Int), .int .u64 ((limb 1 (1) : Nat) : Int), .int .u64 ((limb 2 (1) : Nat) : Int), .int .u64 ((limb 3 (1) : Nat) : Int)]) ∧ Below w.heap.size w w' := by
  rw [word_agg 1 (by decide)]
  go_enter Tryz.func102, Tryz.ntmps102
  go_wp2
  refine bodyPost_ret (v := .agg #[.int .u64 1, .int .u64 0, .int .u64 0, .int .u64 0]) (by simp [results, Tryz.results102, go_sem]) rfl ⟨rfl, ?_⟩
  repeat (first | with_reducible exact Below.refl _ _ | with_reducible refine Below.alloc ?_ (by first | omega | (simp; omega) | simp) _ | with_reducible refine Below.setCell ?_ (by first | omega | (simp; omega) | simp) _)
set_option maxHeartbeats 4000000 in
set_option maxRecDepth 20000 in
theorem jof_fin (x y : Nat) (w : World) : Calls Tryz.prog 76 #[.agg #[.int .u64 ((limb 0 (x) : Nat) : Int), .int .u64 ((limb 1 (x) : Nat) : Int), .int .u64 ((limb 2 (x) : Nat) : Int), .int .u64 ((limb 3 (x) : Nat) : Int), .int .u64 ((limb 0 (y) : Nat) : Int), .int .u64 ((limb 1 (y) : Nat) : Int), .int .u64 ((limb 2 (y) : Nat) : Int), .int .u64 ((limb 3 (y) : Nat) : Int), .bool false]] w fun e w' => e = .returned (.agg #[.int .u64 ((limb 0 (x) : Nat) : Int), .int .u64 ((limb 1 (x) : Nat) : Int), .int .u64 ((limb 2 (x) : Nat) : Int), .int .u64 ((limb 3 (x) : Nat) : Int), .int .u64 ((limb 0 (y) : Nat) : Int), .int .u64 ((limb 1 (y) : Nat) : Int), .int .u64 ((limb 2 (y) : Nat) : Int), .int .u64 ((limb 3 (y) : Nat) : Int), .int .u64 ((limb 0 (1) : Nat) : Int), .int .u64 ((limb 1 (1) : Nat) : Int), .int .u64 ((limb 2 (1) : Nat) : Int), .int .u64 ((limb 3 (1) : Nat) : Int)]) ∧ Below w.heap.size w w' := by
  have HO : Hid (∀ w, _) := jone_any
  go_enter Tryz.func76, Tryz.ntmps76
  go_upto_region 1 with fail
  obtain ⟨w0, hw0⟩ : ∃ w0 : World, w0 = (w.alloc (.cells #[.int .u64 ((limb 0 x : Nat) : Int), .int .u64 ((limb 1 x : Nat) : Int), .int .u64 ((limb 2 x : Nat) : Int), .int .u64 ((limb 3 x : Nat) : Int), .int .u64 ((limb 0 y : Nat) : Int), .int .u64 ((limb 1 y : Nat) : Int), .int .u64 ((limb 2 y : Nat) : Int), .int .u64 ((limb 3 y : Nat) : Int), .bool false] 26)).alloc (.cells #[.int .u64 0, .int .u64 0, .int .u64 0, .int .u64 0, .int .u64 0, .int .u64 0, .int .u64 0, .int .u64 0, .int .u64 0, .int .u64 0, .int .u64 0, .int .u64 0] 80) := ⟨_, rfl⟩
  have bp : Pt w0 w.heap.size x y false := by rw [hw0]; exact (Pt.newAt _ _ _ _ _ rfl).alloc _
  have br : Jt w0 (w.heap.size + 1) 0 0 0 := by rw [hw0]; exact Jt.zeroAt _ _ (by simp)
  have hbw0 : Below w.heap.size w w0 := by rw [hw0]; exact bAlloc ((Below.refl _ _).alloc (Nat.le_refl _) _) _
  have hrw : w.heap.size ≤ w.heap.size + 1 := Nat.le_succ _
  rw [← hw0]
  clear hw0
  have q8 := bp.cells.2.2.2.2.2.2.2.2.1
  go_upto_region 3 with fail
  clear q8
  have HS0 : Hid (Below w0.heap.size w0 w0.drew) := (Below.refl _ _).drew
  refine wp_region_Z (fun w' => Below w0.heap.size w0 w') 6 (by kernel_rfl) ?_
  refine wpZ_take (i := 0) (v := .pointer (some ⟨w.heap.size, 0, none⟩)) 6 rfl rfl (by kernel_rfl) (by kernel_rfl) (by kernel_rfl) (Or.inl (by kernel_rfl)) (fun _ _ _ h => h) (Or.inl ⟨by rfl, fun w hSw => by go_simp⟩) HS0.out ?_
  simp only [Act.put, List.setIfInBounds_toArray]
  dsimp only [List.set_cons_zero, List.set_cons_succ]
  refine wpZ_take (i := 1) (v := .agg #[.int .u64 ((limb 0 (x) : Nat) : Int), .int .u64 ((limb 1 (x) : Nat) : Int), .int .u64 ((limb 2 (x) : Nat) : Int), .int .u64 ((limb 3 (x) : Nat) : Int)]) 7 rfl rfl (by kernel_rfl) (by kernel_rfl) (by kernel_rfl) (Or.inl (by kernel_rfl)) (fun _ _ _ h => h) (Or.inl ⟨by rfl, fun w hSw => by (obtain ⟨q0, q1, q2, q3, q4, q5, q6, q7, q8, qf⟩ := (bp.belowAll hSw).cells; clear hSw; go_simp)⟩) HS0.out ?_
  simp only [Act.put, List.setIfInBounds_toArray]
  dsimp only [List.set_cons_zero, List.set_cons_succ]
  refine wpZ_take (i := 2) (v := .pointer (some ⟨w.heap.size, 4, none⟩)) 8 rfl rfl (by kernel_rfl) (by kernel_rfl) (by kernel_rfl) (Or.inl (by kernel_rfl)) (fun _ _ _ h => h) (Or.inl ⟨by rfl, fun w hSw => by go_simp⟩) HS0.out ?_
  simp only [Act.put, List.setIfInBounds_toArray]
  dsimp only [List.set_cons_zero, List.set_cons_succ]
  refine wpZ_take (i := 3) (v := .agg #[.int .u64 ((limb 0 (y) : Nat) : Int), .int .u64 ((limb 1 (y) : Nat) : Int), .int .u64 ((limb 2 (y) : Nat) : Int), .int .u64 ((limb 3 (y) : Nat) : Int)]) 9 rfl rfl (by kernel_rfl) (by kernel_rfl) (by kernel_rfl) (Or.inl (by kernel_rfl)) (fun _ _ _ h => h) (Or.inl ⟨by rfl, fun w hSw => by (obtain ⟨q0, q1, q2, q3, q4, q5, q6, q7, q8, qf⟩ := (bp.belowAll hSw).cells; clear hSw; go_simp)⟩) HS0.out ?_
  simp only [Act.put, List.setIfInBounds_toArray]
  dsimp only [List.set_cons_zero, List.set_cons_succ]
  refine wpZ_one (i := 4) (by kernel_rfl) rfl (fun K hK => ?_)
  go_simp
  refine (HO.out w0.drew).mono ?_
  rintro e wK1 ⟨rfl, hbK1⟩
  have hSK1 : Below w0.heap.size w0 wK1 := bStep (HS0.out) hbK1
  go_wp2_with fail
  refine hK.out _ _ (fun _ => hSK1) ?_
  clear hK K
  refine wpZ_take (i := 5) (v := .agg #[.int .u64 ((limb 0 (x) : Nat) : Int), .int .u64 ((limb 1 (x) : Nat) : Int), .int .u64 ((limb 2 (x) : Nat) : Int), .int .u64 ((limb 3 (x) : Nat) : Int), .int .u64 ((limb 0 (y) : Nat) : Int), .int .u64 ((limb 1 (y) : Nat) : Int), .int .u64 ((limb 2 (y) : Nat) : Int), .int .u64 ((limb 3 (y) : Nat) : Int), .int .u64 ((limb 0 (1) : Nat) : Int), .int .u64 ((limb 1 (1) : Nat) : Int), .int .u64 ((limb 2 (1) : Nat) : Int), .int .u64 ((limb 3 (1) : Nat) : Int)]) 11 rfl rfl (by kernel_rfl) (by kernel_rfl) (by kernel_rfl) (Or.inl (by kernel_rfl)) (fun _ _ _ h => h) (Or.inl ⟨by rfl, fun w hSw => by go_simp⟩) hSK1 ?_
  simp only [Act.put, List.setIfInBounds_toArray]
  dsimp only [List.set_cons_zero, List.set_cons_succ]
  refine wpZ_one (i := 6) (by kernel_rfl) rfl (fun K hK => ?_)
  obtain ⟨r0, r1, r2, r3, r4, r5, r6, r7, r8, r9, r10, r11, rf⟩ := (br.belowAll (hSK1)).cells
  go_simp
  refine hK.out _ _ (fun h => absurd rfl h) ?_
  clear hK K
  refine wpZ_done (by kernel_rfl) ?_ _
  go_wp2
  refine bodyPost_ret (v := .agg #[.int .u64 ((limb 0 (x) : Nat) : Int), .int .u64 ((limb 1 (x) : Nat) : Int), .int .u64 ((limb 2 (x) : Nat) : Int), .int .u64 ((limb 3 (x) : Nat) : Int), .int .u64 ((limb 0 (y) : Nat) : Int), .int .u64 ((limb 1 (y) : Nat) : Int), .int .u64 ((limb 2 (y) : Nat) : Int), .int .u64 ((limb 3 (y) : Nat) : Int), .int .u64 ((limb 0 (1) : Nat) : Int), .int .u64 ((limb 1 (1) : Nat) : Int), .int .u64 ((limb 2 (1) : Nat) : Int), .int .u64 ((limb 3 (1) : Nat) : Int)]) (by simp [results, Tryz.results76, go_sem, r0, r1, r2, r3, r4, r5, r6, r7, r8, r9, r10, r11]) rfl ⟨rfl, ?_⟩
  exact bSet12 (bStep hbw0 (hSK1)) hrw _ _ _ _ _ _ _ _ _ _ _ _ 
set_option maxHeartbeats 4000000 in
set_option maxRecDepth 20000 in
theorem twice_inf (X Y Z : Nat) (hZ : Z = 0) (c : Int) (w : World) : Calls Tryz.prog 77 #[.agg #[.int .u64 ((limb 0 (X) : Nat) : Int), .int .u64 ((limb 1 (X) : Nat) : Int), .int .u64 ((limb 2 (X) : Nat) : Int), .int .u64 ((limb 3 (X) : Nat) : Int), .int .u64 ((limb 0 (Y) : Nat) : Int), .int .u64 ((limb 1 (Y) : Nat) : Int), .int .u64 ((limb 2 (Y) : Nat) : Int), .int .u64 ((limb 3 (Y) : Nat) : Int), .int .u64 ((limb 0 (Z) : Nat) : Int), .int .u64 ((limb 1 (Z) : Nat) : Int), .int .u64 ((limb 2 (Z) : Nat) : Int), .int .u64 ((limb 3 (Z) : Nat) : Int)], .int .i64 c] w fun e w' => e = .returned (.agg #[.int .u64 ((limb 0 (X) : Nat) : Int), .int .u64 ((limb 1 (X) : Nat) : Int), .int .u64 ((limb 2 (X) : Nat) : Int), .int .u64 ((limb 3 (X) : Nat) : Int), .int .u64 ((limb 0 (Y) : Nat) : Int), .int .u64 ((limb 1 (Y) : Nat) : Int), .int .u64 ((limb 2 (Y) : Nat) : Int), .int .u64 ((limb 3 (Y) : Nat) : Int), .int .u64 ((limb 0 (Z) : Nat) : Int), .int .u64 ((limb 1 (Z) : Nat) : Int), .int .u64 ((limb 2 (Z) : Nat) : Int), .int .u64 ((limb 3 (Z) : Nat) : Int)]) ∧ Below w.heap.size w w' := by
  have HI : Hid (∀ w, _) := fun w => isInf_any X Y Z (by rw [hZ]; decide) w
  rw [decide_eq_true hZ] at HI
  clear hZ
  go_enter Tryz.func77, Tryz.ntmps77
  go_upto_region 1 with fail
  obtain ⟨w0, hw0⟩ : ∃ w0 : World, w0 = ((w.alloc (.cells #[.int .u64 ((limb 0 X : Nat) : Int), .int .u64 ((limb 1 X : Nat) : Int), .int .u64 ((limb 2 X : Nat) : Int), .int .u64 ((limb 3 X : Nat) : Int), .int .u64 ((limb 0 Y : Nat) : Int), .int .u64 ((limb 1 Y : Nat) : Int), .int .u64 ((limb 2 Y : Nat) : Int), .int .u64 ((limb 3 Y : Nat) : Int), .int .u64 ((limb 0 Z : Nat) : Int), .int .u64 ((limb 1 Z : Nat) : Int), .int .u64 ((limb 2 Z : Nat) : Int), .int .u64 ((limb 3 Z : Nat) : Int)] 80)).alloc (.cells #[.int .i64 c] 3)).alloc (.cells #[.int .u64 0, .int .u64 0, .int .u64 0, .int .u64 0, .int .u64 0, .int .u64 0, .int .u64 0, .int .u64 0, .int .u64 0, .int .u64 0, .int .u64 0, .int .u64 0] 80) := ⟨_, rfl⟩
  have bp : Jt w0 w.heap.size X Y Z := by rw [hw0]; exact ((Jt.newAt _ _ _ _ _ rfl).alloc _).alloc _
  have br : Jt w0 (w.heap.size + 1 + 1) 0 0 0 := by rw [hw0]; exact Jt.zeroAt _ _ (by simp)
  have hbw0 : Below w.heap.size w w0 := by rw [hw0]; exact bAlloc (bAlloc ((Below.refl _ _).alloc (Nat.le_refl _) _) _) _
  have hrw : w.heap.size ≤ w.heap.size + 1 + 1 := by omega
  rw [← hw0]
  clear hw0
  obtain ⟨q0, q1, q2, q3, q4, q5, q6, q7, q8, q9, q10, q11, qf⟩ := bp.cells
  go_wp2_with fail
  refine (HI.out _).mono ?_
  rintro e w1 ⟨rfl, hb1⟩
  clear q0 q1 q2 q3 q4 q5 q6 q7 q8 q9 q10 q11 qf
  obtain ⟨q0, q1, q2, q3, q4, q5, q6, q7, q8, q9, q10, q11, qf⟩ := (bp.belowAll hb1).cells
  obtain ⟨r0, r1, r2, r3, r4, r5, r6, r7, r8, r9, r10, r11, rf⟩ := (br.belowAll hb1).cells
  go_wp2
  refine bodyPost_ret (v := .agg #[.int .u64 ((limb 0 (X) : Nat) : Int), .int .u64 ((limb 1 (X) : Nat) : Int), .int .u64 ((limb 2 (X) : Nat) : Int), .int .u64 ((limb 3 (X) : Nat) : Int), .int .u64 ((limb 0 (Y) : Nat) : Int), .int .u64 ((limb 1 (Y) : Nat) : Int), .int .u64 ((limb 2 (Y) : Nat) : Int), .int .u64 ((limb 3 (Y) : Nat) : Int), .int .u64 ((limb 0 (Z) : Nat) : Int), .int .u64 ((limb 1 (Z) : Nat) : Int), .int .u64 ((limb 2 (Z) : Nat) : Int), .int .u64 ((limb 3 (Z) : Nat) : Int)]) (by simp [results, Tryz.results77, go_sem, r0, r1, r2, r3, r4, r5, r6, r7, r8, r9, r10, r11]) rfl ⟨rfl, ?_⟩
  exact bSet12 (bStep hbw0 hb1) hrw _ _ _ _ _ _ _ _ _ _ _ _ 
set_option maxHeartbeats 4000000 in
set_option maxRecDepth 20000 in
theorem plus_inf (X Y Z U V T : Nat) (hZ : Z = 0) (c : Int) (w : World) : Calls Tryz.prog 79 #[.agg #[.int .u64 ((limb 0 (X) : Nat) : Int), .int .u64 ((limb 1 (X) : Nat) : Int), .int .u64 ((limb 2 (X) : Nat) : Int), .int .u64 ((limb 3 (X) : Nat) : Int), .int .u64 ((limb 0 (Y) : Nat) : Int), .int .u64 ((limb 1 (Y) : Nat) : Int), .int .u64 ((limb 2 (Y) : Nat) : Int), .int .u64 ((limb 3 (Y) : Nat) : Int), .int .u64 ((limb 0 (Z) : Nat) : Int), .int .u64 ((limb 1 (Z) : Nat) : Int), .int .u64 ((limb 2 (Z) : Nat) : Int), .int .u64 ((limb 3 (Z) : Nat) : Int)], .int .i64 c, .agg #[.int .u64 ((limb 0 (U) : Nat) : Int), .int .u64 ((limb 1 (U) : Nat) : Int), .int .u64 ((limb 2 (U) : Nat) : Int), .int .u64 ((limb 3 (U) : Nat) : Int), .int .u64 ((limb 0 (V) : Nat) : Int), .int .u64 ((limb 1 (V) : Nat) : Int), .int .u64 ((limb 2 (V) : Nat) : Int), .int .u64 ((limb 3 (V) : Nat) : Int), .int .u64 ((limb 0 (T) : Nat) : Int), .int .u64 ((limb 1 (T) : Nat) : Int), .int .u64 ((limb 2 (T) : Nat) : Int), .int .u64 ((limb 3 (T) : Nat) : Int)]] w fun e w' => e = .returned (.agg #[.int .u64 ((limb 0 (U) : Nat) : Int), .int .u64 ((limb 1 (U) : Nat) : Int), .int .u64 ((limb 2 (U) : Nat) : Int), .int .u64 ((limb 3 (U) : Nat) : Int), .int .u64 ((limb 0 (V) : Nat) : Int), .int .u64 ((limb 1 (V) : Nat) : Int), .int .u64 ((limb 2 (V) : Nat) : Int), .int .u64 ((limb 3 (V) : Nat) : Int), .int .u64 ((limb 0 (T) : Nat) : Int), .int .u64 ((limb 1 (T) : Nat) : Int), .int .u64 ((limb 2 (T) : Nat) : Int), .int .u64 ((limb 3 (T) : Nat) : Int)]) ∧ Below w.heap.size w w' := by
  have HI : Hid (∀ w, _) := fun w => isInf_any X Y Z (by rw [hZ]; decide) w
  rw [decide_eq_true hZ] at HI
  clear hZ
  go_enter Tryz.func79, Tryz.ntmps79
  go_upto_region 1 with fail
  obtain ⟨w0, hw0⟩ : ∃ w0 : World, w0 = ((w.alloc (.cells #[.int .u64 ((limb 0 X : Nat) : Int), .int .u64 ((limb 1 X : Nat) : Int), .int .u64 ((limb 2 X : Nat) : Int), .int .u64 ((limb 3 X : Nat) : Int), .int .u64 ((limb 0 Y : Nat) : Int), .int .u64 ((limb 1 Y : Nat) : Int), .int .u64 ((limb 2 Y : Nat) : Int), .int .u64 ((limb 3 Y : Nat) : Int), .int .u64 ((limb 0 Z : Nat) : Int), .int .u64 ((limb 1 Z : Nat) : Int), .int .u64 ((limb 2 Z : Nat) : Int), .int .u64 ((limb 3 Z : Nat) : Int)] 80)).alloc (.cells #[.int .u64 ((limb 0 U : Nat) : Int), .int .u64 ((limb 1 U : Nat) : Int), .int .u64 ((limb 2 U : Nat) : Int), .int .u64 ((limb 3 U : Nat) : Int), .int .u64 ((limb 0 V : Nat) : Int), .int .u64 ((limb 1 V : Nat) : Int), .int .u64 ((limb 2 V : Nat) : Int), .int .u64 ((limb 3 V : Nat) : Int), .int .u64 ((limb 0 T : Nat) : Int), .int .u64 ((limb 1 T : Nat) : Int), .int .u64 ((limb 2 T : Nat) : Int), .int .u64 ((limb 3 T : Nat) : Int)] 80)).alloc (.cells #[.int .u64 0, .int .u64 0, .int .u64 0, .int .u64 0, .int .u64 0, .int .u64 0, .int .u64 0, .int .u64 0, .int .u64 0, .int .u64 0, .int .u64 0, .int .u64 0] 80) := ⟨_, rfl⟩
  have bp : Jt w0 w.heap.size X Y Z := by rw [hw0]; exact ((Jt.newAt _ _ _ _ _ rfl).alloc _).alloc _
  have bq : Jt w0 (w.heap.size + 1) U V T := by rw [hw0]; exact (Jt.newAt _ _ _ _ _ (by simp)).alloc _
  have br : Jt w0 (w.heap.size + 1 + 1) 0 0 0 := by rw [hw0]; exact Jt.zeroAt _ _ (by simp)
  have hbw0 : Below w.heap.size w w0 := by rw [hw0]; exact bAlloc (bAlloc ((Below.refl _ _).alloc (Nat.le_refl _) _) _) _
  have hrw : w.heap.size ≤ w.heap.size + 1 + 1 := by omega
  rw [← hw0]
  clear hw0
  obtain ⟨q0, q1, q2, q3, q4, q5, q6, q7, q8, q9, q10, q11, qf⟩ := bp.cells
  go_wp2_with fail
  refine (HI.out _).mono ?_
  rintro e w1 ⟨rfl, hb1⟩
  clear q0 q1 q2 q3 q4 q5 q6 q7 q8 q9 q10 q11 qf
  obtain ⟨q0, q1, q2, q3, q4, q5, q6, q7, q8, q9, q10, q11, qf⟩ := (bq.belowAll hb1).cells
  obtain ⟨r0, r1, r2, r3, r4, r5, r6, r7, r8, r9, r10, r11, rf⟩ := (br.belowAll hb1).cells
  go_wp2
  refine bodyPost_ret (v := .agg #[.int .u64 ((limb 0 (U) : Nat) : Int), .int .u64 ((limb 1 (U) : Nat) : Int), .int .u64 ((limb 2 (U) : Nat) : Int), .int .u64 ((limb 3 (U) : Nat) : Int), .int .u64 ((limb 0 (V) : Nat) : Int), .int .u64 ((limb 1 (V) : Nat) : Int), .int .u64 ((limb 2 (V) : Nat) : Int), .int .u64 ((limb 3 (V) : Nat) : Int), .int .u64 ((limb 0 (T) : Nat) : Int), .int .u64 ((limb 1 (T) : Nat) : Int), .int .u64 ((limb 2 (T) : Nat) : Int), .int .u64 ((limb 3 (T) : Nat) : Int)]) (by simp [results, Tryz.results79, go_sem, r0, r1, r2, r3, r4, r5, r6, r7, r8, r9, r10, r11]) rfl ⟨rfl, ?_⟩
  exact bSet12 (bStep hbw0 hb1) hrw _ _ _ _ _ _ _ _ _ _ _ _ 
set_option maxHeartbeats 8000000 in
set_option maxRecDepth 20000 in
theorem plain_fin (c X Y Z : Nat) (hc : c < 4) (hX : X < 115792089237316195423570985008687907853269984665640564039457584007913129639936) (hY : Y < 115792089237316195423570985008687907853269984665640564039457584007913129639936) (hZ : Z < 115792089237316195423570985008687907853269984665640564039457584007913129639936) (h0 : Z ≠ 0) (w : World) (hg : GlobC w) :
    Calls Tryz.prog 80 #[.agg #[.int .u64 ((limb 0 (X) : Nat) : Int), .int .u64 ((limb 1 (X) : Nat) : Int), .int .u64 ((limb 2 (X) : Nat) : Int), .int .u64 ((limb 3 (X) : Nat) : Int), .int .u64 ((limb 0 (Y) : Nat) : Int), .int .u64 ((limb 1 (Y) : Nat) : Int), .int .u64 ((limb 2 (Y) : Nat) : Int), .int .u64 ((limb 3 (Y) : Nat) : Int), .int .u64 ((limb 0 (Z) : Nat) : Int), .int .u64 ((limb 1 (Z) : Nat) : Int), .int .u64 ((limb 2 (Z) : Nat) : Int), .int .u64 ((limb 3 (Z) : Nat) : Int)], .int .i64 (c : Int)] w fun e w' => e = .returned (.agg #[.int .u64 ((limb 0 ((mulP c X (mulP c (invC c Z) (invC c Z)))) : Nat) : Int), .int .u64 ((limb 1 ((mulP c X (mulP c (invC c Z) (invC c Z)))) : Nat) : Int), .int .u64 ((limb 2 ((mulP c X (mulP c (invC c Z) (invC c Z)))) : Nat) : Int), .int .u64 ((limb 3 ((mulP c X (mulP c (invC c Z) (invC c Z)))) : Nat) : Int), .int .u64 ((limb 0 ((mulP c Y (mulP c (invC c Z) (mulP c (invC c Z) (invC c Z))))) : Nat) : Int), .int .u64 ((limb 1 ((mulP c Y (mulP c (invC c Z) (mulP c (invC c Z) (invC c Z))))) : Nat) : Int), .int .u64 ((limb 2 ((mulP c Y (mulP c (invC c Z) (mulP c (invC c Z) (invC c Z))))) : Nat) : Int), .int .u64 ((limb 3 ((mulP c Y (mulP c (invC c Z) (mulP c (invC c Z) (invC c Z))))) : Nat) : Int), .bool false]) ∧ Below w.heap.size w w' := by
  have HG0 : Hid (GlobC w) := hg
  have HI : Hid (∀ w, _) := fun w => isInf_any X Y Z hZ w
  rw [decide_eq_false h0] at HI
  have li : invC c Z < 115792089237316195423570985008687907853269984665640564039457584007913129639936 := lt_M c _ (invC_lt _ _)
  have HV : Hid (∀ w, Glob w → _) := fun w hg => inv_c c Z hc hZ w hg
  have HM1 : Hid (∀ w, Glob w → _) := fun w hg => fMul_any c (invC c Z) (invC c Z) hc li li w hg
  have HM2 : Hid (∀ w, Glob w → _) := fun w hg => fMul_any c X (mulP c (invC c Z) (invC c Z)) hc hX (mulP_M _ _ _) w hg
  have HM3 : Hid (∀ w, Glob w → _) := fun w hg => fMul_any c (invC c Z) (mulP c (invC c Z) (invC c Z)) hc li (mulP_M _ _ _) w hg
  have HM4 : Hid (∀ w, Glob w → _) := fun w hg => fMul_any c Y (mulP c (invC c Z) (mulP c (invC c Z) (invC c Z))) hc hY (mulP_M _ _ _) w hg
  obtain ⟨iv, e1⟩ : ∃ z, z = invC c Z := ⟨_, rfl⟩
  rw [← e1] at HV HM1 HM2 HM3 HM4 ⊢
  obtain ⟨sq, e2⟩ : ∃ z, z = mulP c iv iv := ⟨_, rfl⟩
  rw [← e2] at HM1 HM2 HM3 HM4 ⊢
  obtain ⟨xr, e3⟩ : ∃ z, z = mulP c X sq := ⟨_, rfl⟩
  obtain ⟨cu, e4⟩ : ∃ z, z = mulP c iv sq := ⟨_, rfl⟩
  rw [← e3] at HM2 ⊢
  rw [← e4] at HM3 HM4 ⊢
  obtain ⟨yr, e5⟩ : ∃ z, z = mulP c Y cu := ⟨_, rfl⟩
  rw [← e5] at HM4 ⊢
  clear hg e1 e2 e3 e4 e5 li h0
  go_enter Tryz.func80, Tryz.ntmps80
  go_upto_region 1 with fail
  obtain ⟨w0, hw0⟩ : ∃ w0 : World, w0 = (w.alloc (.cells #[.int .u64 ((limb 0 X : Nat) : Int), .int .u64 ((limb 1 X : Nat) : Int), .int .u64 ((limb 2 X : Nat) : Int), .int .u64 ((limb 3 X : Nat) : Int), .int .u64 ((limb 0 Y : Nat) : Int), .int .u64 ((limb 1 Y : Nat) : Int), .int .u64 ((limb 2 Y : Nat) : Int), .int .u64 ((limb 3 Y : Nat) : Int), .int .u64 ((limb 0 Z : Nat) : Int), .int .u64 ((limb 1 Z : Nat) : Int), .int .u64 ((limb 2 Z : Nat) : Int), .int .u64 ((limb 3 Z : Nat) : Int)] 80)).alloc (.cells #[.int .u64 0, .int .u64 0, .int .u64 0, .int .u64 0, .int .u64 0, .int .u64 0, .int .u64 0, .int .u64 0, .bool false] 26) := ⟨_, rfl⟩
  have bp : Jt w0 w.heap.size X Y Z := by rw [hw0]; exact (Jt.newAt _ _ _ _ _ rfl).alloc _
  have br : Pt w0 (w.heap.size + 1) 0 0 false := by rw [hw0]; exact Pt.zeroAt _ _ (by simp)
  have hbw0 : Below w.heap.size w w0 := by rw [hw0]; exact bAlloc ((Below.refl _ _).alloc (Nat.le_refl _) _) _
  have hrw : w.heap.size ≤ w.heap.size + 1 := Nat.le_succ _
  rw [← hw0]
  clear hw0
  obtain ⟨q0, q1, q2, q3, q4, q5, q6, q7, q8, q9, q10, q11, qf⟩ := bp.cells
  go_wp2_with fail
  refine (HI.out _).mono ?_
  rintro e w1 ⟨rfl, hb1⟩
  clear q0 q1 q2 q3 q4 q5 q6 q7 q8 q9 q10 q11 qf
  have bp1 := bp.belowAll hb1; have br1 := br.belowAll hb1
  have hbw1 := bStep hbw0 hb1
  have HG1 : Hid (GlobC w1) := HG0.out.below hbw1
  clear bp br hbw0 hb1 HI
  obtain ⟨q0, q1, q2, q3, q4, q5, q6, q7, q8, q9, q10, q11, qf⟩ := bp1.cells
  go_wp2_with fail
  refine (HV.out _ HG1.out.1).mono ?_
  rintro e w2 ⟨er, rfl, hb2⟩
  clear q0 q1 q2 q3 q4 q5 q6 q7 q8 q9 q10 q11 qf
  have bp3 := (bp1.belowAll hb2).alloc (.cells #[.int .u64 ((limb 0 (iv) : Nat) : Int), .int .u64 ((limb 1 (iv) : Nat) : Int), .int .u64 ((limb 2 (iv) : Nat) : Int), .int .u64 ((limb 3 (iv) : Nat) : Int)] 24); have br3 := (br1.belowAll hb2).alloc (.cells #[.int .u64 ((limb 0 (iv) : Nat) : Int), .int .u64 ((limb 1 (iv) : Nat) : Int), .int .u64 ((limb 2 (iv) : Nat) : Int), .int .u64 ((limb 3 (iv) : Nat) : Int)] 24)
  have bi3 : Blk (w2.alloc (.cells #[.int .u64 ((limb 0 (iv) : Nat) : Int), .int .u64 ((limb 1 (iv) : Nat) : Int), .int .u64 ((limb 2 (iv) : Nat) : Int), .int .u64 ((limb 3 (iv) : Nat) : Int)] 24)) 24 w2.heap.size (fun i => limb i iv) := Blk.newAt _ _ _ (fun i => limb i iv) rfl
  have hbw3 := bAlloc (bStep hbw1 hb2) (.cells #[.int .u64 ((limb 0 (iv) : Nat) : Int), .int .u64 ((limb 1 (iv) : Nat) : Int), .int .u64 ((limb 2 (iv) : Nat) : Int), .int .u64 ((limb 3 (iv) : Nat) : Int)] 24)
  clear bp1 br1 hbw1 hb2 HG1 HV
  go_upto_region 4 with fail
  obtain ⟨w3, hw3⟩ : ∃ x : World, x = w2.alloc (.cells #[.int .u64 ((limb 0 (iv) : Nat) : Int), .int .u64 ((limb 1 (iv) : Nat) : Int), .int .u64 ((limb 2 (iv) : Nat) : Int), .int .u64 ((limb 3 (iv) : Nat) : Int)] 24) := ⟨_, rfl⟩
  obtain ⟨N5, hN5⟩ : ∃ N, N = w2.heap.size := ⟨_, rfl⟩
  rw [← hw3] at bp3 br3 bi3 hbw3 ⊢
  rw [← hN5] at bi3 ⊢
  clear hw3 hN5
  have HG3 : Hid (GlobC w3) := HG0.out.below hbw3
  have ci := bi3.cell
  go_wp2_with fail
  refine (HM1.out _ HG3.out.1).mono ?_
  rintro e w4 ⟨rfl, hb4⟩
  clear ci
  have bp5 := (bp3.belowAll hb4).alloc (.cells #[.int .u64 ((limb 0 (sq) : Nat) : Int), .int .u64 ((limb 1 (sq) : Nat) : Int), .int .u64 ((limb 2 (sq) : Nat) : Int), .int .u64 ((limb 3 (sq) : Nat) : Int)] 24); have br5 := (br3.belowAll hb4).alloc (.cells #[.int .u64 ((limb 0 (sq) : Nat) : Int), .int .u64 ((limb 1 (sq) : Nat) : Int), .int .u64 ((limb 2 (sq) : Nat) : Int), .int .u64 ((limb 3 (sq) : Nat) : Int)] 24); have bi5 := (bi3.belowAll hb4).alloc (.cells #[.int .u64 ((limb 0 (sq) : Nat) : Int), .int .u64 ((limb 1 (sq) : Nat) : Int), .int .u64 ((limb 2 (sq) : Nat) : Int), .int .u64 ((limb 3 (sq) : Nat) : Int)] 24)
  have bs5 : Blk (w4.alloc (.cells #[.int .u64 ((limb 0 (sq) : Nat) : Int), .int .u64 ((limb 1 (sq) : Nat) : Int), .int .u64 ((limb 2 (sq) : Nat) : Int), .int .u64 ((limb 3 (sq) : Nat) : Int)] 24)) 24 w4.heap.size (fun i => limb i sq) := Blk.newAt _ _ _ (fun i => limb i sq) rfl
  have hbw5 := bAlloc (bStep hbw3 hb4) (.cells #[.int .u64 ((limb 0 (sq) : Nat) : Int), .int .u64 ((limb 1 (sq) : Nat) : Int), .int .u64 ((limb 2 (sq) : Nat) : Int), .int .u64 ((limb 3 (sq) : Nat) : Int)] 24)
  clear bp3 br3 bi3 hbw3 hb4 HG3 HM1
  go_upto_region 5 with fail
  obtain ⟨w5, hw5⟩ : ∃ x : World, x = w4.alloc (.cells #[.int .u64 ((limb 0 (sq) : Nat) : Int), .int .u64 ((limb 1 (sq) : Nat) : Int), .int .u64 ((limb 2 (sq) : Nat) : Int), .int .u64 ((limb 3 (sq) : Nat) : Int)] 24) := ⟨_, rfl⟩
  obtain ⟨N7, hN7⟩ : ∃ N, N = w4.heap.size := ⟨_, rfl⟩
  rw [← hw5] at bp5 br5 bi5 bs5 hbw5 ⊢
  rw [← hN7] at bs5 ⊢
  clear hw5 hN7
  have HG : Hid (GlobC w5) := HG0.out.below hbw5
  have HS0 : Hid (Below w5.heap.size w5 w5.drew) := (Below.refl _ _).drew
  refine wp_region_Z (fun w' => Below w5.heap.size w5 w') 14 (by kernel_rfl) ?_
  refine wpZ_take (i := 0) (v := .int .i64 (c : Int)) 22 rfl rfl (by kernel_rfl) (by kernel_rfl) (by kernel_rfl) (Or.inl (by kernel_rfl)) (fun _ _ _ h => h) (Or.inl ⟨by rfl, fun w hSw => by go_simp⟩) HS0.out ?_
  simp only [Act.put, List.setIfInBounds_toArray]
  dsimp only [List.set_cons_zero, List.set_cons_succ]
  refine wpZ_take (i := 1) (v := .pointer (some ⟨w.heap.size, 0, none⟩)) 23 rfl rfl (by kernel_rfl) (by kernel_rfl) (by kernel_rfl) (Or.inl (by kernel_rfl)) (fun _ _ _ h => h) (Or.inl ⟨by rfl, fun w hSw => by go_simp⟩) HS0.out ?_
  simp only [Act.put, List.setIfInBounds_toArray]
  dsimp only [List.set_cons_zero, List.set_cons_succ]
  refine wpZ_take (i := 2) (v := .agg #[.int .u64 ((limb 0 (X) : Nat) : Int), .int .u64 ((limb 1 (X) : Nat) : Int), .int .u64 ((limb 2 (X) : Nat) : Int), .int .u64 ((limb 3 (X) : Nat) : Int)]) 24 rfl rfl (by kernel_rfl) (by kernel_rfl) (by kernel_rfl) (Or.inl (by kernel_rfl)) (fun _ _ _ h => h) (Or.inl ⟨by rfl, fun w hSw => by (obtain ⟨q0, q1, q2, q3, q4, q5, q6, q7, q8, q9, q10, q11, qf⟩ := (bp5.belowAll hSw).cells; clear hSw; go_simp)⟩) HS0.out ?_
  simp only [Act.put, List.setIfInBounds_toArray]
  dsimp only [List.set_cons_zero, List.set_cons_succ]
  refine wpZ_take (i := 3) (v := .agg #[.int .u64 ((limb 0 (sq) : Nat) : Int), .int .u64 ((limb 1 (sq) : Nat) : Int), .int .u64 ((limb 2 (sq) : Nat) : Int), .int .u64 ((limb 3 (sq) : Nat) : Int)]) 25 rfl rfl (by kernel_rfl) (by kernel_rfl) (by kernel_rfl) (Or.inl (by kernel_rfl)) (fun _ _ _ h => h) (Or.inl ⟨by rfl, fun w hSw => by (have qq := (bs5.belowAll hSw).cell; clear hSw; go_simp)⟩) HS0.out ?_
  simp only [Act.put, List.setIfInBounds_toArray]
  dsimp only [List.set_cons_zero, List.set_cons_succ]
  refine wpZ_take (i := 5) (v := .int .i64 (c : Int)) 27 rfl rfl (by kernel_rfl) (by kernel_rfl) (by kernel_rfl) (Or.inl (by kernel_rfl)) (fun _ _ _ h => h) (Or.inl ⟨by rfl, fun w hSw => by go_simp⟩) HS0.out ?_
  simp only [Act.put, List.setIfInBounds_toArray]
  dsimp only [List.set_cons_zero, List.set_cons_succ]
  refine wpZ_take (i := 6) (v := .pointer (some ⟨w.heap.size, 4, none⟩)) 28 rfl rfl (by kernel_rfl) (by kernel_rfl) (by kernel_rfl) (Or.inl (by kernel_rfl)) (fun _ _ _ h => h) (Or.inl ⟨by rfl, fun w hSw => by go_simp⟩) HS0.out ?_
  simp only [Act.put, List.setIfInBounds_toArray]
  dsimp only [List.set_cons_zero, List.set_cons_succ]
  refine wpZ_take (i := 7) (v := .agg #[.int .u64 ((limb 0 (Y) : Nat) : Int), .int .u64 ((limb 1 (Y) : Nat) : Int), .int .u64 ((limb 2 (Y) : Nat) : Int), .int .u64 ((limb 3 (Y) : Nat) : Int)]) 29 rfl rfl (by kernel_rfl) (by kernel_rfl) (by kernel_rfl) (Or.inl (by kernel_rfl)) (fun _ _ _ h => h) (Or.inl ⟨by rfl, fun w hSw => by (obtain ⟨q0, q1, q2, q3, q4, q5, q6, q7, q8, q9, q10, q11, qf⟩ := (bp5.belowAll hSw).cells; clear hSw; go_simp)⟩) HS0.out ?_
  simp only [Act.put, List.setIfInBounds_toArray]
  dsimp only [List.set_cons_zero, List.set_cons_succ]
  refine wpZ_take (i := 8) (v := .int .i64 (c : Int)) 30 rfl rfl (by kernel_rfl) (by kernel_rfl) (by kernel_rfl) (Or.inl (by kernel_rfl)) (fun _ _ _ h => h) (Or.inl ⟨by rfl, fun w hSw => by go_simp⟩) HS0.out ?_
  simp only [Act.put, List.setIfInBounds_toArray]
  dsimp only [List.set_cons_zero, List.set_cons_succ]
  refine wpZ_take (i := 9) (v := .agg #[.int .u64 ((limb 0 (iv) : Nat) : Int), .int .u64 ((limb 1 (iv) : Nat) : Int), .int .u64 ((limb 2 (iv) : Nat) : Int), .int .u64 ((limb 3 (iv) : Nat) : Int)]) 31 rfl rfl (by kernel_rfl) (by kernel_rfl) (by kernel_rfl) (Or.inl (by kernel_rfl)) (fun _ _ _ h => h) (Or.inl ⟨by rfl, fun w hSw => by (have qq := (bi5.belowAll hSw).cell; clear hSw; go_simp)⟩) HS0.out ?_
  simp only [Act.put, List.setIfInBounds_toArray]
  dsimp only [List.set_cons_zero, List.set_cons_succ]
  refine wpZ_take (i := 10) (v := .agg #[.int .u64 ((limb 0 (sq) : Nat) : Int), .int .u64 ((limb 1 (sq) : Nat) : Int), .int .u64 ((limb 2 (sq) : Nat) : Int), .int .u64 ((limb 3 (sq) : Nat) : Int)]) 32 rfl rfl (by kernel_rfl) (by kernel_rfl) (by kernel_rfl) (Or.inl (by kernel_rfl)) (fun _ _ _ h => h) (Or.inl ⟨by rfl, fun w hSw => by (have qq := (bs5.belowAll hSw).cell; clear hSw; go_simp)⟩) HS0.out ?_
  simp only [Act.put, List.setIfInBounds_toArray]
  dsimp only [List.set_cons_zero, List.set_cons_succ]
  refine wpZ_one (i := 4) (by kernel_rfl) rfl (fun K hK => ?_)
  go_simp
  refine (HM2.out w5.drew (HG.out.below (HS0.out)).1).mono ?_
  rintro e wK1 ⟨rfl, hbK1⟩
  have hSK1 : Below w5.heap.size w5 wK1 := bStep (HS0.out) hbK1
  go_wp2_with fail
  refine hK.out _ _ (fun _ => hSK1) ?_
  clear hK K
  refine wpZ_one (i := 11) (by kernel_rfl) rfl (fun K hK => ?_)
  go_simp
  refine (HM3.out wK1 (HG.out.below (hSK1)).1).mono ?_
  rintro e wK2 ⟨rfl, hbK2⟩
  have hSK2 : Below w5.heap.size w5 wK2 := bStep (hSK1) hbK2
  go_wp2_with fail
  refine hK.out _ _ (fun _ => hSK2) ?_
  clear hK K
  refine wpZ_one (i := 12) (by kernel_rfl) rfl (fun K hK => ?_)
  go_simp
  refine (HM4.out wK2 (HG.out.below (hSK2)).1).mono ?_
  rintro e wK3 ⟨rfl, hbK3⟩
  have hSK3 : Below w5.heap.size w5 wK3 := bStep (hSK2) hbK3
  go_wp2_with fail
  refine hK.out _ _ (fun _ => hSK3) ?_
  clear hK K
  refine wpZ_take (i := 13) (v := .agg #[.int .u64 ((limb 0 (xr) : Nat) : Int), .int .u64 ((limb 1 (xr) : Nat) : Int), .int .u64 ((limb 2 (xr) : Nat) : Int), .int .u64 ((limb 3 (xr) : Nat) : Int), .int .u64 ((limb 0 (yr) : Nat) : Int), .int .u64 ((limb 1 (yr) : Nat) : Int), .int .u64 ((limb 2 (yr) : Nat) : Int), .int .u64 ((limb 3 (yr) : Nat) : Int), .bool false]) 35 rfl rfl (by kernel_rfl) (by kernel_rfl) (by kernel_rfl) (Or.inl (by kernel_rfl)) (fun _ _ _ h => h) (Or.inl ⟨by rfl, fun w hSw => by go_simp⟩) hSK3 ?_
  simp only [Act.put, List.setIfInBounds_toArray]
  dsimp only [List.set_cons_zero, List.set_cons_succ]
  refine wpZ_one (i := 14) (by kernel_rfl) rfl (fun K hK => ?_)
  obtain ⟨r0, r1, r2, r3, r4, r5, r6, r7, r8, rf⟩ := (br5.belowAll (hSK3)).cells
  go_simp
  refine hK.out _ _ (fun h => absurd rfl h) ?_
  clear hK K
  refine wpZ_done (by kernel_rfl) ?_ _
  go_wp2
  refine bodyPost_ret (v := .agg #[.int .u64 ((limb 0 (xr) : Nat) : Int), .int .u64 ((limb 1 (xr) : Nat) : Int), .int .u64 ((limb 2 (xr) : Nat) : Int), .int .u64 ((limb 3 (xr) : Nat) : Int), .int .u64 ((limb 0 (yr) : Nat) : Int), .int .u64 ((limb 1 (yr) : Nat) : Int), .int .u64 ((limb 2 (yr) : Nat) : Int), .int .u64 ((limb 3 (yr) : Nat) : Int), .bool false]) (by simp [results, Tryz.results80, go_sem, r0, r1, r2, r3, r4, r5, r6, r7, r8]) rfl ⟨rfl, ?_⟩
  exact bSet9 (bStep hbw5 (hSK3)) hrw _ _ _ _ _ _ _ _ _

end Go.Proofs.YtaeembdabnomaaaGreatDoor

/- curve.times and curve.Mul by 1. -/
namespace Go.Proofs.YtaeembdabnomaaaGreatDoor
open Go.RowKit

theorem Jt.set12 {w : World} {b x y z : Nat} (h : Jt w b x y z) (u v t : Nat) : Jt ((((((((((((w.setCell ⟨b, 0, none⟩ (.int .u64 ((limb 0 u : Nat) : Int))).setCell ⟨b, 1, none⟩ (.int .u64 ((limb 1 u : Nat) : Int))).setCell ⟨b, 2, none⟩ (.int .u64 ((limb 2 u : Nat) : Int))).setCell ⟨b, 3, none⟩ (.int .u64 ((limb 3 u : Nat) : Int))).setCell ⟨b, 4, none⟩ (.int .u64 ((limb 0 v : Nat) : Int))).setCell ⟨b, 5, none⟩ (.int .u64 ((limb 1 v : Nat) : Int))).setCell ⟨b, 6, none⟩ (.int .u64 ((limb 2 v : Nat) : Int))).setCell ⟨b, 7, none⟩ (.int .u64 ((limb 3 v : Nat) : Int))).setCell ⟨b, 8, none⟩ (.int .u64 ((limb 0 t : Nat) : Int))).setCell ⟨b, 9, none⟩ (.int .u64 ((limb 1 t : Nat) : Int))).setCell ⟨b, 10, none⟩ (.int .u64 ((limb 2 t : Nat) : Int))).setCell ⟨b, 11, none⟩ (.int .u64 ((limb 3 t : Nat) : Int))) b u v t := by
  unfold Jt at h ⊢
  have h1 := heap_setCell_same _ b 0 _ _ (.int .u64 ((limb 0 u : Nat) : Int)) h
  have h2 := heap_setCell_same _ b 1 _ _ (.int .u64 ((limb 1 u : Nat) : Int)) h1
  have h3 := heap_setCell_same _ b 2 _ _ (.int .u64 ((limb 2 u : Nat) : Int)) h2
  have h4 := heap_setCell_same _ b 3 _ _ (.int .u64 ((limb 3 u : Nat) : Int)) h3
  have h5 := heap_setCell_same _ b 4 _ _ (.int .u64 ((limb 0 v : Nat) : Int)) h4
  have h6 := heap_setCell_same _ b 5 _ _ (.int .u64 ((limb 1 v : Nat) : Int)) h5
  have h7 := heap_setCell_same _ b 6 _ _ (.int .u64 ((limb 2 v : Nat) : Int)) h6
  have h8 := heap_setCell_same _ b 7 _ _ (.int .u64 ((limb 3 v : Nat) : Int)) h7
  have h9 := heap_setCell_same _ b 8 _ _ (.int .u64 ((limb 0 t : Nat) : Int)) h8
  have h10 := heap_setCell_same _ b 9 _ _ (.int .u64 ((limb 1 t : Nat) : Int)) h9
  have h11 := heap_setCell_same _ b 10 _ _ (.int .u64 ((limb 2 t : Nat) : Int)) h10
  have h12 := heap_setCell_same _ b 11 _ _ (.int .u64 ((limb 3 t : Nat) : Int)) h11
  simpa using h12
theorem Jt.other12 {w : World} {b r x y z : Nat} (h : Jt w b x y z) (hr : b ≠ r) (v0 v1 v2 v3 v4 v5 v6 v7 v8 v9 v10 v11 : Value) : Jt ((((((((((((w.setCell ⟨r, 0, none⟩ v0).setCell ⟨r, 1, none⟩ v1).setCell ⟨r, 2, none⟩ v2).setCell ⟨r, 3, none⟩ v3).setCell ⟨r, 4, none⟩ v4).setCell ⟨r, 5, none⟩ v5).setCell ⟨r, 6, none⟩ v6).setCell ⟨r, 7, none⟩ v7).setCell ⟨r, 8, none⟩ v8).setCell ⟨r, 9, none⟩ v9).setCell ⟨r, 10, none⟩ v10).setCell ⟨r, 11, none⟩ v11) b x y z := by
  unfold Jt at h ⊢
  rw [Below.heap_setCell _ _ _ b hr, Below.heap_setCell _ _ _ b hr, Below.heap_setCell _ _ _ b hr, Below.heap_setCell _ _ _ b hr, Below.heap_setCell _ _ _ b hr, Below.heap_setCell _ _ _ b hr, Below.heap_setCell _ _ _ b hr, Below.heap_setCell _ _ _ b hr, Below.heap_setCell _ _ _ b hr, Below.heap_setCell _ _ _ b hr, Below.heap_setCell _ _ _ b hr, Below.heap_setCell _ _ _ b hr]
  exact h
theorem Pt.other12 {w : World} {b r x y : Nat} {i : Bool} (h : Pt w b x y i) (hr : b ≠ r) (v0 v1 v2 v3 v4 v5 v6 v7 v8 v9 v10 v11 : Value) : Pt ((((((((((((w.setCell ⟨r, 0, none⟩ v0).setCell ⟨r, 1, none⟩ v1).setCell ⟨r, 2, none⟩ v2).setCell ⟨r, 3, none⟩ v3).setCell ⟨r, 4, none⟩ v4).setCell ⟨r, 5, none⟩ v5).setCell ⟨r, 6, none⟩ v6).setCell ⟨r, 7, none⟩ v7).setCell ⟨r, 8, none⟩ v8).setCell ⟨r, 9, none⟩ v9).setCell ⟨r, 10, none⟩ v10).setCell ⟨r, 11, none⟩ v11) b x y i := by
  unfold Pt at h ⊢
  rw [Below.heap_setCell _ _ _ b hr, Below.heap_setCell _ _ _ b hr, Below.heap_setCell _ _ _ b hr, Below.heap_setCell _ _ _ b hr, Below.heap_setCell _ _ _ b hr, Below.heap_setCell _ _ _ b hr, Below.heap_setCell _ _ _ b hr, Below.heap_setCell _ _ _ b hr, Below.heap_setCell _ _ _ b hr, Below.heap_setCell _ _ _ b hr, Below.heap_setCell _ _ _ b hr, Below.heap_setCell _ _ _ b hr]
  exact h
theorem Blk.other12 {w : World} {t : TypeId} {b r : Nat} {f : Nat → Nat} (h : Blk w t b f) (hr : b ≠ r) (v0 v1 v2 v3 v4 v5 v6 v7 v8 v9 v10 v11 : Value) : Blk ((((((((((((w.setCell ⟨r, 0, none⟩ v0).setCell ⟨r, 1, none⟩ v1).setCell ⟨r, 2, none⟩ v2).setCell ⟨r, 3, none⟩ v3).setCell ⟨r, 4, none⟩ v4).setCell ⟨r, 5, none⟩ v5).setCell ⟨r, 6, none⟩ v6).setCell ⟨r, 7, none⟩ v7).setCell ⟨r, 8, none⟩ v8).setCell ⟨r, 9, none⟩ v9).setCell ⟨r, 10, none⟩ v10).setCell ⟨r, 11, none⟩ v11) t b f :=
  ((((((((((((h.other hr _).other hr _).other hr _).other hr _).other hr _).other hr _).other hr _).other hr _).other hr _).other hr _).other hr _).other hr _)
theorem inv_one (c : Nat) : invC c 1 = 1 := by
  have h1 := (modN_odd c).2
  refine invC_spec c 1 1 h1 ?_
  rw [Nat.one_mul, Nat.mod_mod, Nat.mod_eq_of_lt h1]
theorem mulP_one (c x : Nat) (hx : x < modN c) : mulP c x 1 = x := by unfold mulP; rw [Nat.mul_one, Nat.mod_eq_of_lt hx]
theorem bit_one (i : Nat) (h : i ≠ 0) : bitN 1 i = 0 := by
  unfold bitN
  rw [Nat.div_eq_of_lt (Nat.one_lt_two_pow h)]
set_option maxHeartbeats 3000000 in
set_option maxRecDepth 20000 in
theorem times_one (c x y : Nat) (hc : c < 4) (hx : x < modN c) (hy : y < modN c) (w : World) (hg : GlobC w) :
    Calls Tryz.prog 42 #[.int .i64 (c : Int), .agg #[.int .u64 ((limb 0 (1) : Nat) : Int), .int .u64 ((limb 1 (1) : Nat) : Int), .int .u64 ((limb 2 (1) : Nat) : Int), .int .u64 ((limb 3 (1) : Nat) : Int)], .agg #[.int .u64 ((limb 0 (x) : Nat) : Int), .int .u64 ((limb 1 (x) : Nat) : Int), .int .u64 ((limb 2 (x) : Nat) : Int), .int .u64 ((limb 3 (x) : Nat) : Int), .int .u64 ((limb 0 (y) : Nat) : Int), .int .u64 ((limb 1 (y) : Nat) : Int), .int .u64 ((limb 2 (y) : Nat) : Int), .int .u64 ((limb 3 (y) : Nat) : Int), .bool false]] w fun e w' => e = .returned (.agg #[.int .u64 ((limb 0 (x) : Nat) : Int), .int .u64 ((limb 1 (x) : Nat) : Int), .int .u64 ((limb 2 (x) : Nat) : Int), .int .u64 ((limb 3 (x) : Nat) : Int), .int .u64 ((limb 0 (y) : Nat) : Int), .int .u64 ((limb 1 (y) : Nat) : Int), .int .u64 ((limb 2 (y) : Nat) : Int), .int .u64 ((limb 3 (y) : Nat) : Int), .bool false]) ∧ Below w.heap.size w w' := by
  have HG0 : Hid (GlobC w) := hg
  obtain ⟨o, eo⟩ : ∃ o, o = 0 := ⟨_, rfl⟩
  obtain ⟨u, eu⟩ : ∃ u, u = 1 := ⟨_, rfl⟩
  have HO : Hid (∀ w, Calls Tryz.prog 76 #[.agg #[.int .u64 ((limb 0 (x) : Nat) : Int), .int .u64 ((limb 1 (x) : Nat) : Int), .int .u64 ((limb 2 (x) : Nat) : Int), .int .u64 ((limb 3 (x) : Nat) : Int), .int .u64 ((limb 0 (y) : Nat) : Int), .int .u64 ((limb 1 (y) : Nat) : Int), .int .u64 ((limb 2 (y) : Nat) : Int), .int .u64 ((limb 3 (y) : Nat) : Int), .bool false]] w fun e w' => e = .returned (.agg #[.int .u64 ((limb 0 (x) : Nat) : Int), .int .u64 ((limb 1 (x) : Nat) : Int), .int .u64 ((limb 2 (x) : Nat) : Int), .int .u64 ((limb 3 (x) : Nat) : Int), .int .u64 ((limb 0 (y) : Nat) : Int), .int .u64 ((limb 1 (y) : Nat) : Int), .int .u64 ((limb 2 (y) : Nat) : Int), .int .u64 ((limb 3 (y) : Nat) : Int), .int .u64 ((limb 0 (u) : Nat) : Int), .int .u64 ((limb 1 (u) : Nat) : Int), .int .u64 ((limb 2 (u) : Nat) : Int), .int .u64 ((limb 3 (u) : Nat) : Int)]) ∧ Below w.heap.size w w') := fun w => by rw [eu]; exact jof_fin x y w
  have HT : Hid (∀ w, Calls Tryz.prog 77 #[.agg #[.int .u64 ((limb 0 (o) : Nat) : Int), .int .u64 ((limb 1 (o) : Nat) : Int), .int .u64 ((limb 2 (o) : Nat) : Int), .int .u64 ((limb 3 (o) : Nat) : Int), .int .u64 ((limb 0 (o) : Nat) : Int), .int .u64 ((limb 1 (o) : Nat) : Int), .int .u64 ((limb 2 (o) : Nat) : Int), .int .u64 ((limb 3 (o) : Nat) : Int), .int .u64 ((limb 0 (o) : Nat) : Int), .int .u64 ((limb 1 (o) : Nat) : Int), .int .u64 ((limb 2 (o) : Nat) : Int), .int .u64 ((limb 3 (o) : Nat) : Int)], .int .i64 (c : Int)] w fun e w' => e = .returned (.agg #[.int .u64 ((limb 0 (o) : Nat) : Int), .int .u64 ((limb 1 (o) : Nat) : Int), .int .u64 ((limb 2 (o) : Nat) : Int), .int .u64 ((limb 3 (o) : Nat) : Int), .int .u64 ((limb 0 (o) : Nat) : Int), .int .u64 ((limb 1 (o) : Nat) : Int), .int .u64 ((limb 2 (o) : Nat) : Int), .int .u64 ((limb 3 (o) : Nat) : Int), .int .u64 ((limb 0 (o) : Nat) : Int), .int .u64 ((limb 1 (o) : Nat) : Int), .int .u64 ((limb 2 (o) : Nat) : Int), .int .u64 ((limb 3 (o) : Nat) : Int)]) ∧ Below w.heap.size w w') := fun w => twice_inf o o o eo c w
  have HP : Hid (∀ w, Calls Tryz.prog 79 #[.agg #[.int .u64 ((limb 0 (o) : Nat) : Int), .int .u64 ((limb 1 (o) : Nat) : Int), .int .u64 ((limb 2 (o) : Nat) : Int), .int .u64 ((limb 3 (o) : Nat) : Int), .int .u64 ((limb 0 (o) : Nat) : Int), .int .u64 ((limb 1 (o) : Nat) : Int), .int .u64 ((limb 2 (o) : Nat) : Int), .int .u64 ((limb 3 (o) : Nat) : Int), .int .u64 ((limb 0 (o) : Nat) : Int), .int .u64 ((limb 1 (o) : Nat) : Int), .int .u64 ((limb 2 (o) : Nat) : Int), .int .u64 ((limb 3 (o) : Nat) : Int)], .int .i64 (c : Int), .agg #[.int .u64 ((limb 0 (x) : Nat) : Int), .int .u64 ((limb 1 (x) : Nat) : Int), .int .u64 ((limb 2 (x) : Nat) : Int), .int .u64 ((limb 3 (x) : Nat) : Int), .int .u64 ((limb 0 (y) : Nat) : Int), .int .u64 ((limb 1 (y) : Nat) : Int), .int .u64 ((limb 2 (y) : Nat) : Int), .int .u64 ((limb 3 (y) : Nat) : Int), .int .u64 ((limb 0 (u) : Nat) : Int), .int .u64 ((limb 1 (u) : Nat) : Int), .int .u64 ((limb 2 (u) : Nat) : Int), .int .u64 ((limb 3 (u) : Nat) : Int)]] w fun e w' => e = .returned (.agg #[.int .u64 ((limb 0 (x) : Nat) : Int), .int .u64 ((limb 1 (x) : Nat) : Int), .int .u64 ((limb 2 (x) : Nat) : Int), .int .u64 ((limb 3 (x) : Nat) : Int), .int .u64 ((limb 0 (y) : Nat) : Int), .int .u64 ((limb 1 (y) : Nat) : Int), .int .u64 ((limb 2 (y) : Nat) : Int), .int .u64 ((limb 3 (y) : Nat) : Int), .int .u64 ((limb 0 (u) : Nat) : Int), .int .u64 ((limb 1 (u) : Nat) : Int), .int .u64 ((limb 2 (u) : Nat) : Int), .int .u64 ((limb 3 (u) : Nat) : Int)]) ∧ Below w.heap.size w w') := fun w => plus_inf o o o x y u eo c w
  have HB : Hid (∀ (i : Int), 0 ≤ i → i < 256 → ∀ w, Calls Tryz.prog 78 #[.agg #[.int .u64 ((limb 0 (u) : Nat) : Int), .int .u64 ((limb 1 (u) : Nat) : Int), .int .u64 ((limb 2 (u) : Nat) : Int), .int .u64 ((limb 3 (u) : Nat) : Int)], .int .i64 i] w fun e w' => e = .returned (.bool (decide (bitN 1 i.toNat = 1))) ∧ Below w.heap.size w w') := fun i h0 h1 w => by rw [eu]; exact bit_any 1 i h0 h1 w
  have HN : Hid (∀ w, GlobC w → Calls Tryz.prog 80 #[.agg #[.int .u64 ((limb 0 (x) : Nat) : Int), .int .u64 ((limb 1 (x) : Nat) : Int), .int .u64 ((limb 2 (x) : Nat) : Int), .int .u64 ((limb 3 (x) : Nat) : Int), .int .u64 ((limb 0 (y) : Nat) : Int), .int .u64 ((limb 1 (y) : Nat) : Int), .int .u64 ((limb 2 (y) : Nat) : Int), .int .u64 ((limb 3 (y) : Nat) : Int), .int .u64 ((limb 0 (u) : Nat) : Int), .int .u64 ((limb 1 (u) : Nat) : Int), .int .u64 ((limb 2 (u) : Nat) : Int), .int .u64 ((limb 3 (u) : Nat) : Int)], .int .i64 (c : Int)] w fun e w' => e = .returned (.agg #[.int .u64 ((limb 0 (x) : Nat) : Int), .int .u64 ((limb 1 (x) : Nat) : Int), .int .u64 ((limb 2 (x) : Nat) : Int), .int .u64 ((limb 3 (x) : Nat) : Int), .int .u64 ((limb 0 (y) : Nat) : Int), .int .u64 ((limb 1 (y) : Nat) : Int), .int .u64 ((limb 2 (y) : Nat) : Int), .int .u64 ((limb 3 (y) : Nat) : Int), .bool false]) ∧ Below w.heap.size w w') := fun w hg => by
    have h := plain_fin c x y 1 hc (lt_M c _ hx) (lt_M c _ hy) (by decide) (by decide) w hg
    have e1 : mulP c 1 1 = 1 := mulP_one c 1 (modN_odd c).2
    rw [inv_one, e1, mulP_one c x hx, e1, mulP_one c y hy] at h
    rw [eu]
    exact h
  have HJZ : Hid (∀ W : World, Jt (W.alloc (.cells #[.int .u64 0, .int .u64 0, .int .u64 0, .int .u64 0, .int .u64 0, .int .u64 0, .int .u64 0, .int .u64 0, .int .u64 0, .int .u64 0, .int .u64 0, .int .u64 0] 80)) W.heap.size o o o) := fun W => by rw [eo]; exact Jt.zeroAt W _ rfl
  have HV : Hid ((.agg #[.int .u64 ((limb 0 (1) : Nat) : Int), .int .u64 ((limb 1 (1) : Nat) : Int), .int .u64 ((limb 2 (1) : Nat) : Int), .int .u64 ((limb 3 (1) : Nat) : Int)] : Value) = .agg #[.int .u64 ((limb 0 (u) : Nat) : Int), .int .u64 ((limb 1 (u) : Nat) : Int), .int .u64 ((limb 2 (u) : Nat) : Int), .int .u64 ((limb 3 (u) : Nat) : Int)]) := by show _ = _; rw [eu]
  rw [HV.out]
  clear hg eo eu hx hy HV
  go_enter Tryz.func42, Tryz.ntmps42
  go_upto_region 1 with fail
  obtain ⟨w0, hw0⟩ : ∃ w0 : World, w0 = ((w.alloc (.cells #[.int .u64 ((limb 0 (u) : Nat) : Int), .int .u64 ((limb 1 (u) : Nat) : Int), .int .u64 ((limb 2 (u) : Nat) : Int), .int .u64 ((limb 3 (u) : Nat) : Int)] 24)).alloc (.cells #[.int .u64 ((limb 0 x : Nat) : Int), .int .u64 ((limb 1 x : Nat) : Int), .int .u64 ((limb 2 x : Nat) : Int), .int .u64 ((limb 3 x : Nat) : Int), .int .u64 ((limb 0 y : Nat) : Int), .int .u64 ((limb 1 y : Nat) : Int), .int .u64 ((limb 2 y : Nat) : Int), .int .u64 ((limb 3 y : Nat) : Int), .bool false] 26)).alloc (.cells #[.int .u64 0, .int .u64 0, .int .u64 0, .int .u64 0, .int .u64 0, .int .u64 0, .int .u64 0, .int .u64 0, .bool false] 26) := ⟨_, rfl⟩
  have bk0 : Blk w0 24 w.heap.size (fun i => limb i u) := by rw [hw0]; exact ((Blk.newAt _ _ _ (fun i => limb i u) rfl).alloc _).alloc _
  have bp0 : Pt w0 (w.heap.size + 1) x y false := by rw [hw0]; exact (Pt.newAt _ _ _ _ _ (by simp)).alloc _
  have br0 : Pt w0 (w.heap.size + 1 + 1) 0 0 false := by rw [hw0]; exact Pt.zeroAt _ _ (by simp)
  have hs0 : w0.heap.size = w.heap.size + 1 + 1 + 1 := by rw [hw0]; simp
  have hbw0 : Below w.heap.size w w0 := by rw [hw0]; exact bAlloc (bAlloc ((Below.refl _ _).alloc (Nat.le_refl _) _) _) _
  rw [← hw0]
  have HS0 := (show Hid _ from hs0)
  clear hw0 hs0
  have b71 := HJZ.out w0
  have bk1 := bk0.alloc (.cells #[.int .u64 0, .int .u64 0, .int .u64 0, .int .u64 0, .int .u64 0, .int .u64 0, .int .u64 0, .int .u64 0, .int .u64 0, .int .u64 0, .int .u64 0, .int .u64 0] 80); have bp1 := bp0.alloc (.cells #[.int .u64 0, .int .u64 0, .int .u64 0, .int .u64 0, .int .u64 0, .int .u64 0, .int .u64 0, .int .u64 0, .int .u64 0, .int .u64 0, .int .u64 0, .int .u64 0] 80); have br1 := br0.alloc (.cells #[.int .u64 0, .int .u64 0, .int .u64 0, .int .u64 0, .int .u64 0, .int .u64 0, .int .u64 0, .int .u64 0, .int .u64 0, .int .u64 0, .int .u64 0, .int .u64 0] 80)
  have hbw1 := bAlloc hbw0 (.cells #[.int .u64 0, .int .u64 0, .int .u64 0, .int .u64 0, .int .u64 0, .int .u64 0, .int .u64 0, .int .u64 0, .int .u64 0, .int .u64 0, .int .u64 0, .int .u64 0] 80)
  go_upto_region 2 with fail
  obtain ⟨N7, hN7⟩ : ∃ N, N = w0.heap.size := ⟨_, rfl⟩
  obtain ⟨w1, hw1⟩ : ∃ WW : World, WW = w0.alloc (.cells #[.int .u64 0, .int .u64 0, .int .u64 0, .int .u64 0, .int .u64 0, .int .u64 0, .int .u64 0, .int .u64 0, .int .u64 0, .int .u64 0, .int .u64 0, .int .u64 0] 80) := ⟨_, rfl⟩
  rw [← hw1] at b71 bk1 bp1 br1 hbw1 ⊢
  rw [← hN7] at b71 ⊢
  have lN7 : w.heap.size + 1 + 1 < N7 := by have := HS0.out; omega
  clear hw1 hN7 bk0 bp0 br0 hbw0 HS0 HJZ
  obtain ⟨p0, p1, p2, p3, p4, p5, p6, p7, p8, pf⟩ := bp1.cells
  go_wp2_with fail
  refine (HO.out _).mono ?_
  rintro e w2 ⟨rfl, hb2⟩
  clear p0 p1 p2 p3 p4 p5 p6 p7 p8 pf bp1 HO
  have b73 := (b71.belowAll hb2).alloc (.cells #[.int .u64 ((limb 0 x : Nat) : Int), .int .u64 ((limb 1 x : Nat) : Int), .int .u64 ((limb 2 x : Nat) : Int), .int .u64 ((limb 3 x : Nat) : Int), .int .u64 ((limb 0 y : Nat) : Int), .int .u64 ((limb 1 y : Nat) : Int), .int .u64 ((limb 2 y : Nat) : Int), .int .u64 ((limb 3 y : Nat) : Int), .int .u64 ((limb 0 u : Nat) : Int), .int .u64 ((limb 1 u : Nat) : Int), .int .u64 ((limb 2 u : Nat) : Int), .int .u64 ((limb 3 u : Nat) : Int)] 80); have bk3 := (bk1.belowAll hb2).alloc (.cells #[.int .u64 ((limb 0 x : Nat) : Int), .int .u64 ((limb 1 x : Nat) : Int), .int .u64 ((limb 2 x : Nat) : Int), .int .u64 ((limb 3 x : Nat) : Int), .int .u64 ((limb 0 y : Nat) : Int), .int .u64 ((limb 1 y : Nat) : Int), .int .u64 ((limb 2 y : Nat) : Int), .int .u64 ((limb 3 y : Nat) : Int), .int .u64 ((limb 0 u : Nat) : Int), .int .u64 ((limb 1 u : Nat) : Int), .int .u64 ((limb 2 u : Nat) : Int), .int .u64 ((limb 3 u : Nat) : Int)] 80); have br3 := (br1.belowAll hb2).alloc (.cells #[.int .u64 ((limb 0 x : Nat) : Int), .int .u64 ((limb 1 x : Nat) : Int), .int .u64 ((limb 2 x : Nat) : Int), .int .u64 ((limb 3 x : Nat) : Int), .int .u64 ((limb 0 y : Nat) : Int), .int .u64 ((limb 1 y : Nat) : Int), .int .u64 ((limb 2 y : Nat) : Int), .int .u64 ((limb 3 y : Nat) : Int), .int .u64 ((limb 0 u : Nat) : Int), .int .u64 ((limb 1 u : Nat) : Int), .int .u64 ((limb 2 u : Nat) : Int), .int .u64 ((limb 3 u : Nat) : Int)] 80)
  have b83 : Jt (w2.alloc (.cells #[.int .u64 ((limb 0 x : Nat) : Int), .int .u64 ((limb 1 x : Nat) : Int), .int .u64 ((limb 2 x : Nat) : Int), .int .u64 ((limb 3 x : Nat) : Int), .int .u64 ((limb 0 y : Nat) : Int), .int .u64 ((limb 1 y : Nat) : Int), .int .u64 ((limb 2 y : Nat) : Int), .int .u64 ((limb 3 y : Nat) : Int), .int .u64 ((limb 0 u : Nat) : Int), .int .u64 ((limb 1 u : Nat) : Int), .int .u64 ((limb 2 u : Nat) : Int), .int .u64 ((limb 3 u : Nat) : Int)] 80)) w2.heap.size x y u := Jt.newAt _ _ _ _ _ rfl
  have lN8 := (b71.belowAll hb2).lt
  have hbw3 := bAlloc (bStep hbw1 hb2) (.cells #[.int .u64 ((limb 0 x : Nat) : Int), .int .u64 ((limb 1 x : Nat) : Int), .int .u64 ((limb 2 x : Nat) : Int), .int .u64 ((limb 3 x : Nat) : Int), .int .u64 ((limb 0 y : Nat) : Int), .int .u64 ((limb 1 y : Nat) : Int), .int .u64 ((limb 2 y : Nat) : Int), .int .u64 ((limb 3 y : Nat) : Int), .int .u64 ((limb 0 u : Nat) : Int), .int .u64 ((limb 1 u : Nat) : Int), .int .u64 ((limb 2 u : Nat) : Int), .int .u64 ((limb 3 u : Nat) : Int)] 80)
  go_upto_region 3 with fail
  obtain ⟨N8, hN8⟩ : ∃ N, N = w2.heap.size := ⟨_, rfl⟩
  obtain ⟨w3, hw3⟩ : ∃ WW : World, WW = w2.alloc (.cells #[.int .u64 ((limb 0 x : Nat) : Int), .int .u64 ((limb 1 x : Nat) : Int), .int .u64 ((limb 2 x : Nat) : Int), .int .u64 ((limb 3 x : Nat) : Int), .int .u64 ((limb 0 y : Nat) : Int), .int .u64 ((limb 1 y : Nat) : Int), .int .u64 ((limb 2 y : Nat) : Int), .int .u64 ((limb 3 y : Nat) : Int), .int .u64 ((limb 0 u : Nat) : Int), .int .u64 ((limb 1 u : Nat) : Int), .int .u64 ((limb 2 u : Nat) : Int), .int .u64 ((limb 3 u : Nat) : Int)] 80) := ⟨_, rfl⟩
  rw [← hw3] at b73 bk3 br3 b83 hbw3 ⊢
  rw [← hN8] at b83 lN8 ⊢
  clear hw3 hN8 b71 bk1 br1 hbw1 hb2
  go_wp2
  go_loopw [12] (fun iv wr => ∃ (i X Y Z : Nat), iv = .int .i64 (i : Int) ∧ i ≤ 256 ∧ Hid ((i < 256 → X = o ∧ Y = o ∧ Z = o) ∧ (i = 256 → X = x ∧ Y = y ∧ Z = u)) ∧ Below w.heap.size w wr ∧ Jt wr N7 X Y Z ∧ Blk wr 24 w.heap.size (fun i => limb i u) ∧ Pt wr (w.heap.size + 1 + 1) 0 0 false ∧ Jt wr N8 x y u) (fun iv _ => 256 - (intOf iv).toNat)
  case atStart => exact ⟨0, o, o, o, rfl, by decide, ⟨fun _ => ⟨rfl, rfl, rfl⟩, fun h => absurd h (by decide)⟩, hbw3, b73, bk3, br3, b83⟩
  case round =>
    obtain ⟨i, X, Y, Z, rfl, hi, HX, hbr, b7, bk, br, b8⟩ := hrel
    clear b73 bk3 br3 b83 hbw3
    by_cases hlt : i < 256
    · obtain ⟨hX, hY, hZ⟩ := HX.out.1 hlt
      subst hX hY hZ
      have hki : (i : Int) < 256 := by omega
      clear HX
      obtain ⟨q0, q1, q2, q3, q4, q5, q6, q7, q8, q9, q10, q11, qf⟩ := b7.cells
      go_wp2_with fail
      refine (HT.out _).mono ?_
      rintro e w4 ⟨rfl, hb4⟩
      clear q0 q1 q2 q3 q4 q5 q6 q7 q8 q9 q10 q11 qf
      have b74 := b7.belowAll hb4; have bk4 := bk.belowAll hb4; have br4 := br.belowAll hb4; have b84 := b8.belowAll hb4
      have hbw4 := bStep hbr hb4
      clear b7 bk br b8 hbr hb4
      obtain ⟨q0, q1, q2, q3, q4, q5, q6, q7, q8, q9, q10, q11, qf⟩ := b74.cells
      go_upto_region 7 with fail
      clear q0 q1 q2 q3 q4 q5 q6 q7 q8 q9 q10 q11 qf
      obtain ⟨w5, hw5⟩ : ∃ WW : World, WW = ((((((((((((w4.setCell ⟨N7, 0, none⟩ (.int .u64 ((limb 0 Z : Nat) : Int))).setCell ⟨N7, 1, none⟩ (.int .u64 ((limb 1 Z : Nat) : Int))).setCell ⟨N7, 2, none⟩ (.int .u64 ((limb 2 Z : Nat) : Int))).setCell ⟨N7, 3, none⟩ (.int .u64 ((limb 3 Z : Nat) : Int))).setCell ⟨N7, 4, none⟩ (.int .u64 ((limb 0 Z : Nat) : Int))).setCell ⟨N7, 5, none⟩ (.int .u64 ((limb 1 Z : Nat) : Int))).setCell ⟨N7, 6, none⟩ (.int .u64 ((limb 2 Z : Nat) : Int))).setCell ⟨N7, 7, none⟩ (.int .u64 ((limb 3 Z : Nat) : Int))).setCell ⟨N7, 8, none⟩ (.int .u64 ((limb 0 Z : Nat) : Int))).setCell ⟨N7, 9, none⟩ (.int .u64 ((limb 1 Z : Nat) : Int))).setCell ⟨N7, 10, none⟩ (.int .u64 ((limb 2 Z : Nat) : Int))).setCell ⟨N7, 11, none⟩ (.int .u64 ((limb 3 Z : Nat) : Int))) := ⟨_, rfl⟩
      have b75 : Jt w5 N7 Z Z Z := by rw [hw5]; exact b74.set12 Z Z Z
      have bk5 : Blk w5 24 w.heap.size (fun i => limb i u) := by rw [hw5]; exact bk4.other12 (by omega) _ _ _ _ _ _ _ _ _ _ _ _ 
      have br5 : Pt w5 (w.heap.size + 1 + 1) 0 0 false := by rw [hw5]; exact br4.other12 (by omega) _ _ _ _ _ _ _ _ _ _ _ _ 
      have b85 : Jt w5 N8 x y u := by rw [hw5]; exact b84.other12 (by omega) _ _ _ _ _ _ _ _ _ _ _ _ 
      have hbw5 : Below w.heap.size w w5 := by rw [hw5]; exact bSet12 hbw4 (by omega) _ _ _ _ _ _ _ _ _ _ _ _ 
      rw [← hw5]
      clear hw5 b74 bk4 br4 b84 hbw4
      have ck := bk5.cell
      have hsub : (255 : Int) - (i : Int) = ((255 - i : Nat) : Int) := by omega
      have HBi := HB.out ((255 - i : Nat) : Int) (by omega) (by omega)
      rw [Int.toNat_natCast] at HBi
      obtain ⟨d, ed⟩ : ∃ d, d = 255 - i := ⟨_, rfl⟩
      rw [← ed] at hsub HBi
      have hd : d ≤ 255 := by omega
      have HD := (show Hid _ from ed)
      have HBB := (show Hid _ from HBi)
      clear HBi ed
      by_cases hd0 : d = 0
      · rw [show decide (bitN 1 d = 1) = true from by rw [hd0]; rfl] at HBB
        have HE : Hid (255 ≤ i) := by have := HD.out; show 255 ≤ i; omega
        clear hd0 HD
        go_wp2_with fail
        refine (HBB.out _).mono ?_
        rintro e w6 ⟨rfl, hb6⟩
        clear ck
        have b76 := b75.belowAll hb6; have bk6 := bk5.belowAll hb6; have br6 := br5.belowAll hb6; have b86 := b85.belowAll hb6
        have hbw6 := bStep hbw5 hb6
        clear b75 bk5 br5 b85 hbw5 hb6
        obtain ⟨q0, q1, q2, q3, q4, q5, q6, q7, q8, q9, q10, q11, qf⟩ := b76.cells
        obtain ⟨s0, s1, s2, s3, s4, s5, s6, s7, s8, s9, s10, s11, sf⟩ := b86.cells
        go_wp2_with fail
        refine (HP.out _).mono ?_
        rintro e w7 ⟨rfl, hb7⟩
        clear q0 q1 q2 q3 q4 q5 q6 q7 q8 q9 q10 q11 qf s0 s1 s2 s3 s4 s5 s6 s7 s8 s9 s10 s11 sf
        obtain ⟨q0, q1, q2, q3, q4, q5, q6, q7, q8, q9, q10, q11, qf⟩ := (b76.belowAll hb7).cells
        go_upto_region 9 with fail
        clear q0 q1 q2 q3 q4 q5 q6 q7 q8 q9 q10 q11 qf
        obtain ⟨w8, hw8⟩ : ∃ WW : World, WW = ((((((((((((w7.setCell ⟨N7, 0, none⟩ (.int .u64 ((limb 0 x : Nat) : Int))).setCell ⟨N7, 1, none⟩ (.int .u64 ((limb 1 x : Nat) : Int))).setCell ⟨N7, 2, none⟩ (.int .u64 ((limb 2 x : Nat) : Int))).setCell ⟨N7, 3, none⟩ (.int .u64 ((limb 3 x : Nat) : Int))).setCell ⟨N7, 4, none⟩ (.int .u64 ((limb 0 y : Nat) : Int))).setCell ⟨N7, 5, none⟩ (.int .u64 ((limb 1 y : Nat) : Int))).setCell ⟨N7, 6, none⟩ (.int .u64 ((limb 2 y : Nat) : Int))).setCell ⟨N7, 7, none⟩ (.int .u64 ((limb 3 y : Nat) : Int))).setCell ⟨N7, 8, none⟩ (.int .u64 ((limb 0 u : Nat) : Int))).setCell ⟨N7, 9, none⟩ (.int .u64 ((limb 1 u : Nat) : Int))).setCell ⟨N7, 10, none⟩ (.int .u64 ((limb 2 u : Nat) : Int))).setCell ⟨N7, 11, none⟩ (.int .u64 ((limb 3 u : Nat) : Int))) := ⟨_, rfl⟩
        have b78 : Jt w8 N7 x y u := by rw [hw8]; exact (b76.belowAll hb7).set12 x y u
        have bk8 : Blk w8 24 w.heap.size (fun i => limb i u) := by rw [hw8]; exact (bk6.belowAll hb7).other12 (by omega) _ _ _ _ _ _ _ _ _ _ _ _ 
        have br8 : Pt w8 (w.heap.size + 1 + 1) 0 0 false := by rw [hw8]; exact (br6.belowAll hb7).other12 (by omega) _ _ _ _ _ _ _ _ _ _ _ _ 
        have b88 : Jt w8 N8 x y u := by rw [hw8]; exact (b86.belowAll hb7).other12 (by omega) _ _ _ _ _ _ _ _ _ _ _ _ 
        have hbw8 : Below w.heap.size w w8 := by rw [hw8]; exact bSet12 (bStep hbw6 hb7) (by omega) _ _ _ _ _ _ _ _ _ _ _ _ 
        rw [← hw8]
        clear hw8 b76 bk6 br6 b86 hbw6 hb7
        go_wp2
        go_roundw
        case measure => simp [intOf]; omega
        case rel =>
          have hE := HE.out
          exact ⟨i + 1, x, y, u, by go_num, by omega, ⟨fun h => by omega, fun _ => ⟨rfl, rfl, rfl⟩⟩, hbw8, b78, bk8, br8, b88⟩
      · rw [show decide (bitN 1 d = 1) = false from by rw [bit_one d hd0]; rfl] at HBB
        have HE : Hid (i < 255) := by have := HD.out; show i < 255; omega
        clear hd0 HD
        go_wp2_with fail
        refine (HBB.out _).mono ?_
        rintro e w6 ⟨rfl, hb6⟩
        clear ck
        have b76 := b75.belowAll hb6; have bk6 := bk5.belowAll hb6; have br6 := br5.belowAll hb6; have b86 := b85.belowAll hb6
        have hbw6 := bStep hbw5 hb6
        clear b75 bk5 br5 b85 hbw5 hb6
        go_wp2
        go_roundw
        case measure => simp [intOf]; omega
        case rel =>
          have hE := HE.out
          exact ⟨i + 1, Z, Z, Z, by go_num, by omega, ⟨fun _ => ⟨rfl, rfl, rfl⟩, fun h => by omega⟩, hbw6, b76, bk6, br6, b86⟩
    · obtain ⟨hX, hY, hZ⟩ := HX.out.2 (by omega)
      subst hX hY hZ
      have hki : ¬ (i : Int) < 256 := by omega
      have HGr : Hid (GlobC wr) := HG0.out.below hbr
      clear HX hlt
      obtain ⟨q0, q1, q2, q3, q4, q5, q6, q7, q8, q9, q10, q11, qf⟩ := b7.cells
      go_wp2_with fail
      refine (HN.out _ HGr.out).mono ?_
      rintro e w5 ⟨rfl, hb5⟩
      clear q0 q1 q2 q3 q4 q5 q6 q7 q8 q9 q10 q11 qf
      obtain ⟨r0, r1, r2, r3, r4, r5, r6, r7, r8, rf⟩ := (br.belowAll hb5).cells
      go_wp2
      (try simp only [Exit.inBlock, Exit.then])
      refine bodyPost_ret (v := .agg #[.int .u64 ((limb 0 (X) : Nat) : Int), .int .u64 ((limb 1 (X) : Nat) : Int), .int .u64 ((limb 2 (X) : Nat) : Int), .int .u64 ((limb 3 (X) : Nat) : Int), .int .u64 ((limb 0 (Y) : Nat) : Int), .int .u64 ((limb 1 (Y) : Nat) : Int), .int .u64 ((limb 2 (Y) : Nat) : Int), .int .u64 ((limb 3 (Y) : Nat) : Int), .bool false]) (by simp [results, Tryz.results42, go_sem, r0, r1, r2, r3, r4, r5, r6, r7, r8]) rfl ⟨rfl, ?_⟩
      exact bSet9 (bStep hbr hb5) (by omega) _ _ _ _ _ _ _ _ _

end Go.Proofs.YtaeembdabnomaaaGreatDoor

/- curve.Mul(0, 1, p). -/
namespace Go.Proofs.YtaeembdabnomaaaGreatDoor
open Go.RowKit

theorem xor01 : bits BinOp.xor IntKind.i64 0 1 = 1 := by decide
set_option maxHeartbeats 3000000 in
set_option maxRecDepth 20000 in
theorem mul_one0 (x y : Nat) (hx : x < modN 0) (hy : y < modN 0) (hon : onC 0 x y false) (w : World) (hg : GlobC w) :
    Calls Tryz.prog 16 #[.int .i64 0, .agg #[.int .u64 1, .int .u64 0, .int .u64 0, .int .u64 0], .agg #[.int .u64 ((limb 0 (x) : Nat) : Int), .int .u64 ((limb 1 (x) : Nat) : Int), .int .u64 ((limb 2 (x) : Nat) : Int), .int .u64 ((limb 3 (x) : Nat) : Int), .int .u64 ((limb 0 (y) : Nat) : Int), .int .u64 ((limb 1 (y) : Nat) : Int), .int .u64 ((limb 2 (y) : Nat) : Int), .int .u64 ((limb 3 (y) : Nat) : Int), .bool false]] w fun e w' => e = .returned (.agg #[.int .u64 ((limb 0 (x) : Nat) : Int), .int .u64 ((limb 1 (x) : Nat) : Int), .int .u64 ((limb 2 (x) : Nat) : Int), .int .u64 ((limb 3 (x) : Nat) : Int), .int .u64 ((limb 0 (y) : Nat) : Int), .int .u64 ((limb 1 (y) : Nat) : Int), .int .u64 ((limb 2 (y) : Nat) : Int), .int .u64 ((limb 3 (y) : Nat) : Int), .bool false]) ∧ Below w.heap.size w w' := by
  have HG0 : Hid (GlobC w) := hg
  obtain ⟨u, eu⟩ : ∃ u, u = 1 := ⟨_, rfl⟩
  obtain ⟨m, em⟩ : ∃ m, m = modN 1 := ⟨_, rfl⟩
  have HON : Hid (∀ w, GlobC w → Calls Tryz.prog 10 #[.int .i64 0, .agg #[.int .u64 ((limb 0 (x) : Nat) : Int), .int .u64 ((limb 1 (x) : Nat) : Int), .int .u64 ((limb 2 (x) : Nat) : Int), .int .u64 ((limb 3 (x) : Nat) : Int), .int .u64 ((limb 0 (y) : Nat) : Int), .int .u64 ((limb 1 (y) : Nat) : Int), .int .u64 ((limb 2 (y) : Nat) : Int), .int .u64 ((limb 3 (y) : Nat) : Int), .bool false]] w fun e w' => e = .returned (.bool true) ∧ Below w.heap.size w w') := fun w hg => by
    have h := on_in 0 x y false (by decide) (lt_M 0 _ hx) (lt_M 0 _ hy) w hg
    rw [decide_eq_true hon] at h
    exact h
  have HM : Hid (∀ w, Glob w → Calls Tryz.prog 40 #[.int .i64 1] w fun e w' => e = .returned (.tuple #[.agg #[.int .u64 ((limb 0 (m) : Nat) : Int), .int .u64 ((limb 1 (m) : Nat) : Int), .int .u64 ((limb 2 (m) : Nat) : Int), .int .u64 ((limb 3 (m) : Nat) : Int)], .int .i64 0]) ∧ Below w.heap.size w w') := fun w hg => by rw [em]; exact fModulus_any 1 (by decide) w hg
  have HR : Hid (∀ w, Calls Tryz.prog 41 #[.agg #[.int .u64 ((limb 0 (u) : Nat) : Int), .int .u64 ((limb 1 (u) : Nat) : Int), .int .u64 ((limb 2 (u) : Nat) : Int), .int .u64 ((limb 3 (u) : Nat) : Int)], .agg #[.int .u64 0, .int .u64 0, .int .u64 0, .int .u64 0], .agg #[.int .u64 ((limb 0 (m) : Nat) : Int), .int .u64 ((limb 1 (m) : Nat) : Int), .int .u64 ((limb 2 (m) : Nat) : Int), .int .u64 ((limb 3 (m) : Nat) : Int)]] w fun e w' => e = .returned (.tuple #[.agg #[.int .u64 ((limb 0 (u) : Nat) : Int), .int .u64 ((limb 1 (u) : Nat) : Int), .int .u64 ((limb 2 (u) : Nat) : Int), .int .u64 ((limb 3 (u) : Nat) : Int)], .int .i64 0]) ∧ Below w.heap.size w w') := fun w => by
    have h1 := (modN_odd 1).2
    have h := rem_low 1 (modN 1) (by decide) (modN_good 1).lt.2.2 (by omega) w
    rw [Nat.mod_eq_of_lt h1] at h
    rw [eu, em]
    exact h
  have HT : Hid (∀ w, GlobC w → Calls Tryz.prog 42 #[.int .i64 0, .agg #[.int .u64 ((limb 0 (u) : Nat) : Int), .int .u64 ((limb 1 (u) : Nat) : Int), .int .u64 ((limb 2 (u) : Nat) : Int), .int .u64 ((limb 3 (u) : Nat) : Int)], .agg #[.int .u64 ((limb 0 (x) : Nat) : Int), .int .u64 ((limb 1 (x) : Nat) : Int), .int .u64 ((limb 2 (x) : Nat) : Int), .int .u64 ((limb 3 (x) : Nat) : Int), .int .u64 ((limb 0 (y) : Nat) : Int), .int .u64 ((limb 1 (y) : Nat) : Int), .int .u64 ((limb 2 (y) : Nat) : Int), .int .u64 ((limb 3 (y) : Nat) : Int), .bool false]] w fun e w' => e = .returned (.agg #[.int .u64 ((limb 0 (x) : Nat) : Int), .int .u64 ((limb 1 (x) : Nat) : Int), .int .u64 ((limb 2 (x) : Nat) : Int), .int .u64 ((limb 3 (x) : Nat) : Int), .int .u64 ((limb 0 (y) : Nat) : Int), .int .u64 ((limb 1 (y) : Nat) : Int), .int .u64 ((limb 2 (y) : Nat) : Int), .int .u64 ((limb 3 (y) : Nat) : Int), .bool false]) ∧ Below w.heap.size w w') := fun w hg => by rw [eu]; exact times_one 0 x y (by decide) hx hy w hg
  have HV : Hid ((.agg #[.int .u64 1, .int .u64 0, .int .u64 0, .int .u64 0] : Value) = .agg #[.int .u64 ((limb 0 (u) : Nat) : Int), .int .u64 ((limb 1 (u) : Nat) : Int), .int .u64 ((limb 2 (u) : Nat) : Int), .int .u64 ((limb 3 (u) : Nat) : Int)]) := by show _ = _; rw [eu, word_agg 1 (by decide)]; rfl
  rw [HV.out]
  have X01 := xor01
  clear hg eu em hx hy hon HV
  go_enter Tryz.func16, Tryz.ntmps16
  go_upto_region 1 with fail
  obtain ⟨w0, hw0⟩ : ∃ w0 : World, w0 = ((w.alloc (.cells #[.int .u64 ((limb 0 (u) : Nat) : Int), .int .u64 ((limb 1 (u) : Nat) : Int), .int .u64 ((limb 2 (u) : Nat) : Int), .int .u64 ((limb 3 (u) : Nat) : Int)] 24)).alloc (.cells #[.int .u64 ((limb 0 x : Nat) : Int), .int .u64 ((limb 1 x : Nat) : Int), .int .u64 ((limb 2 x : Nat) : Int), .int .u64 ((limb 3 x : Nat) : Int), .int .u64 ((limb 0 y : Nat) : Int), .int .u64 ((limb 1 y : Nat) : Int), .int .u64 ((limb 2 y : Nat) : Int), .int .u64 ((limb 3 y : Nat) : Int), .bool false] 26)).alloc (.cells #[.int .u64 0, .int .u64 0, .int .u64 0, .int .u64 0, .int .u64 0, .int .u64 0, .int .u64 0, .int .u64 0, .bool false] 26) := ⟨_, rfl⟩
  have bk0 : Blk w0 24 w.heap.size (fun i => limb i u) := by rw [hw0]; exact ((Blk.newAt _ _ _ (fun i => limb i u) rfl).alloc _).alloc _
  have bp0 : Pt w0 (w.heap.size + 1) x y false := by rw [hw0]; exact (Pt.newAt _ _ _ _ _ (by simp)).alloc _
  have br0 : Pt w0 (w.heap.size + 1 + 1) 0 0 false := by rw [hw0]; exact Pt.zeroAt _ _ (by simp)
  have hbw0 : Below w.heap.size w w0 := by rw [hw0]; exact bAlloc (bAlloc ((Below.refl _ _).alloc (Nat.le_refl _) _) _) _
  have HGa : Hid (GlobC w0) := HG0.out.below hbw0
  rw [← hw0]
  clear hw0
  obtain ⟨p0, p1, p2, p3, p4, p5, p6, p7, p8, pf⟩ := bp0.cells
  go_wp2_with fail
  refine (HON.out _ HGa.out).mono ?_
  rintro e w1 ⟨rfl, hb1⟩
  clear p0 p1 p2 p3 p4 p5 p6 p7 p8 pf HON
  have bk1 := bk0.belowAll hb1; have bp1 := bp0.belowAll hb1; have br1 := br0.belowAll hb1
  have hbw1 := bStep hbw0 hb1
  have HG1 : Hid (GlobC w1) := HG0.out.below hbw1
  clear bk0 bp0 br0 hbw0 hb1 HGa
  go_wp2_with fail
  refine (HM.out _ HG1.out.1).mono ?_
  rintro e w2 ⟨rfl, hb2⟩
  have bk3 := (bk1.belowAll hb2).alloc (.cells #[.int .u64 ((limb 0 (m) : Nat) : Int), .int .u64 ((limb 1 (m) : Nat) : Int), .int .u64 ((limb 2 (m) : Nat) : Int), .int .u64 ((limb 3 (m) : Nat) : Int)] 24); have bp3 := (bp1.belowAll hb2).alloc (.cells #[.int .u64 ((limb 0 (m) : Nat) : Int), .int .u64 ((limb 1 (m) : Nat) : Int), .int .u64 ((limb 2 (m) : Nat) : Int), .int .u64 ((limb 3 (m) : Nat) : Int)] 24); have br3 := (br1.belowAll hb2).alloc (.cells #[.int .u64 ((limb 0 (m) : Nat) : Int), .int .u64 ((limb 1 (m) : Nat) : Int), .int .u64 ((limb 2 (m) : Nat) : Int), .int .u64 ((limb 3 (m) : Nat) : Int)] 24)
  have bm3 : Blk (w2.alloc (.cells #[.int .u64 ((limb 0 (m) : Nat) : Int), .int .u64 ((limb 1 (m) : Nat) : Int), .int .u64 ((limb 2 (m) : Nat) : Int), .int .u64 ((limb 3 (m) : Nat) : Int)] 24)) 24 w2.heap.size (fun i => limb i m) := Blk.newAt _ _ _ (fun i => limb i m) rfl
  have hbw3 := bAlloc (bStep hbw1 hb2) (.cells #[.int .u64 ((limb 0 (m) : Nat) : Int), .int .u64 ((limb 1 (m) : Nat) : Int), .int .u64 ((limb 2 (m) : Nat) : Int), .int .u64 ((limb 3 (m) : Nat) : Int)] 24)
  clear bk1 bp1 br1 hbw1 hb2 HG1 HM X01
  go_upto_region 4 with fail
  obtain ⟨w3, hw3⟩ : ∃ WW : World, WW = w2.alloc (.cells #[.int .u64 ((limb 0 (m) : Nat) : Int), .int .u64 ((limb 1 (m) : Nat) : Int), .int .u64 ((limb 2 (m) : Nat) : Int), .int .u64 ((limb 3 (m) : Nat) : Int)] 24) := ⟨_, rfl⟩
  obtain ⟨N7, hN7⟩ : ∃ N, N = w2.heap.size := ⟨_, rfl⟩
  rw [← hw3] at bk3 bp3 br3 bm3 hbw3 ⊢
  rw [← hN7] at bm3 ⊢
  clear hw3 hN7
  have ck := bk3.cell; have cm := bm3.cell
  go_wp2_with fail
  refine (HR.out _).mono ?_
  rintro e w4 ⟨rfl, hb4⟩
  clear ck cm
  have bp5 := (bp3.belowAll hb4).alloc (.cells #[.int .u64 ((limb 0 (u) : Nat) : Int), .int .u64 ((limb 1 (u) : Nat) : Int), .int .u64 ((limb 2 (u) : Nat) : Int), .int .u64 ((limb 3 (u) : Nat) : Int)] 24); have br5 := (br3.belowAll hb4).alloc (.cells #[.int .u64 ((limb 0 (u) : Nat) : Int), .int .u64 ((limb 1 (u) : Nat) : Int), .int .u64 ((limb 2 (u) : Nat) : Int), .int .u64 ((limb 3 (u) : Nat) : Int)] 24)
  have bu5 : Blk (w4.alloc (.cells #[.int .u64 ((limb 0 (u) : Nat) : Int), .int .u64 ((limb 1 (u) : Nat) : Int), .int .u64 ((limb 2 (u) : Nat) : Int), .int .u64 ((limb 3 (u) : Nat) : Int)] 24)) 24 w4.heap.size (fun i => limb i u) := Blk.newAt _ _ _ (fun i => limb i u) rfl
  have hbw5 := bAlloc (bStep hbw3 hb4) (.cells #[.int .u64 ((limb 0 (u) : Nat) : Int), .int .u64 ((limb 1 (u) : Nat) : Int), .int .u64 ((limb 2 (u) : Nat) : Int), .int .u64 ((limb 3 (u) : Nat) : Int)] 24)
  clear bk3 bp3 br3 bm3 hbw3 hb4 HR
  go_upto_region 5 with fail
  obtain ⟨w5, hw5⟩ : ∃ WW : World, WW = w4.alloc (.cells #[.int .u64 ((limb 0 (u) : Nat) : Int), .int .u64 ((limb 1 (u) : Nat) : Int), .int .u64 ((limb 2 (u) : Nat) : Int), .int .u64 ((limb 3 (u) : Nat) : Int)] 24) := ⟨_, rfl⟩
  obtain ⟨N9, hN9⟩ : ∃ N, N = w4.heap.size := ⟨_, rfl⟩
  rw [← hw5] at bp5 br5 bu5 hbw5 ⊢
  rw [← hN9] at bu5 ⊢
  clear hw5 hN9
  have HG5 : Hid (GlobC w5) := HG0.out.below hbw5
  have cu := bu5.cell
  obtain ⟨p0, p1, p2, p3, p4, p5, p6, p7, p8, pf⟩ := bp5.cells
  go_wp2_with fail
  refine (HT.out _ HG5.out).mono ?_
  rintro e w6 ⟨rfl, hb6⟩
  clear p0 p1 p2 p3 p4 p5 p6 p7 p8 pf cu
  obtain ⟨r0, r1, r2, r3, r4, r5, r6, r7, r8, rf⟩ := (br5.belowAll hb6).cells
  go_wp2
  refine bodyPost_ret (v := .agg #[.int .u64 ((limb 0 (x) : Nat) : Int), .int .u64 ((limb 1 (x) : Nat) : Int), .int .u64 ((limb 2 (x) : Nat) : Int), .int .u64 ((limb 3 (x) : Nat) : Int), .int .u64 ((limb 0 (y) : Nat) : Int), .int .u64 ((limb 1 (y) : Nat) : Int), .int .u64 ((limb 2 (y) : Nat) : Int), .int .u64 ((limb 3 (y) : Nat) : Int), .bool false]) (by simp [results, Tryz.results16, go_sem, r0, r1, r2, r3, r4, r5, r6, r7, r8]) rfl ⟨rfl, ?_⟩
  exact bSet9 (bStep hbw5 hb6) (by omega) _ _ _ _ _ _ _ _ _

end Go.Proofs.YtaeembdabnomaaaGreatDoor

