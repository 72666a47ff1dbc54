/- field.shiftDown by any number of bits below 64; field.unityRoot, field.Root. -/
import Derived.Test.YthkajdmcmodklaaGreatDoorFD
import Derived.Deep.RegionWith
namespace Go.Proofs.YthkajdmcmodklaaGreatDoor
open Go.RowKit

theorem limb_down (X n i : Nat) (hn : n < 64) : (limb i X / 2 ^ n) ||| (limb (i + 1) X * 2 ^ (64 - n) % 18446744073709551616) = limb i (X / 2 ^ n) := by
  apply Nat.eq_of_testBit_eq
  intro t
  rw [Nat.testBit_or, Nat.testBit_div_two_pow, limb_test, limb_test, show (18446744073709551616 : Nat) = 2 ^ 64 from by decide, Nat.testBit_mod_two_pow, Nat.testBit_mul_two_pow, limb_test, Nat.testBit_div_two_pow]
  by_cases h1 : t < 64
  · by_cases h2 : t + n < 64
    · have h3 : ¬ 64 - n ≤ t := by omega
      simp [h1, h2, h3]
      congr 1; omega
    · have h3 : 64 - n ≤ t := by omega
      simp [h1, h2, h3, show t - (64 - n) < 64 from by omega]
      congr 1; omega
  · simp [h1, show ¬ t + n < 64 from by omega]
theorem down_run (x y n : Nat) (hx : x < 18446744073709551616) : bits BinOp.or IntKind.u64 ((x : Int) / 2 ^ n) (IntKind.u64.wrap ((y : Int) * 2 ^ (64 - n))) = (((x / 2 ^ n) ||| (y * 2 ^ (64 - n) % 18446744073709551616) : Nat) : Int) := by
  have h1 : IntKind.u64.wrap ((y : Int) * 2 ^ (64 - n)) = ((y * 2 ^ (64 - n) % 18446744073709551616 : Nat) : Int) := by
    have e : (y : Int) * 2 ^ (64 - n) = ((y * 2 ^ (64 - n) : Nat) : Int) := by simp
    rw [e, IntKind.wrap_u64]
    generalize y * 2 ^ (64 - n) = t
    omega
  have h2 : (x : Int) / 2 ^ n = ((x / 2 ^ n : Nat) : Int) := by simp
  rw [h1, h2, bits_or_u64_nat _ _ (Nat.lt_of_le_of_lt (Nat.div_le_self _ _) hx) (Nat.mod_lt _ (by decide))]
theorem limb4_zero (X : Nat) (hX : X < 115792089237316195423570985008687907853269984665640564039457584007913129639936) : limb 4 X = 0 := by
  unfold limb; rw [show (18446744073709551616 : Nat) ^ 4 = 115792089237316195423570985008687907853269984665640564039457584007913129639936 from by decide, Nat.div_eq_of_lt hX]

set_option maxHeartbeats 4000000 in
set_option maxRecDepth 20000 in
theorem shiftDown_any (X n : Nat) (hn : n < 64) (hX : X < 115792089237316195423570985008687907853269984665640564039457584007913129639936) (w : World) :
    Calls Tryz.prog 117 #[.agg #[.int .u64 ((limb 0 (X) : Nat) : Int), .int .u64 ((limb 1 (X) : Nat) : Int), .int .u64 ((limb 2 (X) : Nat) : Int), .int .u64 ((limb 3 (X) : Nat) : Int)], .int .i64 (n : Int)] w fun e w' => e = .returned (.agg #[.int .u64 ((limb 0 (X / 2 ^ n) : Nat) : Int), .int .u64 ((limb 1 (X / 2 ^ n) : Nat) : Int), .int .u64 ((limb 2 (X / 2 ^ n) : Nat) : Int), .int .u64 ((limb 3 (X / 2 ^ n) : Nat) : Int)]) ∧ Below w.heap.size w w' := by
  have e0 := down_run (limb 0 X) (limb 1 X) n (limb_lt _ _)
  have e1 := down_run (limb 1 X) (limb 2 X) n (limb_lt _ _)
  have e2 := down_run (limb 2 X) (limb 3 X) n (limb_lt _ _)
  have e3 : ((limb 3 X : Nat) : Int) / 2 ^ n = ((limb 3 X / 2 ^ n : Nat) : Int) := by simp
  have z3 := limb_down X n 3 hn
  rw [limb4_zero X hX, Nat.zero_mul, Nat.zero_mod, Nat.or_zero] at z3
  rw [limb_down X n 0 hn] at e0
  rw [limb_down X n 1 hn] at e1
  rw [limb_down X n 2 hn] at e2
  rw [z3] at e3
  clear z3
  have hu : (64 : Int) - (n : Int) = ((64 - n : Nat) : Int) := by omega
  obtain ⟨u, eu⟩ : ∃ u, u = 64 - n := ⟨_, rfl⟩
  rw [← eu] at e0 e1 e2 hu
  clear eu
  obtain ⟨Y, eY⟩ : ∃ Y, Y = X / 2 ^ n := ⟨_, rfl⟩
  rw [← eY] at e0 e1 e2 e3 ⊢
  clear eY
  go_enter Tryz.func117, Tryz.ntmps117
  go_upto_region 2 with fail
  obtain ⟨w0, hw0⟩ : ∃ w0 : World, w0 = (w.alloc (.cells #[.int .u64 ((limb 0 (X) : Nat) : Int), .int .u64 ((limb 1 (X) : Nat) : Int), .int .u64 ((limb 2 (X) : Nat) : Int), .int .u64 ((limb 3 (X) : Nat) : Int)] 63)).alloc (.cells #[.int .u64 0, .int .u64 0, .int .u64 0, .int .u64 0] 63) := ⟨_, rfl⟩
  have bx0 : Blk w0 63 w.heap.size (fun i => limb i X) := by rw [hw0]; exact (Blk.newAt _ _ _ (fun i => limb i X) rfl).alloc _
  have br0 : Blk w0 63 (w.heap.size + 1) (fun _ => 0) := by rw [hw0]; exact Blk.newAt _ _ _ (fun _ => 0) (by simp)
  have hb0 : Below w.heap.size w w0 := by
    rw [hw0]
    repeat (first | with_reducible exact Below.refl _ _ | with_reducible refine Below.alloc ?_ (by first | omega | (simp; omega) | simp) _)
  rw [← hw0]
  clear hw0
  have cr := br0.cell; have fr := br0.frozen; have lr := br0.lt
  go_wp2_with fail
  go_region_held3 (fun w' => ∀ i, i < 4 → w'.cell? ⟨w.heap.size, i, none⟩ = some (.int .u64 ((limb i X : Nat) : Int)))
    (first | with_reducible exact bx0.drew.cell | with_reducible exact far1 _ _ _ _ (by omega) bx0.drew.cell | with_reducible exact far1 _ _ _ _ (by omega) bx0.cell | exact far1 _ _ _ _ (by omega) bx0.drew.cell)
    (fail)
  go_wp2
  refine bodyPost_ret (v := .agg #[.int .u64 ((limb 0 (Y) : Nat) : Int), .int .u64 ((limb 1 (Y) : Nat) : Int), .int .u64 ((limb 2 (Y) : Nat) : Int), .int .u64 ((limb 3 (Y) : Nat) : Int)]) (by simp [results, Tryz.results117, go_sem, cr]) rfl ⟨rfl, ?_⟩
  repeat (first | with_reducible exact hb0 | with_reducible refine Below.drew ?_ | with_reducible refine Below.setCell ?_ (by first | omega | (simp; omega) | simp) _)

set_option maxHeartbeats 4000000 in
set_option maxRecDepth 20000 in
/-- field.unityRoot. -/
theorem unityRoot_any (m n : Nat) (hG : GoodMod m) (h5 : 5 < m) (hn : n < 64) (w : World) (hg : Glob w) :
    Calls Tryz.prog 126 #[.agg #[.int .u64 ((limb 0 (m) : Nat) : Int), .int .u64 ((limb 1 (m) : Nat) : Int), .int .u64 ((limb 2 (m) : Nat) : Int), .int .u64 ((limb 3 (m) : Nat) : Int)], .int .i64 (n : Int)] w fun e w' => e = .returned (.agg #[.int .u64 ((limb 0 (powM m 5 ((m - 1) / 2 ^ n)) : Nat) : Int), .int .u64 ((limb 1 (powM m 5 ((m - 1) / 2 ^ n)) : Nat) : Int), .int .u64 ((limb 2 (powM m 5 ((m - 1) / 2 ^ n)) : Nat) : Int), .int .u64 ((limb 3 (powM m 5 ((m - 1) / 2 ^ n)) : Nat) : Int)]) ∧ Below w.heap.size w w' := by
  have hgl := hG.lt
  have DF : ∀ w, Calls Tryz.prog 68 #[.agg #[.int .u64 ((limb 0 (m) : Nat) : Int), .int .u64 ((limb 1 (m) : Nat) : Int), .int .u64 ((limb 2 (m) : Nat) : Int), .int .u64 ((limb 3 (m) : Nat) : Int)], .agg #[.int .u64 0, .int .u64 0, .int .u64 0, .int .u64 0], .agg #[.int .u64 ((limb 0 (1) : Nat) : Int), .int .u64 ((limb 1 (1) : Nat) : Int), .int .u64 ((limb 2 (1) : Nat) : Int), .int .u64 ((limb 3 (1) : Nat) : Int)]] w fun e w' => e = .returned (.agg #[.int .u64 ((limb 0 (m - 1) : Nat) : Int), .int .u64 ((limb 1 (m - 1) : Nat) : Int), .int .u64 ((limb 2 (m - 1) : Nat) : Int), .int .u64 ((limb 3 (m - 1) : Nat) : Int)]) ∧ Below w.heap.size w w' := fun w => by
    have h := difference_any m 0 1 hgl.2.2 (by decide) (by decide) (by omega) w
    rw [show diffN m 0 1 = m - 1 from by unfold diffN; rw [if_pos (by decide)]; omega, limbz, limbz, limbz, limbz] at h
    exact h
  have SD := fun w => shiftDown_any (m - 1) n hn (by omega) w
  have le : (m - 1) / 2 ^ n < 115792089237316195423570985008687907853269984665640564039457584007913129639936 := Nat.lt_of_le_of_lt (Nat.div_le_self _ _) (by omega)
  have PW : ∀ w, Glob w → Calls Tryz.prog 125 #[.agg #[.int .u64 ((limb 0 (m) : Nat) : Int), .int .u64 ((limb 1 (m) : Nat) : Int), .int .u64 ((limb 2 (m) : Nat) : Int), .int .u64 ((limb 3 (m) : Nat) : Int)], .agg #[.int .u64 5, .int .u64 0, .int .u64 0, .int .u64 0], .agg #[.int .u64 ((limb 0 ((m - 1) / 2 ^ n) : Nat) : Int), .int .u64 ((limb 1 ((m - 1) / 2 ^ n) : Nat) : Int), .int .u64 ((limb 2 ((m - 1) / 2 ^ n) : Nat) : Int), .int .u64 ((limb 3 ((m - 1) / 2 ^ n) : Nat) : Int)]] w fun e w' => e = .returned (.agg #[.int .u64 ((limb 0 (powM m 5 ((m - 1) / 2 ^ n)) : Nat) : Int), .int .u64 ((limb 1 (powM m 5 ((m - 1) / 2 ^ n)) : Nat) : Int), .int .u64 ((limb 2 (powM m 5 ((m - 1) / 2 ^ n)) : Nat) : Int), .int .u64 ((limb 3 (powM m 5 ((m - 1) / 2 ^ n)) : Nat) : Int)]) ∧ Below w.heap.size w w' := fun w hg => by
    have h := power_any m 5 ((m - 1) / 2 ^ n) hG (by omega) h5 le w hg
    rw [word_agg 5 (by decide)] at h
    exact h
  obtain ⟨d, ed⟩ : ∃ d, d = m - 1 := ⟨_, rfl⟩
  rw [← ed] at DF SD PW ⊢
  obtain ⟨t, et⟩ : ∃ t, t = d / 2 ^ n := ⟨_, rfl⟩
  rw [← et] at SD PW ⊢
  obtain ⟨r, er⟩ : ∃ r, r = powM m 5 t := ⟨_, rfl⟩
  rw [← er] at PW ⊢
  clear ed et er le hgl hG h5
  have c1 := hg.2.2
  have lg := hg.1
  go_enter Tryz.func126, Tryz.ntmps126
  go_wp2_with fail
  obtain ⟨w0, hw0⟩ : ∃ w0 : World, w0 = (w.alloc (.cells #[.int .u64 ((limb 0 (m) : Nat) : Int), .int .u64 ((limb 1 (m) : Nat) : Int), .int .u64 ((limb 2 (m) : Nat) : Int), .int .u64 ((limb 3 (m) : Nat) : Int)] 63)).alloc (.cells #[.int .u64 0, .int .u64 0, .int .u64 0, .int .u64 0] 63) := ⟨_, rfl⟩
  have bm0 : Blk w0 63 w.heap.size (fun i => limb i m) := by rw [hw0]; exact (Blk.newAt _ _ _ (fun i => limb i m) rfl).alloc _
  have br0 : Blk w0 63 (w.heap.size + 1) (fun _ => 0) := by rw [hw0]; exact Blk.newAt _ _ _ (fun _ => 0) (by simp)
  have hg0 : Glob w0 := by rw [hw0]; exact (hg.alloc _).alloc _
  have hb0 : Below w.heap.size w w0 := by
    rw [hw0]
    repeat (first | with_reducible exact Below.refl _ _ | with_reducible refine Below.alloc ?_ (by first | omega | (simp; omega) | simp) _)
  rw [← hw0]
  clear hw0 hg c1
  have co : ∀ i, i < 4 → w0.drew.cell? ⟨2, i, none⟩ = some (.int .u64 ((limb i 1 : Nat) : Int)) := hg0.2.2
  have hg0d := hg0.drew
  clear hg0
  go_region_held3 (fun w' => (∀ i, i < 4 → w'.cell? ⟨w.heap.size, i, none⟩ = some (.int .u64 ((limb i m : Nat) : Int))) ∧ (∀ i, i < 4 → w'.cell? ⟨2, i, none⟩ = some (.int .u64 ((limb i 1 : Nat) : Int))))
    (first | with_reducible exact far2 _ _ _ _ (by omega) (by omega) (by with_reducible assumption) | with_reducible exact hold2 hb3 (by with_reducible assumption) | with_reducible exact hold2 hb2 (by with_reducible assumption) | with_reducible exact hold2 hb1 (by with_reducible assumption) | with_reducible exact ⟨bm0.drew.cell, co⟩)
    (first | (go_at_call 68; with_reducible refine (DF _).mono ?_; rintro e w1 ⟨rfl, hb1⟩; have hg1 := hg0d.below hb1) | (go_at_call 117; with_reducible refine (SD _).mono ?_; rintro e w2 ⟨rfl, hb2⟩; have hg2 := hg1.below hb2) | (go_at_call 125; with_reducible refine (PW _ hg2).mono ?_; rintro e w3 ⟨rfl, hb3⟩; have br3 := ((br0.drew.belowAll hb1).belowAll hb2).belowAll hb3; have cr := br3.cell; have fr := br3.frozen) | fail)
  all_goals
    have hbw3 := bStep (bStep (bStep hb0.drew hb1) hb2) hb3
    have lr3 := br3.lt
    go_wp2
    refine bodyPost_ret (v := .agg #[.int .u64 ((limb 0 (r) : Nat) : Int), .int .u64 ((limb 1 (r) : Nat) : Int), .int .u64 ((limb 2 (r) : Nat) : Int), .int .u64 ((limb 3 (r) : Nat) : Int)]) (by simp [results, Tryz.results126, go_sem, cr]) rfl ⟨rfl, ?_⟩
    repeat (first | with_reducible exact hbw3 | with_reducible refine Below.setCell ?_ (by first | omega | (simp; omega) | simp) _)

/-- The element of the order 2^k that field.Root answers. -/
def rootP (s k : Nat) : Nat := expP s 5 ((modN s - 1) / 2 ^ k)
theorem rootP_lt (s k : Nat) : rootP s k < modN s := expP_lt _ _ _
theorem modN_5 (s : Nat) : 5 < modN s := by
  match s with
  | 0 => decide
  | 1 => decide
  | 2 => show 5 < 28948022309329048855892746252171976963363056481941560715954676764349967630337; decide
  | _ + 3 => show 5 < 28948022309329048855892746252171976963363056481941647379679742748393362948097; decide
theorem adicN_le (s : Nat) : adicN s ≤ 32 := by
  match s with
  | 0 => decide
  | 1 => decide
  | _ + 2 => exact Nat.le_refl _

end Go.Proofs.YthkajdmcmodklaaGreatDoor

/- Plain arithmetic of square roots modulo a prime: repeated squares, the two roots of 1, what both ways of taking a root keep. No program is named here. -/
namespace Go.Proofs.YthkajdmcmodklaaGreatDoor

/-- a squared k times. -/
def sqs (m a k : Nat) : Nat := powM m a (2 ^ k)
theorem sqs_lt (m a k : Nat) (h : 0 < m) : sqs m a k < m := powM_lt _ _ _ h
theorem sqs_zero (m a : Nat) (h : a < m) : sqs m a 0 = a := by unfold sqs powM; rw [Nat.pow_zero, Nat.pow_one, Nat.mod_eq_of_lt h]
theorem sqs_succ (m a k : Nat) : sqs m a (k + 1) = sqs m a k * sqs m a k % m := by
  unfold sqs; rw [powM_two, Nat.pow_succ, Nat.mul_comm]
theorem powM_pow (m a j k : Nat) : powM m (powM m a j) k = powM m a (j * k) := by
  unfold powM; rw [← Nat.pow_mod, ← Nat.pow_mul]
theorem powM_mul (m a b k : Nat) : powM m (a * b % m) k = powM m a k * powM m b k % m := by
  unfold powM; rw [← Nat.pow_mod, ← Nat.mul_mod, Nat.mul_pow]
theorem powM_add (m a j k : Nat) : powM m a j * powM m a k % m = powM m a (j + k) := by
  unfold powM; rw [← Nat.mul_mod, ← Nat.pow_add]
theorem sqs_head (m a k : Nat) : sqs m a (k + 1) = sqs m (a * a % m) k := by
  unfold sqs; rw [powM_mul, powM_two, Nat.pow_succ, Nat.mul_comm]
theorem sqs_mul (m a b k : Nat) : sqs m (a * b % m) k = sqs m a k * sqs m b k % m := powM_mul _ _ _ _
theorem sqs_sqs (m a j k : Nat) : sqs m (sqs m a j) k = sqs m a (j + k) := by
  unfold sqs; rw [powM_pow, ← Nat.pow_add]
theorem sqs_pow (m a n k : Nat) : sqs m (powM m a n) k = powM m a (n * 2 ^ k) := by unfold sqs; rw [powM_pow]
theorem sqs_one (m k : Nat) (h : 1 < m) : sqs m 1 k = 1 := by unfold sqs powM; rw [Nat.one_pow, Nat.mod_eq_of_lt h]
theorem neg_sq (m : Nat) (h : 1 < m) : (m - 1) * (m - 1) % m = 1 := by
  have e : (m - 1) * (m - 1) = 1 + m * (m - 2) := by
    obtain ⟨n, rfl⟩ : ∃ n, m = n + 2 := ⟨m - 2, by omega⟩
    show (n + 1) * (n + 1) = 1 + (n + 2) * n
    rw [Nat.add_mul, Nat.mul_add, Nat.add_mul]
    omega
  rw [e, Nat.add_mul_mod_self_left, Nat.mod_eq_of_lt h]
/-- Two elements with the same square are the same, or make the modulus together. -/
theorem same_square {m x y : Nat} (hp : IsPrime m) (hx : x < m) (hy : y < m) (h : x * x % m = y * y % m) : x = y ∨ x + y = m ∨ (x = 0 ∧ y = 0) := by
  have key : ∀ x y : Nat, x ≤ y → x < m → y < m → x * x % m = y * y % m → x = y ∨ x + y = m ∨ (x = 0 ∧ y = 0) := by
    intro x y hle hx hy h
    have hd := same_rest (Nat.mul_le_mul hle hle) h
    have e : y * y - x * x = (y + x) * (y - x) := by
      obtain ⟨d, rfl⟩ := Nat.exists_eq_add_of_le hle
      rw [show x + d - x = d from by omega, Nat.add_mul x d, Nat.mul_add, Nat.mul_add, Nat.add_mul, Nat.add_mul, Nat.mul_comm d x]
      omega
    rw [e] at hd
    rcases hp.dvd_mul hd with h1 | h1
    · rcases Nat.eq_zero_or_pos (y + x) with h0 | h0
      · right; right; omega
      · obtain ⟨c, hc⟩ := h1
        have hc1 : c = 1 := by
          rcases Nat.lt_or_ge c 2 with h2 | h2
          · rcases Nat.eq_zero_or_pos c with h3 | h3
            · subst h3; omega
            · omega
          · have := Nat.mul_le_mul_left m h2
            omega
        subst hc1
        right; left; omega
    · rcases Nat.eq_zero_or_pos (y - x) with h0 | h0
      · left; omega
      · have := Nat.le_of_dvd h0 h1
        omega
  rcases Nat.le_total x y with hle | hle
  · exact key x y hle hx hy h
  · rcases key y x hle hy hx h.symm with h1 | h1 | h1
    · exact Or.inl h1.symm
    · exact Or.inr (Or.inl (by omega))
    · exact Or.inr (Or.inr ⟨h1.2, h1.1⟩)
theorem root_one {m y : Nat} (hp : IsPrime m) (hy : y < m) (h : y * y % m = 1) : y = 1 ∨ y = m - 1 := by
  have h2 := hp.1
  rcases same_square hp hy (show 1 < m by omega) (by rw [h, Nat.one_mul, Nat.mod_eq_of_lt (by omega)]) with h1 | h1 | h1
  · exact Or.inl h1
  · exact Or.inr (by omega)
  · omega
theorem even_same {m x y : Nat} (hp : IsPrime m) (hod : m % 2 = 1) (hx : x < m) (hy : y < m) (ex : x % 2 = 0) (ey : y % 2 = 0) (h : x * x % m = y * y % m) : x = y := by
  rcases same_square hp hx hy h with h1 | h1 | h1
  · exact h1
  · omega
  · omega
/-- The even one of an element and its opposite. -/
def evenR (m x : Nat) : Nat := if x % 2 = 0 then x else m - x
theorem evenR_sq {m x : Nat} (hx : x < m) : evenR m x * evenR m x % m = x * x % m := by
  unfold evenR
  split
  · rfl
  · obtain ⟨d, hd⟩ : ∃ d, m = x + d := ⟨m - x, by omega⟩
    subst hd
    rw [show x + d - x = d from by omega]
    have e : d * d + (x + d) * x = x * x + (x + d) * d := by rw [Nat.add_mul, Nat.add_mul, Nat.mul_comm d x]; omega
    have h := congrArg (· % (x + d)) e
    simpa [Nat.add_mul_mod_self_left] using h
theorem evenR_even {m x : Nat} (hod : m % 2 = 1) (hx : x < m) : evenR m x % 2 = 0 ∧ (x ≠ 0 → evenR m x < m) := by
  unfold evenR
  split
  · exact ⟨by assumption, fun _ => hx⟩
  · exact ⟨by omega, fun h => by omega⟩
theorem mul_assoc_mod (m a b c : Nat) : a * b % m * c % m = a * (b * c % m) % m := by
  rw [Nat.mod_mul_mod, Nat.mul_mod_mod, Nat.mul_assoc]
theorem mul_sq (m a b : Nat) : (a * b % m) * (a * b % m) % m = (a * a % m) * (b * b % m) % m := by
  rw [← Nat.mul_mod, ← Nat.mul_mod]
  congr 1
  rw [Nat.mul_assoc, Nat.mul_assoc, Nat.mul_left_comm b a b]
theorem mul_lt_mod (m a b : Nat) (h : 0 < m) : a * b % m < m := Nat.mod_lt _ h

/-- What the reference's loop keeps ahead of turn i. -/
def RInv (m a i x b z : Nat) : Prop := x < m ∧ b < m ∧ z < m ∧ x * x % m = a * b % m ∧ sqs m b i = 1 ∧ sqs m z i = m - 1
theorem RInv.step1 {m a i x b z : Nat} (hp : IsPrime m) (h : RInv m a (i + 1) x b z) (ht : sqs m b i = 1) : RInv m a i x b (z * z % m) := by
  obtain ⟨h1, h2, h3, h4, h5, h6⟩ := h
  have h0 : 0 < m := by have := hp.1; omega
  exact ⟨h1, h2, mul_lt_mod _ _ _ h0, h4, ht, by rw [← sqs_head]; exact h6⟩
theorem RInv.step2 {m a i x b z : Nat} (hp : IsPrime m) (h : RInv m a (i + 1) x b z) (ht : sqs m b i ≠ 1) : RInv m a i (x * z % m) (b * (z * z % m) % m) (z * z % m) := by
  obtain ⟨h1, h2, h3, h4, h5, h6⟩ := h
  have h2p := hp.1
  have h0 : 0 < m := by omega
  have hm1 : sqs m b i = m - 1 := by
    rcases root_one hp (sqs_lt m b i h0) (by rw [← sqs_succ]; exact h5) with h | h
    · exact absurd h ht
    · exact h
  refine ⟨mul_lt_mod _ _ _ h0, mul_lt_mod _ _ _ h0, mul_lt_mod _ _ _ h0, ?_, ?_, by rw [← sqs_head]; exact h6⟩
  · rw [mul_sq, h4, mul_assoc_mod]
  · rw [sqs_mul, ← sqs_head, hm1, h6, neg_sq m (by omega)]
theorem RInv.fin {m a x b z : Nat} (h : RInv m a 0 x b z) (ha : a < m) : x * x % m = a := by
  obtain ⟨h1, h2, h3, h4, h5, h6⟩ := h
  rw [sqs_zero m b h2] at h5
  subst h5
  rw [h4, Nat.mul_one, Nat.mod_eq_of_lt ha]

/-- What the program's loop keeps. -/
def PInv (m x o S root left step turns : Nat) : Prop :=
  root < m ∧ left < m ∧ step < m ∧ 1 ≤ turns ∧ turns ≤ S ∧ root * root % m = x * left % m ∧ sqs m step (turns - 1) = m - 1 ∧ ((turns = S ∧ left = powM m x o) ∨ sqs m left (turns - 1) = 1)
theorem PInv.fin {m x o S root step turns : Nat} (h : PInv m x o S root 1 step turns) (hx : x < m) : root * root % m = x := by
  obtain ⟨h1, h2, h3, h4, h5, h6, h7, h8⟩ := h
  rw [h6, Nat.mul_one, Nat.mod_eq_of_lt hx]
theorem PInv.none {m x o S root left step turns : Nat} (h : PInv m x o S root left step turns) (hn : ∀ j, j < turns → sqs m left j ≠ 1) : powM m x (o * 2 ^ (S - 1)) ≠ 1 := by
  obtain ⟨h1, h2, h3, h4, h5, h6, h7, h8⟩ := h
  rcases h8 with ⟨rfl, rfl⟩ | h8
  · have := hn (turns - 1) (by omega)
    rw [sqs_pow] at this
    exact this
  · exact absurd h8 (hn (turns - 1) (by omega))
theorem PInv.step {m x o S root left step turns k : Nat} (hp : IsPrime m) (h : PInv m x o S root left step turns) (hk : k < turns) (h1k : sqs m left k = 1) (hl : left ≠ 1) (hn : ∀ j, j < k → sqs m left j ≠ 1) :
    PInv m x o S (root * sqs m step (turns - k - 1) % m) (left * (sqs m step (turns - k - 1) * sqs m step (turns - k - 1) % m) % m) (sqs m step (turns - k - 1) * sqs m step (turns - k - 1) % m) k := by
  obtain ⟨h1, h2, h3, h4, h5, h6, h7, h8⟩ := h
  have h2p := hp.1
  have h0 : 0 < m := by omega
  have hk1 : 1 ≤ k := by
    rcases Nat.eq_zero_or_pos k with h | h
    · subst h; rw [sqs_zero m left h2] at h1k; exact absurd h1k hl
    · exact h
  have es : sqs m (sqs m step (turns - k - 1) * sqs m step (turns - k - 1) % m) (k - 1) = m - 1 := by
    rw [← sqs_head, sqs_sqs, show turns - k - 1 + (k - 1 + 1) = turns - 1 from by omega]
    exact h7
  have el : sqs m left (k - 1) = m - 1 := by
    rcases root_one hp (sqs_lt m left (k - 1) h0) (by rw [← sqs_succ, show k - 1 + 1 = k from by omega]; exact h1k) with h | h
    · exact absurd h (hn (k - 1) (by omega))
    · exact h
  refine ⟨mul_lt_mod _ _ _ h0, mul_lt_mod _ _ _ h0, mul_lt_mod _ _ _ h0, hk1, by omega, ?_, es, Or.inr ?_⟩
  · rw [mul_sq, h6, mul_assoc_mod]
  · rw [sqs_mul, es, el, neg_sq m (by omega)]

end Go.Proofs.YthkajdmcmodklaaGreatDoor

/- What field.squared and field.orderLog do. -/
namespace Go.Proofs.YthkajdmcmodklaaGreatDoor
open Go.RowKit

theorem neqS1 (X : Nat) (hX : X < 115792089237316195423570985008687907853269984665640564039457584007913129639936) (w : World) : (binOp .neq 63 (.agg #[.int .u64 ((limb 0 (X) : Nat) : Int), .int .u64 ((limb 1 (X) : Nat) : Int), .int .u64 ((limb 2 (X) : Nat) : Int), .int .u64 ((limb 3 (X) : Nat) : Int)]) (.agg #[.int .u64 ((limb 0 (1) : Nat) : Int), .int .u64 ((limb 1 (1) : Nat) : Int), .int .u64 ((limb 2 (1) : Nat) : Int), .int .u64 ((limb 3 (1) : Nat) : Int)])).run Tryz.prog w = .ok (.bool (!decide (X = 1))) w := by
  have h := eq4N X 1 hX (by decide)
  rw [run_neq_struct, eqS_in]
  simp only [Result.andThen]
  rw [← h]

theorem glob_set4 {W : World} (h : Glob W) {r : Nat} (hr : 2 < r) (v0 v1 v2 v3 : Value) : Glob ((((W.setCell ⟨r, 0, none⟩ v0).setCell ⟨r, 1, none⟩ v1).setCell ⟨r, 2, none⟩ v2).setCell ⟨r, 3, none⟩ v3) := by
  have hB : Below r W ((((W.setCell ⟨r, 0, none⟩ v0).setCell ⟨r, 1, none⟩ v1).setCell ⟨r, 2, none⟩ v2).setCell ⟨r, 3, none⟩ v3) := by
    repeat (first | exact Below.refl _ _ | refine Below.setCell ?_ (by simp) _)
  obtain ⟨h1, h2, h3⟩ := h
  refine ⟨Nat.le_trans h1 hB.size, fun s hs => ⟨fun j hj => ?_, ?_⟩, fun i hi => ?_⟩
  · rw [hB.cell (p := ⟨1, 5 * s + j, none⟩) (show 1 < r by omega)]; exact (h2 s hs).1 j hj
  · rw [hB.cell (p := ⟨1, 5 * s + 4, none⟩) (show 1 < r by omega)]; exact (h2 s hs).2
  · rw [hB.cell (p := ⟨2, i, none⟩) hr]; exact h3 i hi

set_option maxHeartbeats 4000000 in
set_option maxRecDepth 20000 in
/-- field.squared. -/
theorem squared_any (m x n : Nat) (hG : GoodMod m) (hx : x < m) (hn : n < 64) (w : World) :
    Calls Tryz.prog 128 #[.agg #[.int .u64 ((limb 0 (m) : Nat) : Int), .int .u64 ((limb 1 (m) : Nat) : Int), .int .u64 ((limb 2 (m) : Nat) : Int), .int .u64 ((limb 3 (m) : Nat) : Int)], .agg #[.int .u64 ((limb 0 (x) : Nat) : Int), .int .u64 ((limb 1 (x) : Nat) : Int), .int .u64 ((limb 2 (x) : Nat) : Int), .int .u64 ((limb 3 (x) : Nat) : Int)], .int .i64 (n : Int)] w fun r w' => r = .returned (.agg #[.int .u64 ((limb 0 (sqs m x n) : Nat) : Int), .int .u64 ((limb 1 (sqs m x n) : Nat) : Int), .int .u64 ((limb 2 (sqs m x n) : Nat) : Int), .int .u64 ((limb 3 (sqs m x n) : Nat) : Int)]) ∧ Below w.heap.size w w' := by
  have hgl := hG.lt
  have PP := fun a b (ha : a < m) (hb : b < m) w => product_any m a b hG ha hb w
  clear hG
  go_enter Tryz.func128, Tryz.ntmps128
  go_upto_region 1 with fail
  obtain ⟨w0, hw0⟩ : ∃ w0 : World, w0 = ((w.alloc (.cells #[.int .u64 ((limb 0 (m) : Nat) : Int), .int .u64 ((limb 1 (m) : Nat) : Int), .int .u64 ((limb 2 (m) : Nat) : Int), .int .u64 ((limb 3 (m) : Nat) : Int)] 63)).alloc (.cells #[.int .u64 ((limb 0 (x) : Nat) : Int), .int .u64 ((limb 1 (x) : Nat) : Int), .int .u64 ((limb 2 (x) : Nat) : Int), .int .u64 ((limb 3 (x) : Nat) : Int)] 63)).alloc (.cells #[.int .u64 0, .int .u64 0, .int .u64 0, .int .u64 0] 63) := ⟨_, rfl⟩
  have bm0 : Blk w0 63 w.heap.size (fun i => limb i m) := by rw [hw0]; exact ((Blk.newAt _ _ _ (fun i => limb i m) (by simp)).alloc _).alloc _
  have bx0 : Blk w0 63 (w.heap.size + 1) (fun i => limb i x) := by rw [hw0]; exact (Blk.newAt _ _ _ (fun i => limb i x) (by simp)).alloc _
  have br0 : Blk w0 63 (w.heap.size + 1 + 1) (fun _ => 0) := by rw [hw0]; exact Blk.newAt _ _ _ (fun _ => 0) (by simp)
  have hb0 : Below w.heap.size w w0 := by
    rw [hw0]
    repeat (first | with_reducible exact Below.refl _ _ | with_reducible refine Below.alloc ?_ (by first | omega | (simp; omega) | simp) _)
  rw [← hw0]
  clear hw0
  go_wp2
  go_loopw [8] (fun i wr => ∃ k : Nat, i = .int .i64 (k : Int) ∧ k ≤ n ∧ Below w.heap.size w wr ∧ Blk wr 63 w.heap.size (fun i => limb i m) ∧ Blk wr 63 (w.heap.size + 1) (fun i => limb i (sqs m x k)) ∧ Blk wr 63 (w.heap.size + 1 + 1) (fun _ => 0)) (fun i _ => n - (intOf i).toNat)
  case atStart =>
    refine ⟨0, rfl, by omega, hb0, bm0, ?_, br0⟩
    rw [sqs_zero m x hx]
    exact bx0
  case round =>
    obtain ⟨k, rfl, hk, hbr, bm, bx, br⟩ := hrel
    clear bm0 bx0 br0 hb0
    by_cases hlt : k < n
    · have hki : (k : Int) < (n : Int) := by omega
      have lo := sqs_lt m x k (by omega)
      have P1 := fun w => PP _ _ lo lo w
      rw [← sqs_succ] at P1
      obtain ⟨o, eo⟩ : ∃ o, o = sqs m x k := ⟨_, rfl⟩
      obtain ⟨q, eq⟩ : ∃ q, q = sqs m x (k + 1) := ⟨_, rfl⟩
      rw [← eo] at bx P1
      rw [← eq] at P1
      have EQ := (show Hid _ from eq)
      clear eo eq lo PP
      have cm := bm.cell; have cx := bx.cell
      go_wp2_with fail
      refine (P1 _).mono ?_
      rintro r w2 ⟨rfl, hb2⟩
      have bm2 := bm.belowAll hb2; have bx2 := bx.belowAll hb2; have br2 := br.belowAll hb2
      have hbw2 := bStep hbr hb2
      clear bm bx br hbr hb2 cm cx P1
      have cx := bx2.cell; have fx := bx2.frozen
      go_wp2
      go_roundw
      case measure => simp [intOf]; omega
      case rel =>
        refine ⟨k + 1, by go_num, by omega, bSet4 hbw2 (by omega) _ _ _ _, bm2.other4 (by omega) _ _ _ _, ?_, br2.other4 (by omega) _ _ _ _⟩
        rw [← EQ.out]
        exact bx2.set4 (fun i => limb i q)
    · have hkn : k = n := by omega
      subst hkn
      clear hlt PP
      obtain ⟨o, eo⟩ : ∃ o, o = sqs m x k := ⟨_, rfl⟩
      rw [← eo] at bx
      have EO := (show Hid _ from eo)
      clear eo
      have cx := bx.cell; have cr := br.cell; have fr := br.frozen
      go_wp2
      refine bodyPost_ret (v := .agg #[.int .u64 ((limb 0 (o) : Nat) : Int), .int .u64 ((limb 1 (o) : Nat) : Int), .int .u64 ((limb 2 (o) : Nat) : Int), .int .u64 ((limb 3 (o) : Nat) : Int)]) (by simp [results, Tryz.results128, go_sem, cr]) rfl ⟨by rw [EO.out], ?_⟩
      repeat (first | with_reducible exact hbr | with_reducible refine Below.setCell ?_ (by first | omega | (simp; omega) | simp) _)

set_option maxHeartbeats 4000000 in
set_option maxRecDepth 20000 in
/-- field.orderLog. -/
theorem orderLog_any (m x n : Nat) (hG : GoodMod m) (hx : x < m) (hn : n < 64) (w : World) (hg : Glob w) :
    Calls Tryz.prog 127 #[.agg #[.int .u64 ((limb 0 (m) : Nat) : Int), .int .u64 ((limb 1 (m) : Nat) : Int), .int .u64 ((limb 2 (m) : Nat) : Int), .int .u64 ((limb 3 (m) : Nat) : Int)], .agg #[.int .u64 ((limb 0 (x) : Nat) : Int), .int .u64 ((limb 1 (x) : Nat) : Int), .int .u64 ((limb 2 (x) : Nat) : Int), .int .u64 ((limb 3 (x) : Nat) : Int)], .int .i64 (n : Int)] w fun r w' => (∃ k : Nat, k ≤ n ∧ r = .returned (.int .i64 (k : Int)) ∧ (∀ j, j < k → sqs m x j ≠ 1) ∧ (k < n → sqs m x k = 1)) ∧ Below w.heap.size w w' := by
  have hgl := hG.lt
  have PP := fun a b (ha : a < m) (hb : b < m) w => product_any m a b hG ha hb w
  clear hG
  go_enter Tryz.func127, Tryz.ntmps127
  go_upto_region 1 with fail
  obtain ⟨w0, hw0⟩ : ∃ w0 : World, w0 = (w.alloc (.cells #[.int .u64 ((limb 0 (m) : Nat) : Int), .int .u64 ((limb 1 (m) : Nat) : Int), .int .u64 ((limb 2 (m) : Nat) : Int), .int .u64 ((limb 3 (m) : Nat) : Int)] 63)).alloc (.cells #[.int .u64 ((limb 0 (x) : Nat) : Int), .int .u64 ((limb 1 (x) : Nat) : Int), .int .u64 ((limb 2 (x) : Nat) : Int), .int .u64 ((limb 3 (x) : Nat) : Int)] 63) := ⟨_, rfl⟩
  have bm0 : Blk w0 63 w.heap.size (fun i => limb i m) := by rw [hw0]; exact (Blk.newAt _ _ _ (fun i => limb i m) (by simp)).alloc _
  have bx0 : Blk w0 63 (w.heap.size + 1) (fun i => limb i x) := by rw [hw0]; exact Blk.newAt _ _ _ (fun i => limb i x) (by simp)
  have hg0 : Glob w0 := by rw [hw0]; exact (hg.alloc _).alloc _
  have hb0 : Below w.heap.size w w0 := by
    rw [hw0]
    repeat (first | with_reducible exact Below.refl _ _ | with_reducible refine Below.alloc ?_ (by first | omega | (simp; omega) | simp) _)
  rw [← hw0]
  clear hw0
  have lg := hg.1
  go_wp2
  go_loopw [7] (fun i wr => ∃ k : Nat, i = .int .i64 (k : Int) ∧ k ≤ n ∧ Hid (∀ j, j < k → sqs m x j ≠ 1) ∧ Below w.heap.size w wr ∧ Glob wr ∧ Blk wr 63 w.heap.size (fun i => limb i m) ∧ Blk wr 63 (w.heap.size + 1) (fun i => limb i (sqs m x k))) (fun i _ => n - (intOf i).toNat)
  case atStart =>
    refine ⟨0, rfl, by omega, fun j hj => by omega, hb0, hg0, bm0, ?_⟩
    rw [sqs_zero m x hx]
    exact bx0
  case round =>
    obtain ⟨k, rfl, hk, hne, hbr, hgr, bm, bx⟩ := hrel
    clear bm0 bx0 hb0 hg0
    have lo := sqs_lt m x k (by omega)
    have NE := fun w => neqS1 (sqs m x k) (by omega) w
    have cx := bx.cell
    have co := hgr.2.2
    by_cases h1 : sqs m x k = 1
    · rw [show decide (sqs m x k = 1) = true from by simp [h1]] at NE
      have H1 := (show Hid _ from h1)
      clear h1
      obtain ⟨o, eo⟩ : ∃ o, o = sqs m x k := ⟨_, rfl⟩
      rw [← eo] at cx NE
      clear eo
      go_wp2
      go_ret
      exact ⟨⟨k, hk, rfl, hne.out, fun _ => H1.out⟩, hbr⟩
    · rw [show decide (sqs m x k = 1) = false from by simp [h1]] at NE
      have H1 := (show Hid _ from h1)
      clear h1
      by_cases hlt : k < n
      · have hki : (k : Int) < (n : Int) := by omega
        have P1 := fun w => PP _ _ lo lo w
        rw [← sqs_succ] at P1
        obtain ⟨o, eo⟩ : ∃ o, o = sqs m x k := ⟨_, rfl⟩
        obtain ⟨q, eq⟩ : ∃ q, q = sqs m x (k + 1) := ⟨_, rfl⟩
        rw [← eo] at cx bx NE P1
        rw [← eq] at P1
        have EQ := (show Hid _ from eq)
        clear eo eq lo PP
        have cm := bm.cell
        go_wp2_with fail
        refine (P1 _).mono ?_
        rintro r w2 ⟨rfl, hb2⟩
        have bm2 := bm.belowAll hb2; have bx2 := bx.belowAll hb2; have hg2 := hgr.below hb2
        have hbw2 := bStep hbr hb2
        clear bm bx hbr hgr hb2 cm cx co P1 NE
        have cx := bx2.cell; have fx := bx2.frozen
        go_wp2
        go_roundw
        case measure => simp [intOf]; omega
        case rel =>
          refine ⟨k + 1, by go_num, by omega, fun j hj => ?_, bSet4 hbw2 (by omega) _ _ _ _, glob_set4 hg2 (by omega) _ _ _ _, bm2.other4 (by omega) _ _ _ _, ?_⟩
          · rcases Nat.lt_or_ge j k with h | h
            · exact hne.out j h
            · rw [show j = k from by omega]; exact H1.out
          · rw [← EQ.out]
            exact bx2.set4 (fun i => limb i q)
      · have hki : ¬ (k : Int) < (n : Int) := by omega
        obtain ⟨o, eo⟩ : ∃ o, o = sqs m x k := ⟨_, rfl⟩
        rw [← eo] at cx NE
        clear eo
        go_wp2
        go_ret
        exact ⟨⟨k, hk, rfl, hne.out, fun h => absurd h hlt⟩, hbr⟩

end Go.Proofs.YthkajdmcmodklaaGreatDoor

/- What field.squareRoot does. -/
namespace Go.Proofs.YthkajdmcmodklaaGreatDoor
open Go.RowKit

/-- The modulus less 1 is an odd number times 2^S, and 5 to the power (m - 1) / 2 is the opposite of 1. -/
def OddPart (m h S : Nat) : Prop := m - 1 = (2 * h + 1) * 2 ^ S ∧ 1 ≤ S ∧ S ≤ 32 ∧ powM m 5 ((2 * h + 1) * 2 ^ (S - 1)) = m - 1
theorem OddPart.down {m h S : Nat} (hm : 1 < m) (H : OddPart m h S) : m / 2 ^ (S + 1) = h ∧ (m - 1) / 2 ^ S = 2 * h + 1 := by
  obtain ⟨h1, h2, h3, _⟩ := H
  constructor
  · have e : m = h * 2 ^ (S + 1) + (2 ^ S + 1) := by
      rw [Nat.add_mul, Nat.one_mul] at h1
      rw [Nat.pow_succ, ← Nat.mul_assoc, Nat.mul_right_comm, Nat.mul_comm h 2]
      omega
    have hp : 2 ≤ 2 ^ S := by
      have := Nat.pow_le_pow_right (show 0 < 2 by decide) h2
      simpa using this
    have hlt : 2 ^ S + 1 < 2 ^ (S + 1) := by rw [Nat.pow_succ]; omega
    rw [e, Nat.mul_comm h, Nat.mul_add_div (Nat.two_pow_pos _), Nat.div_eq_of_lt hlt, Nat.add_zero]
  · rw [h1, Nat.mul_div_cancel _ (Nat.two_pow_pos _)]
theorem PInv.start {m x h S : Nat} (hm : 1 < m) (H : OddPart m h S) :
    PInv m x (2 * h + 1) S (powM m x h * x % m) (powM m x h * x % m * powM m x h % m) (powM m 5 (2 * h + 1)) S := by
  obtain ⟨h1, h2, h3, h4⟩ := H
  have h0 : 0 < m := by omega
  have e1 : powM m x h * x % m = powM m x (h + 1) := powM_more m x h
  have e2 : powM m x h * x % m * powM m x h % m = powM m x (2 * h + 1) := by rw [e1, powM_add]; congr 1; omega
  refine ⟨mul_lt_mod _ _ _ h0, mul_lt_mod _ _ _ h0, powM_lt _ _ _ h0, h2, Nat.le_refl _, ?_, ?_, Or.inl ⟨rfl, e2⟩⟩
  · rw [e2, e1, powM_two, Nat.mul_comm x, powM_more]
    rfl
  · rw [sqs_pow]; exact h4

set_option maxHeartbeats 8000000 in
set_option maxRecDepth 20000 in
/-- field.squareRoot. -/
theorem squareRoot_any (m x h S : Nat) (hp : IsPrime m) (hG : GoodMod m) (h5 : 5 < m) (H : OddPart m h S) (hx : x < m) (w : World) (hg : Glob w) :
    Calls Tryz.prog 111 #[.agg #[.int .u64 ((limb 0 (m) : Nat) : Int), .int .u64 ((limb 1 (m) : Nat) : Int), .int .u64 ((limb 2 (m) : Nat) : Int), .int .u64 ((limb 3 (m) : Nat) : Int)], .int .i64 (S : Int), .agg #[.int .u64 ((limb 0 (x) : Nat) : Int), .int .u64 ((limb 1 (x) : Nat) : Int), .int .u64 ((limb 2 (x) : Nat) : Int), .int .u64 ((limb 3 (x) : Nat) : Int)]] w fun e w' => ((∃ r, r < m ∧ r * r % m = x ∧ e = .returned (.tuple #[.agg #[.int .u64 ((limb 0 (r) : Nat) : Int), .int .u64 ((limb 1 (r) : Nat) : Int), .int .u64 ((limb 2 (r) : Nat) : Int), .int .u64 ((limb 3 (r) : Nat) : Int)], .bool true])) ∨ (x ≠ 0 ∧ powM m x ((2 * h + 1) * 2 ^ (S - 1)) ≠ 1 ∧ e = .returned (.tuple #[.agg #[.int .u64 0, .int .u64 0, .int .u64 0, .int .u64 0], .bool false]))) ∧ Below w.heap.size w w' := by
  have hgl := hG.lt
  have hdn := H.down (by omega)
  have hS : 1 ≤ S ∧ S ≤ 32 := ⟨H.2.1, H.2.2.1⟩
  have SD := fun w => shiftDown_any m (S + 1) (by omega) hgl.2.2 w
  rw [hdn.1] at SD
  obtain ⟨S1, eS⟩ : ∃ S1, S1 = S + 1 := ⟨_, rfl⟩
  rw [← eS] at SD
  have eS1 := (show Hid _ from eS)
  clear eS
  have lh : h < 115792089237316195423570985008687907853269984665640564039457584007913129639936 := by rw [← hdn.1]; exact Nat.lt_of_le_of_lt (Nat.div_le_self _ _) hgl.2.2
  have PW := fun w hg => power_any m x h hG (by omega) hx lh w hg
  have UR := fun w hg => unityRoot_any m S hG h5 (by omega) w hg
  rw [hdn.2] at UR
  have lp := powM_lt m x h hgl.1
  have PP := fun a b (ha : a < m) (hb : b < m) w => product_any m a b hG ha hb w
  have SQ := fun a n (ha : a < m) (hn : n < 64) w => squared_any m a n hG ha hn w
  have OL := fun a n (ha : a < m) (hn : n < 64) w hg => orderLog_any m a n hG ha hn w hg
  have P1 := fun w => PP _ _ lp hx w
  have P2 := fun w => PP _ _ (mul_lt_mod m (powM m x h) x hgl.1) lp w
  have HI : Hid (PInv m x (2 * h + 1) S (powM m x h * x % m) (powM m x h * x % m * powM m x h % m) (powM m 5 (2 * h + 1)) S) := PInv.start (show 1 < m by omega) H
  have HX := (show Hid _ from hp)
  obtain ⟨o, eo⟩ : ∃ o, o = 2 * h + 1 := ⟨_, rfl⟩
  rw [← eo] at UR HI ⊢
  obtain ⟨z, ez⟩ : ∃ z, z = powM m 5 o := ⟨_, rfl⟩
  rw [← ez] at UR HI
  obtain ⟨p, ep⟩ : ∃ p, p = powM m x h := ⟨_, rfl⟩
  rw [← ep] at PW P1 P2 HI lp
  obtain ⟨q, eq⟩ : ∃ q, q = p * x % m := ⟨_, rfl⟩
  rw [← eq] at P1 P2 HI
  obtain ⟨l, el⟩ : ∃ l, l = q * p % m := ⟨_, rfl⟩
  rw [← el] at P2 HI
  have HS := (show Hid _ from hS)
  have hm := hgl.2.2
  have hm0 := hgl.1
  clear hdn hS eo ez ep eq el lh hG hp H h5 hgl
  have EQ0 := fun w => eqlS0 x (by omega) w
  go_enter Tryz.func111, Tryz.ntmps111
  go_upto_region 1 with fail
  obtain ⟨w0, hw0⟩ : ∃ w0 : World, w0 = ((w.alloc (.cells #[.int .u64 ((limb 0 (m) : Nat) : Int), .int .u64 ((limb 1 (m) : Nat) : Int), .int .u64 ((limb 2 (m) : Nat) : Int), .int .u64 ((limb 3 (m) : Nat) : Int)] 63)).alloc (.cells #[.int .u64 ((limb 0 (x) : Nat) : Int), .int .u64 ((limb 1 (x) : Nat) : Int), .int .u64 ((limb 2 (x) : Nat) : Int), .int .u64 ((limb 3 (x) : Nat) : Int)] 63)).alloc (.cells #[.int .u64 0, .int .u64 0, .int .u64 0, .int .u64 0] 63) := ⟨_, rfl⟩
  have bm0 : Blk w0 63 w.heap.size (fun i => limb i m) := by rw [hw0]; exact ((Blk.newAt _ _ _ (fun i => limb i m) (by simp)).alloc _).alloc _
  have bx0 : Blk w0 63 (w.heap.size + 1) (fun i => limb i x) := by rw [hw0]; exact (Blk.newAt _ _ _ (fun i => limb i x) (by simp)).alloc _
  have br0 : Blk w0 63 (w.heap.size + 1 + 1) (fun _ => 0) := by rw [hw0]; exact Blk.newAt _ _ _ (fun _ => 0) (by simp)
  have hg0 : Glob w0 := by rw [hw0]; exact ((hg.alloc _).alloc _).alloc _
  have hb0 : Below w.heap.size w w0 := by
    rw [hw0]
    repeat (first | with_reducible exact Below.refl _ _ | with_reducible refine Below.alloc ?_ (by first | omega | (simp; omega) | simp) _)
  rw [← hw0]
  have hgw := hg.1
  clear hw0 hg
  have cx := bx0.cell; have cr := br0.cell; have fr := br0.frozen
  by_cases hx0 : x = 0
  · rw [show decide (x = 0) = true from by simp [hx0]] at EQ0
    have HZ : Hid (x * x % m = x) := by show _ = _; rw [hx0]; simp
    clear hx0
    go_wp2
    refine bodyPost_ret (v := .tuple #[.agg #[.int .u64 ((limb 0 (x) : Nat) : Int), .int .u64 ((limb 1 (x) : Nat) : Int), .int .u64 ((limb 2 (x) : Nat) : Int), .int .u64 ((limb 3 (x) : Nat) : Int)], .bool true]) (by simp [results, Tryz.results111, go_sem, cr]) rfl ⟨Or.inl ⟨x, hx, HZ.out, rfl⟩, ?_⟩
    repeat (first | with_reducible exact hb0 | with_reducible refine Below.setCell ?_ (by first | omega | (simp; omega) | simp) _)
  · rw [show decide (x = 0) = false from by simp [hx0]] at EQ0
    have HX0 := (show Hid _ from hx0)
    clear hx0 cr fr
    have hz0 := br0.lt
    go_upto_region 3 with fail
    clear cx EQ0
    have hsi : (S : Int) + 1 = (S1 : Int) := by rw [eS1.out]; omega
    have hsb : IntKind.i64.wrap (S1 : Int) = (S1 : Int) := by
      have h33 : S1 ≤ 33 := by rw [eS1.out]; have := HS.out.2; omega
      rw [IntKind.wrap_i64]; omega
    go_wp2_with fail
    have hg0d := hg0.drew
    have hgAd := (hg0.alloc (.cells #[.int .u64 0, .int .u64 0, .int .u64 0, .int .u64 0] 63)).drew
    go_cut [8] (fun pr wx => ∃ r : Nat, pr = .pointer (some ⟨r, 0, none⟩) ∧ w0.heap.size ≤ r ∧ Blk wx 63 r (fun i => limb i p) ∧ Below w0.heap.size w0 wx)
    case first =>
      go_region_held3 (fun w' => (∀ i, i < 4 → w'.cell? ⟨w.heap.size, i, none⟩ = some (.int .u64 ((limb i m : Nat) : Int))) ∧ (∀ i, i < 4 → w'.cell? ⟨w.heap.size + 1, i, none⟩ = some (.int .u64 ((limb i x : Nat) : Int))))
        (first | with_reducible exact two_below hb4 (by with_reducible assumption) | with_reducible exact two_below hb3 (by with_reducible assumption) | with_reducible exact two_alloc _ (by with_reducible assumption) | with_reducible exact two_re _ _ (by omega) (by with_reducible assumption) | with_reducible exact two_far _ _ _ _ _ (by omega) (by with_reducible assumption) | with_reducible exact ⟨bm0.drew.cell, bx0.drew.cell⟩ | with_reducible exact ⟨(bm0.alloc _).drew.cell, (bx0.alloc _).drew.cell⟩)
        (first | (go_at_call 117; with_reducible refine (SD _).mono ?_; rintro e w3 ⟨rfl, hb3⟩; obtain ⟨hc3, hf3⟩ := bcell hb3; have hz3 := hb3.size; try simp at hz3; try (have hy3 : w0.heap.size < w3.heap.size := by omega)) | (go_at_call 125; with_reducible refine (PW _ ?_).mono ?_; (first | with_reducible exact hg0d.below hb3 | with_reducible exact hgAd.below hb3 | with_reducible exact (hg0d.below hb3).alloc _); rintro e w4 ⟨rfl, hb4⟩; obtain ⟨hc4, hf4⟩ := bcell hb4; have hz4 := hb4.size; try simp at hz4) | fail)
      all_goals (go_wp2_with fail; go_meet)
      · refine ⟨_, rfl, by omega, ?_, ?_⟩
        · exact Blk.new w4 _ (fun i => limb i p)
        · exact ((Below.refl w0.heap.size w0).drew.trans (hb3.trans (hb4.mono (show w0.heap.size ≤ w3.heap.size by omega)))).alloc (by omega) _
      · refine ⟨_, rfl, by omega, ?_, ?_⟩
        · exact ((Blk.new w3 _ (fun _ => 0)).belowAll hb4).set4 (fun i => limb i p)
        · have hb5 : Below w0.heap.size w0 w4 := ((Below.refl w0.heap.size w0).drew.trans hb3).trans ((((Below.refl w3.heap.size w3).alloc (Nat.le_refl _) _).trans (hb4.mono (by simp))).mono (by omega))
          exact (((hb5.setCell (by dsimp only; omega) _).setCell (by dsimp only; omega) _).setCell (by dsimp only; omega) _).setCell (by dsimp only; omega) _
      · refine ⟨_, rfl, by omega, ?_, ?_⟩
        · exact (((Blk.new w0 _ (fun _ => 0)).drew.belowAll hb3).belowAll hb4).set4 (fun i => limb i p)
        · have hb5 : Below w0.heap.size w0 w4 := (((Below.refl w0.heap.size w0).alloc (Nat.le_refl _) _).drew.trans (hb3.mono (by simp))).trans (hb4.mono (by omega))
          exact (((hb5.setCell (by dsimp only; omega) _).setCell (by dsimp only; omega) _).setCell (by dsimp only; omega) _).setCell (by dsimp only; omega) _
    case rest =>
      obtain ⟨N8, rfl, hN8, bp1, hbx⟩ := hcut
      have bm1 := bm0.belowAll hbx; have bx1 := bx0.belowAll hbx; have br1 := br0.belowAll hbx; have hg1 := hg0.below hbx
      have hbw1 := bStep hb0 hbx
      clear bm0 bx0 br0 hg0 hb0 hbx SD PW hsi hsb
      have cm := bm1.cell; have cx := bx1.cell; have cp := bp1.cell
      go_wp2_with fail
      refine (P1 _).mono ?_
      rintro e w2 ⟨rfl, hb2⟩
      have bm2 := bm1.belowAll hb2; have bp2 := bp1.belowAll hb2; have br2 := br1.belowAll hb2; have hg2 := hg1.below hb2
      have hbw2 := bStep hbw1 hb2
      have l8 : N8 < w2.heap.size := bp2.lt
      clear bm1 bx1 bp1 br1 hg1 hbw1 hb2 cm cx cp P1
      obtain ⟨N9, e9⟩ : ∃ N9, N9 = w2.heap.size := ⟨_, rfl⟩
      obtain ⟨w3, hw3⟩ : ∃ w3 : World, w3 = w2.alloc (.cells #[.int .u64 ((limb 0 (q) : Nat) : Int), .int .u64 ((limb 1 (q) : Nat) : Int), .int .u64 ((limb 2 (q) : Nat) : Int), .int .u64 ((limb 3 (q) : Nat) : Int)] 63) := ⟨_, rfl⟩
      have bm3 : Blk w3 63 w.heap.size (fun i => limb i m) := by rw [hw3]; exact bm2.alloc _
      have bp3 : Blk w3 63 N8 (fun i => limb i p) := by rw [hw3]; exact bp2.alloc _
      have br3 : Blk w3 63 (w.heap.size + 1 + 1) (fun _ => 0) := by rw [hw3]; exact br2.alloc _
      have bo3 : Blk w3 63 N9 (fun i => limb i q) := by rw [hw3]; exact Blk.newAt _ _ _ (fun i => limb i q) e9
      have hg3 : Glob w3 := by rw [hw3]; exact hg2.alloc _
      have hbw3 : Below w.heap.size w w3 := by rw [hw3]; exact bAlloc hbw2 _
      have r9 : w.heap.size + 1 + 1 < N9 := by have := br2.lt; omega
      go_upto_region 5 with fail
      rw [← hw3, ← e9]
      rw [← e9] at l8
      clear hw3 e9 bm2 bp2 br2 hg2 hbw2
      have cm := bm3.cell; have co := bo3.cell; have cp := bp3.cell
      go_wp2_with fail
      refine (P2 _).mono ?_
      rintro e w4 ⟨rfl, hb4⟩
      have bm4 := bm3.belowAll hb4; have bo4 := bo3.belowAll hb4; have br4 := br3.belowAll hb4; have hg4 := hg3.below hb4
      have hbw4 := bStep hbw3 hb4
      clear bm3 bp3 bo3 br3 hg3 hbw3 hb4 cm co cp P2
      obtain ⟨N10, e10⟩ : ∃ N10, N10 = w4.heap.size := ⟨_, rfl⟩
      obtain ⟨w5, hw5⟩ : ∃ w5 : World, w5 = w4.alloc (.cells #[.int .u64 ((limb 0 (l) : Nat) : Int), .int .u64 ((limb 1 (l) : Nat) : Int), .int .u64 ((limb 2 (l) : Nat) : Int), .int .u64 ((limb 3 (l) : Nat) : Int)] 63) := ⟨_, rfl⟩
      have bm5 : Blk w5 63 w.heap.size (fun i => limb i m) := by rw [hw5]; exact bm4.alloc _
      have bo5 : Blk w5 63 N9 (fun i => limb i q) := by rw [hw5]; exact bo4.alloc _
      have br5 : Blk w5 63 (w.heap.size + 1 + 1) (fun _ => 0) := by rw [hw5]; exact br4.alloc _
      have bl5 : Blk w5 63 N10 (fun i => limb i l) := by rw [hw5]; exact Blk.newAt _ _ _ (fun i => limb i l) e10
      have hg5 : Glob w5 := by rw [hw5]; exact hg4.alloc _
      have hbw5 : Below w.heap.size w w5 := by rw [hw5]; exact bAlloc hbw4 _
      have r10 : N9 < N10 := by have := bo4.lt; omega
      go_upto_region 6 with fail
      rw [← hw5, ← e10]
      clear hw5 e10 bm4 bo4 br4 hg4 hbw4
      have cm := bm5.cell
      go_wp2_with fail
      refine (UR _ hg5).mono ?_
      rintro e w6 ⟨rfl, hb6⟩
      have bm6 := bm5.belowAll hb6; have bo6 := bo5.belowAll hb6; have br6 := br5.belowAll hb6; have bl6 := bl5.belowAll hb6; have hg6 := hg5.below hb6
      have hbw6 := bStep hbw5 hb6
      clear bm5 bo5 br5 bl5 hg5 hbw5 hb6 cm UR
      obtain ⟨N11, e11⟩ : ∃ N11, N11 = w6.heap.size := ⟨_, rfl⟩
      obtain ⟨w7, hw7⟩ : ∃ w7 : World, w7 = w6.alloc (.cells #[.int .u64 ((limb 0 (z) : Nat) : Int), .int .u64 ((limb 1 (z) : Nat) : Int), .int .u64 ((limb 2 (z) : Nat) : Int), .int .u64 ((limb 3 (z) : Nat) : Int)] 63) := ⟨_, rfl⟩
      have bm7 : Blk w7 63 w.heap.size (fun i => limb i m) := by rw [hw7]; exact bm6.alloc _
      have bo7 : Blk w7 63 N9 (fun i => limb i q) := by rw [hw7]; exact bo6.alloc _
      have br7 : Blk w7 63 (w.heap.size + 1 + 1) (fun _ => 0) := by rw [hw7]; exact br6.alloc _
      have bl7 : Blk w7 63 N10 (fun i => limb i l) := by rw [hw7]; exact bl6.alloc _
      have bs7 : Blk w7 63 N11 (fun i => limb i z) := by rw [hw7]; exact Blk.newAt _ _ _ (fun i => limb i z) e11
      have hg7 : Glob w7 := by rw [hw7]; exact hg6.alloc _
      have hbw7 : Below w.heap.size w w7 := by rw [hw7]; exact bAlloc hbw6 _
      have r11 : N10 < N11 := by have := bl6.lt; omega
      go_upto_block 0 with fail
      rw [← hw7, ← e11]
      clear hw7 e11 bm6 bo6 br6 bl6 hg6 hbw6
      go_wp2_with fail
      go_loopw [12] (fun tv wr => ∃ ro le st tu : Nat, tv = .int .i64 (tu : Int) ∧ Hid (PInv m x o S ro le st tu) ∧ Below w.heap.size w wr ∧ Glob wr ∧ Blk wr 63 w.heap.size (fun i => limb i m) ∧ Blk wr 63 (w.heap.size + 1 + 1) (fun _ => 0) ∧ Blk wr 63 N9 (fun i => limb i ro) ∧ Blk wr 63 N10 (fun i => limb i le) ∧ Blk wr 63 N11 (fun i => limb i st)) (fun tv _ => (intOf tv).toNat)
      case atStart => exact ⟨q, l, z, S, rfl, HI, hbw7, hg7, bm7, br7, bo7, bl7, bs7⟩
      case round =>
        obtain ⟨ro, le, st, tu, rfl, hI, hbw0, hg0, bm0, br0, bo0, bl0, bs0⟩ := hrel
        clear bm7 br7 bo7 bl7 bs7 hbw7 hg7 HI
        have lro := hI.out.1; have lle := hI.out.2.1; have lst := hI.out.2.2.1; have ltu := hI.out.2.2.2.1; have ltS := hI.out.2.2.2.2.1
        have hS2 := HS.out.2
        have NE := fun w => neqS1 le (by omega) w
        have cl := bl0.cell; have cg := hg0.2.2
        by_cases hl1 : le = 1
        · have HF : Hid (ro * ro % m = x) := by
            show _ = _
            have := hI.out
            rw [hl1] at this
            exact this.fin hx
          rw [show decide (le = 1) = true from by simp [hl1]] at NE
          clear hl1 hI PP SQ OL
          have co := bo0.cell; have cr := br0.cell; have fr := br0.frozen
          go_wp2
          refine bodyPost_ret (v := .tuple #[.agg #[.int .u64 ((limb 0 (ro) : Nat) : Int), .int .u64 ((limb 1 (ro) : Nat) : Int), .int .u64 ((limb 2 (ro) : Nat) : Int), .int .u64 ((limb 3 (ro) : Nat) : Int)], .bool true]) (by simp [results, Tryz.results111, go_sem, cr]) rfl ⟨Or.inl ⟨ro, lro, HF.out, rfl⟩, ?_⟩
          repeat (first | with_reducible exact hbw0 | with_reducible refine Below.setCell ?_ (by first | omega | (simp; omega) | simp) _)
        · rw [show decide (le = 1) = false from by simp [hl1]] at NE
          have HL1 := (show Hid _ from hl1)
          clear hl1
          have OL1 := fun w hg => OL le tu lle (by omega) w hg
          have cm := bm0.cell
          go_wp2_with fail
          refine (OL1 _ hg0).mono ?_
          rintro e w1 ⟨⟨k, hk, rfl, hkn, hk1⟩, hb1⟩
          have bm1 := bm0.belowAll hb1; have br1 := br0.belowAll hb1; have bo1 := bo0.belowAll hb1; have bl1 := bl0.belowAll hb1; have bs1 := bs0.belowAll hb1; have hg1 := hg0.below hb1
          have hbw1 := bStep hbw0 hb1
          have HKN := (show Hid _ from hkn); have HK1 := (show Hid _ from hk1)
          clear bm0 br0 bo0 bl0 bs0 hg0 hbw0 hb1 cm cl cg NE OL OL1 hkn hk1
          by_cases hkt : k = tu
          · have HN : Hid (powM m x (o * 2 ^ (S - 1)) ≠ 1) := by
              refine hI.out.none (fun j hj => ?_)
              exact HKN.out j (by omega)
            have hkb : ((k : Int) == (tu : Int)) = true := by rw [beq_iff_eq]; omega
            clear hkt hI PP SQ HKN HK1
            have cr := br1.cell; have fr := br1.frozen
            go_wp2
            refine bodyPost_ret (v := .tuple #[.agg #[.int .u64 0, .int .u64 0, .int .u64 0, .int .u64 0], .bool false]) (by simp [results, Tryz.results111, go_sem, cr]) rfl ⟨Or.inr ⟨HX0.out, HN.out, rfl⟩, ?_⟩
            repeat (first | with_reducible exact hbw1 | with_reducible refine Below.setCell ?_ (by first | omega | (simp; omega) | simp) _)
          · have hkb : ((k : Int) == (tu : Int)) = false := by rw [beq_eq_false_iff_ne]; omega
            have hkl : k < tu := by omega
            have HP : Hid (PInv m x o S (ro * sqs m st (tu - k - 1) % m) (le * (sqs m st (tu - k - 1) * sqs m st (tu - k - 1) % m) % m) (sqs m st (tu - k - 1) * sqs m st (tu - k - 1) % m) k) := hI.out.step HX.out hkl (HK1.out hkl) HL1.out HKN.out
            have hki : (tu : Int) - (k : Int) - 1 = ((tu - k - 1 : Nat) : Int) := by omega
            have lss := sqs_lt m st (tu - k - 1) hm0
            have S1 := fun w => SQ st (tu - k - 1) lst (by omega) w
            obtain ⟨u, eu⟩ : ∃ u, u = sqs m st (tu - k - 1) := ⟨_, rfl⟩
            rw [← eu] at HP lss S1
            have M1 := fun w => PP ro u lro lss w
            have M2 := fun w => PP u u lss lss w
            have l2 := mul_lt_mod m u u hm0
            obtain ⟨v, ev⟩ : ∃ v, v = u * u % m := ⟨_, rfl⟩
            rw [← ev] at HP M2 l2
            have M3 := fun w => PP le v lle l2 w
            obtain ⟨ro2, er2⟩ : ∃ ro2, ro2 = ro * u % m := ⟨_, rfl⟩
            rw [← er2] at HP M1
            obtain ⟨le2, el2⟩ : ∃ le2, le2 = le * v % m := ⟨_, rfl⟩
            rw [← el2] at HP M3
            clear eu ev er2 el2 hI hkt HK1 HKN HL1 PP SQ
            obtain ⟨d, ed⟩ : ∃ d, d = tu - k - 1 := ⟨_, rfl⟩
            rw [← ed] at hki S1
            clear ed
            have cm := bm1.cell; have cs := bs1.cell
            go_wp2_with fail
            refine (S1 _).mono ?_
            rintro e w2 ⟨rfl, hb2⟩
            have bm2 := bm1.belowAll hb2; have br2 := br1.belowAll hb2; have bo2 := bo1.belowAll hb2; have bl2 := bl1.belowAll hb2; have bs2 := bs1.belowAll hb2; have hg2 := hg1.below hb2
            have hbw2 := bStep hbw1 hb2
            clear bm1 br1 bo1 bl1 bs1 hbw1 hb2 hg1 cm cs
            have ct := bs2.cell; have ft := bs2.frozen
            go_upto_region 12 with fail
            obtain ⟨w3, hw3⟩ : ∃ w3 : World, w3 = (((w2.setCell ⟨N11, 0, none⟩ (.int .u64 ((limb 0 u : Nat) : Int))).setCell ⟨N11, 1, none⟩ (.int .u64 ((limb 1 u : Nat) : Int))).setCell ⟨N11, 2, none⟩ (.int .u64 ((limb 2 u : Nat) : Int))).setCell ⟨N11, 3, none⟩ (.int .u64 ((limb 3 u : Nat) : Int)) := ⟨_, rfl⟩
            have bm3 : Blk w3 63 w.heap.size (fun i => limb i m) := by rw [hw3]; exact bm2.other4 (by omega) _ _ _ _
            have br3 : Blk w3 63 (w.heap.size + 1 + 1) (fun _ => 0) := by rw [hw3]; exact br2.other4 (by omega) _ _ _ _
            have bo3 : Blk w3 63 N9 (fun i => limb i ro) := by rw [hw3]; exact bo2.other4 (by omega) _ _ _ _
            have bl3 : Blk w3 63 N10 (fun i => limb i le) := by rw [hw3]; exact bl2.other4 (by omega) _ _ _ _
            have bs3 : Blk w3 63 N11 (fun i => limb i u) := by rw [hw3]; exact bs2.set4 (fun i => limb i u)
            have hg3 : Glob w3 := by rw [hw3]; exact glob_set4 hg2 (by omega) _ _ _ _
            have hbw3 : Below w.heap.size w w3 := by rw [hw3]; exact bSet4 hbw2 (by omega) _ _ _ _
            rw [← hw3]
            clear hw3 bm2 br2 bo2 bl2 bs2 hbw2 hg2 ct ft
            have cm := bm3.cell; have co := bo3.cell; have cs := bs3.cell
            go_wp2_with fail
            refine (M1 _).mono ?_
            rintro e w4 ⟨rfl, hb4⟩
            have bm4 := bm3.belowAll hb4; have br4 := br3.belowAll hb4; have bo4 := bo3.belowAll hb4; have bl4 := bl3.belowAll hb4; have bs4 := bs3.belowAll hb4; have hg4 := hg3.below hb4
            have hbw4 := bStep hbw3 hb4
            clear bm3 br3 bo3 bl3 bs3 hbw3 hb4 hg3 cm co cs
            have ct := bo4.cell; have ft := bo4.frozen
            go_upto_region 13 with fail
            obtain ⟨w5, hw5⟩ : ∃ w5 : World, w5 = (((w4.setCell ⟨N9, 0, none⟩ (.int .u64 ((limb 0 ro2 : Nat) : Int))).setCell ⟨N9, 1, none⟩ (.int .u64 ((limb 1 ro2 : Nat) : Int))).setCell ⟨N9, 2, none⟩ (.int .u64 ((limb 2 ro2 : Nat) : Int))).setCell ⟨N9, 3, none⟩ (.int .u64 ((limb 3 ro2 : Nat) : Int)) := ⟨_, rfl⟩
            have bm5 : Blk w5 63 w.heap.size (fun i => limb i m) := by rw [hw5]; exact bm4.other4 (by omega) _ _ _ _
            have br5 : Blk w5 63 (w.heap.size + 1 + 1) (fun _ => 0) := by rw [hw5]; exact br4.other4 (by omega) _ _ _ _
            have bo5 : Blk w5 63 N9 (fun i => limb i ro2) := by rw [hw5]; exact bo4.set4 (fun i => limb i ro2)
            have bl5 : Blk w5 63 N10 (fun i => limb i le) := by rw [hw5]; exact bl4.other4 (by omega) _ _ _ _
            have bs5 : Blk w5 63 N11 (fun i => limb i u) := by rw [hw5]; exact bs4.other4 (by omega) _ _ _ _
            have hg5 : Glob w5 := by rw [hw5]; exact glob_set4 hg4 (by omega) _ _ _ _
            have hbw5 : Below w.heap.size w w5 := by rw [hw5]; exact bSet4 hbw4 (by omega) _ _ _ _
            rw [← hw5]
            clear hw5 bm4 br4 bo4 bl4 bs4 hbw4 hg4 ct ft
            have cm := bm5.cell; have cs := bs5.cell
            go_wp2_with fail
            refine (M2 _).mono ?_
            rintro e w6 ⟨rfl, hb6⟩
            have bm6 := bm5.belowAll hb6; have br6 := br5.belowAll hb6; have bo6 := bo5.belowAll hb6; have bl6 := bl5.belowAll hb6; have bs6 := bs5.belowAll hb6; have hg6 := hg5.below hb6
            have hbw6 := bStep hbw5 hb6
            clear bm5 br5 bo5 bl5 bs5 hbw5 hb6 hg5 cm cs
            have ct := bs6.cell; have ft := bs6.frozen
            go_upto_region 14 with fail
            obtain ⟨w7, hw7⟩ : ∃ w7 : World, w7 = (((w6.setCell ⟨N11, 0, none⟩ (.int .u64 ((limb 0 v : Nat) : Int))).setCell ⟨N11, 1, none⟩ (.int .u64 ((limb 1 v : Nat) : Int))).setCell ⟨N11, 2, none⟩ (.int .u64 ((limb 2 v : Nat) : Int))).setCell ⟨N11, 3, none⟩ (.int .u64 ((limb 3 v : Nat) : Int)) := ⟨_, rfl⟩
            have bm7 : Blk w7 63 w.heap.size (fun i => limb i m) := by rw [hw7]; exact bm6.other4 (by omega) _ _ _ _
            have br7 : Blk w7 63 (w.heap.size + 1 + 1) (fun _ => 0) := by rw [hw7]; exact br6.other4 (by omega) _ _ _ _
            have bo7 : Blk w7 63 N9 (fun i => limb i ro2) := by rw [hw7]; exact bo6.other4 (by omega) _ _ _ _
            have bl7 : Blk w7 63 N10 (fun i => limb i le) := by rw [hw7]; exact bl6.other4 (by omega) _ _ _ _
            have bs7 : Blk w7 63 N11 (fun i => limb i v) := by rw [hw7]; exact bs6.set4 (fun i => limb i v)
            have hg7 : Glob w7 := by rw [hw7]; exact glob_set4 hg6 (by omega) _ _ _ _
            have hbw7 : Below w.heap.size w w7 := by rw [hw7]; exact bSet4 hbw6 (by omega) _ _ _ _
            rw [← hw7]
            clear hw7 bm6 br6 bo6 bl6 bs6 hbw6 hg6 ct ft
            have cm := bm7.cell; have cl := bl7.cell; have cs := bs7.cell
            go_wp2_with fail
            refine (M3 _).mono ?_
            rintro e w8 ⟨rfl, hb8⟩
            have bm8 := bm7.belowAll hb8; have br8 := br7.belowAll hb8; have bo8 := bo7.belowAll hb8; have bl8 := bl7.belowAll hb8; have bs8 := bs7.belowAll hb8; have hg8 := hg7.below hb8
            have hbw8 := bStep hbw7 hb8
            clear bm7 br7 bo7 bl7 bs7 hbw7 hb8 hg7 cm cl cs
            have ct := bl8.cell; have ft := bl8.frozen
            go_wp2
            go_roundw
            case measure => simp [intOf]; omega
            case rel =>
              exact ⟨ro2, le2, v, k, rfl, HP, bSet4 hbw8 (by omega) _ _ _ _, glob_set4 hg8 (by omega) _ _ _ _, bm8.other4 (by omega) _ _ _ _, br8.other4 (by omega) _ _ _ _, bo8.other4 (by omega) _ _ _ _, bl8.set4 (fun i => limb i le2), bs8.other4 (by omega) _ _ _ _⟩

end Go.Proofs.YthkajdmcmodklaaGreatDoor

