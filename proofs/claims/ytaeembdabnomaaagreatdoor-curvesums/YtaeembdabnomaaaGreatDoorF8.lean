/- What field.product and modulus do. -/
import Derived.Test.YtaeembdabnomaaaGreatDoorF7
namespace Go.Proofs.YtaeembdabnomaaaGreatDoor
open Go.RowKit

/-- A little modulus, or a great one. -/
def GoodMod (m : Nat) : Prop := (0 < m ∧ m < 4294967296) ∨ ∃ e, e < 85070591730234615865843651857942052864 ∧ m = 28948022309329048855892746252171976963317496166410141009864396001978282409984 + e
theorem GoodMod.lt {m : Nat} (h : GoodMod m) : 0 < m ∧ 2 * m ≤ 115792089237316195423570985008687907853269984665640564039457584007913129639936 ∧ m < 115792089237316195423570985008687907853269984665640564039457584007913129639936 := by
  rcases h with h | ⟨e, h1, h2⟩ <;> omega
theorem limb_small (x i : Nat) (h : x < 18446744073709551616) : limb i x = if i = 0 then x else 0 := by
  by_cases hi : i = 0
  · subst hi; rw [limb0, if_pos rfl, Nat.mod_eq_of_lt h]
  · rw [if_neg hi]
    obtain ⟨k, rfl⟩ : ∃ k, i = k + 1 := ⟨i - 1, by omega⟩
    unfold limb
    rw [Nat.pow_succ', ← Nat.div_div_eq_div_mul, Nat.div_eq_of_lt h, Nat.zero_div, Nat.zero_mod]

set_option maxHeartbeats 4000000 in
/-- field.product: the product's remainder. -/
theorem product_any (m x y : Nat) (hG : GoodMod m) (hx : x < m) (hy : y < m) (w : World) :
    Calls Tryz.prog 55 #[.agg #[.int .u64 ((limb 0 (m) : Nat) : Int), .int .u64 ((limb 1 (m) : Nat) : Int), .int .u64 ((limb 2 (m) : Nat) : Int), .int .u64 ((limb 3 (m) : Nat) : Int)], .agg #[.int .u64 ((limb 0 (x) : Nat) : Int), .int .u64 ((limb 1 (x) : Nat) : Int), .int .u64 ((limb 2 (x) : Nat) : Int), .int .u64 ((limb 3 (x) : Nat) : Int)], .agg #[.int .u64 ((limb 0 (y) : Nat) : Int), .int .u64 ((limb 1 (y) : Nat) : Int), .int .u64 ((limb 2 (y) : Nat) : Int), .int .u64 ((limb 3 (y) : Nat) : Int)]] w fun e w' => e = .returned (.agg #[.int .u64 ((limb 0 (x * y % m) : Nat) : Int), .int .u64 ((limb 1 (x * y % m) : Nat) : Int), .int .u64 ((limb 2 (x * y % m) : Nat) : Int), .int .u64 ((limb 3 (x * y % m) : Nat) : Int)]) ∧ Below w.heap.size w w' := by
  have hGl := hG.lt
  rcases hG with ⟨h0, h1⟩ | ⟨e, he, hm⟩
  · have p1 : x * y < 4294967296 * 4294967296 := Nat.mul_lt_mul'' (by omega) (by omega)
    have pm : x * y % m < m := Nat.mod_lt _ h0
    have r0 := limb_small (x * y % m) 0 (by omega)
    have r1 := limb_small (x * y % m) 1 (by omega)
    have r2 := limb_small (x * y % m) 2 (by omega)
    have r3 := limb_small (x * y % m) 3 (by omega)
    have m3 : limb 3 m = 0 := limb_small m 3 (by omega)
    have m0 : limb 0 m = m := limb_small m 0 (by omega)
    have x0 : limb 0 x = x := limb_small x 0 (by omega)
    have y0 : limb 0 y = y := limb_small y 0 (by omega)
    have wr : IntKind.u64.wrap ((x : Int) * (y : Int)) = ((x * y : Nat) : Int) := by rw [IntKind.wrap_u64, ← Int.natCast_mul]; omega
    have hq : ((x * y : Nat) : Int) % (m : Int) = ((x * y % m : Nat) : Int) := by rw [← Int.natCast_emod]
    rw [r0, r1, r2, r3, if_pos rfl, if_neg (by decide), if_neg (by decide), if_neg (by decide)]
    clear r0 r1 r2 r3 p1
    obtain ⟨p, ep⟩ : ∃ p, p = x * y % m := ⟨_, rfl⟩
    rw [← ep] at pm hq ⊢
    obtain ⟨pp, epp⟩ : ∃ pp, pp = x * y := ⟨_, rfl⟩
    rw [← epp] at wr hq
    clear ep epp
    have hm0 : ¬ (m : Int) = 0 := by omega
    have hmb : ((m : Int) == 0) = false := by rw [beq_eq_false_iff_ne]; exact hm0
    go_enter Tryz.func55, Tryz.ntmps55
    go_wp2
    refine bodyPost_ret (v := .agg #[.int .u64 ((p : Nat) : Int), .int .u64 ((0 : Nat) : Int), .int .u64 ((0 : Nat) : Int), .int .u64 ((0 : Nat) : Int)]) (by simp [results, Tryz.results55, go_sem]) rfl ⟨rfl, ?_⟩
    repeat (first | with_reducible exact Below.refl _ _ | with_reducible refine Below.drew ?_ | with_reducible refine Below.setCell ?_ (by first | omega | (simp; omega) | simp) _ | with_reducible refine Below.alloc ?_ (by first | omega | (simp; omega) | simp) _)
  · have hN : x * y < 1675975991242824637446753124775730765934920727574049172215445180465220503759193372100234287270862928461253982273310756356719235351493321243304206125760512 := by
      have h1 : x * y < 28948022309329048855892746252171976963402566758140375625730239653836224462848 * 28948022309329048855892746252171976963402566758140375625730239653836224462848 := Nat.mul_lt_mul'' (by omega) (by omega)
      omega
    have hl := lo256_lt (x * y)
    have hh : hi256 (x * y) < 115792089237316195423570985008687907853269984665640564039457584007913129639936 := by unfold hi256; rw [Nat.div_lt_iff_lt_mul (by decide)]; omega
    have hsp := split256 (x * y)
    have hF := fun w => fold_any m e (lo256 (x * y)) (hi256 (x * y)) he hm hl hh (by rw [← hsp]; exact hN) w
    rw [← hsp] at hF
    have hT := fun w => times_any x y (by omega) (by omega) w
    have m3 := (excess_limbs m e he hm).2.2.2.2
    have hb3 : (((limb 3 m : Nat) : Int) == 0) = false := by rw [beq_eq_false_iff_ne, m3]; decide
    have hm2 : m < 115792089237316195423570985008687907853269984665640564039457584007913129639936 := by omega
    clear hsp hN m3 hm
    obtain ⟨pl, epl⟩ : ∃ pl, pl = lo256 (x * y) := ⟨_, rfl⟩
    obtain ⟨ph, eph⟩ : ∃ ph, ph = hi256 (x * y) := ⟨_, rfl⟩
    rw [← epl, ← eph] at hF hT
    rw [← epl] at hl
    rw [← eph] at hh
    clear epl eph
    have HF : Unit → _ := fun _ => hF
    have HT : Unit → _ := fun _ => hT
    clear hF hT
    go_enter Tryz.func55, Tryz.ntmps55
    go_wp2_with fail
    obtain ⟨w0, hw0⟩ : ∃ w0 : World, w0 = (((w.alloc (.cells #[.int .u64 ((limb 0 (m) : Nat) : Int), .int .u64 ((limb 1 (m) : Nat) : Int), .int .u64 ((limb 2 (m) : Nat) : Int), .int .u64 ((limb 3 (m) : Nat) : Int)] 63)).alloc (.cells #[.int .u64 ((limb 0 (x) : Nat) : Int), .int .u64 ((limb 1 (x) : Nat) : Int), .int .u64 ((limb 2 (x) : Nat) : Int), .int .u64 ((limb 3 (x) : Nat) : Int)] 63)).alloc (.cells #[.int .u64 ((limb 0 (y) : Nat) : Int), .int .u64 ((limb 1 (y) : Nat) : Int), .int .u64 ((limb 2 (y) : Nat) : Int), .int .u64 ((limb 3 (y) : Nat) : Int)] 63)).alloc (.cells #[.int .u64 0, .int .u64 0, .int .u64 0, .int .u64 0] 63) := ⟨_, rfl⟩
    have bm0 : Blk w0 63 w.heap.size (fun i => limb i m) := by rw [hw0]; exact (((Blk.newAt _ _ _ (fun i => limb i m) (by simp)).alloc _).alloc _).alloc _
    have br0 : Blk w0 63 (w.heap.size + 1 + 1 + 1) (fun _ => 0) := by rw [hw0]; exact Blk.newAt _ _ _ (fun _ => 0) (by simp)
    have hb0 : Below w.heap.size w w0 := by
      rw [hw0]
      repeat (first | with_reducible exact Below.refl _ _ | with_reducible refine Below.alloc ?_ (by first | omega | (simp; omega) | simp) _)
    rw [← hw0]
    clear hw0 hb3
    refine (HT () _).mono ?_
    rintro e w1 ⟨rfl, hb1⟩
    have bm1 := bm0.belowAll hb1; have br1 := br0.belowAll hb1
    have hbw1 := bStep hb0 hb1
    clear bm0 br0 hb0 hb1
    have cm := bm1.cell; have lm := bm1.lt
    obtain ⟨hA, hG⟩ := acell2 (w := w1)
    go_wp2_with fail
    refine (HF () _).mono ?_
    rintro e w2 ⟨rfl, hb2⟩
    have br2 := ((br1.alloc _).alloc _).belowAll hb2
    have hbw2 := bStep (bAlloc (bAlloc hbw1 _) _) hb2
    clear bm1 br1 hbw1 hb2 cm lm hA hG
    have cr := br2.cell; have fr := br2.frozen; have lr := br2.lt
    go_wp2
    refine bodyPost_ret (v := .agg #[.int .u64 ((limb 0 (x * y % m) : Nat) : Int), .int .u64 ((limb 1 (x * y % m) : Nat) : Int), .int .u64 ((limb 2 (x * y % m) : Nat) : Int), .int .u64 ((limb 3 (x * y % m) : Nat) : Int)]) (by simp [results, Tryz.results55, go_sem, cr]) rfl ⟨rfl, ?_⟩
    repeat (first | with_reducible exact hbw2 | with_reducible refine Below.setCell ?_ (by first | omega | (simp; omega) | simp) _)

/-- The moduli, and how often 2 divides them less 1. -/
def modN : Nat → Nat
  | 0 => 16513537
  | 1 => 16521217
  | 2 => 28948022309329048855892746252171976963363056481941560715954676764349967630337
  | _ => 28948022309329048855892746252171976963363056481941647379679742748393362948097
def adicN : Nat → Nat
  | 0 => 9
  | 1 => 11
  | _ => 32
theorem modN_good (s : Nat) : GoodMod (modN s) := by
  match s with
  | 0 => exact Or.inl (by decide)
  | 1 => exact Or.inl (by decide)
  | 2 => exact Or.inr ⟨45560315531419706090280762371685220353, by decide, by decide⟩
  | _ + 3 => exact Or.inr ⟨45560315531506369815346746415080538113, by decide, by show 28948022309329048855892746252171976963363056481941647379679742748393362948097 = _; decide⟩
/-- The package's variables read as the text lays them. -/
def Glob (w : World) : Prop := 3 ≤ w.heap.size ∧ (∀ s, s < 4 → (∀ j, j < 4 → w.cell? ⟨1, 5 * s + j, none⟩ = some (.int .u64 ((limb j (modN s) : Nat) : Int))) ∧ w.cell? ⟨1, 5 * s + 4, none⟩ = some (.int .i64 ((adicN s : Nat) : Int))) ∧ (∀ i, i < 4 → w.cell? ⟨2, i, none⟩ = some (.int .u64 ((limb i 1 : Nat) : Int)))
theorem Glob.below {w w' : World} (h : Glob w) (hb : Below w.heap.size w w') : Glob w' := by
  obtain ⟨h1, h2, h3⟩ := h
  refine ⟨Nat.le_trans h1 hb.size, fun s hs => ⟨fun j hj => ?_, ?_⟩, fun i hi => ?_⟩
  · rw [hb.cell (p := ⟨1, 5 * s + j, none⟩) (show 1 < w.heap.size by omega)]; exact (h2 s hs).1 j hj
  · rw [hb.cell (p := ⟨1, 5 * s + 4, none⟩) (show 1 < w.heap.size by omega)]; exact (h2 s hs).2
  · rw [hb.cell (p := ⟨2, i, none⟩) (show 2 < w.heap.size by omega)]; exact h3 i hi
theorem Glob.alloc {w : World} (h : Glob w) (o : Obj) : Glob (w.alloc o) := h.below ((Below.refl _ _).alloc (Nat.le_refl _) o)

set_option maxHeartbeats 2000000 in
/-- field.modulus of a sort that there is. -/
theorem modulus_any (s : Nat) (hs : s < 4) (w : World) (hg : Glob w) :
    Calls Tryz.prog 54 #[.int .i64 (s : Int)] w fun e w' => e = .returned (.tuple #[.agg #[.int .u64 ((limb 0 (modN s) : Nat) : Int), .int .u64 ((limb 1 (modN s) : Nat) : Int), .int .u64 ((limb 2 (modN s) : Nat) : Int), .int .u64 ((limb 3 (modN s) : Nat) : Int)], .bool true]) ∧ Below w.heap.size w w' := by
  obtain ⟨h1, h2, _⟩ := hg
  have h3 := (h2 s hs).1
  have c0 := h3 0 (by decide); have c1 := h3 1 (by decide); have c2 := h3 2 (by decide); have c3 := h3 3 (by decide)
  have z0 : 1 < w.heap.size := by omega
  clear h2 h3
  have h4 : s = 0 ∨ s = 1 ∨ s = 2 ∨ s = 3 := by omega
  obtain ⟨m, em⟩ : ∃ m, m = modN s := ⟨_, rfl⟩
  rw [← em] at c0 c1 c2 c3 ⊢
  clear em
  rcases h4 with rfl | rfl | rfl | rfl
  · go_enter Tryz.func54, Tryz.ntmps54
    go_wp2
    refine bodyPost_ret (v := .tuple #[.agg #[.int .u64 ((limb 0 (m) : Nat) : Int), .int .u64 ((limb 1 (m) : Nat) : Int), .int .u64 ((limb 2 (m) : Nat) : Int), .int .u64 ((limb 3 (m) : Nat) : Int)], .bool true]) (by simp [results, Tryz.results54, go_sem]) rfl ⟨rfl, ?_⟩
    repeat (first | with_reducible exact Below.refl _ _ | with_reducible refine Below.drew ?_ | with_reducible refine Below.setCell ?_ (by first | omega | (simp; omega) | simp) _ | with_reducible refine Below.alloc ?_ (by first | omega | (simp; omega) | simp) _)
  · go_enter Tryz.func54, Tryz.ntmps54
    go_wp2
    refine bodyPost_ret (v := .tuple #[.agg #[.int .u64 ((limb 0 (m) : Nat) : Int), .int .u64 ((limb 1 (m) : Nat) : Int), .int .u64 ((limb 2 (m) : Nat) : Int), .int .u64 ((limb 3 (m) : Nat) : Int)], .bool true]) (by simp [results, Tryz.results54, go_sem]) rfl ⟨rfl, ?_⟩
    repeat (first | with_reducible exact Below.refl _ _ | with_reducible refine Below.drew ?_ | with_reducible refine Below.setCell ?_ (by first | omega | (simp; omega) | simp) _ | with_reducible refine Below.alloc ?_ (by first | omega | (simp; omega) | simp) _)
  · go_enter Tryz.func54, Tryz.ntmps54
    go_wp2
    refine bodyPost_ret (v := .tuple #[.agg #[.int .u64 ((limb 0 (m) : Nat) : Int), .int .u64 ((limb 1 (m) : Nat) : Int), .int .u64 ((limb 2 (m) : Nat) : Int), .int .u64 ((limb 3 (m) : Nat) : Int)], .bool true]) (by simp [results, Tryz.results54, go_sem]) rfl ⟨rfl, ?_⟩
    repeat (first | with_reducible exact Below.refl _ _ | with_reducible refine Below.drew ?_ | with_reducible refine Below.setCell ?_ (by first | omega | (simp; omega) | simp) _ | with_reducible refine Below.alloc ?_ (by first | omega | (simp; omega) | simp) _)
  · go_enter Tryz.func54, Tryz.ntmps54
    go_wp2
    refine bodyPost_ret (v := .tuple #[.agg #[.int .u64 ((limb 0 (m) : Nat) : Int), .int .u64 ((limb 1 (m) : Nat) : Int), .int .u64 ((limb 2 (m) : Nat) : Int), .int .u64 ((limb 3 (m) : Nat) : Int)], .bool true]) (by simp [results, Tryz.results54, go_sem]) rfl ⟨rfl, ?_⟩
    repeat (first | with_reducible exact Below.refl _ _ | with_reducible refine Below.drew ?_ | with_reducible refine Below.setCell ?_ (by first | omega | (simp; omega) | simp) _ | with_reducible refine Below.alloc ?_ (by first | omega | (simp; omega) | simp) _)

set_option maxHeartbeats 2000000 in
/-- field.modulus of a sort that there isn't. -/
theorem modulus_out (s : Int) (hs : s < 0 ∨ 4 ≤ s) (w : World) :
    Calls Tryz.prog 54 #[.int .i64 s] w fun e w' => e = .returned (.tuple #[.agg #[.int .u64 0, .int .u64 0, .int .u64 0, .int .u64 0], .bool false]) ∧ Below w.heap.size w w' := by
  by_cases h : s < 0
  · have h2 : ¬ 4 ≤ s := by omega
    go_enter Tryz.func54, Tryz.ntmps54
    go_wp2
    refine bodyPost_ret (v := .tuple #[.agg #[.int .u64 0, .int .u64 0, .int .u64 0, .int .u64 0], .bool false]) (by simp [results, Tryz.results54, go_sem]) rfl ⟨rfl, ?_⟩
    repeat (first | with_reducible exact Below.refl _ _ | with_reducible refine Below.drew ?_ | with_reducible refine Below.setCell ?_ (by first | omega | (simp; omega) | simp) _ | with_reducible refine Below.alloc ?_ (by first | omega | (simp; omega) | simp) _)
  · have h2 : 4 ≤ s := by omega
    clear hs
    go_enter Tryz.func54, Tryz.ntmps54
    go_wp2
    refine bodyPost_ret (v := .tuple #[.agg #[.int .u64 0, .int .u64 0, .int .u64 0, .int .u64 0], .bool false]) (by simp [results, Tryz.results54, go_sem]) rfl ⟨rfl, ?_⟩
    repeat (first | with_reducible exact Below.refl _ _ | with_reducible refine Below.drew ?_ | with_reducible refine Below.setCell ?_ (by first | omega | (simp; omega) | simp) _ | with_reducible refine Below.alloc ?_ (by first | omega | (simp; omega) | simp) _)

end Go.Proofs.YtaeembdabnomaaaGreatDoor
