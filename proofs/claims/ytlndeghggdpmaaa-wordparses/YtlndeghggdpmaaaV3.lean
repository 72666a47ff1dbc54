/- What the reference's times does. -/
import Derived.Test.YtlndeghggdpmaaaU2
namespace Go.Proofs.Ytlndeghggdpmaaa
open Go.RowKit

/-- What is carried over into word k. -/
def carT (a b c k : Nat) : Nat := (a % 18446744073709551616 ^ k * b + c) / 18446744073709551616 ^ k
theorem mod_next (a k : Nat) : a % 18446744073709551616 ^ (k + 1) = a % 18446744073709551616 ^ k + 18446744073709551616 ^ k * limb k a := by
  unfold limb
  rw [Nat.pow_succ, Nat.mod_mul]
theorem carT_step (a b c k : Nat) : (limb k a * b + carT a b c k) / 18446744073709551616 = carT a b c (k + 1) ∧ (limb k a * b + carT a b c k) % 18446744073709551616 = limb k (a * b + c) := by
  have hp : 0 < 18446744073709551616 ^ k := Nat.pow_pos (by decide)
  have e1 : a % 18446744073709551616 ^ (k + 1) * b + c = (a % 18446744073709551616 ^ k * b + c) + 18446744073709551616 ^ k * (limb k a * b) := by
    rw [mod_next, Nat.add_mul, Nat.mul_assoc]; omega
  have e2 : (a % 18446744073709551616 ^ (k + 1) * b + c) / 18446744073709551616 ^ k = limb k a * b + carT a b c k := by
    rw [e1, Nat.add_mul_div_left _ _ hp, Nat.add_comm]; rfl
  refine ⟨?_, ?_⟩
  · unfold carT at e2 ⊢
    rw [← e2, Nat.div_div_eq_div_mul, ← Nat.pow_succ]
  · have e3 : a * b + c = (a % 18446744073709551616 ^ (k + 1) * b + c) + 18446744073709551616 ^ k * (18446744073709551616 * (a / 18446744073709551616 ^ (k + 1) * b)) := by
      have h := Nat.div_add_mod a (18446744073709551616 ^ (k + 1))
      have h2 : a * b = 18446744073709551616 ^ (k + 1) * (a / 18446744073709551616 ^ (k + 1)) * b + a % 18446744073709551616 ^ (k + 1) * b := by rw [← Nat.add_mul, h]
      rw [h2, Nat.pow_succ, ← Nat.mul_assoc (18446744073709551616 ^ k) 18446744073709551616, Nat.mul_assoc (18446744073709551616 ^ k * 18446744073709551616)]
      omega
    rw [show limb k (a * b + c) = (a * b + c) / 18446744073709551616 ^ k % 18446744073709551616 from rfl, e3, Nat.add_mul_div_left _ _ hp, e2, Nat.add_mul_mod_self_left]
theorem carT_zero (a b c : Nat) : carT a b c 0 = c := by unfold carT; rw [Nat.pow_zero, Nat.mod_one, Nat.zero_mul, Nat.zero_add, Nat.div_one]
theorem carT_le (a b c k : Nat) (hc : c ≤ 16) (hb : b ≤ 16) : carT a b c k ≤ 32 := by
  unfold carT
  have hp : 0 < 18446744073709551616 ^ k := Nat.pow_pos (by decide)
  have h1 : a % 18446744073709551616 ^ k * b ≤ 18446744073709551616 ^ k * b := Nat.mul_le_mul_right _ (Nat.le_of_lt (Nat.mod_lt _ hp))
  have h2 : 18446744073709551616 ^ k * b ≤ 18446744073709551616 ^ k * 16 := Nat.mul_le_mul_left _ hb
  apply Nat.div_le_of_le_mul
  omega
theorem carT_last (a b c : Nat) (ha : a < 115792089237316195423570985008687907853269984665640564039457584007913129639936) : (0 < carT a b c 4) ↔ 115792089237316195423570985008687907853269984665640564039457584007913129639936 ≤ a * b + c := by
  unfold carT
  rw [show (18446744073709551616 : Nat) ^ 4 = 115792089237316195423570985008687907853269984665640564039457584007913129639936 from by decide, Nat.mod_eq_of_lt ha]
  constructor
  · intro h
    rcases Nat.lt_or_ge (a * b + c) 115792089237316195423570985008687907853269984665640564039457584007913129639936 with h1 | h1
    · rw [Nat.div_eq_of_lt h1] at h; omega
    · exact h1
  · intro h
    exact Nat.div_pos h (by decide)
/-- A word's product by halves. -/
theorem half_prod (x b c : Nat) (hb : b ≤ 16) (hc : c ≤ 32) (hx : x < 18446744073709551616) :
    ∃ lo hi : Nat, lo = x % 4294967296 * b + c ∧ hi = x / 4294967296 * b + lo / 4294967296 ∧ lo < 1099511627776 ∧ hi < 1099511627776 ∧ hi / 4294967296 = (x * b + c) / 18446744073709551616 ∧ hi % 4294967296 * 4294967296 + lo % 4294967296 = (x * b + c) % 18446744073709551616 ∧ x % 4294967296 * b < 1099511627776 ∧ x / 4294967296 * b < 1099511627776 := by
  have hl : x % 4294967296 * b ≤ x % 4294967296 * 16 := Nat.mul_le_mul_left _ hb
  have hh : x / 4294967296 * b ≤ x / 4294967296 * 16 := Nat.mul_le_mul_left _ hb
  have hs : x * b = x % 4294967296 * b + 4294967296 * (x / 4294967296 * b) := by
    have h := Nat.div_add_mod x 4294967296
    have h2 : x * b = (4294967296 * (x / 4294967296) + x % 4294967296) * b := by rw [h]
    rw [h2, Nat.add_mul, Nat.mul_assoc]; omega
  refine ⟨_, _, rfl, rfl, ?_, ?_, ?_, ?_, ?_, ?_⟩
  all_goals generalize x % 4294967296 * b = p at *
  all_goals generalize x / 4294967296 * b = q at *
  all_goals omega

set_option maxHeartbeats 8000000 in
set_option maxRecDepth 20000 in
theorem refTimes_any (a b c : Nat) (hb : b ≤ 16) (hc : c ≤ 16) (ha : a < 115792089237316195423570985008687907853269984665640564039457584007913129639936) (w : World) :
    Calls Try.prog 47 #[.agg #[.int .u64 ((limb 0 (a) : Nat) : Int), .int .u64 ((limb 1 (a) : Nat) : Int), .int .u64 ((limb 2 (a) : Nat) : Int), .int .u64 ((limb 3 (a) : Nat) : Int)], .int .u64 (b : Int), .int .u64 (c : Int)] w fun e w' => e = .returned (.tuple #[.agg #[.int .u64 ((limb 0 (stepN b a c) : Nat) : Int), .int .u64 ((limb 1 (stepN b a c) : Nat) : Int), .int .u64 ((limb 2 (stepN b a c) : Nat) : Int), .int .u64 ((limb 3 (stepN b a c) : Nat) : Int)], .bool (stepL b a c)]) ∧ Below w.heap.size w w' := by
  have CS := fun k => carT_step a b c k
  have CL := fun k => carT_le a b c k hc hb
  have hz := carT_zero a b c
  have h4 := carT_last a b c ha
  have hsn : ∀ k, k < 4 → limb k (stepN b a c) = limb k (a * b + c) := fun k hk => by
    unfold stepN
    exact (limb_mod (a * b + c) k hk).symm
  obtain ⟨cs, ecs⟩ : ∃ cs : Nat → Nat, ∀ k, carT a b c k = cs k := ⟨_, fun _ => rfl⟩
  simp only [ecs] at CS CL hz h4
  have HSL : Hid (stepL b a c = decide (0 < cs 4)) := by
    show _ = _
    unfold stepL
    rw [decide_eq_decide]
    exact h4.symm
  obtain ⟨sn, esn⟩ : ∃ sn, sn = stepN b a c := ⟨_, rfl⟩
  rw [← esn] at hsn ⊢
  obtain ⟨sl, esl⟩ : ∃ sl, sl = stepL b a c := ⟨_, rfl⟩
  rw [← esl] at HSL ⊢
  clear esl
  have HCS : Hid (∀ k, _) := CS
  have HCL : Hid (∀ k, _) := CL
  have HSN : Hid (∀ k, k < 4 → _) := hsn
  have HC0 : Hid (cs 0 = c) := hz
  clear CS CL hz h4 hsn ecs esn ha
  go_enter Try.func47, Try.ntmps47
  go_wp2
  go_loopw [2, 9] (fun cv iv wr => ∃ k : Nat, k ≤ 4 ∧ iv = .int .i64 (k : Int) ∧ cv = .int .u64 ((cs k : Nat) : Int) ∧ Below w.heap.size w wr ∧ Blk wr 24 w.heap.size (fun i => limb i a) ∧ Blk wr 24 (w.heap.size + 1) (fun _ => 0) ∧ Blk wr 24 (w.heap.size + 1 + 1) (fun i => if i < k then limb i sn else 0)) (fun _ iv _ => 4 - (intOf iv).toNat)
  case atStart =>
    refine ⟨0, by decide, rfl, by rw [HC0.out], ?_, ((Blk.newAt _ _ _ (fun i => limb i a) rfl).alloc _).alloc _, (Blk.newAt _ _ _ (fun _ => 0) (by simp)).alloc _, (Blk.newAt _ _ _ (fun _ => 0) (by simp)).congr (fun i hi => by rw [if_neg (by omega)])⟩
    repeat (first | with_reducible exact Below.refl _ _ | with_reducible refine Below.alloc ?_ (by first | omega | (simp; omega) | simp) _)
  case round =>
    obtain ⟨k, hk, rfl, rfl, hbr, bA, bR, bO⟩ := hrel
    by_cases hlt : k < 4
    · have hki : (k : Int) < 4 := by omega
      have hS := HCS.out k
      have hcl := HCL.out k
      obtain ⟨lo, hi, elo, ehi, blo, bhi, hq, hm, bp, bq⟩ := half_prod (limb k a) b (cs k) hb hcl (limb_lt _ _)
      have cA := bA.cell k hlt
      have hxl := limb_lt k a
      obtain ⟨x, ex⟩ : ∃ x : Int, x = ((limb k a : Nat) : Int) := ⟨_, rfl⟩
      obtain ⟨B, eB⟩ : ∃ B : Int, B = (b : Int) := ⟨_, rfl⟩
      obtain ⟨cc, ecc⟩ : ∃ cc : Int, cc = ((cs k : Nat) : Int) := ⟨_, rfl⟩
      obtain ⟨xl, exl⟩ : ∃ xl : Int, xl = ((limb k a % 4294967296 : Nat) : Int) := ⟨_, rfl⟩
      obtain ⟨xh, exh⟩ : ∃ xh : Int, xh = ((limb k a / 4294967296 : Nat) : Int) := ⟨_, rfl⟩
      obtain ⟨p1, ep1⟩ : ∃ p1 : Int, p1 = ((limb k a % 4294967296 * b : Nat) : Int) := ⟨_, rfl⟩
      obtain ⟨p2, ep2⟩ : ∃ p2 : Int, p2 = ((limb k a / 4294967296 * b : Nat) : Int) := ⟨_, rfl⟩
      obtain ⟨L, eL⟩ : ∃ L : Int, L = (lo : Int) := ⟨_, rfl⟩
      obtain ⟨U, eU⟩ : ∃ U : Int, U = (hi : Int) := ⟨_, rfl⟩
      obtain ⟨o, eo⟩ : ∃ o : Nat, o = (limb k a * b + cs k) % 18446744073709551616 := ⟨_, rfl⟩
      obtain ⟨cn, ecn⟩ : ∃ cn : Nat, cn = cs (k + 1) := ⟨_, rfl⟩
      have eo2 : o = limb k sn := by rw [eo, hS.2, HSN.out k hlt]
      rw [hS.1, ← ecn] at hq
      rw [← eo] at hm
      have f1 : x % 4294967296 = xl := by rw [ex, exl]; omega
      have f1' : x.tmod 4294967296 = xl := by rw [Int.tmod_eq_emod_of_nonneg (by omega)]; exact f1
      have f2 : IntKind.u64.wrap (xl * B) = p1 := by
        have h : xl * B = p1 := by rw [exl, eB, ep1]; exact (Int.natCast_mul _ _).symm
        rw [IntKind.wrap_u64, h]; omega
      have f3 : IntKind.u64.wrap (p1 + cc) = L := by rw [IntKind.wrap_u64]; omega
      have f4 : x / 4294967296 = xh := by rw [ex, exh]; omega
      have f4' : x.tdiv 4294967296 = xh := by rw [Int.tdiv_eq_ediv_of_nonneg (by omega)]; exact f4
      have f5 : IntKind.u64.wrap (xh * B) = p2 := by
        have h : xh * B = p2 := by rw [exh, eB, ep2]; exact (Int.natCast_mul _ _).symm
        rw [IntKind.wrap_u64, h]; omega
      obtain ⟨lq, elq⟩ : ∃ lq : Int, lq = L / 4294967296 := ⟨_, rfl⟩
      have f6 : L / 4294967296 = lq := elq.symm
      have f6' : L.tdiv 4294967296 = lq := by rw [Int.tdiv_eq_ediv_of_nonneg (by omega)]; exact f6
      have f7 : IntKind.u64.wrap (p2 + lq) = U := by rw [IntKind.wrap_u64]; omega
      obtain ⟨um, eum⟩ : ∃ um : Int, um = U % 4294967296 := ⟨_, rfl⟩
      obtain ⟨lm, elm⟩ : ∃ lm : Int, lm = L % 4294967296 := ⟨_, rfl⟩
      have f8 : U % 4294967296 = um := eum.symm
      have f8' : U.tmod 4294967296 = um := by rw [Int.tmod_eq_emod_of_nonneg (by omega)]; exact f8
      obtain ⟨p3, ep3⟩ : ∃ p3 : Int, p3 = um * 4294967296 := ⟨_, rfl⟩
      have f9 : IntKind.u64.wrap (um * 4294967296) = p3 := by rw [IntKind.wrap_u64]; omega
      have f10 : L % 4294967296 = lm := elm.symm
      have f10' : L.tmod 4294967296 = lm := by rw [Int.tmod_eq_emod_of_nonneg (by omega)]; exact f10
      have f11 : IntKind.u64.wrap (p3 + lm) = (o : Int) := by rw [IntKind.wrap_u64]; omega
      have f12 : U / 4294967296 = (cn : Int) := by omega
      have f12' : U.tdiv 4294967296 = (cn : Int) := by rw [Int.tdiv_eq_ediv_of_nonneg (by omega)]; exact f12
      have v1 : IntKind.u64.wrap xh = xh := by rw [IntKind.wrap_u64]; omega
      have v2 : IntKind.u64.wrap lq = lq := by rw [IntKind.wrap_u64]; omega
      have v3 : IntKind.u64.wrap (cn : Int) = (cn : Int) := by rw [IntKind.wrap_u64]; omega
      have x0 : 0 ≤ x := by omega
      have L0 : 0 ≤ L := by omega
      have U0 : 0 ≤ U := by omega
      rw [← ex] at cA
      have cO := bO.cell k hlt; have fO := bO.frozen
      obtain ⟨ov, eov⟩ : ∃ ov : Int, ov = (((if k < k then limb k sn else 0 : Nat)) : Int) := ⟨_, rfl⟩
      rw [← eov] at cO
      have EO := (show Hid _ from eo2); have ECN := (show Hid _ from ecn)
      rw [← ecc, ← eB]
      clear ex eB ecc exl exh ep1 ep2 eL eU eo ecn eo2 elq eum elm ep3 eov hS hcl elo ehi blo bhi hq hm bp bq hxl
      go_wp2
      go_roundw
      case measure => simp [intOf]; omega
      case rel =>
        refine ⟨k + 1, by omega, by go_num, by rw [ECN.out], hbr.setCell (by dsimp only; omega) _, bA.other (by dsimp only; omega) _, bR.other (by dsimp only; omega) _, (bO.set k hlt o).congr ?_⟩
        intro j _
        by_cases hj : j = k
        · subst hj; rw [if_pos (by omega), if_pos rfl, EO.out]
        · rw [if_neg hj]
          by_cases h : j < k
          · rw [if_pos (by omega), if_pos h]
          · rw [if_neg (by omega), if_neg h]
    · have hki : ¬ (k : Int) < 4 := by omega
      have hk4 : k = 4 := by omega
      subst hk4
      have bO2 := bO.congr (g := fun i => limb i sn) (fun i hi => by rw [if_pos hi])
      have cO := bO2.cell; have cr := bR.cell; have fr := bR.frozen
      have HG : Hid (decide (0 < cs 4) = sl) := HSL.out.symm
      clear bO bO2 hlt HSL
      go_wp2
      refine bodyPost_ret (v := .tuple #[.agg #[.int .u64 ((limb 0 (sn) : Nat) : Int), .int .u64 ((limb 1 (sn) : Nat) : Int), .int .u64 ((limb 2 (sn) : Nat) : Int), .int .u64 ((limb 3 (sn) : Nat) : Int)], .bool sl]) (by simp [results, Try.results47, go_sem, cr]; exact HG.out) rfl ⟨rfl, ?_⟩
      repeat (first | with_reducible exact hbr | with_reducible refine Below.setCell ?_ (by first | omega | (simp; omega) | simp) _)

end Go.Proofs.Ytlndeghggdpmaaa
