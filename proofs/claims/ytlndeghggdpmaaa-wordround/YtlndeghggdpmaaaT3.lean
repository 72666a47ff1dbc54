/- What the reference's digit does. -/
import Derived.Test.YtlndeghggdpmaaaT1
import Derived.Test.YtlndeghggdpmaaaT0
namespace Go.Proofs.Ytlndeghggdpmaaa
open Go.RowKit

theorem shl_one (x : Nat) (hx : 2 * x < 18446744073709551616) : IntKind.u64.wrap ((x : Int) * 2) = ((2 * x : Nat) : Int) := by
  rw [IntKind.wrap_u64]; omega
theorem or_even (x : Nat) (hx : 2 * x < 18446744073709551616) : bits BinOp.or IntKind.u64 ((2 * x : Nat) : Int) 1 = ((2 * x + 1 : Nat) : Int) := by
  have h := bits_or_u64_nat (2 * x) 1 hx (by decide)
  rw [show 2 * x ||| 1 = 2 * x + 1 from by
    have := Nat.two_pow_add_eq_or_of_lt (i := 1) (b := 1) (by decide) x
    rw [Nat.pow_one] at this
    exact this.symm] at h
  exact h

set_option maxHeartbeats 8000000 in
set_option maxRecDepth 20000 in
theorem refDigit_any (A b : Nat) (hb : 0 < b) (hq : b ≤ 16) (hA : A < 115792089237316195423570985008687907853269984665640564039457584007913129639936) (w : World) :
    Calls Try.prog 53 #[.agg #[.int .u64 ((limb 0 (A) : Nat) : Int), .int .u64 ((limb 1 (A) : Nat) : Int), .int .u64 ((limb 2 (A) : Nat) : Int), .int .u64 ((limb 3 (A) : Nat) : Int)], .int .u64 (b : Int)] w fun e w' => e = .returned (.tuple #[.agg #[.int .u64 ((limb 0 (A / b) : Nat) : Int), .int .u64 ((limb 1 (A / b) : Nat) : Int), .int .u64 ((limb 2 (A / b) : Nat) : Int), .int .u64 ((limb 3 (A / b) : Nat) : Int)], .int .i64 ((A % b : Nat) : Int)]) ∧ Below w.heap.size w w' := by
  have h256 : A / 2 ^ 256 % b = 0 := by rw [show (2 : Nat) ^ 256 = 115792089237316195423570985008687907853269984665640564039457584007913129639936 from by decide, Nat.div_eq_of_lt hA, Nat.zero_mod]
  have hz : A / 2 ^ 0 % b = A % b := by rw [Nat.pow_zero, Nat.div_one]
  have ST := fun p => quo_bit A b p hb (A / 2 ^ (p + 1) % b) (bitN A p) rfl rfl
  have RB := fun p => Nat.mod_lt (A / 2 ^ p) hb
  obtain ⟨rm, erm⟩ : ∃ rm : Nat → Nat, ∀ p, A / 2 ^ p % b = rm p := ⟨_, fun _ => rfl⟩
  obtain ⟨qq, eqq⟩ : ∃ qq, qq = A / b := ⟨_, rfl⟩
  simp only [erm] at ST RB
  rw [← eqq] at ST ⊢
  rw [erm] at h256 hz
  rw [← hz]
  have HST := (show Hid (∀ p, _) from ST); have HRB := (show Hid (∀ p, _) from RB); have H256 := (show Hid _ from h256)
  clear ST RB erm eqq h256 hz hA
  go_enter Try.func53, Try.ntmps53
  go_wp2
  go_loopw [7, 8] (fun rv iv wr => ∃ k : Nat, k ≤ 4 ∧ iv = .int .i64 ((k : Int) - 1) ∧ rv = .int .u64 ((rm (64 * k) : Nat) : Int) ∧ Below w.heap.size w wr ∧ Blk wr 24 w.heap.size (fun i => limb i A) ∧ Blk wr 24 (w.heap.size + 1) (fun _ => 0) ∧ Blk wr 24 (w.heap.size + 1 + 1) (fun i => if k ≤ i then limb i qq else 0)) (fun _ iv _ => (intOf iv + 1).toNat)
  case atStart =>
    refine ⟨4, by decide, rfl, by rw [show 64 * 4 = 256 from rfl, H256.out]; rfl, ?_, ((Blk.newAt _ _ _ (fun i => limb i A) rfl).alloc _).alloc _, (Blk.newAt _ _ _ (fun _ => 0) (by simp)).alloc _, (Blk.newAt _ _ _ (fun _ => 0) (by simp)).congr (fun i hi => by rw [if_neg (by omega)])⟩
    repeat (first | with_reducible exact Below.refl _ _ | with_reducible refine Below.alloc ?_ (by first | omega | (simp; omega) | simp) _)
  case round =>
    obtain ⟨k, hk, rfl, rfl, hbr, bA, bR, bQ⟩ := hrel
    by_cases hlt : 0 < k
    · obtain ⟨m, rfl⟩ : ∃ m, k = m + 1 := ⟨k - 1, by omega⟩
      obtain ⟨iv, eiv⟩ : ∃ iv : Int, iv = ((m + 1 : Nat) : Int) - 1 := ⟨_, rfl⟩
      rw [← eiv]
      have g0 : 0 ≤ iv := by omega
      have g1 : iv < 4 := by omega
      have g2 : iv = (m : Int) := by omega
      have g3 : iv.toNat = m := by omega
      have gm : m < 4 := by omega
      have HIV := (show Hid _ from eiv)
      clear eiv
      obtain ⟨wo, hwo⟩ : ∃ wo : World, wo = wr := ⟨_, rfl⟩
      subst hwo
      go_wp2
      go_loopw [7, 9] (fun rv jv wr => ∃ j : Nat, j ≤ 64 ∧ jv = .int .i64 ((j : Int) - 1) ∧ rv = .int .u64 ((rm (64 * m + j) : Nat) : Int) ∧ Below w.heap.size w wr ∧ Blk wr 24 w.heap.size (fun i => limb i A) ∧ Blk wr 24 (w.heap.size + 1) (fun _ => 0) ∧ Blk wr 24 (w.heap.size + 1 + 1) (fun i => if m + 1 ≤ i then limb i qq else if i = m then topW qq m j else 0)) (fun _ jv _ => (intOf jv + 1).toNat)
      case atStart =>
        refine ⟨64, by decide, rfl, rfl, hbr, bA, bR, bQ.congr (fun i hi => ?_)⟩
        by_cases h : m + 1 ≤ i
        · rw [if_pos h, if_pos h]
        · rw [if_neg h, if_neg h, topW_full]; split <;> rfl
      case round =>
        obtain ⟨j, hj, rfl, rfl, hbr2, bA2, bR2, bQ2⟩ := hrel
        clear bA bR bQ hbr
        by_cases hlt2 : 0 < j
        · obtain ⟨n, rfl⟩ : ∃ n, j = n + 1 := ⟨j - 1, by omega⟩
          obtain ⟨jv, ejv⟩ : ∃ jv : Int, jv = ((n + 1 : Nat) : Int) - 1 := ⟨_, rfl⟩
          rw [← ejv]
          have j0 : 0 ≤ jv := by omega
          have j1 : jv < 64 := by omega
          have j2 : jv = (n : Int) := by omega
          have j3 : jv.toNat = n := by omega
          have jn : n < 64 := by omega
          have HJV := (show Hid _ from ejv)
          clear ejv
          have cA := bA2.cell m gm
          have hand := and_one (limb m A) n (limb_lt _ _)
          rw [bit_limb A m n jn] at hand
          have hc1 := bitN_01 A (64 * m + n)
          have hS := HST.out (64 * m + n)
          rw [show 64 * m + n + 1 = 64 * m + (n + 1) from by omega] at hS
          have hr1 := HRB.out (64 * m + (n + 1)); have hr2 := HRB.out (64 * m + n)
          obtain ⟨c, ec⟩ : ∃ c, c = bitN A (64 * m + n) := ⟨_, rfl⟩
          rw [← ec] at hand hc1 hS
          clear ec
          obtain ⟨r, er⟩ : ∃ r, r = rm (64 * m + (n + 1)) := ⟨_, rfl⟩
          obtain ⟨r2, er2⟩ : ∃ r2, r2 = rm (64 * m + n) := ⟨_, rfl⟩
          rw [← er] at hS hr1 ⊢
          rw [← er2] at hS hr2
          have ER2 := (show Hid _ from er2)
          clear er er2
          have hT := fun c h => topW_step qq m n c jn h
          have hH := topW_half qq m n
          have HT : Hid (∀ c, _) := hT
          clear hT
          obtain ⟨t, et⟩ : ∃ t, t = topW qq m (n + 1) := ⟨_, rfl⟩
          have hsl := shl_one t (by rw [et]; exact hH)
          have hor := or_even t (by rw [et]; exact hH)
          have cQ := bQ2.cell m gm; have fQ := bQ2.frozen
          rw [if_neg (show ¬ m + 1 ≤ m by omega), if_pos rfl, ← et] at cQ
          have ET := (show Hid _ from et)
          obtain ⟨t2, et2⟩ : ∃ t2, t2 = 2 * t := ⟨_, rfl⟩
          rw [← et2] at hsl hor
          obtain ⟨x, ex⟩ : ∃ x : Int, x = ((limb m A : Nat) : Int) := ⟨_, rfl⟩
          rw [← ex] at cA hand
          have ET2 := (show Hid _ from et2)
          clear et et2 ex hH
          have hwm : IntKind.u64.wrap ((r : Int) * 2) = ((r * 2 : Nat) : Int) := by rw [IntKind.wrap_u64]; omega
          have hwa : IntKind.u64.wrap (((r * 2 : Nat) : Int) + (c : Int)) = ((r * 2 + c : Nat) : Int) := by rw [IntKind.wrap_u64]; omega
          obtain ⟨s, es⟩ : ∃ s, s = r * 2 := ⟨_, rfl⟩
          rw [← es] at hwm hwa hS
          obtain ⟨u, eu⟩ : ∃ u, u = s + c := ⟨_, rfl⟩
          rw [← eu] at hwa hS
          have hu : u < 32 := by omega
          by_cases hge : u < b
          · have hE := hS.1 hge
            have gb : ¬ ((b : Int) ≤ (u : Int)) := by omega
            have HE : Hid (u = r2 ∧ _) := hE
            clear hS hE hge es eu
            go_wp2
            go_roundw
            case measure => first | (simp [intOf]; done) | (simp [intOf]; omega) | (rw [HJV.out]; simp [intOf]; omega)
            case rel =>
              refine ⟨n, by omega, by first | rfl | (rw [HJV.out]; congr 1; omega), by rw [HE.out.1, ER2.out], hbr2.setCell (by dsimp only; omega) _, bA2.other (by dsimp only; omega) _, bR2.other (by dsimp only; omega) _, (bQ2.set m gm t2).congr ?_⟩
              intro i _
              by_cases h : i = m
              · subst h; rw [if_neg (by omega), if_pos rfl, if_pos rfl, HT.out 0 HE.out.2 (by decide), ET2.out, ET.out]; rfl
              · simp only [if_neg h]
          · have hE := hS.2 (by omega)
            have gb : (b : Int) ≤ (u : Int) := by omega
            have hsub : IntKind.u64.wrap ((u : Int) - (b : Int)) = ((r2 : Nat) : Int) := by rw [IntKind.wrap_u64]; omega
            have HE : Hid (u - b = r2 ∧ _) := hE
            clear hS hE hge es eu
            have cQ2 := (bQ2.set m gm t2).cell m gm
            simp only [if_true] at cQ2
            have fQ2 := (bQ2.set m gm t2).frozen
            go_wp2
            go_roundw
            case measure => first | (simp [intOf]; done) | (simp [intOf]; omega) | (rw [HJV.out]; simp [intOf]; omega)
            case rel =>
              refine ⟨n, by omega, by first | rfl | (rw [HJV.out]; congr 1; omega), by rw [ER2.out], (hbr2.setCell (by dsimp only; omega) _).setCell (by dsimp only; omega) _, (bA2.other (by dsimp only; omega) _).other (by dsimp only; omega) _, (bR2.other (by dsimp only; omega) _).other (by dsimp only; omega) _, ((bQ2.set m gm t2).set m gm (t2 + 1)).congr ?_⟩
              intro i _
              by_cases h : i = m
              · subst h; rw [if_neg (by omega), if_pos rfl, if_pos rfl, HT.out 1 HE.out.2 (by decide), ET2.out, ET.out]
              · simp only [if_neg h]
        · have hj0 : j = 0 := by omega
          subst hj0
          clear hlt2
          go_wp2
          go_roundw
          case measure => first | (simp [intOf]; done) | (simp [intOf]; omega) | (rw [HIV.out]; simp [intOf]; omega)
          case rel =>
            refine ⟨m, by omega, by first | rfl | (rw [HIV.out]; congr 1; omega), by rw [Nat.add_zero], hbr2, bA2, bR2, bQ2.congr ?_⟩
            intro i _
            by_cases h : i = m
            · subst h; rw [if_pos (Nat.le_refl _), if_neg (by omega), if_pos rfl, topW_zero]
            · by_cases h2 : m + 1 ≤ i
              · rw [if_pos (by omega), if_pos h2]
              · rw [if_neg (by omega), if_neg h2, if_neg h]
    · have hk0 : k = 0 := by omega
      subst hk0
      have bQ2 := bQ.congr (g := fun i => limb i qq) (fun i _ => by rw [if_pos (Nat.zero_le _)])
      have cQ := bQ2.cell; have cr := bR.cell; have fr := bR.frozen
      have hr0 := HRB.out 0
      have hw : IntKind.i64.wrap ((rm 0 : Nat) : Int) = ((rm 0 : Nat) : Int) := by rw [IntKind.wrap_i64]; omega
      clear bQ bQ2 hlt
      go_wp2
      refine bodyPost_ret (v := .tuple #[.agg #[.int .u64 ((limb 0 (qq) : Nat) : Int), .int .u64 ((limb 1 (qq) : Nat) : Int), .int .u64 ((limb 2 (qq) : Nat) : Int), .int .u64 ((limb 3 (qq) : Nat) : Int)], .int .i64 ((rm 0 : Nat) : Int)]) (by simp [results, Try.results53, go_sem, cr]) rfl ⟨rfl, ?_⟩
      repeat (first | with_reducible exact hbr | with_reducible refine Below.setCell ?_ (by first | omega | (simp; omega) | simp) _)

end Go.Proofs.Ytlndeghggdpmaaa
