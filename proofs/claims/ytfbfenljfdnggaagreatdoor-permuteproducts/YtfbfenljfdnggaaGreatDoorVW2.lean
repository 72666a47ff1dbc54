/- What the second reference's below, minus and plus do. -/
import Derived.Test.YtfbfenljfdnggaaGreatDoorVCB
import Derived.Test.YtfbfenljfdnggaaGreatDoorVWM
import Derived.Deep.QuietTactic
import Derived.BigQuiet
import Derived.Test.YtfbfenljfdnggaaGreatDoorVFB
import Derived.Test.YtfbfenljfdnggaaGreatDoorVFC
import Derived.Test.YtfbfenljfdnggaaGreatDoorVFD
namespace Go.Proofs.YtfbfenljfdnggaaGreatDoor
open Go.RowKit
theorem lt_of_div (A B p : Nat) (h : A / p < B / p) : A < B := by
  rcases Nat.lt_or_ge A B with h1 | h1
  · exact h1
  · have := Nat.div_le_div_right (c := p) h1; omega
theorem limb_eq_div (A k : Nat) : A / 18446744073709551616 ^ k = limb k A + 18446744073709551616 * (A / 18446744073709551616 ^ (k + 1)) := by
  unfold limb; rw [Nat.pow_succ, ← Nat.div_div_eq_div_mul]; omega
theorem word_step (A B k : Nat) (h : A / 18446744073709551616 ^ (k + 1) = B / 18446744073709551616 ^ (k + 1)) (hb : limb k A = limb k B) : A / 18446744073709551616 ^ k = B / 18446744073709551616 ^ k := by
  rw [limb_eq_div A, limb_eq_div B, h, hb]
theorem word_less (A B k : Nat) (h : A / 18446744073709551616 ^ (k + 1) = B / 18446744073709551616 ^ (k + 1)) (hb : ¬ limb k A = limb k B) : decide (((limb k A : Nat) : Int) < ((limb k B : Nat) : Int)) = below256 A B := by
  have ha := limb_eq_div A k
  have hb' := limb_eq_div B k
  rw [h] at ha
  unfold below256
  rw [Bool.eq_iff_iff]
  simp only [decide_eq_true_eq]
  constructor
  · intro hl; exact lt_of_div A B (18446744073709551616 ^ k) (by omega)
  · intro hl
    rcases Nat.lt_or_ge (limb k B) (limb k A) with h1 | h1
    · have := lt_of_div B A (18446744073709551616 ^ k) (by omega); omega
    · omega
theorem word_end (A B : Nat) (h : A / 18446744073709551616 ^ 0 = B / 18446744073709551616 ^ 0) : below256 A B = false := by
  simp at h; subst h; simp [below256]
set_option maxHeartbeats 4000000 in
set_option maxRecDepth 20000 in
/-- The second reference's below. -/
theorem ref2Below_any (A B : Nat) (hA : A < 115792089237316195423570985008687907853269984665640564039457584007913129639936) (hB : B < 115792089237316195423570985008687907853269984665640564039457584007913129639936) (w : World) :
    Calls Tryz.prog 67 #[.agg #[.int .u64 ((limb 0 (A) : Nat) : Int), .int .u64 ((limb 1 (A) : Nat) : Int), .int .u64 ((limb 2 (A) : Nat) : Int), .int .u64 ((limb 3 (A) : Nat) : Int)], .agg #[.int .u64 ((limb 0 (B) : Nat) : Int), .int .u64 ((limb 1 (B) : Nat) : Int), .int .u64 ((limb 2 (B) : Nat) : Int), .int .u64 ((limb 3 (B) : Nat) : Int)]] w fun e w' => e = .returned (.bool (below256 A B)) ∧ Below w.heap.size w w' := by
  go_enter Tryz.func67, Tryz.ntmps67
  go_wp2
  go_loopw [5] (fun i wr => ∃ k : Nat, i = .int .i64 ((k : Int) - 1) ∧ k ≤ 4 ∧ A / 18446744073709551616 ^ k = B / 18446744073709551616 ^ k ∧ Below w.heap.size w wr ∧ Blk wr 25 w.heap.size (fun i => limb i A) ∧ Blk wr 25 (w.heap.size + 1) (fun i => limb i B)) (fun i _ => (intOf i + 1).toNat)
  case atStart =>
    refine ⟨4, rfl, by decide, ?_, ?_, (Blk.newAt _ _ _ (fun i => limb i A) rfl).alloc _, Blk.newAt _ _ _ (fun i => limb i B) (by simp)⟩
    · rw [show (18446744073709551616 : Nat) ^ 4 = 115792089237316195423570985008687907853269984665640564039457584007913129639936 from by decide, Nat.div_eq_of_lt hA, Nat.div_eq_of_lt hB]
    · repeat (first | with_reducible exact Below.refl _ _ | with_reducible refine Below.alloc ?_ (by first | omega | (simp; omega) | simp) _)
  case round =>
    obtain ⟨k, rfl, hk, heq, hbr, bA, bB⟩ := hrel
    by_cases hk0 : k = 0
    · subst hk0
      have he := word_end A B heq
      have HE := (show Hid _ from he)
      clear heq he
      go_wp2
      go_ret
      exact ⟨by rw [HE.out]; rfl, hbr⟩
    · obtain ⟨m, rfl⟩ : ∃ m, k = m + 1 := ⟨k - 1, by omega⟩
      have e1 : ((m + 1 : Nat) : Int) - 1 = (m : Int) := by omega
      rw [e1]
      have hm0 : (0 : Int) ≤ (m : Int) := by omega
      have hmn : (m : Int) < 4 := by omega
      have cA := bA.cell m (by omega)
      have cB := bB.cell m (by omega)
      clear e1
      by_cases hbit : limb m A = limb m B
      · have hs := word_step A B m heq hbit
        rw [hbit] at cA
        have HS := (show Hid _ from hs)
        clear hs heq hbit
        go_wp2_with fail
        go_quiet (fail)
        go_wp2
        go_roundw
        case measure => simp [intOf]
        case rel =>
          exact ⟨m, rfl, by omega, HS.out, below_drewN hbr _, bA, bB⟩
      · have hs := word_less A B m heq hbit
        obtain ⟨a, ea⟩ : ∃ a : Int, a = ((limb m A : Nat) : Int) := ⟨_, rfl⟩
        obtain ⟨b, eb⟩ : ∃ b : Int, b = ((limb m B : Nat) : Int) := ⟨_, rfl⟩
        rw [← ea] at cA hs
        rw [← eb] at cB hs
        have hab : ¬ a = b := by omega
        have hab' : (a != b) = true := by simpa using hab
        have HS := (show Hid _ from hs)
        clear hs heq hbit ea eb hab
        go_wp2_with fail
        go_quiet (fail)
        go_wp2_with fail
        go_quiet (fail)
        go_wp2
        refine bodyPost_ret (v := .bool (decide (a < b))) (by simp [results, Tryz.results67, go_sem]) rfl ⟨by rw [HS.out], ?_⟩
        exact below_drewN (below_drewN hbr _) _
theorem sub_chain (A B : Nat) (hA : A < 115792089237316195423570985008687907853269984665640564039457584007913129639936) (hB : B < 115792089237316195423570985008687907853269984665640564039457584007913129639936) : ∃ cs : Nat → Nat, cs 0 = 0 ∧ ∀ k, k < 4 → cs k ≤ 1 ∧ cs (k + 1) ≤ 1 ∧ limb k A + 18446744073709551616 * cs (k + 1) = limb k (sub256 A B) + limb k B + cs k := by
  obtain ⟨c1, c2, c3, c4, p0, q0, r0, p1, q1, r1, p2, q2, r2, p3, q3, r3, hc⟩ := sub_limbs A B hA hB
  refine ⟨fun k => match k with | 0 => 0 | 1 => c1 | 2 => c2 | 3 => c3 | _ => c4, rfl, ?_⟩
  have a0 := limb_lt 0 A; have a1 := limb_lt 1 A; have a2 := limb_lt 2 A; have a3 := limb_lt 3 A
  have b0 := limb_lt 0 B; have b1 := limb_lt 1 B; have b2 := limb_lt 2 B; have b3 := limb_lt 3 B
  intro k hk
  have h4 : k = 0 ∨ k = 1 ∨ k = 2 ∨ k = 3 := by omega
  rcases h4 with rfl | rfl | rfl | rfl
  · refine ⟨by show (0 : Nat) ≤ 1; omega, r0, ?_⟩
    have t := sub_step (limb 0 A) (limb 0 B) 0 a0 b0 (by decide)
    rw [q0, p0] at t; exact t.1
  · refine ⟨r0, r1, ?_⟩
    have t := sub_step (limb 1 A) (limb 1 B) c1 a1 b1 r0
    rw [q1, p1] at t; exact t.1
  · refine ⟨r1, r2, ?_⟩
    have t := sub_step (limb 2 A) (limb 2 B) c2 a2 b2 r1
    rw [q2, p2] at t; exact t.1
  · refine ⟨r2, r3, ?_⟩
    have t := sub_step (limb 3 A) (limb 3 B) c3 a3 b3 r2
    rw [q3, p3] at t; exact t.1
/-- The first k words of S, noughts behind them. -/
def upTo (S k j : Nat) : Nat := if j < k then limb j S else 0
theorem upTo_step (S k j : Nat) : upTo S (k + 1) j = if j = k then limb k S else upTo S k j := by
  unfold upTo
  by_cases h : j = k
  · subst h; simp
  · by_cases h2 : j < k
    · simp [h, h2, show j < k + 1 from by omega]
    · simp [h, h2, show ¬ j < k + 1 from by omega]
theorem Blk.drewN {w : World} {t : TypeId} {b : Nat} {f : Nat → Nat} (h : Blk w t b f) (n : Nat) : Blk (w.drewN n) t b f := h
set_option maxHeartbeats 4000000 in
set_option maxRecDepth 20000 in
/-- The second reference's minus. -/
theorem ref2Minus_any (A B : Nat) (hA : A < 115792089237316195423570985008687907853269984665640564039457584007913129639936) (hB : B < 115792089237316195423570985008687907853269984665640564039457584007913129639936) (w : World) :
    Calls Tryz.prog 68 #[.agg #[.int .u64 ((limb 0 (A) : Nat) : Int), .int .u64 ((limb 1 (A) : Nat) : Int), .int .u64 ((limb 2 (A) : Nat) : Int), .int .u64 ((limb 3 (A) : Nat) : Int)], .agg #[.int .u64 ((limb 0 (B) : Nat) : Int), .int .u64 ((limb 1 (B) : Nat) : Int), .int .u64 ((limb 2 (B) : Nat) : Int), .int .u64 ((limb 3 (B) : Nat) : Int)]] w fun e w' => e = .returned (.agg #[.int .u64 ((limb 0 (sub256 A B) : Nat) : Int), .int .u64 ((limb 1 (sub256 A B) : Nat) : Int), .int .u64 ((limb 2 (sub256 A B) : Nat) : Int), .int .u64 ((limb 3 (sub256 A B) : Nat) : Int)]) ∧ Below w.heap.size w w' := by
  obtain ⟨cs, cs0, hcs⟩ := sub_chain A B hA hB
  have HC := (show Hid _ from hcs); clear hcs
  obtain ⟨S, hS⟩ : ∃ S, S = sub256 A B := ⟨_, rfl⟩
  rw [← hS] at HC ⊢
  clear hS
  go_enter Tryz.func68, Tryz.ntmps68
  go_wp2
  go_loopw [6, 7] (fun c i wr => ∃ k : Nat, i = .int .i64 (k : Int) ∧ k ≤ 4 ∧ c = .int .u64 ((cs k : Nat) : Int) ∧ Below w.heap.size w wr ∧ Blk wr 25 w.heap.size (fun i => limb i A) ∧ Blk wr 25 (w.heap.size + 1) (fun i => limb i B) ∧ Blk wr 25 (w.heap.size + 1 + 1) (fun _ => 0) ∧ Blk wr 25 (w.heap.size + 1 + 1 + 1) (upTo S k)) (fun _ i _ => 4 - (intOf i).toNat)
  case atStart =>
    refine ⟨0, rfl, by decide, by rw [cs0]; rfl, ?_, (((Blk.newAt _ _ _ (fun i => limb i A) rfl).alloc _).alloc _).alloc _, ((Blk.newAt _ _ _ (fun i => limb i B) (by simp)).alloc _).alloc _, (Blk.newAt _ _ _ (fun _ => 0) (by simp)).alloc _, (Blk.newAt _ _ _ (fun _ => 0) (by simp)).congr (fun i _ => rfl)⟩
    repeat (first | with_reducible exact Below.refl _ _ | with_reducible refine Below.alloc ?_ (by first | omega | (simp; omega) | simp) _)
  case round =>
    obtain ⟨k, rfl, hk, rfl, hbr, bA, bB, b0, bO⟩ := hrel
    by_cases hlt : k < 4
    · have hki : (k : Int) < 4 := by omega
      have cA := bA.cell k hlt
      have cB := bB.cell k hlt
      have fO := bO.frozen
      have cO := bO.cell k hlt
      obtain ⟨l0, l1, hst⟩ := HC.out k hlt
      have la := limb_lt k A; have lb := limb_lt k B; have ls := limb_lt k S
      obtain ⟨a, ea⟩ : ∃ a, a = limb k A := ⟨_, rfl⟩
      obtain ⟨b, eb⟩ : ∃ b, b = limb k B := ⟨_, rfl⟩
      obtain ⟨s, es⟩ : ∃ s, s = limb k S := ⟨_, rfl⟩
      obtain ⟨c, ec⟩ : ∃ c, c = cs k := ⟨_, rfl⟩
      obtain ⟨d, ed⟩ : ∃ d, d = (a + 18446744073709551616 - b) % 18446744073709551616 := ⟨_, rfl⟩
      rw [← ea] at cA la hst
      rw [← eb] at cB lb hst
      rw [← es] at ls hst
      rw [← ec] at l0 hst ⊢
      have w1 := wrap_sub2 a b d la lb ed
      have w2 := wrap_sub2 d c s (by omega) (by omega) (by omega)
      have ES := (show Hid _ from es)
      by_cases hn : cs (k + 1) = 1
      · by_cases h1 : a < b
        · have h1' : (a : Int) < (b : Int) := by omega
          have HN := (show Hid _ from hn)
          clear hst ea eb es ec ed la lb ls hn h1 l0 l1
          go_wp2_with fail
          go_quiet (fail)
          go_wp2_with fail
          go_quiet (fail)
          go_wp2
          go_roundw
          case measure => simp [intOf]; omega
          case rel =>
            refine ⟨k + 1, by go_num, by omega, by rw [HN.out]; rfl, below_drewN ((below_drewN hbr _).setCell (by dsimp only; omega) _) _, Blk.drewN ((Blk.drewN bA _).other (by dsimp only; omega) _) _, Blk.drewN ((Blk.drewN bB _).other (by dsimp only; omega) _) _, Blk.drewN ((Blk.drewN b0 _).other (by dsimp only; omega) _) _, Blk.drewN (((Blk.drewN bO _).set k hlt s).congr ?_) _⟩
            intro j _
            rw [upTo_step, ← ES.out]
        · have h1' : decide (a < b) = false := decide_eq_false (by omega)
          have h2' : decide (d < c) = true := decide_eq_true (by omega)
          have HN := (show Hid _ from hn)
          clear hst ea eb es ec ed la lb ls hn h1 l0 l1
          go_wp2_with fail
          go_quiet (fail)
          go_wp2_with fail
          go_quiet (fail)
          go_wp2
          go_roundw
          case measure => simp [intOf]; omega
          case rel =>
            refine ⟨k + 1, by go_num, by omega, by rw [HN.out]; rfl, below_drewN ((below_drewN hbr _).setCell (by dsimp only; omega) _) _, Blk.drewN ((Blk.drewN bA _).other (by dsimp only; omega) _) _, Blk.drewN ((Blk.drewN bB _).other (by dsimp only; omega) _) _, Blk.drewN ((Blk.drewN b0 _).other (by dsimp only; omega) _) _, Blk.drewN (((Blk.drewN bO _).set k hlt s).congr ?_) _⟩
            intro j _
            rw [upTo_step, ← ES.out]
      · have h1' : decide (a < b) = false := decide_eq_false (by omega)
        have h2' : decide (d < c) = false := decide_eq_false (by omega)
        have HN := (show Hid (cs (k + 1) = 0) from (by show cs (k + 1) = 0; omega))
        clear hst ea eb es ec ed la lb ls hn l0 l1
        go_wp2_with fail
        go_quiet (fail)
        go_wp2_with fail
        go_quiet (fail)
        go_wp2
        go_roundw
        case measure => simp [intOf]; omega
        case rel =>
          refine ⟨k + 1, by go_num, by omega, by rw [HN.out]; rfl, below_drewN ((below_drewN hbr _).setCell (by dsimp only; omega) _) _, Blk.drewN ((Blk.drewN bA _).other (by dsimp only; omega) _) _, Blk.drewN ((Blk.drewN bB _).other (by dsimp only; omega) _) _, Blk.drewN ((Blk.drewN b0 _).other (by dsimp only; omega) _) _, Blk.drewN (((Blk.drewN bO _).set k hlt s).congr ?_) _⟩
          intro j _
          rw [upTo_step, ← ES.out]
    · have hki : ¬ (k : Int) < 4 := by omega
      have hk4 : k = 4 := by omega
      subst hk4
      have c0 := b0.cell; have f0 := b0.frozen
      have bF := bO.congr (g := fun i => limb i S) (fun i hi => by unfold upTo; rw [if_pos hi])
      have cF := bF.cell
      go_wp2
      refine bodyPost_ret (v := .agg #[.int .u64 ((limb 0 (S) : Nat) : Int), .int .u64 ((limb 1 (S) : Nat) : Int), .int .u64 ((limb 2 (S) : Nat) : Int), .int .u64 ((limb 3 (S) : Nat) : Int)]) (by simp [results, Tryz.results68, go_sem, c0]) rfl ⟨rfl, ?_⟩
      repeat (first | with_reducible exact hbr | with_reducible refine Below.setCell ?_ (by first | omega | (simp; omega) | simp) _)
theorem add_chain (A B : Nat) (hA : A < 115792089237316195423570985008687907853269984665640564039457584007913129639936) (hB : B < 115792089237316195423570985008687907853269984665640564039457584007913129639936) : ∃ cs : Nat → Nat, cs 0 = 0 ∧ ∀ k, k < 4 → cs k ≤ 1 ∧ cs (k + 1) ≤ 1 ∧ limb k A + limb k B + cs k = limb k (add256 A B) + 18446744073709551616 * cs (k + 1) := by
  obtain ⟨c1, c2, c3, c4, p0, q0, r0, p1, q1, r1, p2, q2, r2, p3, q3, r3, hc⟩ := add_limbs A B hA hB
  refine ⟨fun k => match k with | 0 => 0 | 1 => c1 | 2 => c2 | 3 => c3 | _ => c4, rfl, ?_⟩
  intro k hk
  have h4 : k = 0 ∨ k = 1 ∨ k = 2 ∨ k = 3 := by omega
  rcases h4 with rfl | rfl | rfl | rfl
  · refine ⟨by show (0 : Nat) ≤ 1; omega, r0, ?_⟩
    show limb 0 A + limb 0 B + 0 = _ + 18446744073709551616 * c1
    rw [← p0, ← q0]; exact (Nat.mod_add_div _ _).symm
  · refine ⟨r0, r1, ?_⟩
    show limb 1 A + limb 1 B + c1 = _ + 18446744073709551616 * c2
    rw [← p1, ← q1]; exact (Nat.mod_add_div _ _).symm
  · refine ⟨r1, r2, ?_⟩
    show limb 2 A + limb 2 B + c2 = _ + 18446744073709551616 * c3
    rw [← p2, ← q2]; exact (Nat.mod_add_div _ _).symm
  · refine ⟨r2, r3, ?_⟩
    show limb 3 A + limb 3 B + c3 = _ + 18446744073709551616 * c4
    rw [← p3, ← q3]; exact (Nat.mod_add_div _ _).symm
set_option maxHeartbeats 4000000 in
set_option maxRecDepth 20000 in
/-- The second reference's plus. -/
theorem ref2Plus_any (A B : Nat) (hA : A < 115792089237316195423570985008687907853269984665640564039457584007913129639936) (hB : B < 115792089237316195423570985008687907853269984665640564039457584007913129639936) (w : World) :
    Calls Tryz.prog 70 #[.agg #[.int .u64 ((limb 0 (A) : Nat) : Int), .int .u64 ((limb 1 (A) : Nat) : Int), .int .u64 ((limb 2 (A) : Nat) : Int), .int .u64 ((limb 3 (A) : Nat) : Int)], .agg #[.int .u64 ((limb 0 (B) : Nat) : Int), .int .u64 ((limb 1 (B) : Nat) : Int), .int .u64 ((limb 2 (B) : Nat) : Int), .int .u64 ((limb 3 (B) : Nat) : Int)]] w fun e w' => e = .returned (.agg #[.int .u64 ((limb 0 (add256 A B) : Nat) : Int), .int .u64 ((limb 1 (add256 A B) : Nat) : Int), .int .u64 ((limb 2 (add256 A B) : Nat) : Int), .int .u64 ((limb 3 (add256 A B) : Nat) : Int)]) ∧ Below w.heap.size w w' := by
  obtain ⟨cs, cs0, hcs⟩ := add_chain A B hA hB
  have HC := (show Hid _ from hcs); clear hcs
  obtain ⟨S, hS⟩ : ∃ S, S = add256 A B := ⟨_, rfl⟩
  rw [← hS] at HC ⊢
  clear hS
  go_enter Tryz.func70, Tryz.ntmps70
  go_wp2
  go_loopw [6, 7] (fun c i wr => ∃ k : Nat, i = .int .i64 (k : Int) ∧ k ≤ 4 ∧ c = .int .u64 ((cs k : Nat) : Int) ∧ Below w.heap.size w wr ∧ Blk wr 25 w.heap.size (fun i => limb i A) ∧ Blk wr 25 (w.heap.size + 1) (fun i => limb i B) ∧ Blk wr 25 (w.heap.size + 1 + 1) (fun _ => 0) ∧ Blk wr 25 (w.heap.size + 1 + 1 + 1) (upTo S k)) (fun _ i _ => 4 - (intOf i).toNat)
  case atStart =>
    refine ⟨0, rfl, by decide, by rw [cs0]; rfl, ?_, (((Blk.newAt _ _ _ (fun i => limb i A) rfl).alloc _).alloc _).alloc _, ((Blk.newAt _ _ _ (fun i => limb i B) (by simp)).alloc _).alloc _, (Blk.newAt _ _ _ (fun _ => 0) (by simp)).alloc _, (Blk.newAt _ _ _ (fun _ => 0) (by simp)).congr (fun i _ => rfl)⟩
    repeat (first | with_reducible exact Below.refl _ _ | with_reducible refine Below.alloc ?_ (by first | omega | (simp; omega) | simp) _)
  case round =>
    obtain ⟨k, rfl, hk, rfl, hbr, bA, bB, b0, bO⟩ := hrel
    by_cases hlt : k < 4
    · have hki : (k : Int) < 4 := by omega
      have cA := bA.cell k hlt
      have cB := bB.cell k hlt
      have fO := bO.frozen
      have cO := bO.cell k hlt
      obtain ⟨l0, l1, hst⟩ := HC.out k hlt
      have la := limb_lt k A; have lb := limb_lt k B; have ls := limb_lt k S
      obtain ⟨a, ea⟩ : ∃ a, a = limb k A := ⟨_, rfl⟩
      obtain ⟨b, eb⟩ : ∃ b, b = limb k B := ⟨_, rfl⟩
      obtain ⟨s, es⟩ : ∃ s, s = limb k S := ⟨_, rfl⟩
      obtain ⟨c, ec⟩ : ∃ c, c = cs k := ⟨_, rfl⟩
      obtain ⟨d, ed⟩ : ∃ d, d = (a + b) % 18446744073709551616 := ⟨_, rfl⟩
      rw [← ea] at cA la hst
      rw [← eb] at cB lb hst
      rw [← es] at ls hst
      rw [← ec] at l0 hst ⊢
      have w1 : IntKind.u64.wrap ((a : Int) + (b : Int)) = ((d : Nat) : Int) := by rw [IntKind.wrap_u64]; omega
      have w2 : IntKind.u64.wrap ((d : Int) + (c : Int)) = ((s : Nat) : Int) := by rw [IntKind.wrap_u64]; omega
      have ES := (show Hid _ from es)
      by_cases hn : cs (k + 1) = 1
      · by_cases h1 : d < a
        · have h1' : decide (d < a) = true := decide_eq_true h1
          have HN := (show Hid _ from hn)
          clear hst ea eb es ec ed la lb ls hn h1 l0 l1
          go_wp2_with fail
          go_quiet (fail)
          go_wp2
          go_roundw
          case measure => simp [intOf]; omega
          case rel =>
            refine ⟨k + 1, by go_num, by omega, by rw [HN.out]; rfl, (below_drewN hbr _).setCell (by dsimp only; omega) _, (Blk.drewN bA _).other (by dsimp only; omega) _, (Blk.drewN bB _).other (by dsimp only; omega) _, (Blk.drewN b0 _).other (by dsimp only; omega) _, ((Blk.drewN bO _).set k hlt s).congr ?_⟩
            intro j _
            rw [upTo_step, ← ES.out]
        · have h1' : decide (d < a) = false := decide_eq_false (by omega)
          have h2' : decide (s < d) = true := decide_eq_true (by omega)
          have HN := (show Hid _ from hn)
          clear hst ea eb es ec ed la lb ls hn h1 l0 l1
          go_wp2_with fail
          go_quiet (fail)
          go_wp2
          go_roundw
          case measure => simp [intOf]; omega
          case rel =>
            refine ⟨k + 1, by go_num, by omega, by rw [HN.out]; rfl, (below_drewN hbr _).setCell (by dsimp only; omega) _, (Blk.drewN bA _).other (by dsimp only; omega) _, (Blk.drewN bB _).other (by dsimp only; omega) _, (Blk.drewN b0 _).other (by dsimp only; omega) _, ((Blk.drewN bO _).set k hlt s).congr ?_⟩
            intro j _
            rw [upTo_step, ← ES.out]
      · have h1' : decide (d < a) = false := decide_eq_false (by omega)
        have h2' : decide (s < d) = false := decide_eq_false (by omega)
        have HN := (show Hid (cs (k + 1) = 0) from (by show cs (k + 1) = 0; omega))
        clear hst ea eb es ec ed la lb ls hn l0 l1
        go_wp2_with fail
        go_quiet (fail)
        go_wp2
        go_roundw
        case measure => simp [intOf]; omega
        case rel =>
          refine ⟨k + 1, by go_num, by omega, by rw [HN.out]; rfl, (below_drewN hbr _).setCell (by dsimp only; omega) _, (Blk.drewN bA _).other (by dsimp only; omega) _, (Blk.drewN bB _).other (by dsimp only; omega) _, (Blk.drewN b0 _).other (by dsimp only; omega) _, ((Blk.drewN bO _).set k hlt s).congr ?_⟩
          intro j _
          rw [upTo_step, ← ES.out]
    · have hki : ¬ (k : Int) < 4 := by omega
      have hk4 : k = 4 := by omega
      subst hk4
      have c0 := b0.cell; have f0 := b0.frozen
      have bF := bO.congr (g := fun i => limb i S) (fun i hi => by unfold upTo; rw [if_pos hi])
      have cF := bF.cell
      go_wp2
      refine bodyPost_ret (v := .agg #[.int .u64 ((limb 0 (S) : Nat) : Int), .int .u64 ((limb 1 (S) : Nat) : Int), .int .u64 ((limb 2 (S) : Nat) : Int), .int .u64 ((limb 3 (S) : Nat) : Int)]) (by simp [results, Tryz.results70, go_sem, c0]) rfl ⟨rfl, ?_⟩
      repeat (first | with_reducible exact hbr | with_reducible refine Below.setCell ?_ (by first | omega | (simp; omega) | simp) _)
end Go.Proofs.YtfbfenljfdnggaaGreatDoor
/- What the second reference's Modulus, little and Of do. -/
namespace Go.Proofs.YtfbfenljfdnggaaGreatDoor
open Go.RowKit
theorem mod_step (x H l m : Nat) : (x % m * H + l) % m = (x * H + l) % m := by
  rw [Nat.add_mod, Nat.mod_mul_mod, ← Nat.add_mod]
theorem of_words (r h l m : Nat) : ((r * 4294967296 + h) % m * 4294967296 + l) % m = (r * 18446744073709551616 + (h * 4294967296 + l)) % m := by
  rw [mod_step, Nat.add_mul, Nat.mul_assoc, show (4294967296 : Nat) * 4294967296 = 18446744073709551616 from by decide, Nat.add_assoc]
theorem of_next (A m k : Nat) : (A / 18446744073709551616 ^ (k + 1) % m * 18446744073709551616 + limb k A) % m = A / 18446744073709551616 ^ k % m := by
  rw [mod_step]
  congr 1
  rw [limb_eq_div A k]; omega
theorem of_int (r x m y : Nat) (hx : x < 18446744073709551616) (hm : m < 33554432) (hy : y = (r * 4294967296 + x / 4294967296) % m) (ly : y < m) :
    (IntKind.u64.wrap (IntKind.u64.wrap (((r : Int) * 4294967296 + (x : Int) / 4294967296) % (m : Int) * 4294967296) + bits BinOp.and IntKind.u64 (x : Int) 4294967295)).tmod (m : Int) = (((y * 4294967296 + x % 4294967296) % m : Nat) : Int) := by
  have h1 : ((r : Int) * 4294967296 + (x : Int) / 4294967296) % (m : Int) = ((y : Nat) : Int) := by
    rw [hy, Int.natCast_emod]
    rfl
  rw [h1, maskN x hx]
  have h2 : IntKind.u64.wrap (((y : Nat) : Int) * 4294967296) = ((y * 4294967296 : Nat) : Int) := by rw [IntKind.wrap_u64]; omega
  rw [h2]
  have h3 : IntKind.u64.wrap (((y * 4294967296 : Nat) : Int) + ((x % 4294967296 : Nat) : Int)) = ((y * 4294967296 + x % 4294967296 : Nat) : Int) := by rw [IntKind.wrap_u64]; omega
  rw [h3]
  exact (Int.ofNat_tmod _ _).symm
theorem word_halves (x : Nat) : x = x / 4294967296 * 4294967296 + x % 4294967296 := (Nat.div_add_mod' x _).symm
set_option maxHeartbeats 1000000 in
/-- The second reference's little. -/
theorem little_any (s : Nat) (hs : s < 2) (w : World) :
    Calls Tryz.prog 65 #[.int .i64 (s : Int)] w fun e w' => e = .returned (.int .u64 ((modN s : Nat) : Int)) ∧ w' = w := by
  have h2 : s = 0 ∨ s = 1 := by omega
  rcases h2 with rfl | rfl
  · go_enter Tryz.func65, Tryz.ntmps65
    go_wp2
    go_ret
    exact ⟨rfl, rfl⟩
  · go_enter Tryz.func65, Tryz.ntmps65
    go_wp2
    go_ret
    exact ⟨rfl, rfl⟩
theorem modN_small (s : Nat) (hs : s < 2) : modN s < 33554432 ∧ 0 < modN s := by
  have h2 : s = 0 ∨ s = 1 := by omega
  rcases h2 with rfl | rfl <;> decide
set_option maxHeartbeats 4000000 in
set_option maxRecDepth 20000 in
/-- The second reference's Of, of a little field. -/
theorem ofLittle_any (s A : Nat) (hs : s < 2) (hA : A < 115792089237316195423570985008687907853269984665640564039457584007913129639936) (w : World) :
    Calls Tryz.prog 29 #[.int .i64 (s : Int), .agg #[.int .u64 ((limb 0 (A) : Nat) : Int), .int .u64 ((limb 1 (A) : Nat) : Int), .int .u64 ((limb 2 (A) : Nat) : Int), .int .u64 ((limb 3 (A) : Nat) : Int)]] w fun e w' => e = .returned (.agg #[.int .u64 ((limb 0 (A % modN s) : Nat) : Int), .int .u64 ((limb 1 (A % modN s) : Nat) : Int), .int .u64 ((limb 2 (A % modN s) : Nat) : Int), .int .u64 ((limb 3 (A % modN s) : Nat) : Int)]) ∧ Below w.heap.size w w' := by
  obtain ⟨hms, hm0⟩ := modN_small s hs
  have HL := fun w => little_any s hs w
  obtain ⟨m, em⟩ : ∃ m, m = modN s := ⟨_, rfl⟩
  rw [← em] at hms hm0 HL ⊢
  clear em
  have h2 : s = 0 ∨ s = 1 := by omega
  rcases h2 with rfl | rfl
  · go_enter Tryz.func29, Tryz.ntmps29
    go_wp2_with fail
    refine (HL _).mono ?_
    rintro e w' ⟨rfl, rfl⟩
    go_wp2
    go_loopw [6, 7] (fun r i wr => ∃ k : Nat, i = .int .i64 ((k : Int) - 1) ∧ k ≤ 4 ∧ r = .int .u64 ((A / 18446744073709551616 ^ k % m : Nat) : Int) ∧ Below w.heap.size w wr ∧ Blk wr 25 w.heap.size (fun i => limb i A) ∧ Blk wr 25 (w.heap.size + 1) (fun _ => 0)) (fun _ i _ => (intOf i + 1).toNat)
    case atStart =>
      refine ⟨4, rfl, by decide, ?_, ?_, (Blk.newAt _ _ _ (fun i => limb i A) rfl).alloc _, Blk.newAt _ _ _ (fun _ => 0) (by simp)⟩
      · rw [show (18446744073709551616 : Nat) ^ 4 = 115792089237316195423570985008687907853269984665640564039457584007913129639936 from by decide, Nat.div_eq_of_lt hA, Nat.zero_mod]; rfl
      · repeat (first | with_reducible exact Below.refl _ _ | with_reducible refine Below.alloc ?_ (by first | omega | (simp; omega) | simp) _)
    case round =>
      obtain ⟨k, rfl, hk, rfl, hbr, bA, b0⟩ := hrel
      by_cases hk0 : k = 0
      · subst hk0
        have hr : A / 18446744073709551616 ^ 0 % m = A % m := by rw [Nat.pow_zero, Nat.div_one]
        rw [hr]
        have lr : A % m < m := Nat.mod_lt _ hm0
        obtain ⟨r, er⟩ : ∃ r, r = A % m := ⟨_, rfl⟩
        rw [← er] at lr ⊢
        have E1 : Hid ((.agg #[.int .u64 ((limb 0 (A % m) : Nat) : Int), .int .u64 ((limb 1 (A % m) : Nat) : Int), .int .u64 ((limb 2 (A % m) : Nat) : Int), .int .u64 ((limb 3 (A % m) : Nat) : Int)] : Value) = .agg #[.int .u64 (r : Int), .int .u64 0, .int .u64 0, .int .u64 0]) := by
          show _ = _
          rw [← er, limb_small r 0 (by omega), limb_small r 1 (by omega), limb_small r 2 (by omega), limb_small r 3 (by omega), if_pos rfl, if_neg (by decide), if_neg (by decide), if_neg (by decide)]; rfl
        have c0 := b0.cell; have f0 := b0.frozen
        clear hr er
        go_wp2
        refine bodyPost_ret (v := .agg #[.int .u64 (r : Int), .int .u64 0, .int .u64 0, .int .u64 0]) (by simp [results, Tryz.results29, go_sem, c0]) rfl ⟨by rw [E1.out], ?_⟩
        repeat (first | with_reducible exact hbr | with_reducible refine Below.setCell ?_ (by first | omega | (simp; omega) | simp) _)
      · obtain ⟨j, rfl⟩ : ∃ j, k = j + 1 := ⟨k - 1, by omega⟩
        have e1 : ((j + 1 : Nat) : Int) - 1 = (j : Int) := by omega
        rw [e1]
        have hm1 : (0 : Int) ≤ (j : Int) := by omega
        have hmn : (j : Int) < 4 := by omega
        have cA := bA.cell j (by omega)
        have lr : A / 18446744073709551616 ^ (j + 1) % m < m := Nat.mod_lt _ hm0
        have hn := of_next A m j
        obtain ⟨r, er⟩ : ∃ r, r = A / 18446744073709551616 ^ (j + 1) % m := ⟨_, rfl⟩
        rw [← er] at lr hn ⊢
        have lx := limb_lt j A
        obtain ⟨x, ex⟩ : ∃ x, x = limb j A := ⟨_, rfl⟩
        rw [← ex] at cA lx hn
        obtain ⟨y, ey⟩ : ∃ y, y = (r * 4294967296 + x / 4294967296) % m := ⟨_, rfl⟩
        have ly : y < m := by rw [ey]; exact Nat.mod_lt _ hm0
        have hy : (y * 4294967296 + x % 4294967296) % m = A / 18446744073709551616 ^ j % m := by rw [ey, of_words, ← word_halves, hn]
        have HY := (show Hid _ from hy); have EY := (show Hid _ from ey)
        clear e1 er ex ey hy hn
        go_wp2
        go_roundw
        case measure => simp [intOf]
        case rel =>
          refine ⟨j, rfl, by omega, ?_, hbr, bA, b0⟩
          rw [of_int r x m y lx hms EY.out ly, HY.out]
  · go_enter Tryz.func29, Tryz.ntmps29
    go_wp2_with fail
    refine (HL _).mono ?_
    rintro e w' ⟨rfl, rfl⟩
    go_wp2
    go_loopw [6, 7] (fun r i wr => ∃ k : Nat, i = .int .i64 ((k : Int) - 1) ∧ k ≤ 4 ∧ r = .int .u64 ((A / 18446744073709551616 ^ k % m : Nat) : Int) ∧ Below w.heap.size w wr ∧ Blk wr 25 w.heap.size (fun i => limb i A) ∧ Blk wr 25 (w.heap.size + 1) (fun _ => 0)) (fun _ i _ => (intOf i + 1).toNat)
    case atStart =>
      refine ⟨4, rfl, by decide, ?_, ?_, (Blk.newAt _ _ _ (fun i => limb i A) rfl).alloc _, Blk.newAt _ _ _ (fun _ => 0) (by simp)⟩
      · rw [show (18446744073709551616 : Nat) ^ 4 = 115792089237316195423570985008687907853269984665640564039457584007913129639936 from by decide, Nat.div_eq_of_lt hA, Nat.zero_mod]; rfl
      · repeat (first | with_reducible exact Below.refl _ _ | with_reducible refine Below.alloc ?_ (by first | omega | (simp; omega) | simp) _)
    case round =>
      obtain ⟨k, rfl, hk, rfl, hbr, bA, b0⟩ := hrel
      by_cases hk0 : k = 0
      · subst hk0
        have hr : A / 18446744073709551616 ^ 0 % m = A % m := by rw [Nat.pow_zero, Nat.div_one]
        rw [hr]
        have lr : A % m < m := Nat.mod_lt _ hm0
        obtain ⟨r, er⟩ : ∃ r, r = A % m := ⟨_, rfl⟩
        rw [← er] at lr ⊢
        have E1 : Hid ((.agg #[.int .u64 ((limb 0 (A % m) : Nat) : Int), .int .u64 ((limb 1 (A % m) : Nat) : Int), .int .u64 ((limb 2 (A % m) : Nat) : Int), .int .u64 ((limb 3 (A % m) : Nat) : Int)] : Value) = .agg #[.int .u64 (r : Int), .int .u64 0, .int .u64 0, .int .u64 0]) := by
          show _ = _
          rw [← er, limb_small r 0 (by omega), limb_small r 1 (by omega), limb_small r 2 (by omega), limb_small r 3 (by omega), if_pos rfl, if_neg (by decide), if_neg (by decide), if_neg (by decide)]; rfl
        have c0 := b0.cell; have f0 := b0.frozen
        clear hr er
        go_wp2
        refine bodyPost_ret (v := .agg #[.int .u64 (r : Int), .int .u64 0, .int .u64 0, .int .u64 0]) (by simp [results, Tryz.results29, go_sem, c0]) rfl ⟨by rw [E1.out], ?_⟩
        repeat (first | with_reducible exact hbr | with_reducible refine Below.setCell ?_ (by first | omega | (simp; omega) | simp) _)
      · obtain ⟨j, rfl⟩ : ∃ j, k = j + 1 := ⟨k - 1, by omega⟩
        have e1 : ((j + 1 : Nat) : Int) - 1 = (j : Int) := by omega
        rw [e1]
        have hm1 : (0 : Int) ≤ (j : Int) := by omega
        have hmn : (j : Int) < 4 := by omega
        have cA := bA.cell j (by omega)
        have lr : A / 18446744073709551616 ^ (j + 1) % m < m := Nat.mod_lt _ hm0
        have hn := of_next A m j
        obtain ⟨r, er⟩ : ∃ r, r = A / 18446744073709551616 ^ (j + 1) % m := ⟨_, rfl⟩
        rw [← er] at lr hn ⊢
        have lx := limb_lt j A
        obtain ⟨x, ex⟩ : ∃ x, x = limb j A := ⟨_, rfl⟩
        rw [← ex] at cA lx hn
        obtain ⟨y, ey⟩ : ∃ y, y = (r * 4294967296 + x / 4294967296) % m := ⟨_, rfl⟩
        have ly : y < m := by rw [ey]; exact Nat.mod_lt _ hm0
        have hy : (y * 4294967296 + x % 4294967296) % m = A / 18446744073709551616 ^ j % m := by rw [ey, of_words, ← word_halves, hn]
        have HY := (show Hid _ from hy); have EY := (show Hid _ from ey)
        clear e1 er ex ey hy hn
        go_wp2
        go_roundw
        case measure => simp [intOf]
        case rel =>
          refine ⟨j, rfl, by omega, ?_, hbr, bA, b0⟩
          rw [of_int r x m y lx hms EY.out ly, HY.out]
end Go.Proofs.YtfbfenljfdnggaaGreatDoor
/- What the second reference's Modulus and Of (great fields) do. -/
namespace Go.Proofs.YtfbfenljfdnggaaGreatDoor
open Go.RowKit
theorem modN_agg0 : (.agg #[.int .u64 ((limb 0 (modN 0) : Nat) : Int), .int .u64 ((limb 1 (modN 0) : Nat) : Int), .int .u64 ((limb 2 (modN 0) : Nat) : Int), .int .u64 ((limb 3 (modN 0) : Nat) : Int)] : Value) = .agg #[.int .u64 16513537, .int .u64 0, .int .u64 0, .int .u64 0] := by
  rw [show limb 0 (modN 0) = 16513537 from by decide, show limb 1 (modN 0) = 0 from by decide, show limb 2 (modN 0) = 0 from by decide, show limb 3 (modN 0) = 0 from by decide]
  rfl
theorem modN_agg1 : (.agg #[.int .u64 ((limb 0 (modN 1) : Nat) : Int), .int .u64 ((limb 1 (modN 1) : Nat) : Int), .int .u64 ((limb 2 (modN 1) : Nat) : Int), .int .u64 ((limb 3 (modN 1) : Nat) : Int)] : Value) = .agg #[.int .u64 16521217, .int .u64 0, .int .u64 0, .int .u64 0] := by
  rw [show limb 0 (modN 1) = 16521217 from by decide, show limb 1 (modN 1) = 0 from by decide, show limb 2 (modN 1) = 0 from by decide, show limb 3 (modN 1) = 0 from by decide]
  rfl
theorem modN_agg2 : (.agg #[.int .u64 ((limb 0 (modN 2) : Nat) : Int), .int .u64 ((limb 1 (modN 2) : Nat) : Int), .int .u64 ((limb 2 (modN 2) : Nat) : Int), .int .u64 ((limb 3 (modN 2) : Nat) : Int)] : Value) = .agg #[.int .u64 11037532056220336129, .int .u64 2469829653914515739, .int .u64 0, .int .u64 4611686018427387904] := by
  rw [show limb 0 (modN 2) = 11037532056220336129 from by decide, show limb 1 (modN 2) = 2469829653914515739 from by decide, show limb 2 (modN 2) = 0 from by decide, show limb 3 (modN 2) = 4611686018427387904 from by decide]
  rfl
theorem modN_agg3 : (.agg #[.int .u64 ((limb 0 (modN 3) : Nat) : Int), .int .u64 ((limb 1 (modN 3) : Nat) : Int), .int .u64 ((limb 2 (modN 3) : Nat) : Int), .int .u64 ((limb 3 (modN 3) : Nat) : Int)] : Value) = .agg #[.int .u64 10108024940646105089, .int .u64 2469829653919213789, .int .u64 0, .int .u64 4611686018427387904] := by
  rw [show limb 0 (modN 3) = 10108024940646105089 from by decide, show limb 1 (modN 3) = 2469829653919213789 from by decide, show limb 2 (modN 3) = 0 from by decide, show limb 3 (modN 3) = 4611686018427387904 from by decide]
  rfl
set_option maxHeartbeats 2000000 in
/-- The second reference's Modulus of a sort that there is. -/
theorem ref2Modulus_any (s : Nat) (hs : s < 4) (w : World) :
    Calls Tryz.prog 66 #[.int .i64 (s : Int)] w fun e w' => e = .returned (.tuple #[.agg #[.int .u64 ((limb 0 (modN s) : Nat) : Int), .int .u64 ((limb 1 (modN s) : Nat) : Int), .int .u64 ((limb 2 (modN s) : Nat) : Int), .int .u64 ((limb 3 (modN s) : Nat) : Int)], .int .i64 0]) ∧ Below w.heap.size w w' := by
  have h4 : s = 0 ∨ s = 1 ∨ s = 2 ∨ s = 3 := by omega
  rcases h4 with rfl | rfl | rfl | rfl
  · go_enter Tryz.func66, Tryz.ntmps66
    go_wp2
    refine bodyPost_ret (v := .tuple #[.agg #[.int .u64 16513537, .int .u64 0, .int .u64 0, .int .u64 0], .int .i64 0]) (by simp [results, Tryz.results66, go_sem]) rfl ⟨by rw [modN_agg0], ?_⟩
    repeat (first | with_reducible exact Below.refl _ _ | with_reducible refine Below.drew ?_ | with_reducible refine Below.setCell ?_ (by first | omega | (simp; omega) | simp) _ | with_reducible refine Below.alloc ?_ (by first | omega | (simp; omega) | simp) _)
  · go_enter Tryz.func66, Tryz.ntmps66
    go_wp2
    refine bodyPost_ret (v := .tuple #[.agg #[.int .u64 16521217, .int .u64 0, .int .u64 0, .int .u64 0], .int .i64 0]) (by simp [results, Tryz.results66, go_sem]) rfl ⟨by rw [modN_agg1], ?_⟩
    repeat (first | with_reducible exact Below.refl _ _ | with_reducible refine Below.drew ?_ | with_reducible refine Below.setCell ?_ (by first | omega | (simp; omega) | simp) _ | with_reducible refine Below.alloc ?_ (by first | omega | (simp; omega) | simp) _)
  · go_enter Tryz.func66, Tryz.ntmps66
    go_wp2
    refine bodyPost_ret (v := .tuple #[.agg #[.int .u64 11037532056220336129, .int .u64 2469829653914515739, .int .u64 0, .int .u64 4611686018427387904], .int .i64 0]) (by simp [results, Tryz.results66, go_sem]) rfl ⟨by rw [modN_agg2], ?_⟩
    repeat (first | with_reducible exact Below.refl _ _ | with_reducible refine Below.drew ?_ | with_reducible refine Below.setCell ?_ (by first | omega | (simp; omega) | simp) _ | with_reducible refine Below.alloc ?_ (by first | omega | (simp; omega) | simp) _)
  · go_enter Tryz.func66, Tryz.ntmps66
    go_wp2
    refine bodyPost_ret (v := .tuple #[.agg #[.int .u64 10108024940646105089, .int .u64 2469829653919213789, .int .u64 0, .int .u64 4611686018427387904], .int .i64 0]) (by simp [results, Tryz.results66, go_sem]) rfl ⟨by rw [modN_agg3], ?_⟩
    repeat (first | with_reducible exact Below.refl _ _ | with_reducible refine Below.drew ?_ | with_reducible refine Below.setCell ?_ (by first | omega | (simp; omega) | simp) _ | with_reducible refine Below.alloc ?_ (by first | omega | (simp; omega) | simp) _)
theorem sub_again (A m x : Nat) (hx : x % m = A % m) (h : m ≤ x) : (x - m) % m = A % m := by rw [← hx, Nat.mod_eq_sub_mod h]
set_option maxHeartbeats 4000000 in
set_option maxRecDepth 20000 in
/-- The second reference's Of, of a great field. -/
theorem ofGreat_any (s A : Nat) (hs2 : 2 ≤ s) (hs : s < 4) (hA : A < 115792089237316195423570985008687907853269984665640564039457584007913129639936) (w : World) :
    Calls Tryz.prog 29 #[.int .i64 (s : Int), .agg #[.int .u64 ((limb 0 (A) : Nat) : Int), .int .u64 ((limb 1 (A) : Nat) : Int), .int .u64 ((limb 2 (A) : Nat) : Int), .int .u64 ((limb 3 (A) : Nat) : Int)]] w fun e w' => e = .returned (.agg #[.int .u64 ((limb 0 (A % modN s) : Nat) : Int), .int .u64 ((limb 1 (A % modN s) : Nat) : Int), .int .u64 ((limb 2 (A % modN s) : Nat) : Int), .int .u64 ((limb 3 (A % modN s) : Nat) : Int)]) ∧ Below w.heap.size w w' := by
  have hgl := (modN_good s).lt
  have HM := fun w => ref2Modulus_any s hs w
  obtain ⟨m, em⟩ : ∃ m, m = modN s := ⟨_, rfl⟩
  rw [← em] at hgl HM ⊢
  clear em
  obtain ⟨h0, _, hm⟩ := hgl
  have n0 : ((s : Int) == 0) = false := by rw [beq_eq_false_iff_ne]; omega
  have n1 : ((s : Int) == 1) = false := by rw [beq_eq_false_iff_ne]; omega
  go_enter Tryz.func29, Tryz.ntmps29
  go_wp2_with fail
  obtain ⟨w0, hw0⟩ : ∃ w0 : World, w0 = (w.alloc (.cells #[.int .u64 ((limb 0 (A) : Nat) : Int), .int .u64 ((limb 1 (A) : Nat) : Int), .int .u64 ((limb 2 (A) : Nat) : Int), .int .u64 ((limb 3 (A) : Nat) : Int)] 25)).alloc (.cells #[.int .u64 0, .int .u64 0, .int .u64 0, .int .u64 0] 25) := ⟨_, rfl⟩
  have ba0 : Blk w0 25 w.heap.size (fun i => limb i A) := by rw [hw0]; exact (Blk.newAt _ _ _ (fun i => limb i A) (by simp)).alloc _
  have br0 : Blk w0 25 (w.heap.size + 1) (fun _ => 0) := by rw [hw0]; exact Blk.newAt _ _ _ (fun _ => 0) (by simp)
  have hb0 : Below w.heap.size w w0 := by
    rw [hw0]
    repeat (first | with_reducible exact Below.refl _ _ | with_reducible refine Below.alloc ?_ (by first | omega | (simp; omega) | simp) _)
  rw [← hw0]
  clear hw0
  refine (HM _).mono ?_
  rintro e w1 ⟨rfl, hb1⟩
  have ba1 := ba0.belowAll hb1; have br1 := br0.belowAll hb1
  have hbw1 := bStep hb0 hb1
  have hr1 := br1.lt
  clear ba0 br0 hb0 hb1 HM
  go_wp2
  go_loopw [] (fun wr => ∃ x : Nat, x < 115792089237316195423570985008687907853269984665640564039457584007913129639936 ∧ x % m = A % m ∧ Blk wr 25 w.heap.size (fun i => limb i x) ∧ Blk wr 25 (w.heap.size + 1) (fun _ => 0) ∧ Blk wr 25 w1.heap.size (fun i => limb i m) ∧ Below w.heap.size w wr) (fun wr => numAt wr w.heap.size)
  case atStart => exact ⟨A, hA, rfl, ba1.alloc _, br1.alloc _, Blk.new w1 _ (fun i => limb i m), bAlloc hbw1 _⟩
  case round =>
    obtain ⟨x, lx, hx, bA, bR, bM, hbr⟩ := hrel
    have cA := bA.cell; have cM := bM.cell
    have mU := (show Hid _ from numAt_eq bA lx)
    have HX := (show Hid _ from hx)
    clear hx
    go_wp2_with fail
    refine (ref2Below_any x m lx hm _).mono ?_
    rintro e w2 ⟨rfl, hb2⟩
    have bA2 := bA.belowAll hb2; have bR2 := bR.belowAll hb2; have bM2 := bM.belowAll hb2
    have hbw2 := bStep hbr hb2
    clear bA bR bM hbr hb2 cA cM
    have cA := bA2.cell; have cM := bM2.cell; have fA := bA2.frozen; have cr := bR2.cell; have fr := bR2.frozen; have lr := bR2.lt
    by_cases hlt : x < m
    · rw [show below256 x m = true from by simp [below256, hlt]]
      have E1 : Hid (A % m = x) := by show _ = _; rw [← HX.out, Nat.mod_eq_of_lt hlt]
      clear hlt
      go_wp2
      refine bodyPost_ret (v := .agg #[.int .u64 ((limb 0 (x) : Nat) : Int), .int .u64 ((limb 1 (x) : Nat) : Int), .int .u64 ((limb 2 (x) : Nat) : Int), .int .u64 ((limb 3 (x) : Nat) : Int)]) (by simp [results, Tryz.results29, go_sem, cr]) rfl ⟨by rw [E1.out], ?_⟩
      repeat (first | with_reducible exact hbw2 | with_reducible refine Below.setCell ?_ (by first | omega | (simp; omega) | simp) _)
    · rw [show below256 x m = false from by simp [below256]; omega]
      have hs3 : sub256 x m = x - m := by
        unfold sub256
        rw [show x + 115792089237316195423570985008687907853269984665640564039457584007913129639936 - m = (x - m) + 115792089237316195423570985008687907853269984665640564039457584007913129639936 from by omega, Nat.add_mod_right, Nat.mod_eq_of_lt (by omega)]
      have HS := (show Hid _ from hs3)
      have hle : m ≤ x := by omega
      clear hs3 hlt
      go_wp2_with fail
      refine (ref2Minus_any x m lx hm _).mono ?_
      rintro e w3 ⟨rfl, hb3⟩
      have bA3 := bA2.belowAll hb3; have bR3 := bR2.belowAll hb3; have bM3 := bM2.belowAll hb3
      have hbw3 := bStep hbw2 hb3
      clear bA2 bR2 bM2 hbw2 hb3 cA cM fA cr fr lr
      have cA := bA3.cell; have fA := bA3.frozen
      have bA4 := bA3.set4 (fun i => limb i (sub256 x m))
      have mU4 := (show Hid _ from numAt_eq bA4 (sub256_lt x m))
      go_wp2
      go_roundw
      case measure => rw [mU4.out, mU.out, HS.out]; omega
      case rel =>
        exact ⟨sub256 x m, sub256_lt x m, by rw [HS.out]; exact sub_again A m x HX.out hle, bA4, bR3.other4 (by omega) _ _ _ _, bM3.other4 (by omega) _ _ _ _, bSet4 hbw3 (Nat.le_refl _) _ _ _ _⟩
/-- The second reference's Of. -/
theorem ref2Of_any (s A : Nat) (hs : s < 4) (hA : A < 115792089237316195423570985008687907853269984665640564039457584007913129639936) (w : World) :
    Calls Tryz.prog 29 #[.int .i64 (s : Int), .agg #[.int .u64 ((limb 0 (A) : Nat) : Int), .int .u64 ((limb 1 (A) : Nat) : Int), .int .u64 ((limb 2 (A) : Nat) : Int), .int .u64 ((limb 3 (A) : Nat) : Int)]] w fun e w' => e = .returned (.agg #[.int .u64 ((limb 0 (A % modN s) : Nat) : Int), .int .u64 ((limb 1 (A % modN s) : Nat) : Int), .int .u64 ((limb 2 (A % modN s) : Nat) : Int), .int .u64 ((limb 3 (A % modN s) : Nat) : Int)]) ∧ Below w.heap.size w w' := by
  rcases Nat.lt_or_ge s 2 with h | h
  · exact ofLittle_any s A h hA w
  · exact ofGreat_any s A h hs hA w
end Go.Proofs.YtfbfenljfdnggaaGreatDoor

/- What the second reference's Add, Neg and Sub do. -/
namespace Go.Proofs.YtfbfenljfdnggaaGreatDoor
open Go.RowKit
theorem word_agg' (n : Nat) (hn : n < 18446744073709551616) : (.agg #[.int .u64 ((limb 0 (n) : Nat) : Int), .int .u64 ((limb 1 (n) : Nat) : Int), .int .u64 ((limb 2 (n) : Nat) : Int), .int .u64 ((limb 3 (n) : Nat) : Int)] : Value) = .agg #[.int .u64 (n : Int), .int .u64 0, .int .u64 0, .int .u64 0] := by
  rw [limb_small n 0 hn, limb_small n 1 hn, limb_small n 2 hn, limb_small n 3 hn, if_pos rfl, if_neg (by decide), if_neg (by decide), if_neg (by decide)]
  rfl
theorem idx0 (a0 a1 a2 a3 : Int) (w : World) : (Instr.index 25 (.agg #[.int .u64 a0, .int .u64 a1, .int .u64 a2, .int .u64 a3]) (.int .i64 0)).run Tryz.prog w = .ok (.int .u64 a0) w := by kernel_rfl
set_option maxHeartbeats 4000000 in
set_option maxRecDepth 20000 in
/-- The second reference's Add, of a little field. -/
theorem ref2AddL_any (s a b : Nat) (hs : s < 2) (ha : a < 115792089237316195423570985008687907853269984665640564039457584007913129639936) (hb : b < 115792089237316195423570985008687907853269984665640564039457584007913129639936) (w : World) :
    Calls Tryz.prog 69 #[.int .i64 (s : Int), .agg #[.int .u64 ((limb 0 (a) : Nat) : Int), .int .u64 ((limb 1 (a) : Nat) : Int), .int .u64 ((limb 2 (a) : Nat) : Int), .int .u64 ((limb 3 (a) : Nat) : Int)], .agg #[.int .u64 ((limb 0 (b) : Nat) : Int), .int .u64 ((limb 1 (b) : Nat) : Int), .int .u64 ((limb 2 (b) : Nat) : Int), .int .u64 ((limb 3 (b) : Nat) : Int)]] w fun e w' => e = .returned (.agg #[.int .u64 ((limb 0 (addP s a b) : Nat) : Int), .int .u64 ((limb 1 (addP s a b) : Nat) : Int), .int .u64 ((limb 2 (addP s a b) : Nat) : Int), .int .u64 ((limb 3 (addP s a b) : Nat) : Int)]) ∧ Below w.heap.size w w' := by
  obtain ⟨hms, hm0⟩ := modN_small s hs
  have HL := fun w => little_any s hs w
  have OA := fun w => ref2Of_any s a (by omega) ha w
  have OB := fun w => ref2Of_any s b (by omega) hb w
  have E1 : Hid ((a % modN s + b % modN s) % modN s = addP s a b) := addP_eq s a b
  have lx := Nat.mod_lt a hm0
  have ly := Nat.mod_lt b hm0
  obtain ⟨m, em⟩ : ∃ m, m = modN s := ⟨_, rfl⟩
  rw [← em] at hms hm0 HL OA OB E1 lx ly
  clear em
  obtain ⟨x, ex⟩ : ∃ x, x = a % m := ⟨_, rfl⟩
  obtain ⟨y, ey⟩ : ∃ y, y = b % m := ⟨_, rfl⟩
  rw [← ex] at OA E1 lx
  rw [← ey] at OB E1 ly
  clear ex ey
  have x0 : limb 0 x = x := limb_small x 0 (by omega)
  have y0 : limb 0 y = y := limb_small y 0 (by omega)
  have lr : (x + y) % m < m := Nat.mod_lt _ hm0
  have w1 : IntKind.u64.wrap ((x : Int) + (y : Int)) = ((x + y : Nat) : Int) := by rw [IntKind.wrap_u64]; omega
  have w2 : ((x + y : Nat) : Int) % (m : Int) = (((x + y) % m : Nat) : Int) := by rw [← Int.natCast_emod]
  have w3 : ((x + y : Nat) : Int).tmod (m : Int) = (((x + y) % m : Nat) : Int) := (Int.ofNat_tmod _ _).symm
  have hmN : ¬ m = 0 := by omega
  have E2 : Hid ((.agg #[.int .u64 ((limb 0 (addP s a b) : Nat) : Int), .int .u64 ((limb 1 (addP s a b) : Nat) : Int), .int .u64 ((limb 2 (addP s a b) : Nat) : Int), .int .u64 ((limb 3 (addP s a b) : Nat) : Int)] : Value) = .agg #[.int .u64 (((x + y) % m : Nat) : Int), .int .u64 0, .int .u64 0, .int .u64 0]) := by
    show _ = _
    rw [← E1.out]; exact word_agg' _ (by omega)
  obtain ⟨r, er⟩ : ∃ r, r = (x + y) % m := ⟨_, rfl⟩
  rw [← er] at E2 w2 w3 lr
  obtain ⟨t, et⟩ : ∃ t, t = x + y := ⟨_, rfl⟩
  rw [← et] at w1 w2 w3
  clear er et
  have ix := idx0
  have hm0' : ¬ (m : Int) = 0 := by omega
  have hmb : ((m : Int) == 0) = false := by rw [beq_eq_false_iff_ne]; exact hm0'
  have h2 : s = 0 ∨ s = 1 := by omega
  have hd : ((s : Int) == 0) = true ∨ (((s : Int) == 0) = false ∧ ((s : Int) == 1) = true) := by
    rcases h2 with rfl | rfl
    · exact Or.inl rfl
    · exact Or.inr ⟨rfl, rfl⟩
  clear h2
  go_enter Tryz.func69, Tryz.ntmps69
  rcases hd with hd | ⟨hd, hd1⟩
  · go_wp2_with fail
    obtain ⟨w0, hw0⟩ : ∃ w0 : World, w0 = ((w.alloc (.cells #[.int .u64 ((limb 0 (a) : Nat) : Int), .int .u64 ((limb 1 (a) : Nat) : Int), .int .u64 ((limb 2 (a) : Nat) : Int), .int .u64 ((limb 3 (a) : Nat) : Int)] 25)).alloc (.cells #[.int .u64 ((limb 0 (b) : Nat) : Int), .int .u64 ((limb 1 (b) : Nat) : Int), .int .u64 ((limb 2 (b) : Nat) : Int), .int .u64 ((limb 3 (b) : Nat) : Int)] 25)).alloc (.cells #[.int .u64 0, .int .u64 0, .int .u64 0, .int .u64 0] 25) := ⟨_, rfl⟩
    have ba0 : Blk w0 25 w.heap.size (fun i => limb i a) := by rw [hw0]; exact ((Blk.newAt _ _ _ (fun i => limb i a) (by simp)).alloc _).alloc _
    have bb0 : Blk w0 25 (w.heap.size + 1) (fun i => limb i b) := by rw [hw0]; exact (Blk.newAt _ _ _ (fun i => limb i b) (by simp)).alloc _
    have br0 : Blk w0 25 (w.heap.size + 1 + 1) (fun _ => 0) := by rw [hw0]; exact Blk.newAt _ _ _ (fun _ => 0) (by simp)
    have hb0 : Below w.heap.size w w0 := by
      rw [hw0]
      repeat (first | with_reducible exact Below.refl _ _ | with_reducible refine Below.alloc ?_ (by first | omega | (simp; omega) | simp) _)
    rw [← hw0]
    clear hw0
    go_region_held3 (fun w' => (∀ i, i < 4 → w'.cell? ⟨w.heap.size, i, none⟩ = some (.int .u64 ((limb i a : Nat) : Int))) ∧ (∀ i, i < 4 → w'.cell? ⟨(w.heap.size + 1), i, none⟩ = some (.int .u64 ((limb i b : Nat) : Int))))
      (first | with_reducible exact far2 _ _ _ _ (by omega) (by omega) (by with_reducible assumption) | with_reducible exact hold2 hb4 (by with_reducible assumption) | with_reducible exact hold2 hb3 (by with_reducible assumption) | with_reducible assumption | with_reducible exact ⟨ba0.drew.cell, bb0.drew.cell⟩)
      (first | (go_at_call 29; with_reducible refine (OA _).mono ?_; rintro e w3 ⟨rfl, hb3⟩) | (go_at_call 29; with_reducible refine (OB _).mono ?_; rintro e w4 ⟨rfl, hb4⟩; have br4 := (br0.drew.belowAll hb3).belowAll hb4; have cr := br4.cell; have fr := br4.frozen) | (go_at_call 65; with_reducible refine (HL _).mono ?_; rintro e w5 ⟨rfl, rfl⟩) | fail)
    all_goals
      have hbw4 := bStep (bStep hb0.drew hb3) hb4
      have lr4 := br4.lt
      go_wp2
      refine bodyPost_ret (v := .agg #[.int .u64 (r : Int), .int .u64 0, .int .u64 0, .int .u64 0]) (by simp [results, Tryz.results69, go_sem, cr]) rfl ⟨by rw [E2.out], ?_⟩
      repeat (first | with_reducible exact hbw4 | with_reducible refine Below.setCell ?_ (by first | omega | (simp; omega) | simp) _)
  · go_wp2_with fail
    obtain ⟨w0, hw0⟩ : ∃ w0 : World, w0 = ((w.alloc (.cells #[.int .u64 ((limb 0 (a) : Nat) : Int), .int .u64 ((limb 1 (a) : Nat) : Int), .int .u64 ((limb 2 (a) : Nat) : Int), .int .u64 ((limb 3 (a) : Nat) : Int)] 25)).alloc (.cells #[.int .u64 ((limb 0 (b) : Nat) : Int), .int .u64 ((limb 1 (b) : Nat) : Int), .int .u64 ((limb 2 (b) : Nat) : Int), .int .u64 ((limb 3 (b) : Nat) : Int)] 25)).alloc (.cells #[.int .u64 0, .int .u64 0, .int .u64 0, .int .u64 0] 25) := ⟨_, rfl⟩
    have ba0 : Blk w0 25 w.heap.size (fun i => limb i a) := by rw [hw0]; exact ((Blk.newAt _ _ _ (fun i => limb i a) (by simp)).alloc _).alloc _
    have bb0 : Blk w0 25 (w.heap.size + 1) (fun i => limb i b) := by rw [hw0]; exact (Blk.newAt _ _ _ (fun i => limb i b) (by simp)).alloc _
    have br0 : Blk w0 25 (w.heap.size + 1 + 1) (fun _ => 0) := by rw [hw0]; exact Blk.newAt _ _ _ (fun _ => 0) (by simp)
    have hb0 : Below w.heap.size w w0 := by
      rw [hw0]
      repeat (first | with_reducible exact Below.refl _ _ | with_reducible refine Below.alloc ?_ (by first | omega | (simp; omega) | simp) _)
    rw [← hw0]
    clear hw0
    go_region_held3 (fun w' => (∀ i, i < 4 → w'.cell? ⟨w.heap.size, i, none⟩ = some (.int .u64 ((limb i a : Nat) : Int))) ∧ (∀ i, i < 4 → w'.cell? ⟨(w.heap.size + 1), i, none⟩ = some (.int .u64 ((limb i b : Nat) : Int))))
      (first | with_reducible exact far2 _ _ _ _ (by omega) (by omega) (by with_reducible assumption) | with_reducible exact hold2 hb4 (by with_reducible assumption) | with_reducible exact hold2 hb3 (by with_reducible assumption) | with_reducible assumption | with_reducible exact ⟨ba0.drew.cell, bb0.drew.cell⟩)
      (first | (go_at_call 29; with_reducible refine (OA _).mono ?_; rintro e w3 ⟨rfl, hb3⟩) | (go_at_call 29; with_reducible refine (OB _).mono ?_; rintro e w4 ⟨rfl, hb4⟩; have br4 := (br0.drew.belowAll hb3).belowAll hb4; have cr := br4.cell; have fr := br4.frozen) | (go_at_call 65; with_reducible refine (HL _).mono ?_; rintro e w5 ⟨rfl, rfl⟩) | fail)
    all_goals
      have hbw4 := bStep (bStep hb0.drew hb3) hb4
      have lr4 := br4.lt
      go_wp2
      refine bodyPost_ret (v := .agg #[.int .u64 (r : Int), .int .u64 0, .int .u64 0, .int .u64 0]) (by simp [results, Tryz.results69, go_sem, cr]) rfl ⟨by rw [E2.out], ?_⟩
      repeat (first | with_reducible exact hbw4 | with_reducible refine Below.setCell ?_ (by first | omega | (simp; omega) | simp) _)
set_option maxHeartbeats 4000000 in
set_option maxRecDepth 20000 in
/-- The second reference's Add, of a great field. -/
theorem ref2AddG_any (s a b : Nat) (hs2 : 2 ≤ s) (hs : s < 4) (ha : a < 115792089237316195423570985008687907853269984665640564039457584007913129639936) (hb : b < 115792089237316195423570985008687907853269984665640564039457584007913129639936) (w : World) :
    Calls Tryz.prog 69 #[.int .i64 (s : Int), .agg #[.int .u64 ((limb 0 (a) : Nat) : Int), .int .u64 ((limb 1 (a) : Nat) : Int), .int .u64 ((limb 2 (a) : Nat) : Int), .int .u64 ((limb 3 (a) : Nat) : Int)], .agg #[.int .u64 ((limb 0 (b) : Nat) : Int), .int .u64 ((limb 1 (b) : Nat) : Int), .int .u64 ((limb 2 (b) : Nat) : Int), .int .u64 ((limb 3 (b) : Nat) : Int)]] w fun e w' => e = .returned (.agg #[.int .u64 ((limb 0 (addP s a b) : Nat) : Int), .int .u64 ((limb 1 (addP s a b) : Nat) : Int), .int .u64 ((limb 2 (addP s a b) : Nat) : Int), .int .u64 ((limb 3 (addP s a b) : Nat) : Int)]) ∧ Below w.heap.size w w' := by
  have hgl := (modN_good s).lt
  have OA := fun w => ref2Of_any s a hs ha w
  have OB := fun w => ref2Of_any s b hs hb w
  have OS := fun x (hx : x < 115792089237316195423570985008687907853269984665640564039457584007913129639936) w => ref2Of_any s x hs hx w
  have E1 : Hid ((a % modN s + b % modN s) % modN s = addP s a b) := addP_eq s a b
  have lx := Nat.mod_lt a hgl.1
  have ly := Nat.mod_lt b hgl.1
  obtain ⟨m, em⟩ : ∃ m, m = modN s := ⟨_, rfl⟩
  rw [← em] at hgl OA OB OS E1 lx ly
  clear em
  obtain ⟨h0, hm2, hm⟩ := hgl
  obtain ⟨x, ex⟩ : ∃ x, x = a % m := ⟨_, rfl⟩
  obtain ⟨y, ey⟩ : ∃ y, y = b % m := ⟨_, rfl⟩
  rw [← ex] at OA E1 lx
  rw [← ey] at OB E1 ly
  clear ex ey
  have PX := fun w => ref2Plus_any x y (by omega) (by omega) w
  rw [show add256 x y = x + y from Nat.mod_eq_of_lt (by omega)] at PX
  have OT := fun w => OS (x + y) (by omega) w
  have n0 : ((s : Int) == 0) = false := by rw [beq_eq_false_iff_ne]; omega
  have n1 : ((s : Int) == 1) = false := by rw [beq_eq_false_iff_ne]; omega
  obtain ⟨t, et⟩ : ∃ t, t = x + y := ⟨_, rfl⟩
  rw [← et] at PX OT E1
  clear et OS
  go_enter Tryz.func69, Tryz.ntmps69
  go_wp2_with fail
  obtain ⟨w0, hw0⟩ : ∃ w0 : World, w0 = ((w.alloc (.cells #[.int .u64 ((limb 0 (a) : Nat) : Int), .int .u64 ((limb 1 (a) : Nat) : Int), .int .u64 ((limb 2 (a) : Nat) : Int), .int .u64 ((limb 3 (a) : Nat) : Int)] 25)).alloc (.cells #[.int .u64 ((limb 0 (b) : Nat) : Int), .int .u64 ((limb 1 (b) : Nat) : Int), .int .u64 ((limb 2 (b) : Nat) : Int), .int .u64 ((limb 3 (b) : Nat) : Int)] 25)).alloc (.cells #[.int .u64 0, .int .u64 0, .int .u64 0, .int .u64 0] 25) := ⟨_, rfl⟩
  have ba0 : Blk w0 25 w.heap.size (fun i => limb i a) := by rw [hw0]; exact ((Blk.newAt _ _ _ (fun i => limb i a) (by simp)).alloc _).alloc _
  have bb0 : Blk w0 25 (w.heap.size + 1) (fun i => limb i b) := by rw [hw0]; exact (Blk.newAt _ _ _ (fun i => limb i b) (by simp)).alloc _
  have br0 : Blk w0 25 (w.heap.size + 1 + 1) (fun _ => 0) := by rw [hw0]; exact Blk.newAt _ _ _ (fun _ => 0) (by simp)
  have hb0 : Below w.heap.size w w0 := by
    rw [hw0]
    repeat (first | with_reducible exact Below.refl _ _ | with_reducible refine Below.alloc ?_ (by first | omega | (simp; omega) | simp) _)
  rw [← hw0]
  clear hw0
  go_region_held3 (fun w' => (∀ i, i < 4 → w'.cell? ⟨w.heap.size, i, none⟩ = some (.int .u64 ((limb i a : Nat) : Int))) ∧ (∀ i, i < 4 → w'.cell? ⟨(w.heap.size + 1), i, none⟩ = some (.int .u64 ((limb i b : Nat) : Int))))
    (first | with_reducible exact far2 _ _ _ _ (by omega) (by omega) (by with_reducible assumption) | with_reducible exact hold2 hb6 (by with_reducible assumption) | with_reducible exact hold2 hb5 (by with_reducible assumption) | with_reducible exact hold2 hb4 (by with_reducible assumption) | with_reducible exact hold2 hb3 (by with_reducible assumption) | with_reducible exact ⟨ba0.drew.cell, bb0.drew.cell⟩)
    (first | (go_at_call 29; with_reducible refine (OA _).mono ?_; rintro e w3 ⟨rfl, hb3⟩) | (go_at_call 29; with_reducible refine (OB _).mono ?_; rintro e w4 ⟨rfl, hb4⟩) | (go_at_call 70; with_reducible refine (PX _).mono ?_; rintro e w5 ⟨rfl, hb5⟩) | (go_at_call 29; with_reducible refine (OT _).mono ?_; rintro e w6 ⟨rfl, hb6⟩; have br6 := (((br0.drew.belowAll hb3).belowAll hb4).belowAll hb5).belowAll hb6; have cr := br6.cell; have fr := br6.frozen) | fail)
  have hbw6 := bStep (bStep (bStep (bStep hb0.drew hb3) hb4) hb5) hb6
  have lr6 := br6.lt
  go_wp2
  refine bodyPost_ret (v := .agg #[.int .u64 ((limb 0 (t % m) : Nat) : Int), .int .u64 ((limb 1 (t % m) : Nat) : Int), .int .u64 ((limb 2 (t % m) : Nat) : Int), .int .u64 ((limb 3 (t % m) : Nat) : Int)]) (by simp [results, Tryz.results69, go_sem, cr]) rfl ⟨by rw [E1.out], ?_⟩
  repeat (first | with_reducible exact hbw6 | with_reducible refine Below.setCell ?_ (by first | omega | (simp; omega) | simp) _)
/-- The second reference's Add. -/
theorem ref2Add_any (s a b : Nat) (hs : s < 4) (ha : a < 115792089237316195423570985008687907853269984665640564039457584007913129639936) (hb : b < 115792089237316195423570985008687907853269984665640564039457584007913129639936) (w : World) :
    Calls Tryz.prog 69 #[.int .i64 (s : Int), .agg #[.int .u64 ((limb 0 (a) : Nat) : Int), .int .u64 ((limb 1 (a) : Nat) : Int), .int .u64 ((limb 2 (a) : Nat) : Int), .int .u64 ((limb 3 (a) : Nat) : Int)], .agg #[.int .u64 ((limb 0 (b) : Nat) : Int), .int .u64 ((limb 1 (b) : Nat) : Int), .int .u64 ((limb 2 (b) : Nat) : Int), .int .u64 ((limb 3 (b) : Nat) : Int)]] w fun e w' => e = .returned (.agg #[.int .u64 ((limb 0 (addP s a b) : Nat) : Int), .int .u64 ((limb 1 (addP s a b) : Nat) : Int), .int .u64 ((limb 2 (addP s a b) : Nat) : Int), .int .u64 ((limb 3 (addP s a b) : Nat) : Int)]) ∧ Below w.heap.size w w' := by
  rcases Nat.lt_or_ge s 2 with h | h
  · exact ref2AddL_any s a b h ha hb w
  · exact ref2AddG_any s a b h hs ha hb w
end Go.Proofs.YtfbfenljfdnggaaGreatDoor
/- What the second reference's Neg and Sub do. -/
namespace Go.Proofs.YtfbfenljfdnggaaGreatDoor
open Go.RowKit
end Go.Proofs.YtfbfenljfdnggaaGreatDoor
/- What field.Modulus and field.Adicity do, and the second reference's Adicity. -/
namespace Go.Proofs.YtfbfenljfdnggaaGreatDoor
open Go.RowKit
set_option maxHeartbeats 2000000 in
/-- field.Modulus of a sort that there is. -/
theorem fModulus_any (s : Nat) (hs : s < 4) (w : World) (hg : Glob w) :
    Calls Tryz.prog 45 #[.int .i64 (s : Int)] w fun e w' => e = .returned (.tuple #[.agg #[.int .u64 ((limb 0 (modN s) : Nat) : Int), .int .u64 ((limb 1 (modN s) : Nat) : Int), .int .u64 ((limb 2 (modN s) : Nat) : Int), .int .u64 ((limb 3 (modN s) : Nat) : Int)], .int .i64 0]) ∧ Below w.heap.size w w' := by
  have HM := fun w hg => modulus_any s hs w hg
  obtain ⟨m, em⟩ : ∃ m, m = modN s := ⟨_, rfl⟩
  rw [← em] at HM ⊢
  clear em hs
  go_enter Tryz.func45, Tryz.ntmps45
  go_wp2_with fail
  obtain ⟨w0, hw0⟩ : ∃ w0 : World, w0 = w.alloc (.cells #[.int .u64 0, .int .u64 0, .int .u64 0, .int .u64 0] 25) := ⟨_, rfl⟩
  have br0 : Blk w0 25 w.heap.size (fun _ => 0) := by rw [hw0]; exact Blk.newAt _ _ _ (fun _ => 0) (by simp)
  have hg0 : Glob w0 := by rw [hw0]; exact hg.alloc _
  have hb0 : Below w.heap.size w w0 := by rw [hw0]; exact (Below.refl _ _).alloc (Nat.le_refl _) _
  rw [← hw0]
  clear hw0 hg
  refine (HM _ hg0).mono ?_
  rintro e w1 ⟨rfl, hb1⟩
  have br1 := br0.belowAll hb1
  have hbw1 := bStep hb0 hb1
  have lr1 := br1.lt
  clear br0 hb0 hb1 hg0 HM
  go_wp2_with fail
  refine (toElem_any m _).mono ?_
  rintro e w2 ⟨rfl, hb2⟩
  have br2 := (br1.alloc _).belowAll hb2
  have hbw2 := bStep (bAlloc hbw1 _) hb2
  have cr := br2.cell; have fr := br2.frozen; have lr2 := br2.lt
  clear br1 hbw1 hb2
  go_wp2
  refine bodyPost_ret (v := .tuple #[.agg #[.int .u64 ((limb 0 (m) : Nat) : Int), .int .u64 ((limb 1 (m) : Nat) : Int), .int .u64 ((limb 2 (m) : Nat) : Int), .int .u64 ((limb 3 (m) : Nat) : Int)], .int .i64 0]) (by simp [results, Tryz.results45, go_sem, cr]) rfl ⟨rfl, ?_⟩
  repeat (first | with_reducible exact hbw2 | with_reducible refine Below.setCell ?_ (by first | omega | (simp; omega) | simp) _)
set_option maxHeartbeats 2000000 in
/-- The second reference's Adicity of a sort that there is. -/
theorem ref2Adicity_any (s : Nat) (hs : s < 4) (w : World) :
    Calls Tryz.prog 71 #[.int .i64 (s : Int)] w fun e w' => e = .returned (.tuple #[.int .i64 ((adicN s : Nat) : Int), .int .i64 0]) ∧ Below w.heap.size w w' := by
  have h4 : s = 0 ∨ s = 1 ∨ s = 2 ∨ s = 3 := by omega
  rcases h4 with rfl | rfl | rfl | rfl
  · go_enter Tryz.func71, Tryz.ntmps71
    go_wp2
    refine bodyPost_ret (v := .tuple #[.int .i64 9, .int .i64 0]) (by simp [results, Tryz.results71, go_sem]) rfl ⟨rfl, ?_⟩
    repeat (first | with_reducible exact Below.refl _ _ | with_reducible refine Below.drew ?_ | with_reducible refine Below.setCell ?_ (by first | omega | (simp; omega) | simp) _ | with_reducible refine Below.alloc ?_ (by first | omega | (simp; omega) | simp) _)
  · go_enter Tryz.func71, Tryz.ntmps71
    go_wp2
    refine bodyPost_ret (v := .tuple #[.int .i64 11, .int .i64 0]) (by simp [results, Tryz.results71, go_sem]) rfl ⟨rfl, ?_⟩
    repeat (first | with_reducible exact Below.refl _ _ | with_reducible refine Below.drew ?_ | with_reducible refine Below.setCell ?_ (by first | omega | (simp; omega) | simp) _ | with_reducible refine Below.alloc ?_ (by first | omega | (simp; omega) | simp) _)
  · go_enter Tryz.func71, Tryz.ntmps71
    go_wp2
    refine bodyPost_ret (v := .tuple #[.int .i64 32, .int .i64 0]) (by simp [results, Tryz.results71, go_sem]) rfl ⟨rfl, ?_⟩
    repeat (first | with_reducible exact Below.refl _ _ | with_reducible refine Below.drew ?_ | with_reducible refine Below.setCell ?_ (by first | omega | (simp; omega) | simp) _ | with_reducible refine Below.alloc ?_ (by first | omega | (simp; omega) | simp) _)
  · go_enter Tryz.func71, Tryz.ntmps71
    go_wp2
    refine bodyPost_ret (v := .tuple #[.int .i64 32, .int .i64 0]) (by simp [results, Tryz.results71, go_sem]) rfl ⟨rfl, ?_⟩
    repeat (first | with_reducible exact Below.refl _ _ | with_reducible refine Below.drew ?_ | with_reducible refine Below.setCell ?_ (by first | omega | (simp; omega) | simp) _ | with_reducible refine Below.alloc ?_ (by first | omega | (simp; omega) | simp) _)
end Go.Proofs.YtfbfenljfdnggaaGreatDoor

/- What field.Adicity does; what field.Modulus, field.Adicity and the second reference's Adicity do at a sort that there isn't. -/
namespace Go.Proofs.YtfbfenljfdnggaaGreatDoor
open Go.RowKit
set_option maxHeartbeats 2000000 in
/-- field.Adicity of a sort that there is. -/
theorem fAdicity_any (s : Nat) (hs : s < 4) (w : World) (hg : Glob w) :
    Calls Tryz.prog 98 #[.int .i64 (s : Int)] w fun e w' => e = .returned (.tuple #[.int .i64 ((adicN s : Nat) : Int), .int .i64 0]) ∧ Below w.heap.size w w' := by
  have HM := fun w hg => modulus_any s hs w hg
  have h4 : s = 0 ∨ s = 1 ∨ s = 2 ∨ s = 3 := by omega
  rcases h4 with rfl | rfl | rfl | rfl
  · go_enter Tryz.func98, Tryz.ntmps98
    go_wp2_with fail
    refine (HM _ hg).mono ?_
    rintro e w1 ⟨rfl, hb1⟩
    have c1 : w1.cell? ⟨1, 4, none⟩ = some (.int .i64 9) := ((hg.below hb1).2.1 0 (by decide)).2
    have lg : 1 < w1.heap.size := by have := (hg.below hb1).1; omega
    obtain ⟨hA, hG⟩ := acell (w := w1) (n := w1.heap.size) (Nat.le_refl _)
    clear hg HM
    go_wp2
    refine bodyPost_ret (v := .tuple #[.int .i64 9, .int .i64 0]) (by simp [results, Tryz.results98, go_sem]) rfl ⟨rfl, ?_⟩
    repeat (first | with_reducible exact hb1 | with_reducible exact bAlloc hb1 _)
  · go_enter Tryz.func98, Tryz.ntmps98
    go_wp2_with fail
    refine (HM _ hg).mono ?_
    rintro e w1 ⟨rfl, hb1⟩
    have c1 : w1.cell? ⟨1, 9, none⟩ = some (.int .i64 11) := ((hg.below hb1).2.1 1 (by decide)).2
    have lg : 1 < w1.heap.size := by have := (hg.below hb1).1; omega
    obtain ⟨hA, hG⟩ := acell (w := w1) (n := w1.heap.size) (Nat.le_refl _)
    clear hg HM
    go_wp2
    refine bodyPost_ret (v := .tuple #[.int .i64 11, .int .i64 0]) (by simp [results, Tryz.results98, go_sem]) rfl ⟨rfl, ?_⟩
    repeat (first | with_reducible exact hb1 | with_reducible exact bAlloc hb1 _)
  · go_enter Tryz.func98, Tryz.ntmps98
    go_wp2_with fail
    refine (HM _ hg).mono ?_
    rintro e w1 ⟨rfl, hb1⟩
    have c1 : w1.cell? ⟨1, 14, none⟩ = some (.int .i64 32) := ((hg.below hb1).2.1 2 (by decide)).2
    have lg : 1 < w1.heap.size := by have := (hg.below hb1).1; omega
    obtain ⟨hA, hG⟩ := acell (w := w1) (n := w1.heap.size) (Nat.le_refl _)
    clear hg HM
    go_wp2
    refine bodyPost_ret (v := .tuple #[.int .i64 32, .int .i64 0]) (by simp [results, Tryz.results98, go_sem]) rfl ⟨rfl, ?_⟩
    repeat (first | with_reducible exact hb1 | with_reducible exact bAlloc hb1 _)
  · go_enter Tryz.func98, Tryz.ntmps98
    go_wp2_with fail
    refine (HM _ hg).mono ?_
    rintro e w1 ⟨rfl, hb1⟩
    have c1 : w1.cell? ⟨1, 19, none⟩ = some (.int .i64 32) := ((hg.below hb1).2.1 3 (by decide)).2
    have lg : 1 < w1.heap.size := by have := (hg.below hb1).1; omega
    obtain ⟨hA, hG⟩ := acell (w := w1) (n := w1.heap.size) (Nat.le_refl _)
    clear hg HM
    go_wp2
    refine bodyPost_ret (v := .tuple #[.int .i64 32, .int .i64 0]) (by simp [results, Tryz.results98, go_sem]) rfl ⟨rfl, ?_⟩
    repeat (first | with_reducible exact hb1 | with_reducible exact bAlloc hb1 _)
end Go.Proofs.YtfbfenljfdnggaaGreatDoor
/- What field's functions and the second reference's do at a sort that there isn't. -/
namespace Go.Proofs.YtfbfenljfdnggaaGreatDoor
open Go.RowKit
set_option maxHeartbeats 4000000 in
set_option maxRecDepth 20000 in
/-- field.Modulus of a sort that there isn't. -/
theorem fModulus_out (s : Int) (hs : s < 0 ∨ 4 ≤ s) (w : World) :
    Calls Tryz.prog 45 #[.int .i64 s] w fun e w' => e = .returned (.tuple #[.agg #[.int .u64 0, .int .u64 0, .int .u64 0, .int .u64 0], .int .i64 20]) ∧ Below w.heap.size w w' := by
  have HM := fun w => modulus_out s hs w
  clear hs
  go_enter Tryz.func45, Tryz.ntmps45
  go_wp2_with fail
  obtain ⟨w0, hw0⟩ : ∃ w0 : World, w0 = w.alloc (.cells #[.int .u64 0, .int .u64 0, .int .u64 0, .int .u64 0] 25) := ⟨_, rfl⟩
  have br0 : Blk w0 25 (w.heap.size) (fun _ => 0) := by rw [hw0]; exact Blk.newAt _ _ _ (fun _ => 0) (by simp)
  have hb0 : Below w.heap.size w w0 := by
    rw [hw0]
    repeat (first | with_reducible exact Below.refl _ _ | with_reducible refine Below.alloc ?_ (by first | omega | (simp; omega) | simp) _)
  rw [← hw0]
  clear hw0
  refine (HM _).mono ?_
  rintro e w1 ⟨rfl, hb1⟩
  have br1 := br0.belowAll hb1
  have hbw1 := bStep hb0 hb1
  have cr := br1.cell; have fr := br1.frozen; have lr := br1.lt
  clear br0 hb0 hb1
  go_wp2
  have hz1 := hbw1.size
  refine bodyPost_ret (v := .tuple #[.agg #[.int .u64 0, .int .u64 0, .int .u64 0, .int .u64 0], .int .i64 20]) (by simp [results, Tryz.results45, go_sem, cr, cell_old, lr]) rfl ⟨rfl, ?_⟩
  repeat (first | with_reducible exact hbw1 | with_reducible refine Below.setCell ?_ (by first | omega | (simp; omega) | simp) _ | with_reducible refine Below.alloc ?_ (by first | omega | (simp; omega) | simp) _)
end Go.Proofs.YtfbfenljfdnggaaGreatDoor
/- What field.Int and the second reference's Int do. -/
namespace Go.Proofs.YtfbfenljfdnggaaGreatDoor
open Go.RowKit
end Go.Proofs.YtfbfenljfdnggaaGreatDoor

