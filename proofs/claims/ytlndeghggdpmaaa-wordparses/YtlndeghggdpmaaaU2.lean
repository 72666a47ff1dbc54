/- What word.digit, word.appendDigit and strings.CutPrefix do. -/
import Derived.Test.YtlndeghggdpmaaaU1
import Derived.Test.YtlndeghggdpmaaaCore2
import Derived.Test.YtlndeghggdpmaaaStep
import Derived.Deep.CutBlock
import Derived.Deep.DeepCutAuto
namespace Go.Proofs.Ytlndeghggdpmaaa
open Go.RowKit

theorem limb_sw (x i : Nat) (h : x < 18446744073709551616) : limb i x = if i = 0 then x else 0 := by
  unfold limb
  by_cases hi : i = 0
  · subst hi; rw [if_pos rfl, Nat.pow_zero, Nat.div_one, Nat.mod_eq_of_lt h]
  · rw [if_neg hi]
    have h1 : (18446744073709551616 : Nat) ^ 1 ≤ 18446744073709551616 ^ i := Nat.pow_le_pow_right (by decide) (by omega)
    rw [Nat.pow_one] at h1
    rw [Nat.div_eq_of_lt (by omega), Nat.zero_mod]
set_option maxHeartbeats 4000000 in
theorem digit_ok (b r d : Nat) (hb : b = 10 ∨ b = 16) (h : digV b r = some d) (w : World) :
    Calls Try.prog 29 #[.int .i32 (r : Int), .int .u64 (b : Int)] w fun e w' => e = .returned (.tuple #[.int .u64 (d : Int), .bool true]) ∧ w' = w := by
  have hd := digV_lt h
  unfold digV at h
  obtain ⟨ri, eri⟩ : ∃ ri : Int, ri = (r : Int) := ⟨_, rfl⟩
  obtain ⟨di, edi⟩ : ∃ di : Int, di = (d : Int) := ⟨_, rfl⟩
  rw [← eri, ← edi]
  have d0 : 0 ≤ di := by omega
  have d1 : di < 16 := by omega
  split at h
  · simp at h
    have h1 : 48 ≤ ri := by omega
    have h2 : ri ≤ 57 := by omega
    have h3 : ri - 48 = di := by omega
    clear h eri edi hb hd
    go_enter Try.func29, Try.ntmps29
    go_wp2
    go_ret2
    exact ⟨rfl, rfl⟩
  · split at h
    · simp at h
      have h1 : 65296 ≤ ri := by omega
      have h2 : ri ≤ 65305 := by omega
      have h3 : ri - 65296 = di := by omega
      clear h eri edi hb hd
      go_enter Try.func29, Try.ntmps29
      go_wp2
      go_ret2
      exact ⟨rfl, rfl⟩
    · split at h
      · rename_i _ _ hr
        simp at h
        obtain ⟨rfl, hr1, hr2⟩ := hr
        have h1 : 97 ≤ ri := by omega
        have h2 : ri ≤ 102 := by omega
        have h3 : ri - 97 + 10 = di := by omega
        clear h eri edi hb hd
        go_enter Try.func29, Try.ntmps29
        go_wp2
        go_ret2
        exact ⟨rfl, rfl⟩
      · split at h
        · rename_i _ _ _ hr
          simp at h
          obtain ⟨rfl, hr1, hr2⟩ := hr
          have h1 : 65 ≤ ri := by omega
          have h2 : ri ≤ 70 := by omega
          have h3 : ri - 65 + 10 = di := by omega
          clear h eri edi hb hd
          go_enter Try.func29, Try.ntmps29
          go_wp2
          go_ret2
          exact ⟨rfl, rfl⟩
        · cases h

set_option maxHeartbeats 4000000 in
theorem digit_no (b r : Nat) (hb : b = 10 ∨ b = 16) (h : digV b r = none) (w : World) :
    Calls Try.prog 29 #[.int .i32 (r : Int), .int .u64 (b : Int)] w fun e w' => e = .returned (.tuple #[.int .u64 0, .bool false]) ∧ w' = w := by
  unfold digV at h
  have n1 : ¬ (48 ≤ r ∧ r ≤ 57) := fun hh => by rw [if_pos hh] at h; cases h
  rw [if_neg n1] at h
  have n2 : ¬ (65296 ≤ r ∧ r ≤ 65305) := fun hh => by rw [if_pos hh] at h; cases h
  rw [if_neg n2] at h
  have n3 : ¬ (b = 16 ∧ 97 ≤ r ∧ r ≤ 102) := fun hh => by rw [if_pos hh] at h; cases h
  rw [if_neg n3] at h
  have n4 : ¬ (b = 16 ∧ 65 ≤ r ∧ r ≤ 70) := fun hh => by rw [if_pos hh] at h; cases h
  clear h
  obtain ⟨ri, eri⟩ : ∃ ri : Int, ri = (r : Int) := ⟨_, rfl⟩
  rw [← eri]
  have hc : ri < 48 ∨ (57 < ri ∧ ri < 65) ∨ (65 ≤ ri ∧ ri ≤ 70 ∧ b = 10) ∨ (70 < ri ∧ ri < 97) ∨ (97 ≤ ri ∧ ri ≤ 102 ∧ b = 10) ∨ (102 < ri ∧ ri < 65296) ∨ 65305 < ri := by omega
  clear n1 n2 n3 n4
  have r0 : 0 ≤ ri := by omega
  clear eri
  rcases hb with rfl | rfl
  all_goals rcases hc with hc | hc | hc | hc | hc | hc | hc
  all_goals try (exfalso; omega)
  all_goals (try obtain ⟨c1, c2, _⟩ := hc)
  all_goals (try obtain ⟨c1, c2⟩ := hc)
  all_goals (
    go_enter Try.func29, Try.ntmps29
    go_wp2
    go_ret2
    exact ⟨rfl, rfl⟩)

theorem step_sum (b num d : Nat) : add256 (lo256 (num * b)) d = stepN b num d := by
  unfold add256 lo256 stepN
  rw [Nat.mod_add_mod]
theorem step_over (b num d : Nat) (hd : d < 115792089237316195423570985008687907853269984665640564039457584007913129639936) : (over256 (lo256 (num * b)) d = true → stepL b num d = true) ∧ (over256 (lo256 (num * b)) d = false → (((hi256 (num * b) : Nat) : Int) != 0) = stepL b num d) := by
  unfold over256 lo256 hi256 stepL
  have h := Nat.div_add_mod (num * b) 115792089237316195423570985008687907853269984665640564039457584007913129639936
  generalize num * b = x at h ⊢
  have hl := Nat.mod_lt x (show 0 < 115792089237316195423570985008687907853269984665640564039457584007913129639936 by decide)
  generalize x % 115792089237316195423570985008687907853269984665640564039457584007913129639936 = l at h hl ⊢
  generalize x / 115792089237316195423570985008687907853269984665640564039457584007913129639936 = q at h ⊢
  constructor
  · intro h1
    simp only [decide_eq_true_eq] at h1 ⊢
    omega
  · intro h1
    simp only [decide_eq_false_iff_not] at h1
    rw [Bool.eq_iff_iff]
    simp only [bne_iff_ne, decide_eq_true_eq]
    omega

set_option maxHeartbeats 4000000 in
set_option maxRecDepth 20000 in
theorem appendDigit_any (b num d : Nat) (hb : b < 18446744073709551616) (hd : d < 18446744073709551616) (hn : num < 115792089237316195423570985008687907853269984665640564039457584007913129639936) (w : World) :
    Calls Try.prog 30 #[.agg #[.int .u64 ((limb 0 (num) : Nat) : Int), .int .u64 ((limb 1 (num) : Nat) : Int), .int .u64 ((limb 2 (num) : Nat) : Int), .int .u64 ((limb 3 (num) : Nat) : Int)], .int .u64 (b : Int), .int .u64 (d : Int)] w fun e w' => e = .returned (.tuple #[.agg #[.int .u64 ((limb 0 (stepN b num d) : Nat) : Int), .int .u64 ((limb 1 (stepN b num d) : Nat) : Int), .int .u64 ((limb 2 (stepN b num d) : Nat) : Int), .int .u64 ((limb 3 (stepN b num d) : Nat) : Int)], .bool (stepL b num d)]) ∧ Below w.heap.size w w' := by
  have MW := fun w => mulWord_any num b hn hb w
  have AD := fun w => add_any (lo256 (num * b)) d (Nat.mod_lt _ (by decide)) (by omega) w
  have hov := step_over b num d (by omega)
  rw [step_sum] at AD
  rw [show (.agg #[.int .u64 ((limb 0 (d) : Nat) : Int), .int .u64 ((limb 1 (d) : Nat) : Int), .int .u64 ((limb 2 (d) : Nat) : Int), .int .u64 ((limb 3 (d) : Nat) : Int)] : Value) = .agg #[.int .u64 (d : Int), .int .u64 0, .int .u64 0, .int .u64 0] from by
    rw [limb_sw d 0 hd, limb_sw d 1 hd, limb_sw d 2 hd, limb_sw d 3 hd, if_pos rfl, if_neg (by decide), if_neg (by decide), if_neg (by decide)]; rfl] at AD
  obtain ⟨p, ep⟩ : ∃ p, p = lo256 (num * b) := ⟨_, rfl⟩
  obtain ⟨q, eq⟩ : ∃ q, q = hi256 (num * b) := ⟨_, rfl⟩
  obtain ⟨sn, esn⟩ : ∃ sn, sn = stepN b num d := ⟨_, rfl⟩
  obtain ⟨sl, esl⟩ : ∃ sl, sl = stepL b num d := ⟨_, rfl⟩
  obtain ⟨ov, eov⟩ : ∃ ov, ov = over256 (lo256 (num * b)) d := ⟨_, rfl⟩
  rw [← eov] at AD hov
  rw [← ep] at MW AD
  rw [← eq] at MW hov
  rw [← esn] at AD ⊢
  rw [← esl] at hov ⊢
  clear ep eq esn esl eov hn
  go_enter Try.func30, Try.ntmps30
  go_wp2_with fail
  obtain ⟨w0, hw0⟩ : ∃ w0 : World, w0 = (w.alloc (.cells #[.int .u64 ((limb 0 (num) : Nat) : Int), .int .u64 ((limb 1 (num) : Nat) : Int), .int .u64 ((limb 2 (num) : Nat) : Int), .int .u64 ((limb 3 (num) : Nat) : Int)] 24)).alloc (.cells #[.int .u64 0, .int .u64 0, .int .u64 0, .int .u64 0] 24) := ⟨_, rfl⟩
  have br0 : Blk w0 24 (w.heap.size + 1) (fun _ => 0) := by rw [hw0]; exact Blk.newAt _ _ _ (fun _ => 0) (by simp)
  have hbw0 : Below w.heap.size w w0 := by
    rw [hw0]
    repeat (first | with_reducible exact Below.refl _ _ | with_reducible refine Below.alloc ?_ (by first | omega | (simp; omega) | simp) _)
  rw [← hw0]
  clear hw0
  refine (MW _).mono ?_
  rintro e w1 ⟨rfl, hb1⟩
  have br1 := br0.belowAll hb1
  have hbw1 := bStep hbw0 hb1
  clear br0 hbw0 hb1 MW
  obtain ⟨N8, e8⟩ : ∃ N8, N8 = w1.heap.size := ⟨_, rfl⟩
  obtain ⟨w2, hw2⟩ : ∃ w2 : World, w2 = w1.alloc (.cells #[.int .u64 ((limb 0 (p) : Nat) : Int), .int .u64 ((limb 1 (p) : Nat) : Int), .int .u64 ((limb 2 (p) : Nat) : Int), .int .u64 ((limb 3 (p) : Nat) : Int)] 24) := ⟨_, rfl⟩
  have br2 : Blk w2 24 (w.heap.size + 1) (fun _ => 0) := by rw [hw2]; exact br1.alloc _
  have bp2 : Blk w2 24 N8 (fun i => limb i p) := by rw [hw2]; exact Blk.newAt _ _ _ (fun i => limb i p) e8
  have hbw2 : Below w.heap.size w w2 := by rw [hw2]; exact bAlloc hbw1 _
  go_upto_region 2 with fail
  rw [← hw2, ← e8]
  clear hw2 e8 br1 hbw1
  have cp := bp2.cell
  go_wp2_with fail
  refine (AD _).mono ?_
  rintro e w3 ⟨rfl, hb3⟩
  have br3 := br2.belowAll hb3
  have hbw3 := bStep hbw2 hb3
  clear br2 bp2 hbw2 hb3 AD cp
  obtain ⟨N10, e10⟩ : ∃ N10, N10 = w3.heap.size := ⟨_, rfl⟩
  obtain ⟨w4, hw4⟩ : ∃ w4 : World, w4 = w3.alloc (.cells #[.int .u64 ((limb 0 (sn) : Nat) : Int), .int .u64 ((limb 1 (sn) : Nat) : Int), .int .u64 ((limb 2 (sn) : Nat) : Int), .int .u64 ((limb 3 (sn) : Nat) : Int)] 24) := ⟨_, rfl⟩
  have br4 : Blk w4 24 (w.heap.size + 1) (fun _ => 0) := by rw [hw4]; exact br3.alloc _
  have bp4 : Blk w4 24 N10 (fun i => limb i sn) := by rw [hw4]; exact Blk.newAt _ _ _ (fun i => limb i sn) e10
  have hbw4 : Below w.heap.size w w4 := by rw [hw4]; exact bAlloc hbw3 _
  have l10 : w.heap.size + 1 < N10 := by have := br3.lt; omega
  go_upto_region 3 with fail
  rw [← hw4, ← e10]
  clear hw4 e10 br3 hbw3
  have cp := bp4.cell; have cr := br4.cell; have fr := br4.frozen
  have hcases : (ov = true ∧ sl = true) ∨ (ov = false ∧ ((q : Int) != 0) = sl) := by
    cases ov with
    | true => exact Or.inl ⟨rfl, hov.1 rfl⟩
    | false => exact Or.inr ⟨rfl, hov.2 rfl⟩
  clear hov
  rcases hcases with ⟨rfl, rfl⟩ | ⟨rfl, hq⟩
  all_goals
    go_wp2
    refine bodyPost_ret (by simp [results, Try.results30, go_sem, cr]) rfl ⟨rfl, ?_⟩
    repeat (first | with_reducible exact hbw4 | with_reducible refine Below.setCell ?_ (by first | omega | (simp; omega) | simp) _)

set_option maxHeartbeats 1000000 in
theorem hasPrefix_any (s : ByteArray) (w : World) :
    Calls Try.prog 54 #[.string s, .string ⟨#[48, 120]⟩] w fun e w' => e = .returned (.bool (has0x s)) ∧ w' = w := by
  unfold has0x
  by_cases h : 2 ≤ s.size
  · have h1 : (2 : Int) ≤ (s.size : Int) := by omega
    rw [show decide (2 ≤ s.size) = true from by simp [h], Bool.true_and]
    obtain ⟨x, ex⟩ : ∃ x, x = ((s.extract 0 2).toList == [48, 120]) := ⟨_, rfl⟩
    rw [← ex]
    have hx := ex.symm
    clear ex
    go_enter Try.func54, Try.ntmps54
    go_wp2
    go_ret
    exact ⟨rfl, rfl⟩
  · have h1 : ¬ (2 : Int) ≤ (s.size : Int) := by omega
    rw [show decide (2 ≤ s.size) = false from by simp [h], Bool.false_and]
    go_enter Try.func54, Try.ntmps54
    go_wp2
    go_ret
    exact ⟨rfl, rfl⟩
theorem has0x_size {s : ByteArray} (h : has0x s = true) : 2 ≤ s.size := by
  unfold has0x at h
  rw [Bool.and_eq_true] at h
  simpa using h.1
/-- What is behind 0x, or the whole. -/
def bodyOf (s : ByteArray) : ByteArray := if has0x s = true then s.extract 2 s.size else s
set_option maxHeartbeats 1000000 in
theorem cutLite_any (s : ByteArray) (w : World) :
    Calls Try.prog 48 #[.string s, .string ⟨#[48, 120]⟩] w fun e w' => e = .returned (.tuple #[.string (bodyOf s), .bool (has0x s)]) ∧ w' = w := by
  have HP := fun w => hasPrefix_any s w
  by_cases h : has0x s = true
  · have hs := has0x_size h
    have h1 : (2 : Int) ≤ (s.size : Int) := by omega
    unfold bodyOf
    rw [if_pos h]
    rw [h] at HP ⊢
    clear h
    go_enter Try.func48, Try.ntmps48
    go_wp2_with fail
    refine (HP _).mono ?_
    rintro e w1 ⟨rfl, rfl⟩
    go_wp2
    go_ret2
    exact ⟨rfl, rfl⟩
  · unfold bodyOf
    rw [if_neg h]
    have h2 : has0x s = false := by simpa using h
    rw [h2] at HP ⊢
    clear h h2
    go_enter Try.func48, Try.ntmps48
    go_wp2_with fail
    refine (HP _).mono ?_
    rintro e w1 ⟨rfl, rfl⟩
    go_wp2
    go_ret2
    exact ⟨rfl, rfl⟩
set_option maxHeartbeats 1000000 in
theorem cut_any (s : ByteArray) (w : World) :
    Calls Try.prog 28 #[.string s, .string ⟨#[48, 120]⟩] w fun e w' => e = .returned (.tuple #[.string (bodyOf s), .bool (has0x s)]) ∧ w' = w := by
  have HP := fun w => cutLite_any s w
  obtain ⟨x, ex⟩ : ∃ x, x = bodyOf s := ⟨_, rfl⟩
  obtain ⟨y, ey⟩ : ∃ y, y = has0x s := ⟨_, rfl⟩
  rw [← ex, ← ey] at HP ⊢
  clear ex ey
  go_enter Try.func28, Try.ntmps28
  go_wp2_with fail
  refine (HP _).mono ?_
  rintro e w1 ⟨rfl, rfl⟩
  go_wp2
  go_ret2
  exact ⟨rfl, rfl⟩

end Go.Proofs.Ytlndeghggdpmaaa
