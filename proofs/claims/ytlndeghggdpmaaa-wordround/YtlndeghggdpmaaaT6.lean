/- Show and Hex; WordTexts' walk. -/
import Derived.Test.YtlndeghggdpmaaaT5
import Derived.Test.YtlndeghggdpmaaaAlive
namespace Go.Proofs.Ytlndeghggdpmaaa
open Go.RowKit

theorem limb_sm (x i : Nat) (h : x < 18446744073709551616) : limb i x = if i = 0 then x else 0 := by
  unfold limb
  by_cases hi : i = 0
  · subst hi; rw [if_pos rfl, Nat.pow_zero, Nat.div_one, Nat.mod_eq_of_lt h]
  · rw [if_neg hi]
    have h1 : (18446744073709551616 : Nat) ^ 1 ≤ 18446744073709551616 ^ i := Nat.pow_le_pow_right (by decide) (by omega)
    rw [Nat.pow_one] at h1
    rw [Nat.div_eq_of_lt (by omega), Nat.zero_mod]
theorem agg255 : (.agg #[.int .u64 ((limb 0 (255) : Nat) : Int), .int .u64 ((limb 1 (255) : Nat) : Int), .int .u64 ((limb 2 (255) : Nat) : Int), .int .u64 ((limb 3 (255) : Nat) : Int)] : Value) = .agg #[.int .u64 255, .int .u64 0, .int .u64 0, .int .u64 0] := by
  rw [limb_sm 255 0 (by decide), limb_sm 255 1 (by decide), limb_sm 255 2 (by decide), limb_sm 255 3 (by decide)]
  rfl
theorem and255 : ∀ n : Fin 256, bits BinOp.and IntKind.i64 ((n.val : Nat) : Int) 255 = ((n.val : Nat) : Int) := by decide +kernel
theorem ends255 : Ends 16 255 2 := by
  refine ⟨by decide, by decide, fun s h1 h2 => ?_⟩
  obtain rfl : s = 1 := by omega
  decide
/-- The number in hexadecimal digits. -/
def hexS (A T : Nat) : ByteArray := ⟨#[48, 120]⟩ ++ ⟨(digS 16 A T).toArray⟩
theorem hex255 : hexS 255 2 = ⟨#[48, 120, 102, 102]⟩ := by decide +kernel
theorem hex_add (A T : Nat) (hT : T ≤ 78) (w : World) : (Op.stringOp .add ⟨#[48, 120]⟩ ⟨(digS 16 A T).toArray⟩).run Try.prog w = .ok (.string (hexS A T)) w :=
  run_string_add_sum (P := Try.prog) (w := w) ⟨#[48, 120]⟩ ⟨(digS 16 A T).toArray⟩ (by
    show 2 + (digS 16 A T).toArray.size ≤ _
    simp [digS_len]; omega)

set_option maxHeartbeats 1000000 in
theorem show_any (A T : Nat) (hA : A < 115792089237316195423570985008687907853269984665640564039457584007913129639936) (hT : Ends 10 A T) (w : World) :
    Calls Try.prog 23 #[.agg #[.int .u64 ((limb 0 (A) : Nat) : Int), .int .u64 ((limb 1 (A) : Nat) : Int), .int .u64 ((limb 2 (A) : Nat) : Int), .int .u64 ((limb 3 (A) : Nat) : Int)]] w fun e w' => e = .returned (.string ⟨(digS 10 A T).toArray⟩) ∧ Below w.heap.size w w' := by
  have D := fun w => inBase_any A 10 T (by decide) (by decide) hA hT w
  obtain ⟨S, eS⟩ : ∃ S : ByteArray, S = ⟨(digS 10 A T).toArray⟩ := ⟨_, rfl⟩
  rw [← eS] at D ⊢
  clear eS hT
  go_enter Try.func23, Try.ntmps23
  go_wp2_with fail
  refine (D _).mono ?_
  rintro e w1 ⟨rfl, hb1⟩
  go_wp2
  go_ret
  exact ⟨rfl, bStep (bAlloc (Below.refl _ _) _) hb1⟩
set_option maxHeartbeats 1000000 in
theorem rShow_any (A T : Nat) (hA : A < 115792089237316195423570985008687907853269984665640564039457584007913129639936) (hT : Ends 10 A T) (w : World) :
    Calls Try.prog 24 #[.agg #[.int .u64 ((limb 0 (A) : Nat) : Int), .int .u64 ((limb 1 (A) : Nat) : Int), .int .u64 ((limb 2 (A) : Nat) : Int), .int .u64 ((limb 3 (A) : Nat) : Int)]] w fun e w' => e = .returned (.string ⟨(digS 10 A T).toArray⟩) ∧ Below w.heap.size w w' := by
  have D := fun w => digits_any A 10 T (by decide) (by decide) hA hT w
  obtain ⟨S, eS⟩ : ∃ S : ByteArray, S = ⟨(digS 10 A T).toArray⟩ := ⟨_, rfl⟩
  rw [← eS] at D ⊢
  clear eS hT
  go_enter Try.func24, Try.ntmps24
  go_wp2_with fail
  refine (D _).mono ?_
  rintro e w1 ⟨rfl, hb1⟩
  go_wp2
  go_ret
  exact ⟨rfl, bStep (bAlloc (Below.refl _ _) _) hb1⟩
set_option maxHeartbeats 1000000 in
theorem hex_any (A T : Nat) (hA : A < 115792089237316195423570985008687907853269984665640564039457584007913129639936) (hT : Ends 16 A T) (w : World) :
    Calls Try.prog 21 #[.agg #[.int .u64 ((limb 0 (A) : Nat) : Int), .int .u64 ((limb 1 (A) : Nat) : Int), .int .u64 ((limb 2 (A) : Nat) : Int), .int .u64 ((limb 3 (A) : Nat) : Int)]] w fun e w' => e = .returned (.string (hexS A T)) ∧ Below w.heap.size w w' := by
  have D := fun w => inBase_any A 16 T (by decide) (by decide) hA hT w
  have HA := fun w => hex_add A T (ends_le 16 A T (by decide) hA hT) w
  obtain ⟨S, eS⟩ : ∃ S : ByteArray, S = ⟨(digS 16 A T).toArray⟩ := ⟨_, rfl⟩
  obtain ⟨H, eH⟩ : ∃ H : ByteArray, H = hexS A T := ⟨_, rfl⟩
  rw [← eS] at D HA
  rw [← eH] at HA ⊢
  clear eS eH hT
  go_enter Try.func21, Try.ntmps21
  go_wp2_with fail
  refine (D _).mono ?_
  rintro e w1 ⟨rfl, hb1⟩
  go_wp2
  go_ret
  exact ⟨rfl, bStep (bAlloc (Below.refl _ _) _) hb1⟩
set_option maxHeartbeats 1000000 in
theorem rHex_any (A T : Nat) (hA : A < 115792089237316195423570985008687907853269984665640564039457584007913129639936) (hT : Ends 16 A T) (w : World) :
    Calls Try.prog 25 #[.agg #[.int .u64 ((limb 0 (A) : Nat) : Int), .int .u64 ((limb 1 (A) : Nat) : Int), .int .u64 ((limb 2 (A) : Nat) : Int), .int .u64 ((limb 3 (A) : Nat) : Int)]] w fun e w' => e = .returned (.string (hexS A T)) ∧ Below w.heap.size w w' := by
  have D := fun w => digits_any A 16 T (by decide) (by decide) hA hT w
  have HA := fun w => hex_add A T (ends_le 16 A T (by decide) hA hT) w
  obtain ⟨S, eS⟩ : ∃ S : ByteArray, S = ⟨(digS 16 A T).toArray⟩ := ⟨_, rfl⟩
  obtain ⟨H, eH⟩ : ∃ H : ByteArray, H = hexS A T := ⟨_, rfl⟩
  rw [← eS] at D HA
  rw [← eH] at HA ⊢
  clear eS eH hT
  go_enter Try.func25, Try.ntmps25
  go_wp2_with fail
  refine (D _).mono ?_
  rintro e w1 ⟨rfl, hb1⟩
  go_wp2
  go_ret
  exact ⟨rfl, bStep (bAlloc (Below.refl _ _) _) hb1⟩

set_option maxHeartbeats 1000000 in
theorem bit_out (A : Nat) (i : Int) (h : i < 0 ∨ 256 ≤ i) (w : World) :
    Calls Try.prog 26 #[.agg #[.int .u64 ((limb 0 (A) : Nat) : Int), .int .u64 ((limb 1 (A) : Nat) : Int), .int .u64 ((limb 2 (A) : Nat) : Int), .int .u64 ((limb 3 (A) : Nat) : Int)], .int .i64 i] w fun e w' => e = .returned (.bool false) ∧ Below w.heap.size w w' := by
  by_cases h0 : i < 0
  · clear h
    go_enter Try.func26, Try.ntmps26
    go_wp2
    go_ret
    exact ⟨rfl, bAlloc (Below.refl _ _) _⟩
  · have h1 : 256 ≤ i := by omega
    clear h
    go_enter Try.func26, Try.ntmps26
    go_wp2
    go_ret
    exact ⟨rfl, bAlloc (Below.refl _ _) _⟩

theorem cells_below' {W w1 : World} {n1 : Nat} {f1 : Nat → Nat} (hb : Below W.heap.size W w1) (h : (∀ i, i < 4 → W.cell? ⟨n1, i, none⟩ = some (.int .u64 ((f1 i : Nat) : Int)))) : (∀ i, i < 4 → w1.cell? ⟨n1, i, none⟩ = some (.int .u64 ((f1 i : Nat) : Int))) := by
  intro i hi
  have h1 := h i hi
  have hl : n1 < W.heap.size := by
    rcases Nat.lt_or_ge n1 W.heap.size with h2 | h2
    · exact h2
    · simp [World.cell?, Array.getElem?_eq_none h2] at h1
  rw [hb.cell (p := ⟨n1, i, none⟩) hl]
  exact h1

set_option maxHeartbeats 8000000 in
set_option maxRecDepth 20000 in
theorem texts_out (A : Nat) (i : Int) (s h : ByteArray) (b : Bool) (hi : i < 0 ∨ 256 ≤ i) (hb : b = false)
    (S1 : ∀ w, Calls Try.prog 23 #[.agg #[.int .u64 ((limb 0 (A) : Nat) : Int), .int .u64 ((limb 1 (A) : Nat) : Int), .int .u64 ((limb 2 (A) : Nat) : Int), .int .u64 ((limb 3 (A) : Nat) : Int)]] w fun e w' => e = .returned (.string s) ∧ Below w.heap.size w w')
    (S2 : ∀ w, Calls Try.prog 24 #[.agg #[.int .u64 ((limb 0 (A) : Nat) : Int), .int .u64 ((limb 1 (A) : Nat) : Int), .int .u64 ((limb 2 (A) : Nat) : Int), .int .u64 ((limb 3 (A) : Nat) : Int)]] w fun e w' => e = .returned (.string s) ∧ Below w.heap.size w w')
    (H1 : ∀ w, Calls Try.prog 21 #[.agg #[.int .u64 ((limb 0 (A) : Nat) : Int), .int .u64 ((limb 1 (A) : Nat) : Int), .int .u64 ((limb 2 (A) : Nat) : Int), .int .u64 ((limb 3 (A) : Nat) : Int)]] w fun e w' => e = .returned (.string h) ∧ Below w.heap.size w w')
    (H2 : ∀ w, Calls Try.prog 25 #[.agg #[.int .u64 ((limb 0 (A) : Nat) : Int), .int .u64 ((limb 1 (A) : Nat) : Int), .int .u64 ((limb 2 (A) : Nat) : Int), .int .u64 ((limb 3 (A) : Nat) : Int)]] w fun e w' => e = .returned (.string h) ∧ Below w.heap.size w w')
    (B1 : ∀ w, Calls Try.prog 26 #[.agg #[.int .u64 ((limb 0 (A) : Nat) : Int), .int .u64 ((limb 1 (A) : Nat) : Int), .int .u64 ((limb 2 (A) : Nat) : Int), .int .u64 ((limb 3 (A) : Nat) : Int)], .int .i64 i] w fun e w' => e = .returned (.bool b) ∧ Below w.heap.size w w')
    (w : World) :
    Calls Try.prog 6 #[.agg #[.int .u64 ((limb 0 (A) : Nat) : Int), .int .u64 ((limb 1 (A) : Nat) : Int), .int .u64 ((limb 2 (A) : Nat) : Int), .int .u64 ((limb 3 (A) : Nat) : Int)], .int .i64 i] w fun e w' => e = .returned (.bool true) ∧ Below w.heap.size w w' := by
  subst hb
  have AL := fun w => alive_any w
  have HX := fun w => hex_any 255 2 (by decide) ends255 w
  rw [agg255, hex255] at HX
  go_enter Try.func6, Try.ntmps6
  go_wp2_with fail
  obtain ⟨w0, hw0⟩ : ∃ w0 : World, w0 = w.alloc (.cells #[.int .u64 ((limb 0 (A) : Nat) : Int), .int .u64 ((limb 1 (A) : Nat) : Int), .int .u64 ((limb 2 (A) : Nat) : Int), .int .u64 ((limb 3 (A) : Nat) : Int)] 24) := ⟨_, rfl⟩
  have ba0 : Blk w0 24 w.heap.size (fun i => limb i A) := by rw [hw0]; exact Blk.newAt _ _ _ (fun i => limb i A) (by simp)
  have hbw0 : Below w.heap.size w w0 := by rw [hw0]; exact (Below.refl _ _).alloc (Nat.le_refl _) _
  rw [← hw0]
  clear hw0
  refine (AL _).mono ?_
  rintro e w1 ⟨rfl, hb1⟩
  have ba1 := ba0.belowAll hb1
  have hbw1 := bStep hbw0 hb1
  clear ba0 hbw0 hb1 AL
  go_wp2_with fail
  refine (HX _).mono ?_
  rintro e w2 ⟨rfl, hb2⟩
  have ba2 := ba1.belowAll hb2
  have hbw2 := bStep hbw1 hb2
  clear ba1 hbw1 hb2 HX
  by_cases h0 : i < 0
  · have h1 : ¬ 0 ≤ i := by omega
    clear hi
    go_wp2_with fail
    go_region_held3 (fun w' => (∀ i, i < 4 → w'.cell? ⟨w.heap.size, i, none⟩ = some (.int .u64 ((limb i A : Nat) : Int))))
      (first | with_reducible exact cells_below' hbE (by with_reducible assumption) | with_reducible exact cells_below' hbD (by with_reducible assumption) | with_reducible exact cells_below' hbC (by with_reducible assumption) | with_reducible exact cells_below' hbB (by with_reducible assumption) | with_reducible exact cells_below' hbA (by with_reducible assumption) | with_reducible exact ba2.drew.cell)
      (first | (go_at_call 23; with_reducible refine (S1 _).mono ?_; rintro e wA ⟨rfl, hbA⟩) | (go_at_call 24; with_reducible refine (S2 _).mono ?_; rintro e wB ⟨rfl, hbB⟩) | (go_at_call 21; with_reducible refine (H1 _).mono ?_; rintro e wC ⟨rfl, hbC⟩) | (go_at_call 25; with_reducible refine (H2 _).mono ?_; rintro e wD ⟨rfl, hbD⟩) | (go_at_call 26; with_reducible refine (B1 _).mono ?_; rintro e wE ⟨rfl, hbE⟩) | fail)
    go_wp2
    go_ret
    exact ⟨rfl, bStep (bStep (bStep (bStep (bStep hbw2.drew hbA) hbB) hbC) hbD) hbE⟩
  · have h1 : 0 ≤ i := by omega
    have h2 : ¬ i < 256 := by omega
    clear hi
    go_wp2_with fail
    go_region_held3 (fun w' => (∀ i, i < 4 → w'.cell? ⟨w.heap.size, i, none⟩ = some (.int .u64 ((limb i A : Nat) : Int))))
      (first | with_reducible exact cells_below' hbE (by with_reducible assumption) | with_reducible exact cells_below' hbD (by with_reducible assumption) | with_reducible exact cells_below' hbC (by with_reducible assumption) | with_reducible exact cells_below' hbB (by with_reducible assumption) | with_reducible exact cells_below' hbA (by with_reducible assumption) | with_reducible exact ba2.drew.cell)
      (first | (go_at_call 23; with_reducible refine (S1 _).mono ?_; rintro e wA ⟨rfl, hbA⟩) | (go_at_call 24; with_reducible refine (S2 _).mono ?_; rintro e wB ⟨rfl, hbB⟩) | (go_at_call 21; with_reducible refine (H1 _).mono ?_; rintro e wC ⟨rfl, hbC⟩) | (go_at_call 25; with_reducible refine (H2 _).mono ?_; rintro e wD ⟨rfl, hbD⟩) | (go_at_call 26; with_reducible refine (B1 _).mono ?_; rintro e wE ⟨rfl, hbE⟩) | fail)
    go_wp2
    go_ret
    exact ⟨rfl, bStep (bStep (bStep (bStep (bStep hbw2.drew hbA) hbB) hbC) hbD) hbE⟩

set_option maxHeartbeats 8000000 in
set_option maxRecDepth 20000 in
theorem texts_in (A n : Nat) (s h : ByteArray) (b : Bool) (i : Int) (hin : i = (n : Int)) (hn : n < 256) (hb : (((bitN A n : Nat) : Int) == 1) = b)
    (S1 : ∀ w, Calls Try.prog 23 #[.agg #[.int .u64 ((limb 0 (A) : Nat) : Int), .int .u64 ((limb 1 (A) : Nat) : Int), .int .u64 ((limb 2 (A) : Nat) : Int), .int .u64 ((limb 3 (A) : Nat) : Int)]] w fun e w' => e = .returned (.string s) ∧ Below w.heap.size w w')
    (S2 : ∀ w, Calls Try.prog 24 #[.agg #[.int .u64 ((limb 0 (A) : Nat) : Int), .int .u64 ((limb 1 (A) : Nat) : Int), .int .u64 ((limb 2 (A) : Nat) : Int), .int .u64 ((limb 3 (A) : Nat) : Int)]] w fun e w' => e = .returned (.string s) ∧ Below w.heap.size w w')
    (H1 : ∀ w, Calls Try.prog 21 #[.agg #[.int .u64 ((limb 0 (A) : Nat) : Int), .int .u64 ((limb 1 (A) : Nat) : Int), .int .u64 ((limb 2 (A) : Nat) : Int), .int .u64 ((limb 3 (A) : Nat) : Int)]] w fun e w' => e = .returned (.string h) ∧ Below w.heap.size w w')
    (H2 : ∀ w, Calls Try.prog 25 #[.agg #[.int .u64 ((limb 0 (A) : Nat) : Int), .int .u64 ((limb 1 (A) : Nat) : Int), .int .u64 ((limb 2 (A) : Nat) : Int), .int .u64 ((limb 3 (A) : Nat) : Int)]] w fun e w' => e = .returned (.string h) ∧ Below w.heap.size w w')
    (B1 : ∀ w, Calls Try.prog 26 #[.agg #[.int .u64 ((limb 0 (A) : Nat) : Int), .int .u64 ((limb 1 (A) : Nat) : Int), .int .u64 ((limb 2 (A) : Nat) : Int), .int .u64 ((limb 3 (A) : Nat) : Int)], .int .i64 i] w fun e w' => e = .returned (.bool b) ∧ Below w.heap.size w w')
    (w : World) :
    Calls Try.prog 6 #[.agg #[.int .u64 ((limb 0 (A) : Nat) : Int), .int .u64 ((limb 1 (A) : Nat) : Int), .int .u64 ((limb 2 (A) : Nat) : Int), .int .u64 ((limb 3 (A) : Nat) : Int)], .int .i64 i] w fun e w' => e = .returned (.bool true) ∧ Below w.heap.size w w' := by
  have ha : bits BinOp.and IntKind.i64 i 255 = i := by rw [hin]; exact and255 ⟨n, hn⟩
  have hB := fun w => bits_any A w
  obtain ⟨bn, ebn⟩ : ∃ bn : Int, bn = ((bitN A n : Nat) : Int) := ⟨_, rfl⟩
  rw [← ebn] at hb
  have h1 : 0 ≤ i := by omega
  have h2 : i < 256 := by omega
  have h3 : i.toNat = n := by omega
  clear hin
  have AL := fun w => alive_any w
  have HX := fun w => hex_any 255 2 (by decide) ends255 w
  rw [agg255, hex255] at HX
  go_enter Try.func6, Try.ntmps6
  go_wp2_with fail
  obtain ⟨w0, hw0⟩ : ∃ w0 : World, w0 = w.alloc (.cells #[.int .u64 ((limb 0 (A) : Nat) : Int), .int .u64 ((limb 1 (A) : Nat) : Int), .int .u64 ((limb 2 (A) : Nat) : Int), .int .u64 ((limb 3 (A) : Nat) : Int)] 24) := ⟨_, rfl⟩
  have ba0 : Blk w0 24 w.heap.size (fun i => limb i A) := by rw [hw0]; exact Blk.newAt _ _ _ (fun i => limb i A) (by simp)
  have hbw0 : Below w.heap.size w w0 := by rw [hw0]; exact (Below.refl _ _).alloc (Nat.le_refl _) _
  rw [← hw0]
  clear hw0
  refine (AL _).mono ?_
  rintro e w1 ⟨rfl, hb1⟩
  have ba1 := ba0.belowAll hb1
  have hbw1 := bStep hbw0 hb1
  clear ba0 hbw0 hb1 AL
  go_wp2_with fail
  refine (HX _).mono ?_
  rintro e w2 ⟨rfl, hb2⟩
  have ba2 := ba1.belowAll hb2
  have hbw2 := bStep hbw1 hb2
  clear ba1 hbw1 hb2 HX
  have cA := ba2.cell
  go_wp2_with fail
  refine (hB _).mono ?_
  rintro e w3 ⟨g, c, rfl, hc, lg, lg2, cg, hb3⟩
  have ba3 := ba2.belowAll hb3
  have hbw3 := bStep hbw2 hb3
  have cg2 := cg n hn
  rw [← ebn] at cg2
  clear cA ba2 hbw2 hb3 hB cg ebn
  go_wp2_with fail
  go_region_held3 (fun w' => (∀ i, i < 4 → w'.cell? ⟨w.heap.size, i, none⟩ = some (.int .u64 ((limb i A : Nat) : Int))))
    (first | with_reducible exact cells_below' hbE (by with_reducible assumption) | with_reducible exact cells_below' hbD (by with_reducible assumption) | with_reducible exact cells_below' hbC (by with_reducible assumption) | with_reducible exact cells_below' hbB (by with_reducible assumption) | with_reducible exact cells_below' hbA (by with_reducible assumption) | with_reducible exact ba3.drew.cell)
    (first | (go_at_call 23; with_reducible refine (S1 _).mono ?_; rintro e wA ⟨rfl, hbA⟩) | (go_at_call 24; with_reducible refine (S2 _).mono ?_; rintro e wB ⟨rfl, hbB⟩) | (go_at_call 21; with_reducible refine (H1 _).mono ?_; rintro e wC ⟨rfl, hbC⟩) | (go_at_call 25; with_reducible refine (H2 _).mono ?_; rintro e wD ⟨rfl, hbD⟩) | (go_at_call 26; with_reducible refine (B1 _).mono ?_; rintro e wE ⟨rfl, hbE⟩) | fail)
  go_wp2
  go_ret
  exact ⟨rfl, bStep (bStep (bStep (bStep (bStep hbw3.drew hbA) hbB) hbC) hbD) hbE⟩

theorem texts_walk (A : Nat) (i : Int) (hA : A < 115792089237316195423570985008687907853269984665640564039457584007913129639936) (w : World) :
    Calls Try.prog 6 #[.agg #[.int .u64 ((limb 0 (A) : Nat) : Int), .int .u64 ((limb 1 (A) : Nat) : Int), .int .u64 ((limb 2 (A) : Nat) : Int), .int .u64 ((limb 3 (A) : Nat) : Int)], .int .i64 i] w fun e w' => e = .returned (.bool true) ∧ Below w.heap.size w w' := by
  obtain ⟨T, hT⟩ := ends_some 10 A (by decide) hA
  obtain ⟨U, hU⟩ := ends_some 16 A (by decide) hA
  by_cases hi : i < 0 ∨ 256 ≤ i
  · exact texts_out A i _ _ false hi rfl (fun w => show_any A T hA hT w) (fun w => rShow_any A T hA hT w) (fun w => hex_any A U hA hU w) (fun w => rHex_any A U hA hU w) (fun w => bit_out A i hi w) w
  · obtain ⟨n, rfl⟩ := Int.eq_ofNat_of_zero_le (show 0 ≤ i by omega)
    have hn : n < 256 := by omega
    refine texts_in A n _ _ (decide (bitN A n = 1)) n rfl hn ?_ (fun w => show_any A T hA hT w) (fun w => rShow_any A T hA hT w) (fun w => hex_any A U hA hU w) (fun w => rHex_any A U hA hU w) (fun w => ?_) w
    · rw [Bool.eq_iff_iff]; simp; omega
    · have h := bit_any A n (by omega) (by omega) w
      rw [Int.toNat_natCast] at h
      exact h

end Go.Proofs.Ytlndeghggdpmaaa
