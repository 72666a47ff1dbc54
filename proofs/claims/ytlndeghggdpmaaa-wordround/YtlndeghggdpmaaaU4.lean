/- What is shown is read again; WordRound's walk. -/
import Derived.Test.YtlndeghggdpmaaaU3
import Derived.Test.YtlndeghggdpmaaaT6
import Derived.Laws.Strings
namespace Go.Proofs.Ytlndeghggdpmaaa
open Go.RowKit

theorem sz_mk (l : List UInt8) : (⟨l.toArray⟩ : ByteArray).size = l.length := by show l.toArray.size = _; simp
theorem digV_chN (b d : Nat) (hb : b = 10 ∨ b = 16) (hd : d < b) : digV b (chN d) = some d := by
  unfold digV chN
  by_cases h : d < 10
  · rw [if_pos h, if_pos (by omega)]
    congr 1; omega
  · have h16 : b = 16 := by omega
    rw [if_neg h, if_neg (by omega), if_neg (by omega), if_pos (by omega)]
    congr 1; omega
theorem chN_small (d : Nat) (hd : d < 16) : chN d < 128 := by unfold chN; split <;> omega
theorem dig_at (b a T j : Nat) (h0 : 0 < b) (hb : b ≤ 16) (hj : j < (⟨(digS b a T).toArray⟩ : ByteArray).size) : ((⟨(digS b a T).toArray⟩ : ByteArray)[j]'hj).toNat = chN (a / b ^ (T - 1 - j) % b) := by
  have hj' : j < (digS b a T).length := by rw [sz_mk] at hj; exact hj
  have e : (⟨(digS b a T).toArray⟩ : ByteArray)[j]'hj = (digS b a T)[j] := by
    show (digS b a T).toArray[j]'(by simpa using hj') = _
    simp
  rw [e, digS_get b a T j hj']
  have := chN_small (a / b ^ (T - 1 - j) % b) (Nat.lt_of_lt_of_le (Nat.mod_lt _ h0) hb)
  simp
  omega
theorem decode_dig (b a T j : Nat) (h0 : 0 < b) (hb : b ≤ 16) (hj : j < (⟨(digS b a T).toArray⟩ : ByteArray).size) : Utf8.decode ⟨(digS b a T).toArray⟩ j = (chN (a / b ^ (T - 1 - j) % b), 1) := by
  have h := dig_at b a T j h0 hb hj
  have hs := chN_small (a / b ^ (T - 1 - j) % b) (Nat.lt_of_lt_of_le (Nat.mod_lt _ h0) hb)
  rw [decode_ascii _ j hj (by omega), h]
theorem read_digs (b A T : Nat) (hb : b = 10 ∨ b = 16) (hA : A < 115792089237316195423570985008687907853269984665640564039457584007913129639936) (hT : 1 ≤ T) : ∀ k, k ≤ T → ∀ f, k + 1 ≤ f → parseGo b ⟨(digS b A T).toArray⟩ f (T - k) (A / b ^ k) false (decide (k < T)) = (A, 0) := by
  intro k
  induction k with
  | zero =>
    intro _ f hf
    obtain ⟨g, rfl⟩ : ∃ g, f = g + 1 := ⟨f - 1, by omega⟩
    rw [parseGo_end _ _ _ _ _ _ _ (by rw [sz_mk, digS_len]; omega), show decide (0 < T) = true from by simp; omega, Nat.pow_zero, Nat.div_one]
    rfl
  | succ k ih =>
    intro hk f hf
    obtain ⟨g, rfl⟩ : ∃ g, f = g + 1 := ⟨f - 1, by omega⟩
    have hj : T - (k + 1) < (⟨(digS b A T).toArray⟩ : ByteArray).size := by rw [sz_mk, digS_len]; omega
    have hdec := decode_dig b A T (T - (k + 1)) (by omega) (by omega) hj
    rw [show T - 1 - (T - (k + 1)) = k from by omega] at hdec
    have hd := digV_chN b (A / b ^ k % b) hb (Nat.mod_lt _ (by omega))
    have e1 : A / b ^ (k + 1) = A / b ^ k / b := by rw [Nat.pow_succ, Nat.div_div_eq_div_mul]
    have e2 : A / b ^ k / b * b + A / b ^ k % b = A / b ^ k := by rw [Nat.mul_comm]; exact Nat.div_add_mod _ _
    have e3 : A / b ^ k < 115792089237316195423570985008687907853269984665640564039457584007913129639936 := Nat.lt_of_le_of_lt (Nat.div_le_self _ _) hA
    rw [parseGo_some b _ g _ _ (A / b ^ k % b) _ _ hj (by rw [hdec]; exact hd), hdec]
    have s1 : stepN b (A / b ^ (k + 1)) (A / b ^ k % b) = A / b ^ k := by unfold stepN; rw [e1, e2, Nat.mod_eq_of_lt e3]
    have s2 : stepL b (A / b ^ (k + 1)) (A / b ^ k % b) = false := by unfold stepL; rw [e1, e2]; simp; omega
    rw [s1, s2]
    have h := ih (by omega) g (by omega)
    rw [show decide (k < T) = true from by simp; omega] at h
    show parseGo b _ g (T - (k + 1) + 1) _ _ true = _
    rw [show T - (k + 1) + 1 = T - k from by omega]
    exact h
theorem read_all (b A T : Nat) (hb : b = 10 ∨ b = 16) (hA : A < 115792089237316195423570985008687907853269984665640564039457584007913129639936) (hT : Ends b A T) : parseGo b ⟨(digS b A T).toArray⟩ ((⟨(digS b A T).toArray⟩ : ByteArray).size + 1) 0 0 false false = (A, 0) := by
  have h := read_digs b A T hb hA hT.1 T (Nat.le_refl _) (T + 1) (Nat.le_refl _)
  rw [Nat.sub_self, hT.2.1, show decide (T < T) = false from by simp] at h
  rw [sz_mk, digS_len]
  exact h
theorem extract_mk (l : List UInt8) (i j : Nat) : (⟨l.toArray⟩ : ByteArray).extract i j = ⟨((l.drop i).take (j - i)).toArray⟩ := by
  apply ByteArray.ext
  rw [ByteArray.data_extract]
  show l.toArray.extract i j = _
  rw [List.extract_toArray]
theorem hexS_mk (A T : Nat) : hexS A T = ⟨((48 : UInt8) :: 120 :: digS 16 A T).toArray⟩ := by
  unfold hexS
  apply ByteArray.ext
  rw [ByteArray.data_append]
  simp
theorem parse_shown (A T : Nat) (hA : A < 115792089237316195423570985008687907853269984665640564039457584007913129639936) (hT : Ends 10 A T) : parse0 ⟨(digS 10 A T).toArray⟩ = (A, 0) := by
  have h78 := ends_le 10 A T (by decide) hA hT
  have hx : has0x ⟨(digS 10 A T).toArray⟩ = false := by
    unfold has0x
    rw [Bool.and_eq_false_iff]
    by_cases h2 : 2 ≤ T
    · right
      rw [beq_eq_false_iff_ne]
      intro h
      rw [extract_mk, ByteArray.toList_eq] at h
      obtain ⟨n, rfl⟩ : ∃ n, T = n + 2 := ⟨T - 2, by omega⟩
      simp only [digS, List.drop_zero, Nat.sub_zero, List.take_succ_cons, List.take_zero, List.cons.injEq, and_true] at h
      have h1 := congrArg UInt8.toNat h.2
      have hd : A / 10 ^ n % 10 < 10 := Nat.mod_lt _ (by decide)
      unfold chN at h1
      rw [if_pos hd] at h1
      simp at h1
      omega
    · left
      rw [sz_mk, digS_len]
      simp; omega
  unfold parse0
  rw [if_neg (by rw [sz_mk, digS_len]; omega), if_neg (by rw [hx]; decide)]
  exact read_all 10 A T (Or.inl rfl) hA hT
theorem parse_hexed (A T : Nat) (hA : A < 115792089237316195423570985008687907853269984665640564039457584007913129639936) (hT : Ends 16 A T) : parse0 (hexS A T) = (A, 0) := by
  have h78 := ends_le 16 A T (by decide) hA hT
  have hx : has0x (hexS A T) = true := by
    unfold has0x
    rw [hexS_mk, extract_mk, ByteArray.toList_eq, Bool.and_eq_true]
    refine ⟨by rw [sz_mk]; simp, ?_⟩
    simp
  unfold parse0
  have hz : (hexS A T).size = T + 2 := by rw [hexS_mk, sz_mk]; simp [digS_len]
  rw [if_neg (by omega), if_pos hx]
  have e : (hexS A T).extract 2 (hexS A T).size = ⟨(digS 16 A T).toArray⟩ := by
    rw [hz, hexS_mk, extract_mk]
    show (⟨((digS 16 A T).take (T + 2 - 2)).toArray⟩ : ByteArray) = _
    rw [Nat.add_sub_cancel, List.take_of_length_le (by rw [digS_len]; exact Nat.le_refl _)]
  rw [e]
  exact read_all 16 A T (Or.inr rfl) hA hT

set_option maxHeartbeats 4000000 in
set_option maxRecDepth 20000 in
theorem wround_gen (a : Nat) (s h : ByteArray) (ha : a < 115792089237316195423570985008687907853269984665640564039457584007913129639936)
    (S1 : ∀ w, Calls Try.prog 23 #[.agg #[.int .u64 ((limb 0 (a) : Nat) : Int), .int .u64 ((limb 1 (a) : Nat) : Int), .int .u64 ((limb 2 (a) : Nat) : Int), .int .u64 ((limb 3 (a) : Nat) : Int)]] w fun e w' => e = .returned (.string s) ∧ Below w.heap.size w w')
    (P1 : ∀ w, Calls Try.prog 9 #[.string s] w fun e w' => e = .returned (.tuple #[.agg #[.int .u64 ((limb 0 (a) : Nat) : Int), .int .u64 ((limb 1 (a) : Nat) : Int), .int .u64 ((limb 2 (a) : Nat) : Int), .int .u64 ((limb 3 (a) : Nat) : Int)], .int .i64 0]) ∧ Below w.heap.size w w')
    (H1 : ∀ w, Calls Try.prog 21 #[.agg #[.int .u64 ((limb 0 (a) : Nat) : Int), .int .u64 ((limb 1 (a) : Nat) : Int), .int .u64 ((limb 2 (a) : Nat) : Int), .int .u64 ((limb 3 (a) : Nat) : Int)]] w fun e w' => e = .returned (.string h) ∧ Below w.heap.size w w')
    (P2 : ∀ w, Calls Try.prog 9 #[.string h] w fun e w' => e = .returned (.tuple #[.agg #[.int .u64 ((limb 0 (a) : Nat) : Int), .int .u64 ((limb 1 (a) : Nat) : Int), .int .u64 ((limb 2 (a) : Nat) : Int), .int .u64 ((limb 3 (a) : Nat) : Int)], .int .i64 0]) ∧ Below w.heap.size w w')
    (w : World) :
    Calls Try.prog 8 #[.agg #[.int .u64 ((limb 0 (a) : Nat) : Int), .int .u64 ((limb 1 (a) : Nat) : Int), .int .u64 ((limb 2 (a) : Nat) : Int), .int .u64 ((limb 3 (a) : Nat) : Int)]] w fun e w' => e = .returned (.bool true) ∧ Below w.heap.size w w' := by
  have AL := fun w => alive_any w
  have QX := fun w => eqlE a a ha ha w
  rw [show decide (a = a) = true from by simp] at QX
  go_enter Try.func8, Try.ntmps8
  go_wp2_with fail
  obtain ⟨w0, hw0⟩ : ∃ w0 : World, w0 = w.alloc (.cells #[.int .u64 ((limb 0 (a) : Nat) : Int), .int .u64 ((limb 1 (a) : Nat) : Int), .int .u64 ((limb 2 (a) : Nat) : Int), .int .u64 ((limb 3 (a) : Nat) : Int)] 24) := ⟨_, rfl⟩
  have ba0 : Blk w0 24 w.heap.size (fun i => limb i a) := by rw [hw0]; exact Blk.newAt _ _ _ (fun i => limb i a) (by simp)
  have hbw0 : Below w.heap.size w w0 := by rw [hw0]; exact (Below.refl _ _).alloc (Nat.le_refl _) _
  rw [← hw0]
  clear hw0
  refine (AL _).mono ?_
  rintro e w1 ⟨rfl, hb1⟩
  have ba1 := ba0.belowAll hb1
  have hbw1 := bStep hbw0 hb1
  clear ba0 hbw0 hb1  AL
  have ca := ba1.cell
  go_wp2_with fail
  refine (S1 _).mono ?_
  rintro e w2 ⟨rfl, hb2⟩
  have ba2 := ba1.belowAll hb2
  have hbw2 := bStep hbw1 hb2
  clear ba1 hbw1 hb2 ca S1
  go_wp2_with fail
  refine (P1 _).mono ?_
  rintro e w3 ⟨rfl, hb3⟩
  have ba3 := ba2.belowAll hb3
  have hbw3 := bStep hbw2 hb3
  clear ba2 hbw2 hb3  P1
  obtain ⟨N3, eN3⟩ : ∃ N3, N3 = w3.heap.size := ⟨_, rfl⟩
  obtain ⟨w4, hw4⟩ : ∃ w4 : World, w4 = w3.alloc (.cells #[.int .u64 ((limb 0 (a) : Nat) : Int), .int .u64 ((limb 1 (a) : Nat) : Int), .int .u64 ((limb 2 (a) : Nat) : Int), .int .u64 ((limb 3 (a) : Nat) : Int)] 24) := ⟨_, rfl⟩
  have ba4 : Blk w4 24 w.heap.size (fun i => limb i a) := by rw [hw4]; exact ba3.alloc _
  have lN3 : w.heap.size < N3 := by have := ba3.lt; omega
  have bx4 : Blk w4 24 N3 (fun i => limb i a) := by rw [hw4]; exact Blk.newAt _ _ _ (fun i => limb i a) eN3
  have hbw4 : Below w.heap.size w w4 := by rw [hw4]; exact bAlloc hbw3 _
  go_upto_region 4 with fail
  rw [← hw4, ← eN3]
  clear hw4 eN3 ba3 hbw3
  have ca := ba4.cell
  go_wp2_with fail
  refine (H1 _).mono ?_
  rintro e w5 ⟨rfl, hb5⟩
  have ba5 := ba4.belowAll hb5; have bx5 := bx4.belowAll hb5
  have hbw5 := bStep hbw4 hb5
  clear ba4 bx4 hbw4 hb5 ca H1
  go_wp2_with fail
  refine (P2 _).mono ?_
  rintro e w6 ⟨rfl, hb6⟩
  have ba6 := ba5.belowAll hb6; have bx6 := bx5.belowAll hb6
  have hbw6 := bStep hbw5 hb6
  clear ba5 bx5 hbw5 hb6  P2
  obtain ⟨N5, eN5⟩ : ∃ N5, N5 = w6.heap.size := ⟨_, rfl⟩
  obtain ⟨w7, hw7⟩ : ∃ w7 : World, w7 = w6.alloc (.cells #[.int .u64 ((limb 0 (a) : Nat) : Int), .int .u64 ((limb 1 (a) : Nat) : Int), .int .u64 ((limb 2 (a) : Nat) : Int), .int .u64 ((limb 3 (a) : Nat) : Int)] 24) := ⟨_, rfl⟩
  have ba7 : Blk w7 24 w.heap.size (fun i => limb i a) := by rw [hw7]; exact ba6.alloc _
  have bx7 : Blk w7 24 N3 (fun i => limb i a) := by rw [hw7]; exact bx6.alloc _
  have lN5 : N3 < N5 := by have := bx6.lt; omega
  have by7 : Blk w7 24 N5 (fun i => limb i a) := by rw [hw7]; exact Blk.newAt _ _ _ (fun i => limb i a) eN5
  have hbw7 : Below w.heap.size w w7 := by rw [hw7]; exact bAlloc hbw6 _
  go_upto_region 5 with fail
  rw [← hw7, ← eN5]
  clear hw7 eN5 ba6 bx6 hbw6
  have ca := ba7.cell; have cx := bx7.cell; have cy := by7.cell
  go_wp2
  go_ret
  exact ⟨rfl, hbw7⟩

theorem wround_walk (A : Nat) (hA : A < 115792089237316195423570985008687907853269984665640564039457584007913129639936) (w : World) :
    Calls Try.prog 8 #[.agg #[.int .u64 ((limb 0 (A) : Nat) : Int), .int .u64 ((limb 1 (A) : Nat) : Int), .int .u64 ((limb 2 (A) : Nat) : Int), .int .u64 ((limb 3 (A) : Nat) : Int)]] w fun e w' => e = .returned (.bool true) ∧ Below w.heap.size w w' := by
  obtain ⟨T, hT⟩ := ends_some 10 A (by decide) hA
  obtain ⟨U, hU⟩ := ends_some 16 A (by decide) hA
  have P1 := fun w => parse_any ⟨(digS 10 A T).toArray⟩ w
  rw [parse_shown A T hA hT] at P1
  have P2 := fun w => parse_any (hexS A U) w
  rw [parse_hexed A U hA hU] at P2
  exact wround_gen A _ _ hA (fun w => show_any A T hA hT w) P1 (fun w => hex_any A U hA hU w) P2 w

end Go.Proofs.Ytlndeghggdpmaaa
