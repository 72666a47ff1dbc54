/- permute.Products where it refuses. -/
import Derived.Test.YtfbfenljfdnggaaGreatDoorVRP5
import Derived.Test.YtfbfenljfdnggaaGreatDoorVW6
namespace Go.Proofs.YtfbfenljfdnggaaGreatDoor
open Go.RowKit
theorem pprod_sort_out (si k : Int) (m n cm cn b be ga : Nat) (om on : Option Addr) (hs : si < 0 ∨ 4 ≤ si) (w : World) (hg : GlobD w) :
    Calls Tryz.prog 10 #[.int .i64 si, .int .i64 k, .slice om m cm, .slice on n cn, .agg #[.int .u64 ((limb 0 (be) : Nat) : Int), .int .u64 ((limb 1 (be) : Nat) : Int), .int .u64 ((limb 2 (be) : Nat) : Int), .int .u64 ((limb 3 (be) : Nat) : Int)], .agg #[.int .u64 ((limb 0 (ga) : Nat) : Int), .int .u64 ((limb 1 (ga) : Nat) : Int), .int .u64 ((limb 2 (ga) : Nat) : Int), .int .u64 ((limb 3 (ga) : Nat) : Int)], .pointer (some ⟨b, 0, none⟩)] w fun e w' => e = .returned (.tuple #[.slice none 0 0, .int .i64 20]) ∧ Below w.heap.size w w' :=
  pprod_no si k 20 m n cm cn b be ga om on (by decide) (fun w _ => pck_out si k hs w) w hg
theorem pprod_size_out (s : Nat) (k : Int) (m n cm cn b be ga : Nat) (om on : Option Addr) (hs : s < 4) (hk : k < 3 ∨ 5 < k) (w : World) (hg : GlobD w) :
    Calls Tryz.prog 10 #[.int .i64 (s : Int), .int .i64 k, .slice om m cm, .slice on n cn, .agg #[.int .u64 ((limb 0 (be) : Nat) : Int), .int .u64 ((limb 1 (be) : Nat) : Int), .int .u64 ((limb 2 (be) : Nat) : Int), .int .u64 ((limb 3 (be) : Nat) : Int)], .agg #[.int .u64 ((limb 0 (ga) : Nat) : Int), .int .u64 ((limb 1 (ga) : Nat) : Int), .int .u64 ((limb 2 (ga) : Nat) : Int), .int .u64 ((limb 3 (ga) : Nat) : Int)], .pointer (some ⟨b, 0, none⟩)] w fun e w' => e = .returned (.tuple #[.slice none 0 0, .int .i64 60]) ∧ Below w.heap.size w w' := by
  refine pprod_no (s : Int) k 60 m n cm cn b be ga om on (by decide) (fun w hg => ?_) w hg
  have h := pck_in s k hs w hg.1
  rw [if_pos hk] at h
  exact h
theorem pprod_len_out (s q m n cm cn b be ga : Nat) (om on : Option Addr) (F F2 : Nat → Value) (L L2 : Nat → Nat) (X Y : Nat → Nat → Nat) (hs : s < 4) (hq : 3 ≤ q ∧ q ≤ 5) (hm : m ≤ 1000) (hn : n ≤ 1000) (hbad : n ≠ m ∨ 8 < m ∨ (¬ ∀ i, i < m → L i = 2 ^ q) ∨ ¬ ∀ i, i < n → L2 i = 2 ^ q) (w : World) (hg : GlobD w) (h1 : Tab w (.slice om m cm) m F L X) (h2 : Tab w (.slice on n cn) n F2 L2 Y) :
    Calls Tryz.prog 10 #[.int .i64 (s : Int), .int .i64 (q : Int), .slice om m cm, .slice on n cn, .agg #[.int .u64 ((limb 0 (be) : Nat) : Int), .int .u64 ((limb 1 (be) : Nat) : Int), .int .u64 ((limb 2 (be) : Nat) : Int), .int .u64 ((limb 3 (be) : Nat) : Int)], .agg #[.int .u64 ((limb 0 (ga) : Nat) : Int), .int .u64 ((limb 1 (ga) : Nat) : Int), .int .u64 ((limb 2 (ga) : Nat) : Int), .int .u64 ((limb 3 (ga) : Nat) : Int)], .pointer (some ⟨b, 0, none⟩)] w fun e w' => e = .returned (.tuple #[.slice none 0 0, .int .i64 50]) ∧ Below w.heap.size w w' := by
  refine pprod_len (s : Int) (q : Int) m n cm cn b be ga om on (fullB m L (2 ^ q)) (fullB n L2 (2 ^ q)) ?_ (fun w hg => ?_) w hg (fun w' hb => areFull_any q m cm om F L X (by omega) (by omega) w' (h1.below hb)) (fun w' hb => areFull_any q n cn on F2 L2 Y (by omega) (by omega) w' (h2.below hb))
  · rcases hbad with h | h | h | h
    · exact Or.inl h
    · exact Or.inr (Or.inl h)
    · exact Or.inr (Or.inr (Or.inl (decide_eq_false h)))
    · exact Or.inr (Or.inr (Or.inr (decide_eq_false h)))
  · have h := pck_in s (q : Int) hs w hg.1
    rw [if_neg (by omega)] at h
    exact h
end Go.Proofs.YtfbfenljfdnggaaGreatDoor

/- PermuteTells, PermuteProducts: great. -/
namespace Go.Proofs.YtfbfenljfdnggaaGreatDoor
open Go.RowKit
theorem great16_any (oa : Option Addr) (n ca : Nat) (w : World) : Calls Tryz.prog 6 #[.slice oa n ca] w fun e w' => e = .returned (.bool (decide (20 < n))) ∧ w' = w := by
  by_cases h : 20 < n
  · have hi : (20 : Int) < (n : Int) := by omega
    have HD : Hid (decide (20 < n) = true) := decide_eq_true h
    clear h
    go_enter Tryz.func6, Tryz.ntmps6
    go_wp2
    go_ret
    exact ⟨by rw [HD.out]; rfl, rfl⟩
  · have hi : ¬ (20 : Int) < (n : Int) := by omega
    have HD : Hid (decide (20 < n) = false) := decide_eq_false h
    clear h
    go_enter Tryz.func6, Tryz.ntmps6
    go_wp2
    go_ret
    exact ⟨by rw [HD.out]; rfl, rfl⟩
end Go.Proofs.YtfbfenljfdnggaaGreatDoor

/- PermutePlaces. -/
namespace Go.Proofs.YtfbfenljfdnggaaGreatDoor
open Go.RowKit
theorem eqE_in (d : Nat) (a0 a1 a2 a3 b0 b1 b2 b3 : Int) (w : World) :
    (Op.equalIn (d + 2) 25 (.agg #[.int .u64 a0, .int .u64 a1, .int .u64 a2, .int .u64 a3]) (.agg #[.int .u64 b0, .int .u64 b1, .int .u64 b2, .int .u64 b3])).run Tryz.prog w =
      .ok (a0 == b0 && (a1 == b1 && (a2 == b2 && a3 == b3))) w := by
  have hs : (Tryz.prog.info? 23).isSome = true := by kernel_rfl
  obtain ⟨i, hi⟩ := Option.isSome_iff_exists.mp hs
  rw [run_equalIn_array w (d + 1) _ _ Tryz.underlying25 hi]
  have hc : Tryz.prog.cellsOf 23 = 1 := by kernel_rfl
  rw [hc, show List.range 4 = [0, 1, 2, 3] from rfl]
  obtain ⟨p0, p1, p2, p3⟩ := part4_at a0 a1 a2 a3 w
  obtain ⟨q0, q1, q2, q3⟩ := part4_at b0 b1 b2 b3 w
  have hq : ∀ a b : Int, (Op.equalIn (d + 1) 23 (.int .u64 a) (.int .u64 b)).run Tryz.prog w = .ok (a == b) w := fun a b => run_equalIn_int w d 23 .u64 .u64 a b Tryz.underlying23
  simp only [Op.eqItems, Sem.run_bind, Nat.mul_one, p0, q0, hq, Result.andThen_ok]
  cases h0 : (a0 == b0)
  · simp
  · simp only [Bool.not_true, Bool.false_eq_true, if_false, Sem.run_bind, p1, q1, hq, Result.andThen_ok, Bool.true_and]
    cases h1 : (a1 == b1)
    · simp
    · simp only [Bool.not_true, Bool.false_eq_true, if_false, Sem.run_bind, p2, q2, hq, Result.andThen_ok, Bool.true_and]
      cases h2 : (a2 == b2)
      · simp
      · simp only [Bool.not_true, Bool.false_eq_true, if_false, Sem.run_bind, p3, q3, hq, Result.andThen_ok, Bool.true_and]
        cases h3 : (a3 == b3) <;> simp
theorem part16_at (a0 a1 a2 a3 a4 a5 a6 a7 a8 a9 a10 a11 a12 a13 a14 a15 : Int) (w : World) :
    (part 25 #[.int .u64 a0, .int .u64 a1, .int .u64 a2, .int .u64 a3, .int .u64 a4, .int .u64 a5, .int .u64 a6, .int .u64 a7, .int .u64 a8, .int .u64 a9, .int .u64 a10, .int .u64 a11, .int .u64 a12, .int .u64 a13, .int .u64 a14, .int .u64 a15] 0).run Tryz.prog w = .ok (.agg #[.int .u64 a0, .int .u64 a1, .int .u64 a2, .int .u64 a3]) w ∧ (part 25 #[.int .u64 a0, .int .u64 a1, .int .u64 a2, .int .u64 a3, .int .u64 a4, .int .u64 a5, .int .u64 a6, .int .u64 a7, .int .u64 a8, .int .u64 a9, .int .u64 a10, .int .u64 a11, .int .u64 a12, .int .u64 a13, .int .u64 a14, .int .u64 a15] 4).run Tryz.prog w = .ok (.agg #[.int .u64 a4, .int .u64 a5, .int .u64 a6, .int .u64 a7]) w ∧ (part 25 #[.int .u64 a0, .int .u64 a1, .int .u64 a2, .int .u64 a3, .int .u64 a4, .int .u64 a5, .int .u64 a6, .int .u64 a7, .int .u64 a8, .int .u64 a9, .int .u64 a10, .int .u64 a11, .int .u64 a12, .int .u64 a13, .int .u64 a14, .int .u64 a15] 8).run Tryz.prog w = .ok (.agg #[.int .u64 a8, .int .u64 a9, .int .u64 a10, .int .u64 a11]) w ∧ (part 25 #[.int .u64 a0, .int .u64 a1, .int .u64 a2, .int .u64 a3, .int .u64 a4, .int .u64 a5, .int .u64 a6, .int .u64 a7, .int .u64 a8, .int .u64 a9, .int .u64 a10, .int .u64 a11, .int .u64 a12, .int .u64 a13, .int .u64 a14, .int .u64 a15] 12).run Tryz.prog w = .ok (.agg #[.int .u64 a12, .int .u64 a13, .int .u64 a14, .int .u64 a15]) w :=
  ⟨by kernel_rfl, by kernel_rfl, by kernel_rfl, by kernel_rfl⟩
theorem list4f {α : Type} (l : List α) (h : l.length = 4) : ∃ a b c d, l = [a, b, c, d] := by
  match l, h with
  | [a, b, c, d], _ => exact ⟨a, b, c, d, rfl⟩
theorem fieldsSp : ∃ n0 n1 n2 n3 : Field, (Tryz.prog.fieldsOf 67).toList = [n0, n1, n2, n3] ∧ (n0.name ≠ "_" ∧ n1.name ≠ "_" ∧ n2.name ≠ "_" ∧ n3.name ≠ "_") ∧ (n0.type = 25 ∧ n1.type = 25 ∧ n2.type = 25 ∧ n3.type = 25) ∧ n0.offset = 0 ∧ n1.offset = 4 ∧ n2.offset = 8 ∧ n3.offset = 12 := by
  have h : (Tryz.prog.fieldsOf 67).toList.map (fun f => (f.name == "_", f.type, f.offset)) = [(false, 25, 0), (false, 25, 4), (false, 25, 8), (false, 25, 12)] := by kernel_rfl
  have hlen : (Tryz.prog.fieldsOf 67).toList.length = 4 := by
    have := congrArg List.length h
    simpa using this
  obtain ⟨n0, n1, n2, n3, hl⟩ := list4f _ hlen
  rw [hl] at h ⊢
  simp only [List.map_cons, List.map_nil, List.cons.injEq, Prod.mk.injEq, and_true] at h
  obtain ⟨⟨a1, a2, a3⟩, ⟨b1, b2, b3⟩, ⟨c1, c2, c3⟩, ⟨d1, d2, d3⟩⟩ := h
  exact ⟨n0, n1, n2, n3, rfl, ⟨by simpa using a1, by simpa using b1, by simpa using c1, by simpa using d1⟩, ⟨a2, b2, c2, d2⟩, a3, b3, c3, d3⟩
theorem eqSp_in (a0 a1 a2 a3 a4 a5 a6 a7 a8 a9 a10 a11 a12 a13 a14 a15 : Int) (w : World) : (Op.equalIn 10000 67 (.agg #[.int .u64 a0, .int .u64 a1, .int .u64 a2, .int .u64 a3, .int .u64 a4, .int .u64 a5, .int .u64 a6, .int .u64 a7, .int .u64 a8, .int .u64 a9, .int .u64 a10, .int .u64 a11, .int .u64 a12, .int .u64 a13, .int .u64 a14, .int .u64 a15]) (.agg #[.int .u64 a0, .int .u64 a1, .int .u64 a2, .int .u64 a3, .int .u64 a4, .int .u64 a5, .int .u64 a6, .int .u64 a7, .int .u64 a8, .int .u64 a9, .int .u64 a10, .int .u64 a11, .int .u64 a12, .int .u64 a13, .int .u64 a14, .int .u64 a15])).run Tryz.prog w = .ok true w := by
  obtain ⟨n0, n1, n2, n3, hl, ⟨m0, m1, m2, m3⟩, ⟨t0, t1, t2, t3⟩, o0, o1, o2, o3⟩ := fieldsSp
  rw [run_equalIn_struct w 9999 _ _ _ (by kernel_rfl) (by kernel_rfl), hl]
  obtain ⟨p0, p1, p2, p3⟩ := part16_at a0 a1 a2 a3 a4 a5 a6 a7 a8 a9 a10 a11 a12 a13 a14 a15 w
  have hq := eqE_in 9997
  simp only [Op.eqFields, m0, m1, m2, m3, ne_eq, not_false_eq_true, if_true, t0, t1, t2, t3, o0, o1, o2, o3, Sem.run_bind, p0, p1, p2, p3, hq, Result.andThen_ok, beq_self_eq_true, Bool.and_self, Bool.not_true, Bool.false_eq_true, if_false]
  try rfl
theorem eqlSp (a0 a1 a2 a3 a4 a5 a6 a7 a8 a9 a10 a11 a12 a13 a14 a15 : Int) (w : World) : (binOp .eql 67 (.agg #[.int .u64 a0, .int .u64 a1, .int .u64 a2, .int .u64 a3, .int .u64 a4, .int .u64 a5, .int .u64 a6, .int .u64 a7, .int .u64 a8, .int .u64 a9, .int .u64 a10, .int .u64 a11, .int .u64 a12, .int .u64 a13, .int .u64 a14, .int .u64 a15]) (.agg #[.int .u64 a0, .int .u64 a1, .int .u64 a2, .int .u64 a3, .int .u64 a4, .int .u64 a5, .int .u64 a6, .int .u64 a7, .int .u64 a8, .int .u64 a9, .int .u64 a10, .int .u64 a11, .int .u64 a12, .int .u64 a13, .int .u64 a14, .int .u64 a15])).run Tryz.prog w = .ok (.bool true) w := by
  rw [run_eql_struct, eqSp_in]; rfl
theorem lag_1 : lagV 0 3 0 1 = 1 ∧ lagV 0 3 1 1 = 0 ∧ lagV 0 3 2 1 = 0 ∧ lagV 0 3 3 1 = 0 ∧ lagV 0 3 4 1 = 0 := by
  have q : 14449345 * 2 ^ 3 % modN 0 = 1 := by decide +kernel
  refine ⟨lag_same (lagV_ok 0 3 0 1 (by decide)) ⟨by decide +kernel, 14449345, q, by decide +kernel⟩, lag_same (lagV_ok 0 3 1 1 (by decide)) ⟨by decide +kernel, 14449345, q, by decide +kernel⟩, lag_same (lagV_ok 0 3 2 1 (by decide)) ⟨by decide +kernel, 14449345, q, by decide +kernel⟩, lag_same (lagV_ok 0 3 3 1 (by decide)) ⟨by decide +kernel, 14449345, q, by decide +kernel⟩, lag_same (lagV_ok 0 3 4 1 (by decide)) ⟨by decide +kernel, 14449345, q, by decide +kernel⟩⟩
theorem chk_ok (s k : Nat) (hs : s < 4) (hk : 3 ≤ k ∧ k ≤ 5) (w : World) (hg : GlobD w) : Calls Tryz.prog 23 #[.int .i64 (s : Int), .int .i64 (k : Int)] w fun e w' => e = .returned (.int .i64 0) ∧ Below w.heap.size w w' := by
  have h := pck_in s (k : Int) hs w hg.1
  rwa [if_neg (by omega)] at h
theorem use_ok (k U : Nat) (hk : 3 ≤ k ∧ k ≤ 5) (hU : U = 2 ^ k - 4) (w : World) : Calls Tryz.prog 53 #[.int .i64 (k : Int)] w fun e w' => e = .returned (.int .i64 (U : Int)) ∧ w' = w := by
  have hP : 8 ≤ 2 ^ k ∧ 2 ^ k ≤ 32 := ⟨Nat.pow_le_pow_right (n := 2) (by decide) hk.1, Nat.pow_le_pow_right (n := 2) (by decide) hk.2⟩
  have h := usable_any (k : Int) w
  have e2 : (2 : Int) ^ k = ((2 ^ k : Nat) : Int) := by simp
  rw [if_pos (by omega), Int.toNat_natCast, e2, show ((2 ^ k : Nat) : Int) - 4 = (U : Int) by omega] at h
  exact h
/-- permute.Place, in the sorts and sizes. -/
theorem place_in (s k U x : Nat) (hs : s < 4) (hk : 3 ≤ k ∧ k ≤ 5) (hU : U = 2 ^ k - 4) (hx : x < 115792089237316195423570985008687907853269984665640564039457584007913129639936) (w : World) (hg : GlobD w) :
    Calls Tryz.prog 21 #[.int .i64 (s : Int), .int .i64 (k : Int), .agg #[.int .u64 ((limb 0 (x) : Nat) : Int), .int .u64 ((limb 1 (x) : Nat) : Int), .int .u64 ((limb 2 (x) : Nat) : Int), .int .u64 ((limb 3 (x) : Nat) : Int)]] w fun e w' => e = .returned (.tuple #[.agg #[.int .u64 ((limb 0 (addP s x 0) : Nat) : Int), .int .u64 ((limb 1 (addP s x 0) : Nat) : Int), .int .u64 ((limb 2 (addP s x 0) : Nat) : Int), .int .u64 ((limb 3 (addP s x 0) : Nat) : Int), .int .u64 ((limb 0 (lagV s k 0 x) : Nat) : Int), .int .u64 ((limb 1 (lagV s k 0 x) : Nat) : Int), .int .u64 ((limb 2 (lagV s k 0 x) : Nat) : Int), .int .u64 ((limb 3 (lagV s k 0 x) : Nat) : Int), .int .u64 ((limb 0 (lagV s k U x) : Nat) : Int), .int .u64 ((limb 1 (lagV s k U x) : Nat) : Int), .int .u64 ((limb 2 (lagV s k U x) : Nat) : Int), .int .u64 ((limb 3 (lagV s k U x) : Nat) : Int), .int .u64 ((limb 0 (sm s (fun i => lagV s k i x) U) : Nat) : Int), .int .u64 ((limb 1 (sm s (fun i => lagV s k i x) U) : Nat) : Int), .int .u64 ((limb 2 (sm s (fun i => lagV s k i x) U) : Nat) : Int), .int .u64 ((limb 3 (sm s (fun i => lagV s k i x) U) : Nat) : Int)], .int .i64 0]) ∧ Below w.heap.size w w' := by
  have hP : 8 ≤ 2 ^ k ∧ 2 ^ k ≤ 32 := ⟨Nat.pow_le_pow_right (n := 2) (by decide) hk.1, Nat.pow_le_pow_right (n := 2) (by decide) hk.2⟩
  exact place_ok (s : Int) (k : Int) U x (addP s x 0) (sm s (fun i => lagV s k i x) U) (fun i => lagV s k i x) (by omega) w hg (fun w hg => chk_ok s k hs hk w hg) (fun w => use_ok k U hk hU w)
    (fun i hi w hg => dlagV s k i x hs (by omega) (by omega) hx w hg) (fun w hg => pmel_any s x hs hx w hg.1) (fun G c w hg hv => psum_any s U c _ (fun i => lagV s k i x) hs (by omega) (fun i _ => lagV_M s k i x (by omega)) w hg.1 hv)
theorem place_1 (w : World) (hg : GlobD w) : Calls Tryz.prog 21 #[.int .i64 0, .int .i64 3, .agg #[.int .u64 1, .int .u64 0, .int .u64 0, .int .u64 0]] w fun e w' => e = .returned (.tuple #[.agg #[.int .u64 1, .int .u64 0, .int .u64 0, .int .u64 0, .int .u64 1, .int .u64 0, .int .u64 0, .int .u64 0, .int .u64 0, .int .u64 0, .int .u64 0, .int .u64 0, .int .u64 1, .int .u64 0, .int .u64 0, .int .u64 0], .int .i64 0]) ∧ Below w.heap.size w w' := by
  have h := place_in 0 3 4 1 (by decide) (by decide) (by decide) (by decide) w hg
  obtain ⟨g0, g1, g2, g3, g4⟩ := lag_1
  have ea : addP 0 1 0 = 1 := by decide +kernel
  have es : sm 0 (fun i => lagV 0 3 i 1) 4 = 1 := by
    show addP 0 (addP 0 (addP 0 (addP 0 0 (lagV 0 3 0 1)) (lagV 0 3 1 1)) (lagV 0 3 2 1)) (lagV 0 3 3 1) = 1
    rw [g0, g1, g2, g3]; decide +kernel
  rw [ea, es, g0, g4, limb_one.1, limb_one.2.1, limb_one.2.2.1, limb_one.2.2.2, limb_zero, limb_zero, limb_zero, limb_zero] at h
  exact h
set_option maxHeartbeats 4000000 in
set_option maxRecDepth 20000 in
theorem alive16_any (w : World) (hg : GlobD w) : Calls Tryz.prog 5 #[] w fun e w' => e = .returned (.bool true) ∧ Below w.heap.size w w' := by
  have HP : Hid (∀ w, GlobD w → _) := fun w hg => place_1 w hg
  have HG : Hid (GlobD w) := hg
  have hq := fun w => eqlSp 1 0 0 0 1 0 0 0 0 0 0 0 1 0 0 0 w
  clear hg
  go_enter Tryz.func5, Tryz.ntmps5
  go_wp2_with fail
  refine (HP.out w HG.out).mono ?_
  rintro e w1 ⟨rfl, hb1⟩
  go_upto_region 2 with fail
  obtain ⟨w2, hw2⟩ : ∃ z : World, z = w1.alloc (.cells #[.int .u64 1, .int .u64 0, .int .u64 0, .int .u64 0, .int .u64 1, .int .u64 0, .int .u64 0, .int .u64 0, .int .u64 0, .int .u64 0, .int .u64 0, .int .u64 0, .int .u64 1, .int .u64 0, .int .u64 0, .int .u64 0] 67) := ⟨_, rfl⟩
  obtain ⟨N1, e1⟩ : ∃ z, z = w1.heap.size := ⟨_, rfl⟩
  have b1 : Lay w2 67 N1 #[.int .u64 1, .int .u64 0, .int .u64 0, .int .u64 0, .int .u64 1, .int .u64 0, .int .u64 0, .int .u64 0, .int .u64 0, .int .u64 0, .int .u64 0, .int .u64 0, .int .u64 1, .int .u64 0, .int .u64 0, .int .u64 0] := by rw [hw2]; exact Lay.newAt _ _ _ e1
  have hbn : Below w1.heap.size w1 w2 := by rw [hw2]; exact bAlloc (Below.refl _ _) _
  have hb2 := bStep hb1 hbn
  rw [← hw2]
  try rw [← e1]
  clear hw2 e1 hbn hb1
  obtain ⟨y0, y1, y2, y3, y4, y5, y6, y7, y8, y9, y10, y11, y12, y13, y14, y15⟩ := b1.cells16
  go_wp2
  go_ret
  exact ⟨rfl, hb2⟩
end Go.Proofs.YtfbfenljfdnggaaGreatDoor

