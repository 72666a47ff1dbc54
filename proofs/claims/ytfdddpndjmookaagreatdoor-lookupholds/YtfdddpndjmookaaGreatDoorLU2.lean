/- slices.SortFunc over elements, by lookup.compare. -/
import Derived.Test.YtfdddpndjmookaaGreatDoorCA
import Derived.Test.YtfdddpndjmookaaGreatDoorBN
import Derived.Test.YtfdddpndjmookaaGreatDoorLU1
import Derived.Shelf.SlSortCmp.WholeK
namespace Go.Proofs.YtfdddpndjmookaaGreatDoor
open Go.RowKit Go.Sort

/-- Draws and new blocks alone. -/
def Grw (w w' : World) : Prop := ∃ (q : Nat) (os : Array Obj), w' = grow (w.drewN q) os
theorem Grw.refl (w : World) : Grw w w := ⟨0, #[], by rw [grow_empty]; rfl⟩
theorem Grw.drew {w w' : World} (h : Grw w w') : Grw w w'.drew := by
  obtain ⟨q, os, rfl⟩ := h
  exact ⟨q + 1, os, rfl⟩
theorem Grw.alloc {w w' : World} (h : Grw w w') (o : Obj) : Grw w (w'.alloc o) := by
  obtain ⟨q, os, rfl⟩ := h
  exact ⟨q, os ++ #[o], by rw [alloc_eq_grow, grow_grow]⟩
theorem Grw.trans {a b c : World} (h : Grw a b) (k : Grw b c) : Grw a c := by
  obtain ⟨q, os, rfl⟩ := h
  obtain ⟨r, ps, rfl⟩ := k
  exact ⟨q + r, os ++ ps, by simp [grow, World.drewN, Array.append_assoc, Nat.add_assoc]⟩
theorem Grw.below {w w' : World} (h : Grw w w') : Go.RowKit.Below w.heap.size w w' := by
  obtain ⟨q, os, rfl⟩ := h
  refine ⟨rfl, rfl, rfl, by simp [grow, World.drewN], fun k hk => ?_⟩
  show (w.heap ++ os)[k]? = _
  rw [Array.getElem?_append_left hk]

set_option maxHeartbeats 1000000 in
theorem sub_grw (a0 a1 a2 a3 b0 b1 b2 b3 s0 s1 s2 s3 c1 c2 c3 c4 : Nat) (w : World)
    (e0 : ∀ w, (callFunc 83 #[.int .u64 a0, .int .u64 b0, .int .u64 0]).run Tryz.prog w = .ok (.value (.tuple #[.int .u64 s0, .int .u64 c1])) w)
    (e1 : ∀ w, (callFunc 83 #[.int .u64 a1, .int .u64 b1, .int .u64 c1]).run Tryz.prog w = .ok (.value (.tuple #[.int .u64 s1, .int .u64 c2])) w)
    (e2 : ∀ w, (callFunc 83 #[.int .u64 a2, .int .u64 b2, .int .u64 c2]).run Tryz.prog w = .ok (.value (.tuple #[.int .u64 s2, .int .u64 c3])) w)
    (e3 : ∀ w, (callFunc 83 #[.int .u64 a3, .int .u64 b3, .int .u64 c3]).run Tryz.prog w = .ok (.value (.tuple #[.int .u64 s3, .int .u64 c4])) w) :
    Calls Tryz.prog 78 #[.agg #[.int .u64 a0, .int .u64 a1, .int .u64 a2, .int .u64 a3], .agg #[.int .u64 b0, .int .u64 b1, .int .u64 b2, .int .u64 b3]] w fun e w' =>
      e = .returned (.tuple #[.agg #[.int .u64 s0, .int .u64 s1, .int .u64 s2, .int .u64 s3], .bool ((c4 : Int) != 0)]) ∧ Grw w w' := by
  go_enter Tryz.func78, Tryz.ntmps78
  go_wp2
  refine wp_loop_rounds 5 ?_
  iterate 4 (rw [rounds_succ]; go_wp2; go_region; go_wp2)
  rw [rounds_succ]
  go_wp2
  refine bodyPost_ret (v := .tuple #[.agg #[.int .u64 s0, .int .u64 s1, .int .u64 s2, .int .u64 s3], .bool ((c4 : Int) != 0)]) (by simp [results, Tryz.results78, go_sem]) rfl ⟨rfl, ?_⟩
  repeat (first | with_reducible exact Grw.refl _ | with_reducible refine Grw.drew ?_ | with_reducible refine Grw.alloc ?_ _)
theorem subG_any (A B : Nat) (hA : A < 115792089237316195423570985008687907853269984665640564039457584007913129639936) (hB : B < 115792089237316195423570985008687907853269984665640564039457584007913129639936) (w : World) :
    Calls Tryz.prog 78 #[.agg #[.int .u64 ((limb 0 (A) : Nat) : Int), .int .u64 ((limb 1 (A) : Nat) : Int), .int .u64 ((limb 2 (A) : Nat) : Int), .int .u64 ((limb 3 (A) : Nat) : Int)], .agg #[.int .u64 ((limb 0 (B) : Nat) : Int), .int .u64 ((limb 1 (B) : Nat) : Int), .int .u64 ((limb 2 (B) : Nat) : Int), .int .u64 ((limb 3 (B) : Nat) : Int)]] w fun e w' => e = .returned (.tuple #[.agg #[.int .u64 ((limb 0 (sub256 A B) : Nat) : Int), .int .u64 ((limb 1 (sub256 A B) : Nat) : Int), .int .u64 ((limb 2 (sub256 A B) : Nat) : Int), .int .u64 ((limb 3 (sub256 A B) : Nat) : Int)], .bool (below256 A B)]) ∧ Grw w w' := by
  obtain ⟨c1, c2, c3, c4, p0, q0, r0, p1, q1, r1, p2, q2, r2, p3, q3, r3, hc⟩ := sub_limbs A B hA hB
  have ho : below256 A B = ((c4 : Int) != 0) := by
    unfold below256; rw [Bool.eq_iff_iff]; simp only [decide_eq_true_eq, bne_iff_ne]; omega
  rw [ho]
  exact sub_grw _ _ _ _ _ _ _ _ _ _ _ _ c1 c2 c3 c4 w (run_pair_eq p0 q0 fun w => sub64_run _ _ 0 (by decide) w) (run_pair_eq p1 q1 fun w => sub64_run _ _ _ r0 w)
    (run_pair_eq p2 q2 fun w => sub64_run _ _ _ r1 w) (run_pair_eq p3 q3 fun w => sub64_run _ _ _ r2 w)
set_option maxHeartbeats 400000 in
theorem lessG_any (A B : Nat) (hA : A < 115792089237316195423570985008687907853269984665640564039457584007913129639936) (hB : B < 115792089237316195423570985008687907853269984665640564039457584007913129639936) (w : World) :
    Calls Tryz.prog 54 #[.agg #[.int .u64 ((limb 0 (A) : Nat) : Int), .int .u64 ((limb 1 (A) : Nat) : Int), .int .u64 ((limb 2 (A) : Nat) : Int), .int .u64 ((limb 3 (A) : Nat) : Int)], .agg #[.int .u64 ((limb 0 (B) : Nat) : Int), .int .u64 ((limb 1 (B) : Nat) : Int), .int .u64 ((limb 2 (B) : Nat) : Int), .int .u64 ((limb 3 (B) : Nat) : Int)]] w fun e w' => e = .returned (.bool (below256 A B)) ∧ Grw w w' := by
  go_enter Tryz.func54, Tryz.ntmps54
  go_wp2_with fail
  refine (subG_any A B hA hB _).mono ?_
  rintro e w' ⟨rfl, hb⟩
  go_wp2
  go_ret
  refine ⟨rfl, ?_⟩
  repeat (first | with_reducible exact Grw.refl _ | with_reducible refine Grw.drew ?_ | with_reducible refine Grw.alloc ?_ _ | with_reducible refine Grw.trans ?_ hb)

/-- What compare answers. -/
def cmpN (A B : Nat) : Int := if A < B then -1 else if B < A then 1 else 0
set_option maxHeartbeats 2000000 in
theorem cmpG_any (A B : Nat) (hA : A < 115792089237316195423570985008687907853269984665640564039457584007913129639936) (hB : B < 115792089237316195423570985008687907853269984665640564039457584007913129639936) (w : World) :
    Calls Tryz.prog 37 #[.agg #[.int .u64 ((limb 0 (A) : Nat) : Int), .int .u64 ((limb 1 (A) : Nat) : Int), .int .u64 ((limb 2 (A) : Nat) : Int), .int .u64 ((limb 3 (A) : Nat) : Int)], .agg #[.int .u64 ((limb 0 (B) : Nat) : Int), .int .u64 ((limb 1 (B) : Nat) : Int), .int .u64 ((limb 2 (B) : Nat) : Int), .int .u64 ((limb 3 (B) : Nat) : Int)]] w fun e w' => e = .returned (.int .i64 (cmpN A B)) ∧ Grw w w' := by
  have H1 := fun w => lessG_any A B hA hB w
  have H2 := fun w => lessG_any B A hB hA w
  have e1 : below256 A B = decide (A < B) := rfl
  have e2 : below256 B A = decide (B < A) := rfl
  obtain ⟨r, er⟩ : ∃ r, r = cmpN A B := ⟨_, rfl⟩
  rw [← er]
  have hr1 : A < B → r = -1 := fun h => by rw [er]; unfold cmpN; rw [if_pos h]
  have hr2 : ¬ A < B → B < A → r = 1 := fun h k => by rw [er]; unfold cmpN; rw [if_neg h, if_pos k]
  have hr3 : ¬ A < B → ¬ B < A → r = 0 := fun h k => by rw [er]; unfold cmpN; rw [if_neg h, if_neg k]
  clear er
  go_enter Tryz.func37, Tryz.ntmps37
  go_wp2_with fail
  obtain ⟨w0, hw0⟩ : ∃ z : World, z = (w.alloc (.cells #[.int .u64 ((limb 0 (A) : Nat) : Int), .int .u64 ((limb 1 (A) : Nat) : Int), .int .u64 ((limb 2 (A) : Nat) : Int), .int .u64 ((limb 3 (A) : Nat) : Int)] 25)).alloc (.cells #[.int .u64 ((limb 0 (B) : Nat) : Int), .int .u64 ((limb 1 (B) : Nat) : Int), .int .u64 ((limb 2 (B) : Nat) : Int), .int .u64 ((limb 3 (B) : Nat) : Int)] 25) := ⟨_, rfl⟩
  obtain ⟨N1, eN1⟩ : ∃ z, z = w.heap.size := ⟨_, rfl⟩
  obtain ⟨N2, eN2⟩ : ∃ z, z = N1 + 1 := ⟨_, rfl⟩
  have bA : Blk w0 25 N1 (fun i => limb i A) := by rw [hw0]; exact (Blk.newAt _ _ _ (fun i => limb i A) eN1).alloc _
  have bB : Blk w0 25 N2 (fun i => limb i B) := by rw [hw0]; exact Blk.newAt _ _ _ (fun i => limb i B) (by rw [eN2, eN1]; simp)
  have g0 : Grw w w0 := by rw [hw0]; exact ((Grw.refl w).alloc _).alloc _
  rw [← hw0]
  try rw [← eN1]
  try rw [← eN2]
  clear hw0 eN2 eN1
  refine (H1 w0).mono ?_
  rintro e w1 ⟨rfl, g1⟩
  have bA1 := bA.belowAll g1.below
  have bB1 := bB.belowAll g1.below
  have g01 := g0.trans g1
  clear bA bB g0 g1 H1
  rw [e1]
  by_cases h1 : A < B
  · rw [decide_eq_true h1]
    obtain rfl := hr1 h1
    clear hr1 hr2 hr3 h1 e1 e2
    go_wp2
    go_ret
    exact ⟨rfl, g01⟩
  · rw [decide_eq_false h1]
    have cA := bA1.cell; have cB := bB1.cell
    clear bA1 bB1
    have HR2 : Hid (B < A → r = 1) := hr2 h1
    have HR3 : Hid (¬ B < A → r = 0) := hr3 h1
    have HE2 : Hid (below256 B A = decide (B < A)) := e2
    clear hr1 hr2 hr3 h1 e1 e2
    go_wp2_with fail
    refine (H2 w1).mono ?_
    rintro e w2 ⟨rfl, g2⟩
    have g02 := g01.trans g2
    clear g01 g2 cA cB H2
    rw [HE2.out]
    by_cases h2 : B < A
    · rw [decide_eq_true h2]
      obtain rfl := HR2.out h2
      clear HR2 HR3 HE2 h2
      go_wp2
      go_ret
      exact ⟨rfl, g02⟩
    · rw [decide_eq_false h2]
      obtain rfl := HR3.out h2
      clear HR2 HR3 HE2 h2
      go_wp2
      go_ret
      exact ⟨rfl, g02⟩

/-- An element's four cells. -/
def encE (x : Nat) : List Value := [.int .u64 ((limb 0 x : Nat) : Int), .int .u64 ((limb 1 x : Nat) : Int), .int .u64 ((limb 2 x : Nat) : Int), .int .u64 ((limb 3 x : Nat) : Int)]
theorem encE_get (x j : Nat) (hj : j < 4) : (encE x)[j]! = .int .u64 ((limb j x : Nat) : Int) := by
  have h : j = 0 ∨ j = 1 ∨ j = 2 ∨ j = 3 := by omega
  rcases h with rfl | rfl | rfl | rfl <;> rfl
def cmpM (x y : Nat) : Int := cmpN (x % 115792089237316195423570985008687907853269984665640564039457584007913129639936) (y % 115792089237316195423570985008687907853269984665640564039457584007913129639936)
theorem ltE (x y : Nat) : ltOf cmpM x y = decide (x % 115792089237316195423570985008687907853269984665640564039457584007913129639936 < y % 115792089237316195423570985008687907853269984665640564039457584007913129639936) := by
  unfold ltOf cmpM cmpN
  by_cases h1 : x % 115792089237316195423570985008687907853269984665640564039457584007913129639936 < y % 115792089237316195423570985008687907853269984665640564039457584007913129639936
  · rw [if_pos h1, decide_eq_true h1]; rfl
  · rw [if_neg h1, decide_eq_false h1]
    by_cases h2 : y % 115792089237316195423570985008687907853269984665640564039457584007913129639936 < x % 115792089237316195423570985008687907853269984665640564039457584007913129639936
    · rw [if_pos h2]; rfl
    · rw [if_neg h2]; rfl
theorem swoE : SWO (ltOf cmpM) where
  irrefl x := by rw [ltE]; simp
  trans x y z h1 h2 := by rw [ltE] at *; simp only [decide_eq_true_eq] at *; omega
  ntrans x y z h1 h2 := by rw [ltE] at *; simp only [decide_eq_false_iff_not] at *; omega
theorem cmpLaysE (blk off size : Nat) (w : World) : CmpLays Tryz.prog 37 #[] encE 4 cmpM blk off size w := by
  intro m os dk hdk x y
  have h := cmpG_any (x % 115792089237316195423570985008687907853269984665640564039457584007913129639936) (y % 115792089237316195423570985008687907853269984665640564039457584007913129639936) (Nat.mod_lt _ (by decide)) (Nat.mod_lt _ (by decide)) (sortWorldK encE 4 w blk off m dk os)
  rw [← limb_mod x 0 (by decide), ← limb_mod x 1 (by decide), ← limb_mod x 2 (by decide), ← limb_mod x 3 (by decide), ← limb_mod y 0 (by decide), ← limb_mod y 1 (by decide), ← limb_mod y 2 (by decide), ← limb_mod y 3 (by decide)] at h
  exact h
end Go.Proofs.YtfdddpndjmookaaGreatDoor
