/- A circuit that is looked at: reach, greatest; Usable. -/
import Derived.Test.YtbhljgenicahoaaCL2
import Derived.Deep.RegionWith
namespace Go.Proofs.Ytbhljgenicahoaa
open Go.RowKit

/-- How far the first i queries of the cone reach back, and on. -/
def bkN (T : Nat → Int × Int × Int × Nat) (root : Nat) : Nat → Int
  | 0 => 0
  | i + 1 => if isQ (cnT T root i).1 = true then max (bkN T root i) (-(cnT T root i).2.2.1) else bkN T root i
def fwN (T : Nat → Int × Int × Int × Nat) (root : Nat) : Nat → Int
  | 0 => 0
  | i + 1 => if isQ (cnT T root i).1 = true then max (fwN T root i) (cnT T root i).2.2.1 else fwN T root i
theorem reach_range (T : Nat → Int × Int × Int × Nat) (root : Nat) : ∀ i, (∀ j, j < i → isQ (cnT T root j).1 = true → -3 ≤ (cnT T root j).2.2.1 ∧ (cnT T root j).2.2.1 ≤ 3) → (0 ≤ bkN T root i ∧ bkN T root i ≤ 3) ∧ 0 ≤ fwN T root i ∧ fwN T root i ≤ 3
  | 0, _ => ⟨⟨Int.le_refl 0, (by decide : (0 : Int) ≤ 3)⟩, Int.le_refl 0, (by decide : (0 : Int) ≤ 3)⟩
  | i + 1, h => by
    obtain ⟨h1, h2⟩ := reach_range T root i (fun j hj => h j (by omega))
    show (0 ≤ (if isQ (cnT T root i).1 = true then max (bkN T root i) (-(cnT T root i).2.2.1) else bkN T root i) ∧ (if isQ (cnT T root i).1 = true then max (bkN T root i) (-(cnT T root i).2.2.1) else bkN T root i) ≤ 3) ∧ 0 ≤ (if isQ (cnT T root i).1 = true then max (fwN T root i) (cnT T root i).2.2.1 else fwN T root i) ∧ (if isQ (cnT T root i).1 = true then max (fwN T root i) (cnT T root i).2.2.1 else fwN T root i) ≤ 3
    by_cases hq : isQ (cnT T root i).1 = true
    · have h3 := h i (by omega) hq
      rw [if_pos hq, if_pos hq]
      omega
    · rw [if_neg hq, if_neg hq]
      exact ⟨h1, h2⟩
set_option maxHeartbeats 4000000 in
theorem reach1_any (rot x y : Int) (o p : Nat) (hop : o ≠ p) (hr : -3 ≤ rot ∧ rot ≤ 3) (w : World) (hx : CB w o x) (hy : CB w p y) :
    Calls Try.prog 54 #[.int .i64 rot, .pointer (some ⟨o, 0, none⟩), .pointer (some ⟨p, 0, none⟩)] w fun e w' => e = .returned (.tuple #[]) ∧ w' = (w.setCell ⟨o, 0, none⟩ (.int .i64 (max x (-rot)))).setCell ⟨p, 0, none⟩ (.int .i64 (max y rot)) := by
  have r0 := hr.1
  have r1 := hr.2
  have c0 := hx.cell
  have f0 := hx.frozen
  have c1 : ∀ v, (w.setCell ⟨o, 0, none⟩ v).cell? ⟨p, 0, none⟩ = some (.int .i64 y) := fun v => (hy.other (a := ⟨o, 0, none⟩) (fun e => hop e.symm) v).cell
  have f1 : ∀ v a, (w.setCell ⟨o, 0, none⟩ v).frozen? ⟨p, a, none⟩ = false := fun v => (hy.other (a := ⟨o, 0, none⟩) (fun e => hop e.symm) v).frozen
  have hw : IntKind.i64.wrap (-rot) = -rot := by simp [IntKind.wrap, IntKind.bits, IntKind.signed]; omega
  clear hr hx hy hop
  by_cases h1 : x < -rot
  · have HM1 : Hid (max x (-rot) = -rot) := by show max x (-rot) = -rot; omega
    by_cases h2 : y < rot
    · have HM2 : Hid (max y rot = rot) := by show max y rot = rot; omega
      go_enter Try.func54, Try.ntmps54
      go_wp2
      exact bodyPost_end (v := .tuple #[]) (by simp [results, Try.results54, go_sem]) rfl ⟨rfl, by rw [HM1.out, HM2.out]⟩
    · have HM2 : Hid (max y rot = y) := by show max y rot = y; omega
      go_enter Try.func54, Try.ntmps54
      go_wp2
      exact bodyPost_end (v := .tuple #[]) (by simp [results, Try.results54, go_sem]) rfl ⟨rfl, by rw [HM1.out, HM2.out]⟩
  · have HM1 : Hid (max x (-rot) = x) := by show max x (-rot) = x; omega
    by_cases h2 : y < rot
    · have HM2 : Hid (max y rot = rot) := by show max y rot = rot; omega
      go_enter Try.func54, Try.ntmps54
      go_wp2
      exact bodyPost_end (v := .tuple #[]) (by simp [results, Try.results54, go_sem]) rfl ⟨rfl, by rw [HM1.out, HM2.out]⟩
    · have HM2 : Hid (max y rot = y) := by show max y rot = y; omega
      go_enter Try.func54, Try.ntmps54
      go_wp2
      exact bodyPost_end (v := .tuple #[]) (by simp [results, Try.results54, go_sem]) rfl ⟨rfl, by rw [HM1.out, HM2.out]⟩
set_option maxHeartbeats 4000000 in
theorem usable_any (k : Int) (w : World) : Calls Try.prog 21 #[.int .i64 k] w fun e w' => e = .returned (.int .i64 (if 2 ≤ k ∧ k ≤ 30 then 2 ^ k.toNat - 4 else 0)) ∧ w' = w := by
  by_cases h2 : k < 2
  · rw [if_neg (by omega)]
    go_enter Try.func21, Try.ntmps21
    go_wp2
    go_ret
    exact ⟨rfl, rfl⟩
  · by_cases h30 : 30 < k
    · rw [if_neg (by omega)]
      go_enter Try.func21, Try.ntmps21
      go_wp2
      go_ret
      exact ⟨rfl, rfl⟩
    · rw [if_pos (by omega)]
      obtain ⟨q, rfl⟩ : ∃ q : Nat, k = q := ⟨k.toNat, by omega⟩
      have hq : 2 ≤ q ∧ q ≤ 30 := by omega
      have hk0 : ¬ (q : Int) < 0 := by omega
      have e1 : (2 : Int) ^ q = ((2 ^ q : Nat) : Int) := by simp
      have hP : 4 ≤ 2 ^ q ∧ 2 ^ q ≤ 1073741824 := ⟨Nat.pow_le_pow_right (n := 2) (by decide) hq.1, Nat.pow_le_pow_right (n := 2) (by decide) hq.2⟩
      obtain ⟨P, eP⟩ : ∃ P, P = 2 ^ q := ⟨_, rfl⟩
      rw [← eP] at e1 hP
      have hkw : IntKind.i64.wrap ((2 : Int) ^ q) = (P : Int) := by rw [e1]; simp [IntKind.wrap, IntKind.bits, IntKind.signed]; omega
      have HE : Hid ((2 : Int) ^ q = (P : Int)) := e1
      clear eP e1
      go_enter Try.func21, Try.ntmps21
      go_wp2
      go_ret
      exact ⟨by rw [HE.out]; rfl, rfl⟩
theorem ent54 : Ent 54 := fun w args => by kernel_rfl
set_option maxHeartbeats 8000000 in
set_option maxRecDepth 100000 in
theorem reach_in (F A I : Int) (oN oG oL oE oD : Option Addr) (n cN g cG l cL m cE d cD : Nat) (T : Nat → Int × Int × Int × Nat) (root : Nat) (hn : n ≤ 1000000) (ho : ordB n T = true) (hr : root < n) (hY : ∀ j, j < cnN T root (root + 1) → isQ (cnT T root j).1 = true → -3 ≤ (cnT T root j).2.2.1 ∧ (cnT T root j).2.2.1 ≤ 3) (w : World) (hR : Rs w (.slice oN n cN) 7 n (fun i => nC (T i))) :
    Calls Try.prog 39 #[.agg #[.int .i64 F, .int .i64 A, .int .i64 I, .slice oN n cN, .slice oG g cG, .slice oL l cL, .slice oE m cE, .slice oD d cD], .int .i64 (root : Int)] w fun e w' => e = .returned (.tuple #[.int .i64 (bkN T root (cnN T root (root + 1))), .int .i64 (fwN T root (cnN T root (root + 1)))]) ∧ Below w.heap.size w w' := by
  obtain ⟨w1, ew1⟩ : ∃ x : World, x = w.alloc (.cells #[.int .i64 F, .int .i64 A, .int .i64 I, .slice oN n cN, .slice oG g cG, .slice oL l cL, .slice oE m cE, .slice oD d cD] 55) := ⟨_, rfl⟩
  have hb1 : Below w.heap.size w w1 := by rw [ew1]; exact bAlloc (Below.refl _ _) _
  obtain ⟨o, eo⟩ : ∃ o, o = w.heap.size + 1 := ⟨_, rfl⟩
  have eo' : w1.heap.size = o := by rw [ew1, eo]; simp
  obtain ⟨p, ep⟩ : ∃ p, p = o + 1 := ⟨_, rfl⟩
  obtain ⟨w2, ew2⟩ : ∃ x : World, x = w1.alloc (.cells #[.int .i64 0] 3) := ⟨_, rfl⟩
  have ep' : w2.heap.size = p := by rw [ew2, ep]; simp; omega
  obtain ⟨w3, ew3⟩ : ∃ x : World, x = w2.alloc (.cells #[.int .i64 0] 3) := ⟨_, rfl⟩
  have hb2 : Below w.heap.size w w2 := by rw [ew2]; exact bAlloc hb1 _
  have hb3 : Below w.heap.size w w3 := by rw [ew3]; exact bAlloc hb2 _
  have hcb : CB w3 o 0 := by rw [ew3]; exact CB.below (by rw [ew2, ← eo']; exact CB.new w1 0) (bAlloc (Below.refl _ _) _)
  have hcp : CB w3 p 0 := by rw [ew3, ← ep']; exact CB.new w2 0
  have hop : o ≠ p := by omega
  have HWO : Hid (∀ b, (b = o ∨ b = p) → w.heap.size ≤ b) := fun b hb => by rcases hb with h | h <;> omega
  have HROT : Hid (Calls _ _ _ _ _) := rots_in F A I oN oG oL oE oD n cN g cG l cL m cE d cD T root 54 ent54 #[] #[.pointer (some ⟨o, 0, none⟩), .pointer (some ⟨p, 0, none⟩)] (fun b => b = o ∨ b = p)
    (fun i w' => CB w' o (bkN T root i) ∧ CB w' p (fwN T root i)) hn ho hr w3
    (fun b hb => by rcases hb with rfl | rfl; exact hcb.lt; exact hcp.lt) (fun w' hk => hR.below (hb3.trans (hk.below hb3.size HWO.out)))
    ⟨hcb, hcp⟩
    (fun i w1 w2 hb h => ⟨h.1.below hb, h.2.below hb⟩)
    (fun i hi hq w' hk h => by
      refine (reach1_any (cnT T root i).2.2.1 _ _ o p hop (hY i hi hq) w' h.1 h.2).mono ?_
      rintro e w5 ⟨he, hw5⟩
      subst hw5
      refine ⟨he, (KS.setCell w' ⟨o, 0, none⟩ _ (Or.inl rfl)).trans (KS.setCell _ ⟨p, 0, none⟩ _ (Or.inr rfl)), ?_, ?_⟩
      · show CB _ o (if isQ (cnT T root i).1 = true then max (bkN T root i) (-(cnT T root i).2.2.1) else bkN T root i)
        rw [if_pos hq]
        exact (h.1.set _).other hop _
      · show CB _ p (if isQ (cnT T root i).1 = true then max (fwN T root i) (cnT T root i).2.2.1 else fwN T root i)
        rw [if_pos hq]
        exact CB.set (h.2.other (fun e => hop e.symm) _) _)
    (fun i hi hq w' h => by
      have hq' : ¬ isQ (cnT T root i).1 = true := by rw [hq]; decide
      refine ⟨?_, ?_⟩
      · show CB _ o (if isQ (cnT T root i).1 = true then max (bkN T root i) (-(cnT T root i).2.2.1) else bkN T root i)
        rw [if_neg hq']; exact h.1
      · show CB _ p (if isQ (cnT T root i).1 = true then max (fwN T root i) (cnT T root i).2.2.1 else fwN T root i)
        rw [if_neg hq']; exact h.2)
  obtain ⟨x, ex⟩ : ∃ x, x = bkN T root (cnN T root (root + 1)) := ⟨_, rfl⟩
  obtain ⟨y, ey⟩ : ∃ y, y = fwN T root (cnN T root (root + 1)) := ⟨_, rfl⟩
  rw [← ex, ← ey]
  have HEX : Hid (x = bkN T root (cnN T root (root + 1))) := ex
  have HEY : Hid (y = fwN T root (cnN T root (root + 1))) := ey
  clear ex ey
  have HB3 : Hid (Below w.heap.size w w3) := hb3
  have HOP : Hid (o ≠ p) := hop
  clear hcb hcp hR ho hr hn hY
  go_enter Try.func39, Try.ntmps39
  go_upto_region 1 with fail
  rw [← ew1, ← eo, ← ew2, ← ep, ← ew3]
  have f1 : w3.heap[w.heap.size]? = some (.cells #[.int .i64 F, .int .i64 A, .int .i64 I, .slice oN n cN, .slice oG g cG, .slice oL l cL, .slice oE m cE, .slice oD d cD] 55) := by
    rw [ew3]
    refine (((Below.refl w2.heap.size w2).alloc (Nat.le_refl _) _).block w.heap.size (by omega)).trans ?_
    rw [ew2]
    exact (((Below.refl w1.heap.size w1).alloc (Nat.le_refl _) _).block w.heap.size (by omega)).trans (by rw [ew1]; show (w.heap.push _)[w.heap.size]? = _; simp)
  obtain ⟨b1, eb1⟩ : ∃ x, x = w.heap.size := ⟨_, rfl⟩
  rw [← eb1] at f1 ⊢
  have d0 := cell_of_block f1 0; have d1 := cell_of_block f1 1; have d2 := cell_of_block f1 2; have d3 := cell_of_block f1 3; have d4 := cell_of_block f1 4; have d5 := cell_of_block f1 5; have d6 := cell_of_block f1 6; have d7 := cell_of_block f1 7
  simp only [List.getElem?_toArray, List.getElem?_cons_zero, List.getElem?_cons_succ] at d0 d1 d2 d3 d4 d5 d6 d7
  clear ew1 eo eo' ew2 f1 eb1 ep ep' ew3 hb1 hb2 hb3 hop
  go_wp2_with fail
  refine Calls.mono HROT.out ?_
  rintro e w5 ⟨rfl, hk5, hc5, hp5⟩
  have HB5 : Hid (Below w.heap.size w w5) := HB3.out.trans (hk5.below HB3.out.size HWO.out)
  rw [← HEX.out] at hc5
  rw [← HEY.out] at hp5
  have c0 := hc5.cell
  have f0 := hc5.frozen
  have c1 := hp5.cell
  have g1 := hp5.frozen
  clear HROT hk5 d0 d1 d2 d3 d4 d5 d6 d7
  clear c0 f0 c1 g1
  go_wp2_with fail
  refine wp_region_Z (fun w' => CB w' o x ∧ CB w' p y ∧ Below w.heap.size w w') 4 (by kernel_rfl) ?_
  obtain ⟨wD, hD⟩ : ∃ z : World, z = w5.drew := ⟨_, rfl⟩
  rw [← hD]
  have hp0 : CB wD o x ∧ CB wD p y ∧ Below w.heap.size w wD := by rw [hD]; exact ⟨hc5, hp5, HB5.out.drew⟩
  clear hD hc5 hp5 HB5
  refine wpZ_take (i := 0) (v := .int .i64 x) 10 rfl rfl (by kernel_rfl) (by kernel_rfl) (by kernel_rfl) (Or.inr (by decide)) (fun _ _ _ h => h) (Or.inl ⟨by rfl, fun w hSw => by have c0 := hSw.1.cell; go_simp⟩) hp0 ?_
  simp only [Act.put, List.setIfInBounds_toArray]
  dsimp only [List.set_cons_zero, List.set_cons_succ]
  refine wpZ_take (i := 1) (v := .int .i64 y) 11 rfl rfl (by kernel_rfl) (by kernel_rfl) (by kernel_rfl) (Or.inr (by decide)) (fun _ _ _ h => h) (Or.inl ⟨by rfl, fun w hSw => by have c0 := hSw.2.1.cell; go_simp⟩) hp0 ?_
  simp only [Act.put, List.setIfInBounds_toArray]
  dsimp only [List.set_cons_zero, List.set_cons_succ]
  refine wpZ_one (i := 2) (by kernel_rfl) rfl (fun K hK => ?_)
  have c0 := hp0.1.cell
  have f0 := hp0.1.frozen
  obtain ⟨w6, e6⟩ : ∃ z : World, z = wD.setCell ⟨o, 0, none⟩ (.int .i64 x) := ⟨_, rfl⟩
  have hp1 : CB w6 o x ∧ CB w6 p y ∧ Below w.heap.size w w6 := by rw [e6]; exact ⟨hp0.1.set _, hp0.2.1.other (fun e => HOP.out e.symm) _, hp0.2.2.setCell (HWO.out o (Or.inl rfl)) _⟩
  go_simp
  rw [← e6]
  refine hK.out _ _ (fun _ => hp1) ?_
  clear hK K c0 f0 e6 hp0
  refine wpZ_one (i := 3) (by kernel_rfl) rfl (fun K hK => ?_)
  have c0 := hp1.2.1.cell
  have f0 := hp1.2.1.frozen
  obtain ⟨w7, e7⟩ : ∃ z : World, z = w6.setCell ⟨p, 0, none⟩ (.int .i64 y) := ⟨_, rfl⟩
  have hp2 : CB w7 o x ∧ CB w7 p y ∧ Below w.heap.size w w7 := by rw [e7]; exact ⟨hp1.1.other HOP.out _, hp1.2.1.set _, hp1.2.2.setCell (HWO.out p (Or.inr rfl)) _⟩
  go_simp
  rw [← e7]
  refine hK.out _ _ (fun _ => hp2) ?_
  clear hK K c0 f0 e7 hp1
  refine wpZ_done (by kernel_rfl) ?_ _
  have c0 := hp2.1.cell
  have c1 := hp2.2.1.cell
  have HB7 : Hid (Below w.heap.size w w7) := hp2.2.2
  clear hp2
  go_wp2
  exact bodyPost_ret (v := .tuple #[.int .i64 x, .int .i64 y]) (by simp [results, Try.results39, go_sem, c0, c1]) rfl ⟨rfl, HB7.out⟩
/-- The greatest of D at the first i places of P; 0 where there are none. -/
def grt (D P : Nat → Int) : Nat → Int
  | 0 => 0
  | i + 1 => max (grt D P i) (D (P i).toNat)
theorem grt_range (D P : Nat → Int) (hD : ∀ i, 0 ≤ D i ∧ D i ≤ 1000) : ∀ i, 0 ≤ grt D P i ∧ grt D P i ≤ 1000
  | 0 => ⟨Int.le_refl 0, (by decide : (0 : Int) ≤ 1000)⟩
  | i + 1 => by
    have h1 := grt_range D P hD i
    have h2 := hD (P i).toNat
    show 0 ≤ max (grt D P i) (D (P i).toNat) ∧ max (grt D P i) (D (P i).toNat) ≤ 1000
    omega
set_option maxHeartbeats 16000000 in
set_option maxRecDepth 100000 in
theorem greatest_in (F A I : Int) (oN oG oL oE oD : Option Addr) (n cN g cG l cL m cE d cD : Nat) (oP : Option Addr) (np cP : Nat) (D P : Nat → Int) (hnp : np ≤ 1000000) (hD : ∀ i, 0 ≤ D i ∧ D i ≤ 1000) (hP : ∀ i, i < np → 0 ≤ P i ∧ P i < (d : Int)) (w : World) (hzD : Zs w (.slice oD d cD) d D) (hzP : Zs w (.slice oP np cP) np P) :
    Calls Try.prog 46 #[.agg #[.int .i64 F, .int .i64 A, .int .i64 I, .slice oN n cN, .slice oG g cG, .slice oL l cL, .slice oE m cE, .slice oD d cD], .slice oP np cP] w fun e w' => e = .returned (.int .i64 (grt D P np)) ∧ Below w.heap.size w w' := by
  obtain ⟨w1, ew1⟩ : ∃ x : World, x = w.alloc (.cells #[.int .i64 F, .int .i64 A, .int .i64 I, .slice oN n cN, .slice oG g cG, .slice oL l cL, .slice oE m cE, .slice oD d cD] 55) := ⟨_, rfl⟩
  have hb1 : Below w.heap.size w w1 := by rw [ew1]; exact bAlloc (Below.refl _ _) _
  obtain ⟨b1, eb1⟩ : ∃ x, x = w.heap.size := ⟨_, rfl⟩
  have f1 : w1.heap[b1]? = some (.cells #[.int .i64 F, .int .i64 A, .int .i64 I, .slice oN n cN, .slice oG g cG, .slice oL l cL, .slice oE m cE, .slice oD d cD] 55) := by rw [ew1, eb1]; show (w.heap.push _)[w.heap.size]? = _; simp
  have d7 := cell_of_block f1 7
  simp only [List.getElem?_toArray, List.getElem?_cons_zero, List.getElem?_cons_succ] at d7
  have HzD : Hid (Zs w1 (.slice oD d cD) d D) := hzD.below hb1
  have HzP : Hid (Zs w1 (.slice oP np cP) np P) := hzP.below hb1
  have HP : Hid (∀ i, i < np → 0 ≤ P i ∧ P i < (d : Int)) := hP
  have HDD : Hid (∀ i, 0 ≤ D i ∧ D i ≤ 1000) := hD
  have HB1 : Hid (Below w.heap.size w w1) := hb1
  clear hb1 f1 hzD hzP hP hD
  go_enter Try.func46, Try.ntmps46
  go_upto_region 1 with fail
  rw [← ew1, ← eb1]
  clear ew1 eb1
  go_wp2
  go_loop [10, 5] (fun iv gv => ∃ i : Nat, iv = .int .i64 (i : Int) ∧ i ≤ np ∧ gv = .int .i64 (grt D P i)) (fun iv _ => np - (intOf iv).toNat)
  case atStart => exact ⟨0, rfl, Nat.zero_le _, rfl⟩
  case round =>
    obtain ⟨i, rfl, hi, rfl⟩ := hrel
    by_cases hlt : i < np
    · have hii : (i : Int) < (np : Int) := by omega
      have hi0 : (0 : Int) ≤ (i : Int) := by omega
      rcases HzP.out with ⟨_, h0⟩ | ⟨ab, ao, c', hv, _, _, _, hcell⟩
      · omega
      cases hv
      have a0 := hcell i hlt 0 (by decide)
      dsimp only at a0
      rw [Nat.add_zero, Nat.mul_one] at a0
      obtain ⟨y, ey⟩ : ∃ y : Nat, P i = (y : Int) := ⟨(P i).toNat, by have := HP.out i hlt; omega⟩
      have hyd : y < d := by have := HP.out i hlt; omega
      rw [ey] at a0
      have hy0 : (0 : Int) ≤ (y : Int) := by omega
      have hy1 : (y : Int) < (d : Int) := by omega
      rcases HzD.out with ⟨_, h0⟩ | ⟨db, dO, dc, hv, _, _, _, hdc⟩
      · omega
      cases hv
      have e0 := hdc y hyd 0 (by decide)
      dsimp only at e0
      rw [Nat.add_zero, Nat.mul_one] at e0
      obtain ⟨x, ex⟩ : ∃ x, x = D y := ⟨_, rfl⟩
      obtain ⟨G, eG⟩ : ∃ x, x = grt D P i := ⟨_, rfl⟩
      rw [← ex] at e0
      rw [← eG]
      have HGS : Hid (grt D P (i + 1) = max G x) := by
        show max (grt D P i) (D (P i).toNat) = max G x
        rw [eG, ex, ey]; rfl
      clear hcell hdc ey ex eG
      by_cases hx : G < x
      · have HM : Hid (grt D P (i + 1) = x) := by have := HGS.out; show grt D P (i + 1) = x; omega
        go_wp2
        go_round
        case measure => simp [intOf]; omega
        case rel => exact ⟨i + 1, by go_num, hlt, by rw [HM.out]⟩
      · have HM : Hid (grt D P (i + 1) = G) := by have := HGS.out; show grt D P (i + 1) = G; omega
        go_wp2
        go_round
        case measure => simp [intOf]; omega
        case rel => exact ⟨i + 1, by go_num, hlt, by rw [HM.out]⟩
    · have hii : ¬ (i : Int) < (np : Int) := by omega
      have ei : i = np := by omega
      subst ei
      go_wp2
      go_ret
      exact ⟨rfl, HB1.out⟩
set_option maxHeartbeats 4000000 in
theorem raise_any (z c : Int) (o : Nat) (w : World) (h : CB w o c) :
    Calls Try.prog 45 #[.int .i64 z, .pointer (some ⟨o, 0, none⟩)] w fun e w' => e = .returned (.tuple #[]) ∧ w' = w.setCell ⟨o, 0, none⟩ (.int .i64 (max c z)) := by
  have c0 := h.cell
  have f0 := h.frozen
  by_cases h1 : c < z
  · have HM : Hid (max c z = z) := by show max c z = z; omega
    go_enter Try.func45, Try.ntmps45
    go_wp2
    exact bodyPost_end (v := .tuple #[]) (by simp [results, Try.results45, go_sem]) rfl ⟨rfl, by rw [HM.out]⟩
  · have HM : Hid (max c z = c) := by show max c z = c; omega
    go_enter Try.func45, Try.ntmps45
    go_wp2
    exact bodyPost_end (v := .tuple #[]) (by simp [results, Try.results45, go_sem]) rfl ⟨rfl, by rw [HM.out]⟩

end Go.Proofs.Ytbhljgenicahoaa
