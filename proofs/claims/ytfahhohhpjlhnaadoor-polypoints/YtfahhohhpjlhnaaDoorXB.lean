/- Long lists copied and compared. -/
import Derived.Test.YtfahhohhpjlhnaaDoorL1
import Derived.Test.YtfahhohhpjlhnaaDoorPB8
namespace Go.Proofs.YtfahhohhpjlhnaaDoor
open Go.RowKit

set_option maxHeartbeats 4000000 in
set_option maxRecDepth 20000 in
theorem sameB_some (n cn cm a oa b ob : Nat) (f g : Nat → Nat) (hn : n ≤ 4398046510976) (hf : ∀ i, i < n → f i < 115792089237316195423570985008687907853269984665640564039457584007913129639936) (hg : ∀ i, i < n → g i < 115792089237316195423570985008687907853269984665640564039457584007913129639936) (w : World) (ha : ∀ i, i < n → ∀ j, j < 4 → w.cell? ⟨a, oa + i * 4 + j, none⟩ = some (.int .u64 ((limb j (f i) : Nat) : Int))) (hb : ∀ i, i < n → ∀ j, j < 4 → w.cell? ⟨b, ob + i * 4 + j, none⟩ = some (.int .u64 ((limb j (g i) : Nat) : Int))) :
    Calls Tryd.prog 9 #[.slice (some ⟨a, oa, none⟩) n cn, .slice (some ⟨b, ob, none⟩) n cm] w fun e w' => e = .returned (.bool (sameE f g n)) ∧ ∃ k, w' = w.drewN k := by
  have HA := (show Hid _ from ha); have HB := (show Hid _ from hb); have HF := (show Hid _ from hf); have HG := (show Hid _ from hg)
  clear ha hb hf hg
  go_enter Tryd.func9, Tryd.ntmps9
  go_wp2
  go_loopw [5] (fun i wr => ∃ k : Nat, i = .int .i64 (k : Int) ∧ k ≤ n ∧ Hid (∀ j, j < k → f j = g j) ∧ ∃ d, wr = w.drewN d) (fun i _ => n - (intOf i).toNat)
  case atStart => exact ⟨0, rfl, by omega, fun j hj => by omega, 0, rfl⟩
  case round =>
    obtain ⟨k, rfl, hk, hs, d, rfl⟩ := hrel
    by_cases hlt : k < n
    · have hki : (k : Int) < (n : Int) := by omega
      have a0 := HA.out k hlt 0 (by decide); have a1 := HA.out k hlt 1 (by decide); have a2 := HA.out k hlt 2 (by decide); have a3 := HA.out k hlt 3 (by decide)
      have b0 := HB.out k hlt 0 (by decide); have b1 := HB.out k hlt 1 (by decide); have b2 := HB.out k hlt 2 (by decide); have b3 := HB.out k hlt 3 (by decide)
      rw [Nat.add_zero] at a0 b0
      have hq := fun w => neqE (f k) (g k) (HF.out k hlt) (HG.out k hlt) w
      obtain ⟨x, ex⟩ : ∃ x, x = f k := ⟨_, rfl⟩
      obtain ⟨y, ey⟩ : ∃ y, y = g k := ⟨_, rfl⟩
      rw [← ex] at a0 a1 a2 a3 hq
      rw [← ey] at b0 b1 b2 b3 hq
      by_cases he : x = y
      · rw [show decide (x = y) = true from by simp [he]] at hq
        have HE : Hid (f k = g k) := by show _ = _; rw [← ex, ← ey]; exact he
        clear he ex ey
        go_wp2_with fail
        go_quiet (fail)
        go_wp2
        go_roundw
        case measure => simp [intOf]; omega
        case rel =>
          refine ⟨k + 1, by go_num, by omega, fun j hj => ?_, _, rfl⟩
          rcases Nat.lt_or_ge j k with h | h
          · exact hs.out j h
          · rw [show j = k from by omega]; exact HE.out
      · rw [show decide (x = y) = false from by simp [he]] at hq
        have HE : Hid (sameE f g n = false) := by
          show _ = _
          unfold sameE
          simp only [decide_eq_false_iff_not]
          exact fun h => he (by rw [ex, ey]; exact h k hlt)
        clear he ex ey
        go_wp2_with fail
        go_quiet (fail)
        go_wp2
        go_ret
        exact ⟨by rw [HE.out]; rfl, _, World.drewN_drewN _ _ _⟩
    · have hki : ¬ (k : Int) < (n : Int) := by omega
      have hkn : k = n := by omega
      have HE : Hid (sameE f g n = true) := by
        show _ = _
        unfold sameE
        simp only [decide_eq_true_eq]
        rw [← hkn]
        exact hs.out
      clear hkn hlt
      go_wp2
      go_ret
      exact ⟨by rw [HE.out]; rfl, d, rfl⟩
/-- SameElems of the same elements. -/
theorem sameB_self (v u : Value) (n : Nat) (f : Nat → Nat) (hn : n ≤ 4398046510976) (hf : ∀ i, i < n → f i < 115792089237316195423570985008687907853269984665640564039457584007913129639936) (w : World) (hv : Es w v n f) (hu : Es w u n f) :
    Calls Tryd.prog 9 #[v, u] w fun e w' => e = .returned (.bool true) ∧ Below w.heap.size w w' := by
  by_cases h0 : n = 0
  · subst h0
    refine (sameE_empty v u w hv.shape hu.shape).mono ?_
    rintro e w' ⟨rfl, rfl⟩
    exact ⟨rfl, Below.refl _ _⟩
  · rcases hv with ⟨_, h⟩ | ⟨a, oa, ca, rfl, _, _, _, ha⟩
    · exact absurd h h0
    · rcases hu with ⟨_, h⟩ | ⟨b, ob, cb, rfl, _, _, _, hb⟩
      · exact absurd h h0
      · refine (sameB_some n ca cb a oa b ob f f hn hf hf w ha hb).mono ?_
        rintro e w' ⟨rfl, k, rfl⟩
        refine ⟨?_, Below.drewN2 w k⟩
        rw [show sameE f f n = true from by unfold sameE; simp]
set_option maxHeartbeats 2000000 in
theorem copyB_some (n cn a oa : Nat) (f : Nat → Nat) (hn : n ≤ 4398046510976) (w : World) (ha : a < w.heap.size) (hc : ∀ i, i < n → ∀ j, j < 4 → w.cell? ⟨a, oa + i * 4 + j, none⟩ = some (.int .u64 ((limb j (f i) : Nat) : Int))) :
    Calls Tryd.prog 6 #[.slice (some ⟨a, oa, none⟩) n cn] w fun e w' => ∃ v, e = .returned v ∧ w'.ownsRow w.heap.size 33 4 v n (els f n) ∧ Below w.heap.size w w' := by
  obtain ⟨i0, hi, hz0, hz1, hz2⟩ := elemInfo
  have HI := (show Hid _ from hi); have HZ := (show Hid _ from And.intro hz0 (And.intro hz1 hz2)); clear hi hz0 hz1 hz2
  have HC := (show Hid _ from hc); clear hc
  have hown0 : (w.alloc (.cells #[] 33)).ownsRow w.heap.size 33 4 (.slice (some ⟨w.heap.size, 0, none⟩) 0 0) 0 [] :=
    ⟨rfl, Or.inr ⟨w.heap.size, 0, #[], rfl, Nat.le_refl _, new_blockE _ _, Nat.le_refl _, by decide, rfl, rfl⟩⟩
  have HO : Hid ((w.alloc (.cells #[] 33)).ownsRow w.heap.size 33 4 (.slice (some ⟨w.heap.size, 0, none⟩) 0 0) 0 []) := hown0
  clear hown0
  go_enter Tryd.func6, Tryd.ntmps6
  go_wp2_with (first
    | (at_builtin; refine wpList_append_own _ rfl _ _ 22 rfl w.heap.size 33 i0 (.agg #[.int .u64 0, .int .u64 0, .int .u64 0, .int .u64 0]) 4 32 Tryd.underlying22 HI.out HZ.out.1 HZ.out.2.1 HZ.out.2.2 rfl (by decide) _ _ _ rfl HO.out ⟨a, oa, none⟩ n cn (els f n) rfl ?c0 ?c1 ?c2 ?c3 ?c4 ?c5 ?_)
    | go_in)
  case c0 => exact els_len f n
  case c1 =>
    intro j u hj
    have hjn : j < n * 4 := by
      rcases Nat.lt_or_ge j (n * 4) with h | h
      · exact h
      · rw [List.getElem?_eq_none (by rw [els_len]; exact h)] at hj; cases hj
    have e := els_get f n (j / 4) (j % 4) (by omega) (by omega)
    rw [show j / 4 * 4 + j % 4 = j from by omega, hj] at e
    cases e
    have hb : Below w.heap.size w (w.alloc (.cells #[] 33)) := (Below.refl _ _).alloc (Nat.le_refl _) _
    have hadd : (⟨a, oa, none⟩ : Addr).add j = ⟨a, oa + j / 4 * 4 + j % 4, none⟩ := by
      have e2 : oa + j / 4 * 4 + j % 4 = oa + j := by omega
      rw [e2]; unfold Addr.add; split <;> simp_all
    rw [hadd, hb.cell (p := ⟨a, oa + j / 4 * 4 + j % 4, none⟩) ha]
    exact HC.out (j / 4) (by omega) (j % 4) (by omega)
  case c2 => intro u hu; unfold els at hu; obtain ⟨i, _, rfl⟩ := List.mem_map.mp hu; rfl
  case c3 => unfold maxLen; omega
  case c4 => omega
  case c5 => simp
  intro v' w2 hown' hgrow _
  go_wp2
  go_ret
  refine ⟨_, rfl, ?_, ?_⟩
  · exact hown'
  · exact ((Below.refl _ w).alloc (Nat.le_refl _) _).grown hgrow (by simp) (fun j hj => own_block_geE HO.out hj)
/-- CopyElems: the same elements in new memory. -/
theorem copyB_any (n : Nat) (v : Value) (f : Nat → Nat) (hn : n ≤ 4398046510976) (w : World) (h : Es w v n f) :
    Calls Tryd.prog 6 #[v] w fun e w' => ∃ v', e = .returned v' ∧ w'.ownsRow w.heap.size 33 4 v' n (els f n) ∧ Below w.heap.size w w' := by
  rcases h with ⟨rfl, rfl⟩ | ⟨b, o, c, rfl, _, _, hb, hc⟩
  · exact copyE_nil w
  · exact copyB_some n c b o f hn w hb hc

end Go.Proofs.YtfahhohhpjlhnaaDoor

namespace Go.Proofs.YtfahhohhpjlhnaaDoor
open Go.RowKit

set_option maxHeartbeats 8000000 in
set_option maxRecDepth 40000 in
theorem points_short (si E1 E2 : Int) (n cn m cm K1 K2 : Nat) (oa ob : Option Addr) (xs ys F1 F2 : Nat → Nat) (h20 : ¬ (20 : Int) < (n : Int)) (hm : m ≤ 4398046510976) (hK1 : K1 ≤ 4398046510976) (hK2 : K2 ≤ 4398046510976) (hx : ∀ i, i < n → xs i < 115792089237316195423570985008687907853269984665640564039457584007913129639936) (hy : ∀ i, i < m → ys i < 115792089237316195423570985008687907853269984665640564039457584007913129639936) (hF1 : ∀ i, i < K1 → F1 i < 115792089237316195423570985008687907853269984665640564039457584007913129639936) (hF2 : ∀ i, i < K2 → F2 i < 115792089237316195423570985008687907853269984665640564039457584007913129639936)
    (H1 : ∀ w v, Glob w → Es w v n xs → Calls Tryd.prog 7 #[.int .i64 si, v] w fun e w' => (∃ r, e = .returned (.tuple #[r, .int .i64 E1]) ∧ Es w' r K1 F1) ∧ Below w.heap.size w w')
    (H2 : ∀ w, Es w (.slice oa n cn) n xs → Calls Tryd.prog 8 #[.int .i64 si, .slice oa n cn] w fun e w' => (∃ r, e = .returned (.tuple #[r, .int .i64 E1]) ∧ Es w' r K1 F1) ∧ Below w.heap.size w w')
    (H3 : ∀ w v u, Glob w → Es w v n xs → Es w u m ys → Calls Tryd.prog 10 #[.int .i64 si, v, u] w fun e w' => (∃ r, e = .returned (.tuple #[r, .int .i64 E2]) ∧ Es w' r K2 F2) ∧ Below w.heap.size w w')
    (H4 : ∀ w, Es w (.slice oa n cn) n xs → Es w (.slice ob m cm) m ys → Calls Tryd.prog 11 #[.int .i64 si, .slice oa n cn, .slice ob m cm] w fun e w' => (∃ r, e = .returned (.tuple #[r, .int .i64 E2]) ∧ Es w' r K2 F2) ∧ Below w.heap.size w w')
    (w : World) (hg : Glob w) (hv : Es w (.slice oa n cn) n xs) (hu : Es w (.slice ob m cm) m ys) :
    Calls Tryd.prog 3 #[.int .i64 si, .slice oa n cn, .slice ob m cm] w fun e w' => e = .returned (.bool true) ∧ Below w.heap.size w w' := by
  have HH1 := (show Hid _ from H1); have HH2 := (show Hid _ from H2); have HH3 := (show Hid _ from H3); have HH4 := (show Hid _ from H4)
  have CA : Hid (∀ w, Es w (.slice oa n cn) n xs → _) := fun w h => copyB_any n _ xs (by omega) w h
  have CB : Hid (∀ w, Es w (.slice ob m cm) m ys → _) := fun w h => copyB_any m _ ys hm w h
  have S1 : Hid (∀ w v u, Es w v K1 F1 → Es w u K1 F1 → _) := fun w v u h k => sameB_self v u K1 F1 hK1 hF1 w h k
  have S2 : Hid (∀ w v u, Es w v K2 F2 → Es w u K2 F2 → _) := fun w v u h k => sameB_self v u K2 F2 hK2 hF2 w h k
  have SX : Hid (∀ w v u, Es w v n xs → Es w u n xs → _) := fun w v u h k => sameB_self v u n xs (by omega) hx w h k
  have SY : Hid (∀ w v u, Es w v m ys → Es w u m ys → _) := fun w v u h k => sameB_self v u m ys hm hy w h k
  have HG : Hid (Glob w) := hg
  have HVA : Hid (Es w (.slice oa n cn) n xs) := hv
  have HVB : Hid (Es w (.slice ob m cm) m ys) := hu
  have h2000 : ¬ (2000 : Int) < (n : Int) := by omega
  clear hg hv hu H1 H2 H3 H4 hx hy hF1 hF2 hK1 hK2 hm
  go_enter Tryd.func3, Tryd.ntmps3
  go_wp2_with fail
  refine (alive7_any w HG.out).mono ?_
  rintro e w1 ⟨rfl, hb1⟩
  go_wp2_with fail
  refine (CA.out w1 (HVA.out.below hb1)).mono ?_
  rintro e w2 ⟨p, rfl, hop, hb2⟩
  have HP2 : Hid (Es w2 p n xs) := own_Es hop
  have hbw2 := bStep hb1 hb2
  clear hop hb1 hb2 CA
  go_wp2_with fail
  refine (CB.out w2 (HVB.out.below hbw2)).mono ?_
  rintro e w3 ⟨q, rfl, hoq, hb3⟩
  have HQ3 : Hid (Es w3 q m ys) := own_Es hoq
  have HP3 : Hid (Es w3 p n xs) := HP2.out.below hb3
  have hbw3 := bStep hbw2 hb3
  clear hoq hb3 hbw2 HP2 CB
  go_wp2_with fail
  refine (HH1.out w3 p (HG.out.below hbw3) HP3.out).mono ?_
  rintro e w4 ⟨⟨r1, rfl, hr1⟩, hb4⟩
  have HR4 : Hid (Es w4 r1 K1 F1) := hr1
  have HQ4 : Hid (Es w4 q m ys) := HQ3.out.below hb4
  have HP4 : Hid (Es w4 p n xs) := HP3.out.below hb4
  have hbw4 := bStep hbw3 hb4
  clear hr1 hb4 hbw3 HP3 HQ3 HH1
  go_wp2_with fail
  refine (HH2.out w4 (HVA.out.below hbw4)).mono ?_
  rintro e w5 ⟨⟨r2, rfl, hr2⟩, hb5⟩
  have HR5 : Hid (Es w5 r1 K1 F1) := HR4.out.below hb5
  have HT5 : Hid (Es w5 r2 K1 F1) := hr2
  have HQ5 : Hid (Es w5 q m ys) := HQ4.out.below hb5
  have HP5 : Hid (Es w5 p n xs) := HP4.out.below hb5
  have hbw5 := bStep hbw4 hb5
  clear hr2 hb5 hbw4 HP4 HQ4 HR4 HH2
  go_wp2_with fail
  refine (S1.out w5 r1 r2 HR5.out HT5.out).mono ?_
  rintro e w6 ⟨rfl, hb6⟩
  have HQ6 : Hid (Es w6 q m ys) := HQ5.out.below hb6
  have HP6 : Hid (Es w6 p n xs) := HP5.out.below hb6
  have hbw6 := bStep hbw5 hb6
  clear hb6 hbw5 HP5 HQ5 HR5 HT5 S1
  go_wp2_with fail
  refine (HH3.out w6 p q (HG.out.below hbw6) HP6.out HQ6.out).mono ?_
  rintro e w7 ⟨⟨r3, rfl, hr3⟩, hb7⟩
  have HR7 : Hid (Es w7 r3 K2 F2) := hr3
  have HQ7 : Hid (Es w7 q m ys) := HQ6.out.below hb7
  have HP7 : Hid (Es w7 p n xs) := HP6.out.below hb7
  have hbw7 := bStep hbw6 hb7
  clear hr3 hb7 hbw6 HP6 HQ6 HH3
  go_wp2_with fail
  refine (HH4.out w7 (HVA.out.below hbw7) (HVB.out.below hbw7)).mono ?_
  rintro e w8 ⟨⟨r4, rfl, hr4⟩, hb8⟩
  have HR8 : Hid (Es w8 r3 K2 F2) := HR7.out.below hb8
  have HT8 : Hid (Es w8 r4 K2 F2) := hr4
  have HQ8 : Hid (Es w8 q m ys) := HQ7.out.below hb8
  have HP8 : Hid (Es w8 p n xs) := HP7.out.below hb8
  have hbw8 := bStep hbw7 hb8
  clear hr4 hb8 hbw7 HP7 HQ7 HR7 HH4
  go_wp2_with fail
  refine (S2.out w8 r3 r4 HR8.out HT8.out).mono ?_
  rintro e w9 ⟨rfl, hb9⟩
  have HQ9 : Hid (Es w9 q m ys) := HQ8.out.below hb9
  have HP9 : Hid (Es w9 p n xs) := HP8.out.below hb9
  have hbw9 := bStep hbw8 hb9
  clear hb9 hbw8 HP8 HQ8 HR8 HT8 S2
  go_wp2_with fail
  refine (SX.out w9 p _ HP9.out (HVA.out.below hbw9)).mono ?_
  rintro e w10 ⟨rfl, hb10⟩
  have HQ10 : Hid (Es w10 q m ys) := HQ9.out.below hb10
  have hbw10 := bStep hbw9 hb10
  clear hb10 hbw9 HP9 HQ9 SX
  go_wp2_with fail
  refine (SY.out w10 q _ HQ10.out (HVB.out.below hbw10)).mono ?_
  rintro e w11 ⟨rfl, hb11⟩
  have hbw11 := bStep hbw10 hb11
  clear hb11 hbw10 HQ10 SY
  go_wp2
  go_ret
  exact ⟨rfl, hbw11⟩
set_option maxHeartbeats 8000000 in
set_option maxRecDepth 40000 in
theorem points_long (si E1 E2 : Int) (n cn m cm K1 K2 : Nat) (oa ob : Option Addr) (xs ys F1 F2 : Nat → Nat) (h20 : (20 : Int) < (n : Int)) (h1024 : ¬ (n : Int) < 1024) (hn : n ≤ 2000) (hm : m ≤ 4398046510976) (hK1 : K1 ≤ 4398046510976) (hK2 : K2 ≤ 4398046510976) (hx : ∀ i, i < n → xs i < 115792089237316195423570985008687907853269984665640564039457584007913129639936) (hy : ∀ i, i < m → ys i < 115792089237316195423570985008687907853269984665640564039457584007913129639936) (hF1 : ∀ i, i < K1 → F1 i < 115792089237316195423570985008687907853269984665640564039457584007913129639936) (hF2 : ∀ i, i < K2 → F2 i < 115792089237316195423570985008687907853269984665640564039457584007913129639936)
    (H1 : ∀ w v, Glob w → Es w v n xs → Calls Tryd.prog 7 #[.int .i64 si, v] w fun e w' => (∃ r, e = .returned (.tuple #[r, .int .i64 E1]) ∧ Es w' r K1 F1) ∧ Below w.heap.size w w')
    (H2 : ∀ w, Es w (.slice oa n cn) n xs → Calls Tryd.prog 8 #[.int .i64 si, .slice oa n cn] w fun e w' => (∃ r, e = .returned (.tuple #[r, .int .i64 E1]) ∧ Es w' r K1 F1) ∧ Below w.heap.size w w')
    (H3 : ∀ w v u, Glob w → Es w v n xs → Es w u m ys → Calls Tryd.prog 10 #[.int .i64 si, v, u] w fun e w' => (∃ r, e = .returned (.tuple #[r, .int .i64 E2]) ∧ Es w' r K2 F2) ∧ Below w.heap.size w w')
    (H4 : ∀ w, Es w (.slice oa n cn) n xs → Es w (.slice ob m cm) m ys → Calls Tryd.prog 11 #[.int .i64 si, .slice oa n cn, .slice ob m cm] w fun e w' => (∃ r, e = .returned (.tuple #[r, .int .i64 E2]) ∧ Es w' r K2 F2) ∧ Below w.heap.size w w')
    (w : World) (hg : Glob w) (hv : Es w (.slice oa n cn) n xs) (hu : Es w (.slice ob m cm) m ys) :
    Calls Tryd.prog 3 #[.int .i64 si, .slice oa n cn, .slice ob m cm] w fun e w' => e = .returned (.bool true) ∧ Below w.heap.size w w' := by
  have HH1 := (show Hid _ from H1); have HH2 := (show Hid _ from H2); have HH3 := (show Hid _ from H3); have HH4 := (show Hid _ from H4)
  have CA : Hid (∀ w, Es w (.slice oa n cn) n xs → _) := fun w h => copyB_any n _ xs (by omega) w h
  have CB : Hid (∀ w, Es w (.slice ob m cm) m ys → _) := fun w h => copyB_any m _ ys hm w h
  have S1 : Hid (∀ w v u, Es w v K1 F1 → Es w u K1 F1 → _) := fun w v u h k => sameB_self v u K1 F1 hK1 hF1 w h k
  have S2 : Hid (∀ w v u, Es w v K2 F2 → Es w u K2 F2 → _) := fun w v u h k => sameB_self v u K2 F2 hK2 hF2 w h k
  have SX : Hid (∀ w v u, Es w v n xs → Es w u n xs → _) := fun w v u h k => sameB_self v u n xs (by omega) hx w h k
  have SY : Hid (∀ w v u, Es w v m ys → Es w u m ys → _) := fun w v u h k => sameB_self v u m ys hm hy w h k
  have HG : Hid (Glob w) := hg
  have HVA : Hid (Es w (.slice oa n cn) n xs) := hv
  have HVB : Hid (Es w (.slice ob m cm) m ys) := hu
  have h2000 : ¬ (2000 : Int) < (n : Int) := by omega
  clear hg hv hu H1 H2 H3 H4 hx hy hF1 hF2 hK1 hK2 hn hm
  go_enter Tryd.func3, Tryd.ntmps3
  go_wp2_with fail
  refine (alive7_any w HG.out).mono ?_
  rintro e w1 ⟨rfl, hb1⟩
  go_wp2_with fail
  refine (CA.out w1 (HVA.out.below hb1)).mono ?_
  rintro e w2 ⟨p, rfl, hop, hb2⟩
  have HP2 : Hid (Es w2 p n xs) := own_Es hop
  have hbw2 := bStep hb1 hb2
  clear hop hb1 hb2 CA
  go_wp2_with fail
  refine (CB.out w2 (HVB.out.below hbw2)).mono ?_
  rintro e w3 ⟨q, rfl, hoq, hb3⟩
  have HQ3 : Hid (Es w3 q m ys) := own_Es hoq
  have HP3 : Hid (Es w3 p n xs) := HP2.out.below hb3
  have hbw3 := bStep hbw2 hb3
  clear hoq hb3 hbw2 HP2 CB
  go_wp2_with fail
  refine (HH1.out w3 p (HG.out.below hbw3) HP3.out).mono ?_
  rintro e w4 ⟨⟨r1, rfl, hr1⟩, hb4⟩
  have HR4 : Hid (Es w4 r1 K1 F1) := hr1
  have HQ4 : Hid (Es w4 q m ys) := HQ3.out.below hb4
  have HP4 : Hid (Es w4 p n xs) := HP3.out.below hb4
  have hbw4 := bStep hbw3 hb4
  clear hr1 hb4 hbw3 HP3 HQ3 HH1
  go_wp2_with fail
  refine (HH2.out w4 (HVA.out.below hbw4)).mono ?_
  rintro e w5 ⟨⟨r2, rfl, hr2⟩, hb5⟩
  have HR5 : Hid (Es w5 r1 K1 F1) := HR4.out.below hb5
  have HT5 : Hid (Es w5 r2 K1 F1) := hr2
  have HQ5 : Hid (Es w5 q m ys) := HQ4.out.below hb5
  have HP5 : Hid (Es w5 p n xs) := HP4.out.below hb5
  have hbw5 := bStep hbw4 hb5
  clear hr2 hb5 hbw4 HP4 HQ4 HR4 HH2
  go_wp2_with fail
  refine (S1.out w5 r1 r2 HR5.out HT5.out).mono ?_
  rintro e w6 ⟨rfl, hb6⟩
  have HQ6 : Hid (Es w6 q m ys) := HQ5.out.below hb6
  have HP6 : Hid (Es w6 p n xs) := HP5.out.below hb6
  have hbw6 := bStep hbw5 hb6
  clear hb6 hbw5 HP5 HQ5 HR5 HT5 S1
  go_wp2_with fail
  refine (HH3.out w6 p q (HG.out.below hbw6) HP6.out HQ6.out).mono ?_
  rintro e w7 ⟨⟨r3, rfl, hr3⟩, hb7⟩
  have HR7 : Hid (Es w7 r3 K2 F2) := hr3
  have HQ7 : Hid (Es w7 q m ys) := HQ6.out.below hb7
  have HP7 : Hid (Es w7 p n xs) := HP6.out.below hb7
  have hbw7 := bStep hbw6 hb7
  clear hr3 hb7 hbw6 HP6 HQ6 HH3
  go_wp2_with fail
  refine (HH4.out w7 (HVA.out.below hbw7) (HVB.out.below hbw7)).mono ?_
  rintro e w8 ⟨⟨r4, rfl, hr4⟩, hb8⟩
  have HR8 : Hid (Es w8 r3 K2 F2) := HR7.out.below hb8
  have HT8 : Hid (Es w8 r4 K2 F2) := hr4
  have HQ8 : Hid (Es w8 q m ys) := HQ7.out.below hb8
  have HP8 : Hid (Es w8 p n xs) := HP7.out.below hb8
  have hbw8 := bStep hbw7 hb8
  clear hr4 hb8 hbw7 HP7 HQ7 HR7 HH4
  go_wp2_with fail
  refine (S2.out w8 r3 r4 HR8.out HT8.out).mono ?_
  rintro e w9 ⟨rfl, hb9⟩
  have HQ9 : Hid (Es w9 q m ys) := HQ8.out.below hb9
  have HP9 : Hid (Es w9 p n xs) := HP8.out.below hb9
  have hbw9 := bStep hbw8 hb9
  clear hb9 hbw8 HP8 HQ8 HR8 HT8 S2
  go_wp2_with fail
  refine (SX.out w9 p _ HP9.out (HVA.out.below hbw9)).mono ?_
  rintro e w10 ⟨rfl, hb10⟩
  have HQ10 : Hid (Es w10 q m ys) := HQ9.out.below hb10
  have hbw10 := bStep hbw9 hb10
  clear hb10 hbw9 HP9 HQ9 SX
  go_wp2_with fail
  refine (SY.out w10 q _ HQ10.out (HVB.out.below hbw10)).mono ?_
  rintro e w11 ⟨rfl, hb11⟩
  have hbw11 := bStep hbw10 hb11
  clear hb11 hbw10 HQ10 SY
  go_wp2
  go_ret
  exact ⟨rfl, hbw11⟩

end Go.Proofs.YtfahhohhpjlhnaaDoor
