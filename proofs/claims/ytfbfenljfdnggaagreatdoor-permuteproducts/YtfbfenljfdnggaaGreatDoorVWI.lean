/- SameElems of lists that SpareElems has made. -/
import Derived.Test.YtfbfenljfdnggaaGreatDoorVWL
import Derived.Test.YtfbfenljfdnggaaGreatDoorVW7
import Derived.Test.YtfbfenljfdnggaaGreatDoorVBE
namespace Go.Proofs.YtfbfenljfdnggaaGreatDoor
open Go.RowKit
set_option maxHeartbeats 4000000 in
set_option maxRecDepth 20000 in
theorem sameD_some (n cn cm a oa b ob : Nat) (f g : Nat → Nat) (hn : n ≤ 4398046511104) (hf : ∀ i, i < n → f i < 115792089237316195423570985008687907853269984665640564039457584007913129639936) (hg : ∀ i, i < n → g i < 115792089237316195423570985008687907853269984665640564039457584007913129639936) (w : World) (ha : ∀ i, i < n → ∀ j, j < 4 → w.cell? ⟨a, oa + i * 4 + j, none⟩ = some (.int .u64 ((limb j (f i) : Nat) : Int))) (hb : ∀ i, i < n → ∀ j, j < 4 → w.cell? ⟨b, ob + i * 4 + j, none⟩ = some (.int .u64 ((limb j (g i) : Nat) : Int))) :
    Calls Tryz.prog 36 #[.slice (some ⟨a, oa, none⟩) n cn, .slice (some ⟨b, ob, none⟩) n cm] w fun e w' => e = .returned (.bool (sameE f g n)) ∧ ∃ k, w' = w.drewN k := by
  have HA := (show Hid _ from ha); have HB := (show Hid _ from hb); have HF := (show Hid _ from hf); have HG := (show Hid _ from hg)
  clear ha hb hf hg
  go_enter Tryz.func36, Tryz.ntmps36
  go_wp2
  go_loopw [5] (fun i wr => ∃ k : Nat, i = .int .i64 (k : Int) ∧ k ≤ n ∧ Hid (∀ j, j < k → f j = g j) ∧ ∃ d, wr = w.drewN d) (fun i _ => n - (intOf i).toNat)
  case atStart => exact ⟨0, rfl, by omega, fun j hj => by omega, 0, rfl⟩
  case round =>
    obtain ⟨k, rfl, hk, hs, d, rfl⟩ := hrel
    by_cases hlt : k < n
    · have hki : (k : Int) < (n : Int) := by omega
      have a0 := HA.out k hlt 0 (by decide); have a1 := HA.out k hlt 1 (by decide); have a2 := HA.out k hlt 2 (by decide); have a3 := HA.out k hlt 3 (by decide)
      have b0 := HB.out k hlt 0 (by decide); have b1 := HB.out k hlt 1 (by decide); have b2 := HB.out k hlt 2 (by decide); have b3 := HB.out k hlt 3 (by decide)
      rw [Nat.add_zero] at a0 b0
      have hq := fun w => neqE (f k) (g k) (HF.out k hlt) (HG.out k hlt) w
      obtain ⟨x, ex⟩ : ∃ x, x = f k := ⟨_, rfl⟩
      obtain ⟨y, ey⟩ : ∃ y, y = g k := ⟨_, rfl⟩
      rw [← ex] at a0 a1 a2 a3 hq
      rw [← ey] at b0 b1 b2 b3 hq
      by_cases he : x = y
      · rw [show decide (x = y) = true from by simp [he]] at hq
        have HE : Hid (f k = g k) := by show _ = _; rw [← ex, ← ey]; exact he
        clear he ex ey
        go_wp2_with fail
        go_quiet (fail)
        go_wp2
        go_roundw
        case measure => simp [intOf]; omega
        case rel =>
          refine ⟨k + 1, by go_num, by omega, fun j hj => ?_, _, rfl⟩
          rcases Nat.lt_or_ge j k with h | h
          · exact hs.out j h
          · rw [show j = k from by omega]; exact HE.out
      · rw [show decide (x = y) = false from by simp [he]] at hq
        have HE : Hid (sameE f g n = false) := by
          show _ = _
          unfold sameE
          simp only [decide_eq_false_iff_not]
          exact fun h => he (by rw [ex, ey]; exact h k hlt)
        clear he ex ey
        go_wp2_with fail
        go_quiet (fail)
        go_wp2
        go_ret
        exact ⟨by rw [HE.out]; rfl, _, World.drewN_drewN _ _ _⟩
    · have hki : ¬ (k : Int) < (n : Int) := by omega
      have hkn : k = n := by omega
      have HE : Hid (sameE f g n = true) := by
        show _ = _
        unfold sameE
        simp only [decide_eq_true_eq]
        rw [← hkn]
        exact hs.out
      clear hkn hlt
      go_wp2
      go_ret
      exact ⟨by rw [HE.out]; rfl, d, rfl⟩
/-- SameElems of the same elements. -/
theorem sameD_self (v u : Value) (n : Nat) (f : Nat → Nat) (hn : n ≤ 4398046511104) (hf : ∀ i, i < n → f i < 115792089237316195423570985008687907853269984665640564039457584007913129639936) (w : World) (hv : Es w v n f) (hu : Es w u n f) :
    Calls Tryz.prog 36 #[v, u] w fun e w' => e = .returned (.bool true) ∧ Below w.heap.size w w' := by
  by_cases h0 : n = 0
  · subst h0
    refine (sameE_empty v u w hv.shape hu.shape).mono ?_
    rintro e w' ⟨rfl, rfl⟩
    exact ⟨rfl, Below.refl _ _⟩
  · rcases hv with ⟨_, h⟩ | ⟨a, oa, ca, rfl, _, _, _, ha⟩
    · exact absurd h h0
    · rcases hu with ⟨_, h⟩ | ⟨b, ob, cb, rfl, _, _, _, hb⟩
      · exact absurd h h0
      · refine (sameD_some n ca cb a oa b ob f f hn hf hf w ha hb).mono ?_
        rintro e w' ⟨rfl, k, rfl⟩
        refine ⟨?_, Below.drewN2 w k⟩
        rw [show sameE f f n = true from by unfold sameE; simp]
end Go.Proofs.YtfbfenljfdnggaaGreatDoor

/- SameTable of two tables in which the same is. -/
namespace Go.Proofs.YtfbfenljfdnggaaGreatDoor
open Go.RowKit
theorem sameE_z (v u : Value) (n : Nat) (f : Nat → Nat) (hn : n ≤ 4398046511104) (hf : ∀ i, i < n → f i < 115792089237316195423570985008687907853269984665640564039457584007913129639936) (w : World) (hv : Ez w v n f) (hu : Ez w u n f) :
    Calls Tryz.prog 36 #[v, u] w fun e w' => e = .returned (.bool true) ∧ Below w.heap.size w w' := by
  by_cases h0 : n = 0
  · subst h0
    refine (sameE_empty v u w hv.shape hu.shape).mono ?_
    rintro e w' ⟨rfl, rfl⟩
    exact ⟨rfl, Below.refl _ _⟩
  · rcases hv with hv | ⟨h, _⟩
    · rcases hu with hu | ⟨h, _⟩
      · exact sameD_self v u n f hn hf w hv hu
      · exact absurd h h0
    · exact absurd h h0
set_option maxHeartbeats 8000000 in
set_option maxRecDepth 100000 in
theorem sameT_any (m cm cm1 : Nat) (om om1 : Option Addr) (F F1 : Nat → Value) (L : Nat → Nat) (E : Nat → Nat → Nat) (hm : m ≤ 1000000) (hL : ∀ i, i < m → L i ≤ 4398046511104) (hE : ∀ i, i < m → ∀ j, j < L i → E i j < 115792089237316195423570985008687907853269984665640564039457584007913129639936) (w : World) (hv : Tab w (.slice om m cm) m F L E) (hu : Tab w (.slice om1 m cm1) m F1 L E) :
    Calls Tryz.prog 12 #[.slice om m cm, .slice om1 m cm1] w fun e w' => e = .returned (.bool true) ∧ Below w.heap.size w w' := by
  have HT : Hid (∀ w', Below w.heap.size w w' → Tab w' (.slice om m cm) m F L E ∧ Tab w' (.slice om1 m cm1) m F1 L E) := fun w' h => ⟨hv.below h, hu.below h⟩
  have HLL : Hid (∀ i, i < m → L i ≤ 4398046511104 ∧ ∀ j, j < L i → E i j < 115792089237316195423570985008687907853269984665640564039457584007913129639936) := fun i hi => ⟨hL i hi, hE i hi⟩
  clear hv hu hL hE
  go_enter Tryz.func12, Tryz.ntmps12
  go_wp2
  go_loopw [5] (fun iv wr => ∃ j : Nat, iv = .int .i64 (j : Int) ∧ j ≤ m ∧ Below w.heap.size w wr) (fun iv _ => m - (intOf iv).toNat)
  case atStart => exact ⟨0, rfl, Nat.zero_le _, Below.refl _ _⟩
  case round =>
    obtain ⟨j, rfl, hj, hbr⟩ := hrel
    by_cases hlt : j < m
    · have hji : (j : Int) < (m : Int) := by omega
      have hj0 : (0 : Int) ≤ (j : Int) := by omega
      have hT := HT.out _ hbr
      have hE := hT.1.2 j hlt
      have hE1 := hT.2.2 j hlt
      obtain ⟨ab, ao, oi, ci, rfl, la, hF, a0⟩ := hT.1.at hlt
      obtain ⟨bb, bo, oj, cj, rfl, lb, hF1, b0⟩ := hT.2.at hlt
      rw [hF] at hE
      rw [hF1] at hE1
      obtain ⟨y, ey⟩ : ∃ y, y = L j := ⟨_, rfl⟩
      rw [← ey] at a0 b0 hE hE1
      have hb := HLL.out j hlt
      rw [← ey] at hb
      have HLK : Hid (∀ w', Below wr.heap.size wr w' → w'.cell? ⟨ab, ao + j, none⟩ = some (.slice oi y ci) ∧ w'.cell? ⟨bb, bo + j, none⟩ = some (.slice oj y cj)) := fun w' h => ⟨(h.cell (p := ⟨ab, ao + j, none⟩) la).trans a0, (h.cell (p := ⟨bb, bo + j, none⟩) lb).trans b0⟩
      have HSE : Hid (∀ w', Below wr.heap.size wr w' → Calls Tryz.prog 36 #[.slice oi y ci, .slice oj y cj] w' fun e w'' => e = .returned (.bool true) ∧ Below w'.heap.size w' w'') := fun w' h => sameE_z _ _ y (E j) hb.1 hb.2 w' (hE.below h) (hE1.below h)
      have HBR : Hid (Below w.heap.size w wr) := hbr
      clear hT hE hE1 hF hF1 ey hb a0 b0 la lb hbr
      go_upto_region 6 with fail
      refine wp_region_Z (fun w' => Below wr.heap.size wr w') 99 (by kernel_rfl) ?_
      obtain ⟨wD, hD⟩ : ∃ z : World, z = wr.drew := ⟨_, rfl⟩
      rw [← hD]
      have hp0 : Below wr.heap.size wr wD := by rw [hD]; exact (Below.refl _ _).drew
      clear hD
      refine zt 0 17 (.slice (some ⟨ab, ao, none⟩) m cm) rfl rfl (fun w hSw => by go_simp) hp0 ?_
      simp only [Act.put, List.setIfInBounds_toArray]
      (try dsimp only [List.set_cons_zero, List.set_cons_succ])
      refine zt 1 18 (.int .i64 (j : Int)) rfl rfl (fun w hSw => by go_simp) hp0 ?_
      simp only [Act.put, List.setIfInBounds_toArray]
      (try dsimp only [List.set_cons_zero, List.set_cons_succ])
      refine zt 2 19 (.pointer (some ⟨ab, ao + j, none⟩)) rfl rfl (fun w hSw => by go_simp) hp0 ?_
      simp only [Act.put, List.setIfInBounds_toArray]
      (try dsimp only [List.set_cons_zero, List.set_cons_succ])
      refine zt 3 20 (.slice oi y ci) rfl rfl (fun w hSw => by obtain ⟨e0, e1⟩ := HLK.out w hSw; clear hSw; go_simp) hp0 ?_
      simp only [Act.put, List.setIfInBounds_toArray]
      (try dsimp only [List.set_cons_zero, List.set_cons_succ])
      refine zt 4 21 (.slice (some ⟨bb, bo, none⟩) m cm1) rfl rfl (fun w hSw => by go_simp) hp0 ?_
      simp only [Act.put, List.setIfInBounds_toArray]
      (try dsimp only [List.set_cons_zero, List.set_cons_succ])
      refine zt 5 22 (.int .i64 (j : Int)) rfl rfl (fun w hSw => by go_simp) hp0 ?_
      simp only [Act.put, List.setIfInBounds_toArray]
      (try dsimp only [List.set_cons_zero, List.set_cons_succ])
      refine zt 6 23 (.pointer (some ⟨bb, bo + j, none⟩)) rfl rfl (fun w hSw => by go_simp) hp0 ?_
      simp only [Act.put, List.setIfInBounds_toArray]
      (try dsimp only [List.set_cons_zero, List.set_cons_succ])
      refine zt 7 24 (.slice oj y cj) rfl rfl (fun w hSw => by obtain ⟨e0, e1⟩ := HLK.out w hSw; clear hSw; go_simp) hp0 ?_
      simp only [Act.put, List.setIfInBounds_toArray]
      (try dsimp only [List.set_cons_zero, List.set_cons_succ])
      refine wpZ_one (i := 8) (by kernel_rfl) rfl (fun K hK => ?_)
      go_simp
      refine Calls.mono (HSE.out wD hp0) ?_
      rintro e wK1 ⟨rfl, hbK1⟩
      have hpK1 : Below wr.heap.size wr wK1 := bStep hp0 hbK1
      clear hbK1
      go_wp2_with fail
      refine hK.out _ _ (fun _ => hpK1) ?_
      clear hK K
      refine zt 9 26 (.bool false) rfl rfl (fun w hSw => by go_simp) hpK1 ?_
      simp only [Act.put, List.setIfInBounds_toArray]
      (try dsimp only [List.set_cons_zero, List.set_cons_succ])
      refine wpZ_done (by kernel_rfl) ?_ _
      have HBD : Hid (Below w.heap.size w wK1) := bStep HBR.out hpK1
      clear hp0 hpK1
      go_wp2
      go_roundw
      case measure => simp [intOf]; omega
      case rel => exact ⟨j + 1, by go_num, hlt, HBD.out⟩
    · have hji : ¬ (j : Int) < (m : Int) := by omega
      have HBR : Hid (Below w.heap.size w wr) := hbr
      clear hbr
      go_wp2
      go_ret
      exact ⟨rfl, HBR.out⟩
end Go.Proofs.YtfbfenljfdnggaaGreatDoor

