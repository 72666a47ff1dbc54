/- What SpareElems does. -/
import Derived.Test.YtfdddpndjmookaaGreatDoorL1
import Derived.Test.YtfdddpndjmookaaGreatDoorFB
namespace Go.Proofs.YtfdddpndjmookaaGreatDoor
open Go.RowKit

/-- n elements of f, then marks. -/
def spE (f : Nat → Nat) (n i : Nat) : Nat := if i < n then f i else 901 + (i - n)
theorem spE_lt {f : Nat → Nat} {n : Nat} (hf : ∀ i, i < n → f i < 115792089237316195423570985008687907853269984665640564039457584007913129639936) : ∀ i, i < n + 4 → spE f n i < 115792089237316195423570985008687907853269984665640564039457584007913129639936 := fun i hi => by
  unfold spE
  split
  · exact hf i (by omega)
  · omega

/-- A block that SpareElems has made. -/
def FullE (w : World) (g n c : Nat) (f : Nat → Nat) : Prop := n + 4 ≤ c ∧ c ≤ maxLen ∧ g < w.heap.size ∧ ∀ i, i < n + 4 → ∀ j, j < 4 → w.cell? ⟨g, i * 4 + j, none⟩ = some (.int .u64 ((limb j (spE f n i) : Nat) : Int))
section
variable {w w' : World} {g n c : Nat} {f : Nat → Nat}
theorem FullE.belowAll (h : FullE w g n c f) (hb : Below w.heap.size w w') : FullE w' g n c f :=
  ⟨h.1, h.2.1, Nat.lt_of_lt_of_le h.2.2.1 hb.size, fun i hi j hj => by rw [hb.cell (p := ⟨g, i * 4 + j, none⟩) h.2.2.1]; exact h.2.2.2 i hi j hj⟩
theorem FullE.part (h : FullE w g n c f) : Es w (.slice (some ⟨g, 0, none⟩) n c) n f :=
  Or.inr ⟨g, 0, c, rfl, by have := h.1; omega, h.2.1, h.2.2.1, fun i hi j hj => by rw [Nat.zero_add, h.2.2.2 i (by omega) j hj]; unfold spE; rw [if_pos hi]⟩
theorem FullE.all (h : FullE w g n c f) : Es w (.slice (some ⟨g, 0, none⟩) (n + 4) c) (n + 4) (spE f n) :=
  Or.inr ⟨g, 0, c, rfl, h.1, h.2.1, h.2.2.1, fun i hi j hj => by rw [Nat.zero_add]; exact h.2.2.2 i hi j hj⟩
end
end Go.Proofs.YtfdddpndjmookaaGreatDoor

/- Long lists copied and compared. -/
namespace Go.Proofs.YtfdddpndjmookaaGreatDoor
open Go.RowKit

set_option maxHeartbeats 4000000 in
set_option maxRecDepth 20000 in
theorem sameB_some (n cn cm a oa b ob : Nat) (f g : Nat → Nat) (hn : n ≤ 4398046510976) (hf : ∀ i, i < n → f i < 115792089237316195423570985008687907853269984665640564039457584007913129639936) (hg : ∀ i, i < n → g i < 115792089237316195423570985008687907853269984665640564039457584007913129639936) (w : World) (ha : ∀ i, i < n → ∀ j, j < 4 → w.cell? ⟨a, oa + i * 4 + j, none⟩ = some (.int .u64 ((limb j (f i) : Nat) : Int))) (hb : ∀ i, i < n → ∀ j, j < 4 → w.cell? ⟨b, ob + i * 4 + j, none⟩ = some (.int .u64 ((limb j (g i) : Nat) : Int))) :
    Calls Tryz.prog 13 #[.slice (some ⟨a, oa, none⟩) n cn, .slice (some ⟨b, ob, none⟩) n cm] w fun e w' => e = .returned (.bool (sameE f g n)) ∧ ∃ k, w' = w.drewN k := by
  have HA := (show Hid _ from ha); have HB := (show Hid _ from hb); have HF := (show Hid _ from hf); have HG := (show Hid _ from hg)
  clear ha hb hf hg
  go_enter Tryz.func13, Tryz.ntmps13
  go_wp2
  go_loopw [5] (fun i wr => ∃ k : Nat, i = .int .i64 (k : Int) ∧ k ≤ n ∧ Hid (∀ j, j < k → f j = g j) ∧ ∃ d, wr = w.drewN d) (fun i _ => n - (intOf i).toNat)
  case atStart => exact ⟨0, rfl, by omega, fun j hj => by omega, 0, rfl⟩
  case round =>
    obtain ⟨k, rfl, hk, hs, d, rfl⟩ := hrel
    by_cases hlt : k < n
    · have hki : (k : Int) < (n : Int) := by omega
      have a0 := HA.out k hlt 0 (by decide); have a1 := HA.out k hlt 1 (by decide); have a2 := HA.out k hlt 2 (by decide); have a3 := HA.out k hlt 3 (by decide)
      have b0 := HB.out k hlt 0 (by decide); have b1 := HB.out k hlt 1 (by decide); have b2 := HB.out k hlt 2 (by decide); have b3 := HB.out k hlt 3 (by decide)
      rw [Nat.add_zero] at a0 b0
      have hq := fun w => neqE (f k) (g k) (HF.out k hlt) (HG.out k hlt) w
      obtain ⟨x, ex⟩ : ∃ x, x = f k := ⟨_, rfl⟩
      obtain ⟨y, ey⟩ : ∃ y, y = g k := ⟨_, rfl⟩
      rw [← ex] at a0 a1 a2 a3 hq
      rw [← ey] at b0 b1 b2 b3 hq
      by_cases he : x = y
      · rw [show decide (x = y) = true from by simp [he]] at hq
        have HE : Hid (f k = g k) := by show _ = _; rw [← ex, ← ey]; exact he
        clear he ex ey
        go_wp2_with fail
        go_quiet (fail)
        go_wp2
        go_roundw
        case measure => simp [intOf]; omega
        case rel =>
          refine ⟨k + 1, by go_num, by omega, fun j hj => ?_, _, rfl⟩
          rcases Nat.lt_or_ge j k with h | h
          · exact hs.out j h
          · rw [show j = k from by omega]; exact HE.out
      · rw [show decide (x = y) = false from by simp [he]] at hq
        have HE : Hid (sameE f g n = false) := by
          show _ = _
          unfold sameE
          simp only [decide_eq_false_iff_not]
          exact fun h => he (by rw [ex, ey]; exact h k hlt)
        clear he ex ey
        go_wp2_with fail
        go_quiet (fail)
        go_wp2
        go_ret
        exact ⟨by rw [HE.out]; rfl, _, World.drewN_drewN _ _ _⟩
    · have hki : ¬ (k : Int) < (n : Int) := by omega
      have hkn : k = n := by omega
      have HE : Hid (sameE f g n = true) := by
        show _ = _
        unfold sameE
        simp only [decide_eq_true_eq]
        rw [← hkn]
        exact hs.out
      clear hkn hlt
      go_wp2
      go_ret
      exact ⟨by rw [HE.out]; rfl, d, rfl⟩
/-- SameElems of the same elements. -/
theorem sameB_self (v u : Value) (n : Nat) (f : Nat → Nat) (hn : n ≤ 4398046510976) (hf : ∀ i, i < n → f i < 115792089237316195423570985008687907853269984665640564039457584007913129639936) (w : World) (hv : Es w v n f) (hu : Es w u n f) :
    Calls Tryz.prog 13 #[v, u] w fun e w' => e = .returned (.bool true) ∧ Below w.heap.size w w' := by
  by_cases h0 : n = 0
  · subst h0
    refine (sameE_empty v u w hv.shape hu.shape).mono ?_
    rintro e w' ⟨rfl, rfl⟩
    exact ⟨rfl, Below.refl _ _⟩
  · rcases hv with ⟨_, h⟩ | ⟨a, oa, ca, rfl, _, _, _, ha⟩
    · exact absurd h h0
    · rcases hu with ⟨_, h⟩ | ⟨b, ob, cb, rfl, _, _, _, hb⟩
      · exact absurd h h0
      · refine (sameB_some n ca cb a oa b ob f f hn hf hf w ha hb).mono ?_
        rintro e w' ⟨rfl, k, rfl⟩
        refine ⟨?_, Below.drewN2 w k⟩
        rw [show sameE f f n = true from by unfold sameE; simp]
set_option maxHeartbeats 2000000 in
theorem copyB_some (n cn a oa : Nat) (f : Nat → Nat) (hn : n ≤ 4398046510976) (w : World) (ha : a < w.heap.size) (hc : ∀ i, i < n → ∀ j, j < 4 → w.cell? ⟨a, oa + i * 4 + j, none⟩ = some (.int .u64 ((limb j (f i) : Nat) : Int))) :
    Calls Tryz.prog 6 #[.slice (some ⟨a, oa, none⟩) n cn] w fun e w' => ∃ v, e = .returned v ∧ w'.ownsRow w.heap.size 25 4 v n (els f n) ∧ Below w.heap.size w w' := by
  obtain ⟨i0, hi, hz0, hz1, hz2⟩ := elemInfo
  have HI := (show Hid _ from hi); have HZ := (show Hid _ from And.intro hz0 (And.intro hz1 hz2)); clear hi hz0 hz1 hz2
  have HC := (show Hid _ from hc); clear hc
  have hown0 : (w.alloc (.cells #[] 25)).ownsRow w.heap.size 25 4 (.slice (some ⟨w.heap.size, 0, none⟩) 0 0) 0 [] :=
    ⟨rfl, Or.inr ⟨w.heap.size, 0, #[], rfl, Nat.le_refl _, new_blockE _ _, Nat.le_refl _, by decide, rfl, rfl⟩⟩
  have HO : Hid ((w.alloc (.cells #[] 25)).ownsRow w.heap.size 25 4 (.slice (some ⟨w.heap.size, 0, none⟩) 0 0) 0 []) := hown0
  clear hown0
  go_enter Tryz.func6, Tryz.ntmps6
  go_wp2_with (first
    | (at_builtin; refine wpList_append_own _ rfl _ _ 22 rfl w.heap.size 25 i0 (.agg #[.int .u64 0, .int .u64 0, .int .u64 0, .int .u64 0]) 4 32 Tryz.underlying22 HI.out HZ.out.1 HZ.out.2.1 HZ.out.2.2 rfl (by decide) _ _ _ rfl HO.out ⟨a, oa, none⟩ n cn (els f n) rfl ?c0 ?c1 ?c2 ?c3 ?c4 ?c5 ?_)
    | go_in)
  case c0 => exact els_len f n
  case c1 =>
    intro j u hj
    have hjn : j < n * 4 := by
      rcases Nat.lt_or_ge j (n * 4) with h | h
      · exact h
      · rw [List.getElem?_eq_none (by rw [els_len]; exact h)] at hj; cases hj
    have e := els_get f n (j / 4) (j % 4) (by omega) (by omega)
    rw [show j / 4 * 4 + j % 4 = j from by omega, hj] at e
    cases e
    have hb : Below w.heap.size w (w.alloc (.cells #[] 25)) := (Below.refl _ _).alloc (Nat.le_refl _) _
    have hadd : (⟨a, oa, none⟩ : Addr).add j = ⟨a, oa + j / 4 * 4 + j % 4, none⟩ := by
      have e2 : oa + j / 4 * 4 + j % 4 = oa + j := by omega
      rw [e2]; unfold Addr.add; split <;> simp_all
    rw [hadd, hb.cell (p := ⟨a, oa + j / 4 * 4 + j % 4, none⟩) ha]
    exact HC.out (j / 4) (by omega) (j % 4) (by omega)
  case c2 => intro u hu; unfold els at hu; obtain ⟨i, _, rfl⟩ := List.mem_map.mp hu; rfl
  case c3 => unfold maxLen; omega
  case c4 => omega
  case c5 => simp
  intro v' w2 hown' hgrow _
  go_wp2
  go_ret
  refine ⟨_, rfl, ?_, ?_⟩
  · exact hown'
  · exact ((Below.refl _ w).alloc (Nat.le_refl _) _).grown hgrow (by simp) (fun j hj => own_block_geE HO.out hj)
/-- CopyElems: the same elements in new memory. -/
theorem copyB_any (n : Nat) (v : Value) (f : Nat → Nat) (hn : n ≤ 4398046510976) (w : World) (h : Es w v n f) :
    Calls Tryz.prog 6 #[v] w fun e w' => ∃ v', e = .returned v' ∧ w'.ownsRow w.heap.size 25 4 v' n (els f n) ∧ Below w.heap.size w w' := by
  rcases h with ⟨rfl, rfl⟩ | ⟨b, o, c, rfl, _, _, hb, hc⟩
  · exact copyE_nil w
  · exact copyB_some n c b o f hn w hb hc

end Go.Proofs.YtfdddpndjmookaaGreatDoor

