/- Long lists copied and compared. -/
import Derived.Test.YtimjgebiffemnaaDoorL1
import Derived.Test.YtimjgebiffemnaaDoorFB
import Derived.Test.YtimjgebiffemnaaDoorXLA
import Derived.Test.YtimjgebiffemnaaDoorH4
import Derived.Test.YtimjgebiffemnaaDoorXV5
namespace Go.Proofs.YtimjgebiffemnaaDoor
open Go.RowKit

set_option maxHeartbeats 4000000 in
set_option maxRecDepth 20000 in
theorem sameB_some (n cn cm a oa b ob : Nat) (f g : Nat → Nat) (hn : n ≤ 4398046510976) (hf : ∀ i, i < n → f i < 115792089237316195423570985008687907853269984665640564039457584007913129639936) (hg : ∀ i, i < n → g i < 115792089237316195423570985008687907853269984665640564039457584007913129639936) (w : World) (ha : ∀ i, i < n → ∀ j, j < 4 → w.cell? ⟨a, oa + i * 4 + j, none⟩ = some (.int .u64 ((limb j (f i) : Nat) : Int))) (hb : ∀ i, i < n → ∀ j, j < 4 → w.cell? ⟨b, ob + i * 4 + j, none⟩ = some (.int .u64 ((limb j (g i) : Nat) : Int))) :
    Calls Tryd.prog 24 #[.slice (some ⟨a, oa, none⟩) n cn, .slice (some ⟨b, ob, none⟩) n cm] w fun e w' => e = .returned (.bool (sameE f g n)) ∧ ∃ k, w' = w.drewN k := by
  have HA := (show Hid _ from ha); have HB := (show Hid _ from hb); have HF := (show Hid _ from hf); have HG := (show Hid _ from hg)
  clear ha hb hf hg
  go_enter Tryd.func24, Tryd.ntmps24
  go_wp2
  go_loopw [5] (fun i wr => ∃ k : Nat, i = .int .i64 (k : Int) ∧ k ≤ n ∧ Hid (∀ j, j < k → f j = g j) ∧ ∃ d, wr = w.drewN d) (fun i _ => n - (intOf i).toNat)
  case atStart => exact ⟨0, rfl, by omega, fun j hj => by omega, 0, rfl⟩
  case round =>
    obtain ⟨k, rfl, hk, hs, d, rfl⟩ := hrel
    by_cases hlt : k < n
    · have hki : (k : Int) < (n : Int) := by omega
      have a0 := HA.out k hlt 0 (by decide); have a1 := HA.out k hlt 1 (by decide); have a2 := HA.out k hlt 2 (by decide); have a3 := HA.out k hlt 3 (by decide)
      have b0 := HB.out k hlt 0 (by decide); have b1 := HB.out k hlt 1 (by decide); have b2 := HB.out k hlt 2 (by decide); have b3 := HB.out k hlt 3 (by decide)
      rw [Nat.add_zero] at a0 b0
      have hq := fun w => neqE (f k) (g k) (HF.out k hlt) (HG.out k hlt) w
      obtain ⟨x, ex⟩ : ∃ x, x = f k := ⟨_, rfl⟩
      obtain ⟨y, ey⟩ : ∃ y, y = g k := ⟨_, rfl⟩
      rw [← ex] at a0 a1 a2 a3 hq
      rw [← ey] at b0 b1 b2 b3 hq
      by_cases he : x = y
      · rw [show decide (x = y) = true from by simp [he]] at hq
        have HE : Hid (f k = g k) := by show _ = _; rw [← ex, ← ey]; exact he
        clear he ex ey
        go_wp2_with fail
        go_quiet (fail)
        go_wp2
        go_roundw
        case measure => simp [intOf]; omega
        case rel =>
          refine ⟨k + 1, by go_num, by omega, fun j hj => ?_, _, rfl⟩
          rcases Nat.lt_or_ge j k with h | h
          · exact hs.out j h
          · rw [show j = k from by omega]; exact HE.out
      · rw [show decide (x = y) = false from by simp [he]] at hq
        have HE : Hid (sameE f g n = false) := by
          show _ = _
          unfold sameE
          simp only [decide_eq_false_iff_not]
          exact fun h => he (by rw [ex, ey]; exact h k hlt)
        clear he ex ey
        go_wp2_with fail
        go_quiet (fail)
        go_wp2
        go_ret
        exact ⟨by rw [HE.out]; rfl, _, World.drewN_drewN _ _ _⟩
    · have hki : ¬ (k : Int) < (n : Int) := by omega
      have hkn : k = n := by omega
      have HE : Hid (sameE f g n = true) := by
        show _ = _
        unfold sameE
        simp only [decide_eq_true_eq]
        rw [← hkn]
        exact hs.out
      clear hkn hlt
      go_wp2
      go_ret
      exact ⟨by rw [HE.out]; rfl, d, rfl⟩
/-- SameElems of the same elements. -/
theorem sameB_self (v u : Value) (n : Nat) (f : Nat → Nat) (hn : n ≤ 4398046510976) (hf : ∀ i, i < n → f i < 115792089237316195423570985008687907853269984665640564039457584007913129639936) (w : World) (hv : Es w v n f) (hu : Es w u n f) :
    Calls Tryd.prog 24 #[v, u] w fun e w' => e = .returned (.bool true) ∧ Below w.heap.size w w' := by
  by_cases h0 : n = 0
  · subst h0
    refine (sameE_empty v u w hv.shape hu.shape).mono ?_
    rintro e w' ⟨rfl, rfl⟩
    exact ⟨rfl, Below.refl _ _⟩
  · rcases hv with ⟨_, h⟩ | ⟨a, oa, ca, rfl, _, _, _, ha⟩
    · exact absurd h h0
    · rcases hu with ⟨_, h⟩ | ⟨b, ob, cb, rfl, _, _, _, hb⟩
      · exact absurd h h0
      · refine (sameB_some n ca cb a oa b ob f f hn hf hf w ha hb).mono ?_
        rintro e w' ⟨rfl, k, rfl⟩
        refine ⟨?_, Below.drewN2 w k⟩
        rw [show sameE f f n = true from by unfold sameE; simp]
set_option maxHeartbeats 2000000 in
theorem copyB_some (n cn a oa : Nat) (f : Nat → Nat) (hn : n ≤ 4398046510976) (w : World) (ha : a < w.heap.size) (hc : ∀ i, i < n → ∀ j, j < 4 → w.cell? ⟨a, oa + i * 4 + j, none⟩ = some (.int .u64 ((limb j (f i) : Nat) : Int))) :
    Calls Tryd.prog 35 #[.slice (some ⟨a, oa, none⟩) n cn] w fun e w' => ∃ v, e = .returned v ∧ w'.ownsRow w.heap.size 44 4 v n (els f n) ∧ Below w.heap.size w w' := by
  obtain ⟨i0, hi, hz0, hz1, hz2⟩ := elemInfo
  have HI := (show Hid _ from hi); have HZ := (show Hid _ from And.intro hz0 (And.intro hz1 hz2)); clear hi hz0 hz1 hz2
  have HC := (show Hid _ from hc); clear hc
  have hown0 : (w.alloc (.cells #[] 44)).ownsRow w.heap.size 44 4 (.slice (some ⟨w.heap.size, 0, none⟩) 0 0) 0 [] :=
    ⟨rfl, Or.inr ⟨w.heap.size, 0, #[], rfl, Nat.le_refl _, new_blockE _ _, Nat.le_refl _, by decide, rfl, rfl⟩⟩
  have HO : Hid ((w.alloc (.cells #[] 44)).ownsRow w.heap.size 44 4 (.slice (some ⟨w.heap.size, 0, none⟩) 0 0) 0 []) := hown0
  clear hown0
  go_enter Tryd.func35, Tryd.ntmps35
  go_wp2_with (first
    | (at_builtin; refine wpList_append_own _ rfl _ _ 36 rfl w.heap.size 44 i0 (.agg #[.int .u64 0, .int .u64 0, .int .u64 0, .int .u64 0]) 4 32 Tryd.underlying36 HI.out HZ.out.1 HZ.out.2.1 HZ.out.2.2 rfl (by decide) _ _ _ rfl HO.out ⟨a, oa, none⟩ n cn (els f n) rfl ?c0 ?c1 ?c2 ?c3 ?c4 ?c5 ?_)
    | go_in)
  case c0 => exact els_len f n
  case c1 =>
    intro j u hj
    have hjn : j < n * 4 := by
      rcases Nat.lt_or_ge j (n * 4) with h | h
      · exact h
      · rw [List.getElem?_eq_none (by rw [els_len]; exact h)] at hj; cases hj
    have e := els_get f n (j / 4) (j % 4) (by omega) (by omega)
    rw [show j / 4 * 4 + j % 4 = j from by omega, hj] at e
    cases e
    have hb : Below w.heap.size w (w.alloc (.cells #[] 44)) := (Below.refl _ _).alloc (Nat.le_refl _) _
    have hadd : (⟨a, oa, none⟩ : Addr).add j = ⟨a, oa + j / 4 * 4 + j % 4, none⟩ := by
      have e2 : oa + j / 4 * 4 + j % 4 = oa + j := by omega
      rw [e2]; unfold Addr.add; split <;> simp_all
    rw [hadd, hb.cell (p := ⟨a, oa + j / 4 * 4 + j % 4, none⟩) ha]
    exact HC.out (j / 4) (by omega) (j % 4) (by omega)
  case c2 => intro u hu; unfold els at hu; obtain ⟨i, _, rfl⟩ := List.mem_map.mp hu; rfl
  case c3 => unfold maxLen; omega
  case c4 => omega
  case c5 => simp
  intro v' w2 hown' hgrow _
  go_wp2
  go_ret
  refine ⟨_, rfl, ?_, ?_⟩
  · exact hown'
  · exact ((Below.refl _ w).alloc (Nat.le_refl _) _).grown hgrow (by simp) (fun j hj => own_block_geE HO.out hj)
/-- CopyElems: the same elements in new memory. -/
theorem copyB_any (n : Nat) (v : Value) (f : Nat → Nat) (hn : n ≤ 4398046510976) (w : World) (h : Es w v n f) :
    Calls Tryd.prog 35 #[v] w fun e w' => ∃ v', e = .returned v' ∧ w'.ownsRow w.heap.size 44 4 v' n (els f n) ∧ Below w.heap.size w w' := by
  rcases h with ⟨rfl, rfl⟩ | ⟨b, o, c, rfl, _, _, hb, hc⟩
  · exact copyE_nil w
  · exact copyB_some n c b o f hn w hb hc

end Go.Proofs.YtimjgebiffemnaaDoor

/- What SpareElems does. -/
namespace Go.Proofs.YtimjgebiffemnaaDoor
open Go.RowKit

/-- n elements of f, then marks. -/
def spE (f : Nat → Nat) (n i : Nat) : Nat := if i < n then f i else 901 + (i - n)
theorem spE_lt {f : Nat → Nat} {n : Nat} (hf : ∀ i, i < n → f i < 115792089237316195423570985008687907853269984665640564039457584007913129639936) : ∀ i, i < n + 4 → spE f n i < 115792089237316195423570985008687907853269984665640564039457584007913129639936 := fun i hi => by
  unfold spE
  split
  · exact hf i (by omega)
  · omega

set_option maxHeartbeats 4000000 in
theorem spareE_any (n : Nat) (v : Value) (f : Nat → Nat) (hn : n ≤ 4398046510976) (w : World) (h : Es w v n f) :
    Calls Tryd.prog 21 #[v] w fun e w' => ∃ v', e = .returned v' ∧ w'.ownsRow w.heap.size 44 4 v' (n + 4) (els (spE f n) (n + 4)) ∧ Below w.heap.size w w' := by
  obtain ⟨i0, hi, hz0, hz1, hz2⟩ := elemInfo
  have HI := (show Hid _ from hi); have HZ := (show Hid _ from And.intro hz0 (And.intro hz1 hz2)); clear hi hz0 hz1 hz2
  go_enter Tryd.func21, Tryd.ntmps21
  go_wp2_with fail
  refine (copyB_any n v f (by omega) w h).mono ?_
  rintro e w1 ⟨v1, rfl, hown1, hb1⟩
  rw [els_congr (g := spE f n) (fun i hi => by unfold spE; rw [if_pos hi])] at hown1
  have HO1 := (show Hid _ from hown1)
  clear hown1 h
  go_wp2
  go_loopw [3, 4] (fun out i wr => ∃ k : Nat, i = .int .i64 (k : Int) ∧ k ≤ 4 ∧ Below w.heap.size w wr ∧ wr.ownsRow w.heap.size 44 4 out (n + k) (els (spE f n) (n + k))) (fun _ i _ => 4 - (intOf i).toNat)
  case atStart => exact ⟨0, rfl, by decide, hb1, HO1.out⟩
  case round =>
    obtain ⟨k, rfl, hk, hbr, hown2⟩ := hrel
    clear HO1 hb1
    by_cases hlt : k < 4
    · have hki : (k : Int) < 4 := by omega
      obtain ⟨y, ey⟩ : ∃ y : Int, y = 901 + (k : Int) := ⟨_, rfl⟩
      have hw8 : IntKind.u64.wrap (901 + (k : Int)) = y := by rw [IntKind.wrap_u64, ey]; omega
      have EY := (show Hid _ from ey)
      clear ey
      have hsz := hbr.size
      go_wp2_with (first
        | (at_builtin; refine wpList_append_own _ rfl _ _ 36 rfl w.heap.size 44 i0 (.agg #[.int .u64 0, .int .u64 0, .int .u64 0, .int .u64 0]) 4 32 Tryd.underlying36 HI.out HZ.out.1 HZ.out.2.1 HZ.out.2.2 rfl (by decide) _ _ _ rfl (hown2.alloc _) ⟨wr.heap.size, 0, none⟩ 1 1 [.int .u64 y, .int .u64 0, .int .u64 0, .int .u64 0] rfl rfl ?c1 ?c2 ?c3 ?c4 ?c5 ?_)
        | go_in)
      case c1 =>
        intro j u hj
        match j, hj with
        | 0, hj => simp at hj; subst hj; simp [Addr.add]
        | 1, hj => simp at hj; subst hj; simp [Addr.add]
        | 2, hj => simp at hj; subst hj; simp [Addr.add]
        | 3, hj => simp at hj; subst hj; simp [Addr.add]
        | j + 4, hj => simp at hj
      case c2 => intro u hu; simp at hu; rcases hu with rfl | rfl <;> rfl
      case c3 => unfold maxLen; omega
      case c4 => omega
      case c5 => simp; omega
      intro v' w2 hown' hgrow _
      go_wp2
      go_roundw
      case measure => simp [intOf]; omega
      case rel =>
        have hB : Below w.heap.size wr w2 := ((Below.refl _ wr).alloc hsz _).grown hgrow (by simp; omega) (fun j hj => own_block_geE hown2 hj)
        refine ⟨k + 1, by go_num, by omega, hbr.trans hB, ?_⟩
        have es : spE f n (n + k) = 901 + k := by unfold spE; rw [if_neg (by omega)]; omega
        have hsm := limb_small (901 + k)
        rw [← Nat.add_assoc, els_succ, es, hsm 0 (by omega), hsm 1 (by omega), hsm 2 (by omega), hsm 3 (by omega), if_pos rfl, if_neg (by decide), if_neg (by decide), if_neg (by decide), show ((901 + k : Nat) : Int) = y from by rw [EY.out]; omega]
        exact hown'
    · have hki : ¬ (k : Int) < 4 := by omega
      have hk4 : k = 4 := by omega
      subst hk4
      go_wp2
      go_ret
      exact ⟨_, rfl, hown2, hbr⟩
/-- A block that SpareElems has made. -/
def FullE (w : World) (g n c : Nat) (f : Nat → Nat) : Prop := n + 4 ≤ c ∧ c ≤ maxLen ∧ g < w.heap.size ∧ ∀ i, i < n + 4 → ∀ j, j < 4 → w.cell? ⟨g, i * 4 + j, none⟩ = some (.int .u64 ((limb j (spE f n i) : Nat) : Int))
section
variable {w w' : World} {g n c : Nat} {f : Nat → Nat}
theorem FullE.belowAll (h : FullE w g n c f) (hb : Below w.heap.size w w') : FullE w' g n c f :=
  ⟨h.1, h.2.1, Nat.lt_of_lt_of_le h.2.2.1 hb.size, fun i hi j hj => by rw [hb.cell (p := ⟨g, i * 4 + j, none⟩) h.2.2.1]; exact h.2.2.2 i hi j hj⟩
theorem FullE.part (h : FullE w g n c f) : Es w (.slice (some ⟨g, 0, none⟩) n c) n f :=
  Or.inr ⟨g, 0, c, rfl, by have := h.1; omega, h.2.1, h.2.2.1, fun i hi j hj => by rw [Nat.zero_add, h.2.2.2 i (by omega) j hj]; unfold spE; rw [if_pos hi]⟩
theorem FullE.all (h : FullE w g n c f) : Es w (.slice (some ⟨g, 0, none⟩) (n + 4) c) (n + 4) (spE f n) :=
  Or.inr ⟨g, 0, c, rfl, h.1, h.2.1, h.2.2.1, fun i hi j hj => by rw [Nat.zero_add]; exact h.2.2.2 i hi j hj⟩
end
theorem spare_fullE (n : Nat) (v : Value) (f : Nat → Nat) (hn : n ≤ 4398046510976) (w : World) (h : Es w v n f) :
    Calls Tryd.prog 21 #[v] w fun e w' => ∃ g c, e = .returned (.slice (some ⟨g, 0, none⟩) (n + 4) c) ∧ FullE w' g n c f ∧ w.heap.size ≤ g ∧ Below w.heap.size w w' := by
  refine (spareE_any n v f hn w h).mono ?_
  rintro e w' ⟨v', rfl, hown, hb⟩
  obtain ⟨_, h2⟩ := hown
  rcases h2 with ⟨_, h0⟩ | ⟨g, c, cur, rfl, h1, h3, h4, h5, h6, h7⟩
  · omega
  · refine ⟨g, c, rfl, ⟨h4, h5, ?_, fun i hi j hj => ?_⟩, h1, hb⟩
    · rcases Nat.lt_or_ge g w'.heap.size with hl | hl
      · exact hl
      · rw [Array.getElem?_eq_none hl] at h3; cases h3
    · have e1 : cur[i * 4 + j]? = (els (spE f n) (n + 4))[i * 4 + j]? := by rw [← h7, List.getElem?_take_of_lt (by omega), Array.getElem?_toList]
      rw [els_get _ _ i j hi hj] at e1
      simp [World.cell?, h3, e1]

end Go.Proofs.YtimjgebiffemnaaDoor

/- SameElems of lists that SpareElems has made. -/
namespace Go.Proofs.YtimjgebiffemnaaDoor
open Go.RowKit

set_option maxHeartbeats 4000000 in
set_option maxRecDepth 20000 in
theorem sameD_some (n cn cm a oa b ob : Nat) (f g : Nat → Nat) (hn : n ≤ 4398046511104) (hf : ∀ i, i < n → f i < 115792089237316195423570985008687907853269984665640564039457584007913129639936) (hg : ∀ i, i < n → g i < 115792089237316195423570985008687907853269984665640564039457584007913129639936) (w : World) (ha : ∀ i, i < n → ∀ j, j < 4 → w.cell? ⟨a, oa + i * 4 + j, none⟩ = some (.int .u64 ((limb j (f i) : Nat) : Int))) (hb : ∀ i, i < n → ∀ j, j < 4 → w.cell? ⟨b, ob + i * 4 + j, none⟩ = some (.int .u64 ((limb j (g i) : Nat) : Int))) :
    Calls Tryd.prog 24 #[.slice (some ⟨a, oa, none⟩) n cn, .slice (some ⟨b, ob, none⟩) n cm] w fun e w' => e = .returned (.bool (sameE f g n)) ∧ ∃ k, w' = w.drewN k := by
  have HA := (show Hid _ from ha); have HB := (show Hid _ from hb); have HF := (show Hid _ from hf); have HG := (show Hid _ from hg)
  clear ha hb hf hg
  go_enter Tryd.func24, Tryd.ntmps24
  go_wp2
  go_loopw [5] (fun i wr => ∃ k : Nat, i = .int .i64 (k : Int) ∧ k ≤ n ∧ Hid (∀ j, j < k → f j = g j) ∧ ∃ d, wr = w.drewN d) (fun i _ => n - (intOf i).toNat)
  case atStart => exact ⟨0, rfl, by omega, fun j hj => by omega, 0, rfl⟩
  case round =>
    obtain ⟨k, rfl, hk, hs, d, rfl⟩ := hrel
    by_cases hlt : k < n
    · have hki : (k : Int) < (n : Int) := by omega
      have a0 := HA.out k hlt 0 (by decide); have a1 := HA.out k hlt 1 (by decide); have a2 := HA.out k hlt 2 (by decide); have a3 := HA.out k hlt 3 (by decide)
      have b0 := HB.out k hlt 0 (by decide); have b1 := HB.out k hlt 1 (by decide); have b2 := HB.out k hlt 2 (by decide); have b3 := HB.out k hlt 3 (by decide)
      rw [Nat.add_zero] at a0 b0
      have hq := fun w => neqE (f k) (g k) (HF.out k hlt) (HG.out k hlt) w
      obtain ⟨x, ex⟩ : ∃ x, x = f k := ⟨_, rfl⟩
      obtain ⟨y, ey⟩ : ∃ y, y = g k := ⟨_, rfl⟩
      rw [← ex] at a0 a1 a2 a3 hq
      rw [← ey] at b0 b1 b2 b3 hq
      by_cases he : x = y
      · rw [show decide (x = y) = true from by simp [he]] at hq
        have HE : Hid (f k = g k) := by show _ = _; rw [← ex, ← ey]; exact he
        clear he ex ey
        go_wp2_with fail
        go_quiet (fail)
        go_wp2
        go_roundw
        case measure => simp [intOf]; omega
        case rel =>
          refine ⟨k + 1, by go_num, by omega, fun j hj => ?_, _, rfl⟩
          rcases Nat.lt_or_ge j k with h | h
          · exact hs.out j h
          · rw [show j = k from by omega]; exact HE.out
      · rw [show decide (x = y) = false from by simp [he]] at hq
        have HE : Hid (sameE f g n = false) := by
          show _ = _
          unfold sameE
          simp only [decide_eq_false_iff_not]
          exact fun h => he (by rw [ex, ey]; exact h k hlt)
        clear he ex ey
        go_wp2_with fail
        go_quiet (fail)
        go_wp2
        go_ret
        exact ⟨by rw [HE.out]; rfl, _, World.drewN_drewN _ _ _⟩
    · have hki : ¬ (k : Int) < (n : Int) := by omega
      have hkn : k = n := by omega
      have HE : Hid (sameE f g n = true) := by
        show _ = _
        unfold sameE
        simp only [decide_eq_true_eq]
        rw [← hkn]
        exact hs.out
      clear hkn hlt
      go_wp2
      go_ret
      exact ⟨by rw [HE.out]; rfl, d, rfl⟩
/-- SameElems of the same elements. -/
theorem sameD_self (v u : Value) (n : Nat) (f : Nat → Nat) (hn : n ≤ 4398046511104) (hf : ∀ i, i < n → f i < 115792089237316195423570985008687907853269984665640564039457584007913129639936) (w : World) (hv : Es w v n f) (hu : Es w u n f) :
    Calls Tryd.prog 24 #[v, u] w fun e w' => e = .returned (.bool true) ∧ Below w.heap.size w w' := by
  by_cases h0 : n = 0
  · subst h0
    refine (sameE_empty v u w hv.shape hu.shape).mono ?_
    rintro e w' ⟨rfl, rfl⟩
    exact ⟨rfl, Below.refl _ _⟩
  · rcases hv with ⟨_, h⟩ | ⟨a, oa, ca, rfl, _, _, _, ha⟩
    · exact absurd h h0
    · rcases hu with ⟨_, h⟩ | ⟨b, ob, cb, rfl, _, _, _, hb⟩
      · exact absurd h h0
      · refine (sameD_some n ca cb a oa b ob f f hn hf hf w ha hb).mono ?_
        rintro e w' ⟨rfl, k, rfl⟩
        refine ⟨?_, Below.drewN2 w k⟩
        rw [show sameE f f n = true from by unfold sameE; simp]

end Go.Proofs.YtimjgebiffemnaaDoor

/- The reference: at (the first place), Values. -/
namespace Go.Proofs.YtimjgebiffemnaaDoor
open Go.RowKit

/-- The first place of a query, or none. -/
def RatP (e : Ending) (n : Nat) (Q : Nat → Int × Int × Int) (q : Int × Int × Int) : Prop := (∃ j : Nat, j < n ∧ e = .returned (.int .i64 (j : Int)) ∧ Q j = q ∧ ∀ l, l < j → Q l ≠ q) ∨ ((∀ l, l < n → Q l ≠ q) ∧ e = .returned (.int .i64 (-1)))
set_option maxHeartbeats 16000000 in
set_option maxRecDepth 100000 in
theorem rat_first (n cn : Nat) (oa : Option Addr) (Q : Nat → Int × Int × Int) (q : Int × Int × Int) (hn : n ≤ 1000000) (w : World) (hv : Qs w (.slice oa n cn) n Q) :
    Calls Tryd.prog 32 #[.slice oa n cn, .agg #[.int .i64 q.1, .int .i64 q.2.1, .int .i64 q.2.2]] w fun e w' => RatP e n Q q ∧ Below w.heap.size w w' := by
  obtain ⟨w1, ew1⟩ : ∃ x : World, x = w.alloc (.cells #[.int .i64 q.1, .int .i64 q.2.1, .int .i64 q.2.2] 51) := ⟨_, rfl⟩
  have hb1 : Below w.heap.size w w1 := by rw [ew1]; exact bAlloc (Below.refl _ _) _
  obtain ⟨b3, eb3⟩ : ∃ x, x = w.heap.size := ⟨_, rfl⟩
  have f1 : w1.heap[b3]? = some (.cells #[.int .i64 q.1, .int .i64 q.2.1, .int .i64 q.2.2] 51) := by rw [ew1, eb3]; show (w.heap.push _)[w.heap.size]? = _; simp
  have HF1 : Hid (w1.heap[b3]? = some (.cells #[.int .i64 q.1, .int .i64 q.2.1, .int .i64 q.2.2] 51)) := f1
  have HR : Hid (Qs w1 (.slice oa n cn) n Q) := hv.below hb1
  have HB1 : Hid (Below w.heap.size w w1) := hb1
  clear hv f1 hb1
  go_enter Tryd.func32, Tryd.ntmps32
  go_upto_region 1 with fail
  rw [← ew1, ← eb3]
  clear ew1 eb3
  go_wp2
  go_loopw [5] (fun iv wr => ∃ k : Nat, iv = .int .i64 (k : Int) ∧ k ≤ n ∧ Below w1.heap.size w1 wr ∧ Hid (∀ i, i < k → Q i ≠ q)) (fun iv _ => n - (intOf iv).toNat)
  case atStart => exact ⟨0, rfl, Nat.zero_le _, Below.refl _ _, fun i hi => by omega⟩
  case round =>
    obtain ⟨k, rfl, hk, hbr, HALL⟩ := hrel
    by_cases hlt : k < n
    · have hki : (k : Int) < (n : Int) := by omega
      have hk0 : (0 : Int) ≤ (k : Int) := by omega
      rcases HR.out.below hbr with ⟨_, h0⟩ | ⟨ab, ao, c', hv, _, _, lab, hcell⟩
      · omega
      cases hv
      obtain ⟨p, ep⟩ : ∃ p, p = Q k := ⟨_, rfl⟩
      have r0 := hcell k hlt 0 (by decide); have r1 := hcell k hlt 1 (by decide); have r2 := hcell k hlt 2 (by decide)
      dsimp only at r0 r1 r2
      rw [← ep] at r0 r1 r2
      rw [show qC p 0 = .int .i64 p.1 from rfl, Nat.add_zero] at r0
      rw [show qC p 1 = .int .i64 p.2.1 from rfl] at r1
      rw [show qC p 2 = .int .i64 p.2.2 from rfl] at r2
      have f3 := (hbr.block b3 (Array.getElem?_eq_some_iff.1 HF1.out).1).trans HF1.out
      have s0 : wr.cell? ⟨b3, 0, none⟩ = some (.int .i64 q.1) := cell_of_block f3 0
      have s1 : wr.cell? ⟨b3, 1, none⟩ = some (.int .i64 q.2.1) := cell_of_block f3 1
      have s2 : wr.cell? ⟨b3, 2, none⟩ = some (.int .i64 q.2.2) := cell_of_block f3 2
      have HEP : Hid (p = Q k) := ep
      have HBR : Hid (Below w1.heap.size w1 wr) := hbr
      clear hcell ep f3 hbr lab
      go_upto_region 4 with fail
      refine wp_region_Z (fun w' => w'.cell? ⟨b3, 0, none⟩ = some (.int .i64 q.1) ∧ w'.cell? ⟨b3, 1, none⟩ = some (.int .i64 q.2.1) ∧ w'.cell? ⟨b3, 2, none⟩ = some (.int .i64 q.2.2) ∧ w'.cell? ⟨ab, ao + k * 3, none⟩ = some (.int .i64 p.1) ∧ w'.cell? ⟨ab, ao + k * 3 + 1, none⟩ = some (.int .i64 p.2.1) ∧ w'.cell? ⟨ab, ao + k * 3 + 2, none⟩ = some (.int .i64 p.2.2)) 6 (by kernel_rfl) ?_
      obtain ⟨wD, hD⟩ : ∃ z : World, z = wr.drew := ⟨_, rfl⟩
      rw [← hD]
      have hp : wD.cell? ⟨b3, 0, none⟩ = some (.int .i64 q.1) ∧ wD.cell? ⟨b3, 1, none⟩ = some (.int .i64 q.2.1) ∧ wD.cell? ⟨b3, 2, none⟩ = some (.int .i64 q.2.2) ∧ wD.cell? ⟨ab, ao + k * 3, none⟩ = some (.int .i64 p.1) ∧ wD.cell? ⟨ab, ao + k * 3 + 1, none⟩ = some (.int .i64 p.2.1) ∧ wD.cell? ⟨ab, ao + k * 3 + 2, none⟩ = some (.int .i64 p.2.2) := by rw [hD]; exact ⟨s0, s1, s2, r0, r1, r2⟩
      have HBD : Hid (Below w1.heap.size w1 wD) := by rw [hD]; exact HBR.out.drew
      clear hD s0 s1 s2 r0 r1 r2
      refine zt 0 12 (.slice (some ⟨ab, ao, none⟩) n cn) rfl rfl (fun w hSw => by go_simp) hp ?_
      simp only [Act.put, List.setIfInBounds_toArray]
      dsimp only [List.set_cons_zero, List.set_cons_succ]
      refine zt 1 13 (.int .i64 (k : Int)) rfl rfl (fun w hSw => by go_simp) hp ?_
      simp only [Act.put, List.setIfInBounds_toArray]
      dsimp only [List.set_cons_zero, List.set_cons_succ]
      refine zt 2 14 (.pointer (some ⟨ab, ao + k * 3, none⟩)) rfl rfl (fun w hSw => by go_simp) hp ?_
      simp only [Act.put, List.setIfInBounds_toArray]
      dsimp only [List.set_cons_zero, List.set_cons_succ]
      refine zt 3 15 (.agg #[.int .i64 p.1, .int .i64 p.2.1, .int .i64 p.2.2]) rfl rfl (fun w hSw => by obtain ⟨s0, s1, s2, r0, r1, r2⟩ := hSw; go_simp) hp ?_
      simp only [Act.put, List.setIfInBounds_toArray]
      dsimp only [List.set_cons_zero, List.set_cons_succ]
      refine zt 4 16 (.agg #[.int .i64 q.1, .int .i64 q.2.1, .int .i64 q.2.2]) rfl rfl (fun w hSw => by obtain ⟨s0, s1, s2, r0, r1, r2⟩ := hSw; go_simp) hp ?_
      simp only [Act.put, List.setIfInBounds_toArray]
      dsimp only [List.set_cons_zero, List.set_cons_succ]
      refine zt 5 17 (.bool (decide (p = q))) rfl rfl (fun w hSw => by go_simp; exact ite3 p q w) hp ?_
      simp only [Act.put, List.setIfInBounds_toArray]
      dsimp only [List.set_cons_zero, List.set_cons_succ]
      refine wpZ_done (by kernel_rfl) ?_ _
      clear hp
      by_cases he : p = q
      · have HM : Hid (Q k = q) := by show Q k = q; rw [← HEP.out, he]
        have hed : decide (p = q) = true := decide_eq_true he
        rw [hed]
        have HBF : Hid (Below w.heap.size w wD) := bStep HB1.out HBD.out
        clear hed he
        go_wp2
        go_ret
        exact ⟨Or.inl ⟨k, hlt, rfl, HM.out, HALL.out⟩, HBF.out⟩
      · have hed : decide (p = q) = false := decide_eq_false he
        rw [hed]
        have HN : Hid (∀ i, i < k + 1 → Q i ≠ q) := fun i hi => by
          rcases Nat.lt_or_ge i k with h | h
          · exact HALL.out i h
          · rw [show i = k by omega, ← HEP.out]; exact he
        clear hed he
        go_wp2
        go_roundw
        case measure => simp [intOf]; omega
        case rel => exact ⟨k + 1, by go_num, hlt, HBD.out, HN⟩
    · have hki : ¬ (k : Int) < (n : Int) := by omega
      have HM : Hid (∀ l, l < n → Q l ≠ q) := fun i hi => HALL.out i (by omega)
      have HBF : Hid (Below w.heap.size w wr) := bStep HB1.out hbr
      clear hbr HALL
      go_wp2
      go_ret
      exact ⟨Or.inr ⟨HM.out, rfl⟩, HBF.out⟩
theorem fsM_none {Q : Nat → Int × Int × Int} {A : Nat → Nat} {q : Int × Int × Int} : ∀ n, (∀ l, l < n → Q l ≠ q) → fsM Q A n q = none
  | 0, _ => rfl
  | n + 1, h => by
    show (if (fsM Q A n q).isSome = true then fsM Q A n q else if Q n = q then some (A n) else none) = none
    rw [fsM_none n (fun l hl => h l (by omega)), if_neg (by decide), if_neg (h n (by omega))]
theorem fsM_first {Q : Nat → Int × Int × Int} {A : Nat → Nat} {q : Int × Int × Int} {j : Nat} (hq : Q j = q) (hl : ∀ l, l < j → Q l ≠ q) : ∀ d, fsM Q A (j + 1 + d) q = some (A j)
  | 0 => by
    show (if (fsM Q A j q).isSome = true then fsM Q A j q else if Q j = q then some (A j) else none) = _
    rw [fsM_none j hl, if_neg (by decide), if_pos hq]
  | d + 1 => by
    show (if (fsM Q A (j + 1 + d) q).isSome = true then fsM Q A (j + 1 + d) q else if Q (j + 1 + d) = q then some (A (j + 1 + d)) else none) = _
    rw [fsM_first hq hl d]
    rfl
theorem fsM_at {Q : Nat → Int × Int × Int} {A : Nat → Nat} {q : Int × Int × Int} {j n : Nat} (hj : j < n) (hq : Q j = q) (hl : ∀ l, l < j → Q l ≠ q) : fsM Q A n q = some (A j) := by
  have h := fsM_first (A := A) hq hl (n - (j + 1))
  rw [show j + 1 + (n - (j + 1)) = n by omega] at h
  exact h
/-- What the reference's Values answers. -/
def RValP (e : Ending) (w' : World) (s n : Nat) (T : Nat → Int × Int × Int × Nat) (M : Int × Int × Int → Option Nat) (c : Int) : Prop :=
  (c = 0 ∧ ∃ v, e = .returned (.tuple #[v, .int .i64 0]) ∧ Es w' v n (vls s M T n)) ∨ (c ≠ 0 ∧ e = .returned (.tuple #[.slice none 0 0, .int .i64 c]))
set_option maxHeartbeats 4000000 in
set_option maxRecDepth 100000 in
theorem rvalues_low (s : Int) (hs : s < 0) (nv qv av : Value) (w : World) :
    Calls Tryd.prog 23 #[.int .i64 s, nv, qv, av] w fun e w' => e = .returned (.tuple #[.slice none 0 0, .int .i64 20]) ∧ Below w.heap.size w w' := by
  have h1 : decide (s < 0) = true := decide_eq_true hs
  go_enter Tryd.func23, Tryd.ntmps23
  go_wp2
  go_ret2
  exact ⟨rfl, Below.refl _ _⟩
set_option maxHeartbeats 4000000 in
set_option maxRecDepth 100000 in
theorem rvalues_high (s : Int) (hs : 3 < s) (nv qv av : Value) (w : World) :
    Calls Tryd.prog 23 #[.int .i64 s, nv, qv, av] w fun e w' => e = .returned (.tuple #[.slice none 0 0, .int .i64 20]) ∧ Below w.heap.size w w' := by
  have h0 : ¬ s < 0 := by omega
  have h1 : decide (s < 0) = false := decide_eq_false h0
  have h2 : decide ((3 : Int) < s) = true := decide_eq_true hs
  go_enter Tryd.func23, Tryd.ntmps23
  go_wp2
  go_ret2
  exact ⟨rfl, Below.refl _ _⟩
/-- The list, the node and the number that are at hand. -/
def RS (w4 w : World) (v : Value) (B k N12 N13 VAL : Nat) (O X Y : Int) (Z : Nat) (f : Nat → Nat) : Prop :=
  Below w4.heap.size w4 w ∧ w.ownsRow B 44 4 v k (rwl 4 (fun ia ja => .int .u64 ((limb ja (f ia) : Nat) : Int)) k) ∧ w.heap[N12]? = some (.cells #[.int .i64 O, .int .i64 X, .int .i64 Y, .int .u64 ((limb 0 Z : Nat) : Int), .int .u64 ((limb 1 Z : Nat) : Int), .int .u64 ((limb 2 Z : Nat) : Int), .int .u64 ((limb 3 Z : Nat) : Int)] 46) ∧ w.heap[N13]? = some (.cells #[.int .u64 ((limb 0 VAL : Nat) : Int), .int .u64 ((limb 1 VAL : Nat) : Int), .int .u64 ((limb 2 VAL : Nat) : Int), .int .u64 ((limb 3 VAL : Nat) : Int)] 44) ∧ (w4.heap.size ≤ N13 ∧ N12 ≠ N13) ∧ ∀ b, v.ownBlock = some b → b ≠ N13
section
variable {w4 w w' : World} {v : Value} {B k N12 N13 VAL Z : Nat} {O X Y : Int} {f : Nat → Nat}
theorem RS.below (h : RS w4 w v B k N12 N13 VAL O X Y Z f) (hb : Below w.heap.size w w') : RS w4 w' v B k N12 N13 VAL O X Y Z f :=
  ⟨bStep h.1 hb, own_below h.2.1 hb, (hb.block N12 (Array.getElem?_eq_some_iff.1 h.2.2.1).1).trans h.2.2.1, (hb.block N13 (Array.getElem?_eq_some_iff.1 h.2.2.2.1).1).trans h.2.2.2.1, h.2.2.2.2⟩
theorem RS.set (h : RS w4 w v B k N12 N13 VAL O X Y Z f) (U : Nat) : RS w4 ((((w.setCell ⟨N13, 0, none⟩ (.int .u64 ((limb 0 U : Nat) : Int))).setCell ⟨N13, 1, none⟩ (.int .u64 ((limb 1 U : Nat) : Int))).setCell ⟨N13, 2, none⟩ (.int .u64 ((limb 2 U : Nat) : Int))).setCell ⟨N13, 3, none⟩ (.int .u64 ((limb 3 U : Nat) : Int))) v B k N12 N13 U O X Y Z f := by
  have hs := set4 (d0 := .int .u64 ((limb 0 U : Nat) : Int)) (d1 := .int .u64 ((limb 1 U : Nat) : Int)) (d2 := .int .u64 ((limb 2 U : Nat) : Int)) (d3 := .int .u64 ((limb 3 U : Nat) : Int)) h.2.2.2.1
  exact ⟨h.1.trans (hs.2.below h.1.size (fun b hb => by rw [hb]; exact h.2.2.2.2.1.1)), own_keep h.2.1 (fun b hb => hs.2.block (own_lt h.2.1 b hb).2 (h.2.2.2.2.2 b hb)), (hs.2.block (Array.getElem?_eq_some_iff.1 h.2.2.1).1 (fun e => h.2.2.2.2.1.2 e)).trans h.2.2.1, hs.1, h.2.2.2.2⟩
end
set_option maxHeartbeats 32000000 in
set_option maxRecDepth 100000 in
theorem rvalues_in (s n cn nq cq na ca : Nat) (on oq oa : Option Addr) (T : Nat → Int × Int × Int × Nat) (Q : Nat → Int × Int × Int) (A : Nat → Nat) (hs : s < 4) (hn : n ≤ 1000000) (hnq : nq ≤ 1000000) (hT : ∀ i, i < n → (T i).2.2.2 < 115792089237316195423570985008687907853269984665640564039457584007913129639936) (hA : ∀ i, i < na → A i < 115792089237316195423570985008687907853269984665640564039457584007913129639936) (w : World) (hv : Rs w (.slice on n cn) 7 n (fun i => nC (T i))) (hq : Qs w (.slice oq nq cq) nq Q) (ha : Es w (.slice oa na ca) na A) :
    Calls Tryd.prog 23 #[.int .i64 (s : Int), .slice on n cn, .slice oq nq cq, .slice oa na ca] w fun e w' => RValP e w' s n T (fsM Q A nq) (valC (ordB n T) (decide (na = nq)) (okV n T (fsM Q A nq))) ∧ Below w.heap.size w w' := by
  obtain ⟨ie, hie, he0, he1, he2⟩ := elemInfo
  have HIE : Hid (Tryd.prog.info? 44 = some ie) := hie
  have HZE : Hid (ie.zero = some (.agg #[.int .u64 0, .int .u64 0, .int .u64 0, .int .u64 0]) ∧ ie.size = 4 ∧ ie.bytes = 32) := ⟨he0, he1, he2⟩
  have hsl : ¬ (s : Int) < 0 := by omega
  have hsd : decide ((s : Int) < 0) = false := decide_eq_false hsl
  have hsh : ¬ (3 : Int) < (s : Int) := by omega
  have hse : decide ((3 : Int) < (s : Int)) = false := decide_eq_false hsh
  have HORD : Hid (Calls _ _ _ _ _) := rordered_any n cn on T hn w hv
  have HRW : Hid (∀ w', Below w.heap.size w w' → Rs w' (.slice on n cn) 7 n (fun i => nC (T i))) := fun w' h => hv.below h
  have HQW0 : Hid (∀ w', Below w.heap.size w w' → Qs w' (.slice oq nq cq) nq Q) := fun w' h => hq.below h
  have HAW0 : Hid (∀ w', Below w.heap.size w w' → Es w' (.slice oa na ca) na A) := fun w' h => ha.below h
  have HTT : Hid (∀ i, i < n → (T i).2.2.2 < 115792089237316195423570985008687907853269984665640564039457584007913129639936) := hT
  have HAA : Hid (∀ i, i < na → A i < 115792089237316195423570985008687907853269984665640564039457584007913129639936) := hA
  have HSS0 : Hid (s < 4) := hs
  obtain ⟨M, eM⟩ : ∃ M, M = fsM Q A nq := ⟨_, rfl⟩
  rw [← eM]
  have HEM0 : Hid (M = fsM Q A nq) := eM
  obtain ⟨od, eod⟩ : ∃ b, b = ordB n T := ⟨_, rfl⟩
  rw [← eod] at HORD
  have HOD : Hid (od = ordB n T) := eod
  clear hie he0 he1 he2 hv hq ha hT hA hs eM eod
  go_enter Tryd.func23, Tryd.ntmps23
  go_wp2_with fail
  refine Calls.mono HORD.out ?_
  rintro e w3 ⟨rfl, hb3⟩
  have HB3 : Hid (Below w.heap.size w w3) := hb3
  clear hb3 HORD
  cases od
  · go_wp2
    go_ret2
    exact ⟨Or.inr ⟨by rw [← HOD.out]; exact (show ¬ (110 : Int) = 0 by decide), by rw [← HOD.out]; rfl⟩, HB3.out⟩
  have HOR : Hid (ordB n T = true) := HOD.out.symm
  have hok : ∀ i, i < n → okN (T i) i = true := of_decide_eq_true HOR.out
  have HOK : Hid (∀ i, i < n → okN (T i) i = true) := hok
  clear hok
  by_cases hlen : na = nq
  rotate_left
  · have hli : ¬ (na : Int) = (nq : Int) := by omega
    have HLN : Hid (decide (na = nq) = false) := decide_eq_false hlen
    clear hlen
    go_wp2
    go_ret2
    exact ⟨Or.inr ⟨by rw [HOR.out, HLN.out]; exact (show ¬ (50 : Int) = 0 by decide), by rw [HOR.out, HLN.out]; rfl⟩, HB3.out⟩
  subst hlen
  have HEM : Hid (M = fsM Q A na) := HEM0.out
  obtain ⟨B, eB⟩ : ∃ x, x = w3.heap.size := ⟨_, rfl⟩
  obtain ⟨w4, ew4⟩ : ∃ x : World, x = w3.alloc (.cells #[] 44) := ⟨_, rfl⟩
  have hb4 : Below w3.heap.size w3 w4 := by rw [ew4]; exact bAlloc (Below.refl _ _) _
  have HO0 : Hid (w4.ownsRow B 44 4 (.slice (some ⟨B, 0, none⟩) 0 0) 0 (rwl 4 (fun ia ja => .int .u64 ((limb ja ((vls s M T n) ia) : Nat) : Int)) 0)) := by rw [eB, ew4]; exact own_new w3 44 4
  obtain ⟨w3', ew3'⟩ : ∃ x : World, x = w3 := ⟨_, rfl⟩
  have t4 : w3.alloc (.cells #[] 44) = w4 := ew4.symm
  have tb : w3.heap.size = B := eB.symm
  have HBB : Hid (w3.heap.size = B) := tb
  have H34 : Hid (Below w3.heap.size w3 w4) := hb4
  have HB4 : Hid (Below w.heap.size w w3) := HB3.out
  have HQW : Hid (∀ w', Below w3.heap.size w3 w' → Qs w' (.slice oq na cq) na Q) := fun w' h => HQW0.out w' (bStep HB3.out h)
  have HAW : Hid (∀ w', Below w3.heap.size w3 w' → Es w' (.slice oa na ca) na A) := fun w' h => HAW0.out w' (bStep HB3.out h)
  have HNW : Hid (∀ w', Below w3.heap.size w3 w' → Rs w' (.slice on n cn) 7 n (fun i => nC (T i))) := fun w' h => HRW.out w' (bStep HB3.out h)
  clear ew4 eB hb4 ew3' w3' HQW0 HAW0 HRW HEM0 HOD HB3
  go_wp2
  clear t4 tb
  go_loopw [11, 10] (fun iv lv wr => ∃ k : Nat, iv = .int .i64 (k : Int) ∧ k ≤ n ∧ Below w3.heap.size w3 wr ∧ Hid (wr.ownsRow B 44 4 lv k (rwl 4 (fun ia ja => .int .u64 ((limb ja ((vls s M T n) ia) : Nat) : Int)) k)) ∧ Hid (∀ i, i < k → isQ (T i).1 = true → (M (qOf (T i))).isSome = true)) (fun iv _ _ => n - (intOf iv).toNat)
  case atStart => exact ⟨0, rfl, Nat.zero_le _, H34.out, HO0, fun i hi => absurd hi (Nat.not_lt_zero i)⟩
  case round =>
    obtain ⟨k, rfl, hk, hbr, HLL, HOV⟩ := hrel
    clear H34 HO0
    obtain ⟨ol, cl, hsx, _⟩ := own_shape HLL.out
    subst hsx
    by_cases hlt : k < n
    · have hki : (k : Int) < (n : Int) := by omega
      have hk0 : (0 : Int) ≤ (k : Int) := by omega
      rcases HNW.out wr hbr with ⟨_, h0⟩ | ⟨ab, ao, c', hv', _, _, lab, hcell⟩
      · omega
      cases hv'
      obtain ⟨O, X, Y, Z, hE⟩ : ∃ O X Y Z, T k = (O, X, Y, Z) := ⟨_, _, _, _, rfl⟩
      obtain ⟨t0, t1, t2, t3, t4, t5, t6⟩ := nC_cells O X Y Z
      have b0 := hcell k hlt 0 (by decide); have b1 := hcell k hlt 1 (by decide); have b2 := hcell k hlt 2 (by decide); have b3 := hcell k hlt 3 (by decide); have b4 := hcell k hlt 4 (by decide); have b5 := hcell k hlt 5 (by decide); have b6 := hcell k hlt 6 (by decide)
      dsimp only at b0 b1 b2 b3 b4 b5 b6
      rw [hE] at b0 b1 b2 b3 b4 b5 b6
      rw [t0] at b0; rw [t1] at b1; rw [t2] at b2; rw [t3] at b3; rw [t4] at b4; rw [t5] at b5; rw [t6] at b6
      rw [Nat.add_zero] at b0
      have HE : Hid (T k = (O, X, Y, Z)) := hE
      have hkk := HOK.out k hlt
      rw [hE] at hkk
      unfold okN at hkk
      rw [Bool.and_eq_true] at hkk
      have hO : 1 ≤ O ∧ O ≤ 8 := of_decide_eq_true hkk.1
      have hUS0 : ∀ i, i < uN O → 0 ≤ uF X Y i ∧ uF X Y i < (k : Int) := of_decide_eq_true hkk.2
      have HUS : Hid (∀ i, i < uN O → 0 ≤ uF X Y i ∧ uF X Y i < (k : Int)) := hUS0
      have hZ : Z < 115792089237316195423570985008687907853269984665640564039457584007913129639936 := by have h := HTT.out k hlt; rw [hE] at h; exact h
      have HVK : Hid (vls s M T n k = vstp s M (O, X, Y, Z) (vls s M T k)) := by show vls s M T n k = _; rw [vls_at s M T k n hlt, hE]
      have HPV : Hid (∀ p, p < k → vls s M T n p = vls s M T k p) := fun p hp => by rw [vls_at s M T p n (by omega), vls_at s M T p k hp]
      obtain ⟨N12, eN12⟩ : ∃ x, x = wr.heap.size := ⟨_, rfl⟩
      obtain ⟨a1, ea1⟩ : ∃ x : World, x = wr.alloc (.cells #[.int .i64 O, .int .i64 X, .int .i64 Y, .int .u64 ((limb 0 Z : Nat) : Int), .int .u64 ((limb 1 Z : Nat) : Int), .int .u64 ((limb 2 Z : Nat) : Int), .int .u64 ((limb 3 Z : Nat) : Int)] 46) := ⟨_, rfl⟩
      have hA1 : Below wr.heap.size wr a1 := by rw [ea1]; exact bAlloc (Below.refl _ _) _
      have g12 : a1.heap[N12]? = some (.cells #[.int .i64 O, .int .i64 X, .int .i64 Y, .int .u64 ((limb 0 Z : Nat) : Int), .int .u64 ((limb 1 Z : Nat) : Int), .int .u64 ((limb 2 Z : Nat) : Int), .int .u64 ((limb 3 Z : Nat) : Int)] 46) := by rw [ea1, eN12]; show (wr.heap.push _)[wr.heap.size]? = _; simp
      have HOC : Hid (Calls _ _ _ _ _) := ref2Of_any s Z HSS0.out hZ a1
      obtain ⟨Z0, eZ0⟩ : ∃ z, z = Z % modN s := ⟨_, rfl⟩
      rw [← eZ0] at HOC
      have HZ0 : Hid (Z0 = Z % modN s) := eZ0
      have HA1 : Hid (Below wr.heap.size wr a1) := hA1
      have HG12 : Hid (a1.heap[N12]? = some (.cells #[.int .i64 O, .int .i64 X, .int .i64 Y, .int .u64 ((limb 0 Z : Nat) : Int), .int .u64 ((limb 1 Z : Nat) : Int), .int .u64 ((limb 2 Z : Nat) : Int), .int .u64 ((limb 3 Z : Nat) : Int)] 46)) := g12
      have HBR : Hid (Below w3.heap.size w3 wr) := hbr
      have HN12 : Hid (N12 = wr.heap.size) := eN12
      clear hcell t0 t1 t2 t3 t4 t5 t6 hE hkk hUS0 hZ eZ0 hA1 hbr lab
      go_upto_region 12 with fail
      rw [← ea1, ← eN12]
      clear b0 b1 b2 b3 b4 b5 b6 ea1 eN12
      have d3 := cell_of_block g12 3; have d4 := cell_of_block g12 4; have d5 := cell_of_block g12 5; have d6 := cell_of_block g12 6
      clear g12
      go_wp2_with fail
      refine Calls.mono HOC.out ?_
      rintro e a2 ⟨rfl, hb2⟩
      obtain ⟨N13, eN13⟩ : ∃ x, x = a2.heap.size := ⟨_, rfl⟩
      obtain ⟨a3, ea3⟩ : ∃ x : World, x = a2.alloc (.cells #[.int .u64 ((limb 0 Z0 : Nat) : Int), .int .u64 ((limb 1 Z0 : Nat) : Int), .int .u64 ((limb 2 Z0 : Nat) : Int), .int .u64 ((limb 3 Z0 : Nat) : Int)] 44) := ⟨_, rfl⟩
      have hA3 : Below a2.heap.size a2 a3 := by rw [ea3]; exact bAlloc (Below.refl _ _) _
      have g13 : a3.heap[N13]? = some (.cells #[.int .u64 ((limb 0 Z0 : Nat) : Int), .int .u64 ((limb 1 Z0 : Nat) : Int), .int .u64 ((limb 2 Z0 : Nat) : Int), .int .u64 ((limb 3 Z0 : Nat) : Int)] 44) := by rw [ea3, eN13]; show (a2.heap.push _)[a2.heap.size]? = _; simp
      have hAll : Below wr.heap.size wr a3 := bStep (bStep HA1.out hb2) hA3
      have HS : Hid (RS w3 a3 (.slice ol k cl) B k N12 N13 Z0 O X Y Z (vls s M T n)) := by
        have l12 := (Array.getElem?_eq_some_iff.1 HG12.out).1
        have g2 := (hb2.block N12 l12).trans HG12.out
        have hsz := (bStep HA1.out hb2).size
        refine ⟨bStep HBR.out hAll, own_below HLL.out hAll, (hA3.block N12 (Array.getElem?_eq_some_iff.1 g2).1).trans g2, g13, ⟨by rw [eN13]; exact Nat.le_trans HBR.out.size hsz, ?_⟩, fun b hb => ?_⟩
        · have := (Array.getElem?_eq_some_iff.1 g2).1; omega
        · have := (own_lt HLL.out b hb).2; omega
      clear hb2 hA3 g13 hAll HOC HLL HA1 HG12 HBR HN12 d3 d4 d5 d6
      go_upto_region 13 with fail
      rw [← ea3, ← eN13]
      clear ea3 eN13
      have hc : O = 1 ∨ O = 2 ∨ O = 3 ∨ O = 4 ∨ O = 5 ∨ O = 6 ∨ O = 7 ∨ O = 8 := by omega
      have n0 := cell_of_block HS.out.2.2.1 0
      go_upto_block 2 with fail
      clear n0 hO
      rcases hc with rfl | rfl | rfl | rfl | rfl | rfl | rfl | rfl
      · have HNX : Hid (∀ i, i < k + 1 → isQ (T i).1 = true → (M (qOf (T i))).isSome = true) := fun i hi hq => by
          rcases Nat.lt_or_ge i k with h1 | h1
          · exact HOV.out i h1 hq
          · rw [show i = k by omega, HE.out] at hq; exact absurd hq (by show ¬ isQ 1 = true; decide)
        have hUS := HUS.out
        have HVV : Hid (Z0 = vls s M T n k) := by show Z0 = _; rw [HVK.out, HZ0.out]; show Z % modN s = addP s Z 0; unfold addP; rw [Nat.add_zero]
        go_upto_region 29 with fail
        have f0 := cell_of_block HS.out.2.2.2.1 0; have f1 := cell_of_block HS.out.2.2.2.1 1; have f2 := cell_of_block HS.out.2.2.2.1 2; have f3 := cell_of_block HS.out.2.2.2.1 3
        obtain ⟨z3, ez3⟩ : ∃ x : World, x = a3.alloc (.cells #[.int .u64 ((limb 0 Z0 : Nat) : Int), .int .u64 ((limb 1 Z0 : Nat) : Int), .int .u64 ((limb 2 Z0 : Nat) : Int), .int .u64 ((limb 3 Z0 : Nat) : Int)] 44) := ⟨_, rfl⟩
        have hA3 : Below a3.heap.size a3 z3 := by rw [ez3]; exact bAlloc (Below.refl _ _) _
        have hR3 : Rs z3 (.slice (some ⟨a3.heap.size, 0, none⟩) 1 1) 4 1 (fun _ j => .int .u64 ((limb j Z0 : Nat) : Int)) := by rw [ez3]; exact one_E a3 44 Z0 _ _ _ _ rfl rfl rfl rfl
        have ha3 : a3.alloc (.cells #[.int .u64 ((limb 0 Z0 : Nat) : Int), .int .u64 ((limb 1 Z0 : Nat) : Int), .int .u64 ((limb 2 Z0 : Nat) : Int), .int .u64 ((limb 3 Z0 : Nat) : Int)] 44) = z3 := ez3.symm
        have HT3 : Hid (RS w3 z3 (.slice ol k cl) B k N12 N13 Z0 1 X Y Z (vls s M T n)) := HS.out.below hA3
        have HSZ : Hid (B ≤ z3.heap.size) := by have h1 := HT3.out.1.size; have h2 := HBB.out; show B ≤ z3.heap.size; omega
        clear ez3 hA3
        go_wp2_with (first
          | (at_builtin; refine wpList_appR _ rfl _ _ 36 rfl B 44 ie (.agg #[.int .u64 0, .int .u64 0, .int .u64 0, .int .u64 0]) 4 32 Tryd.underlying36 HIE.out HZE.out.1 HZE.out.2.1 HZE.out.2.2 rfl (by decide) _ k _ rfl HT3.out.2.1 1 _ _ rfl hR3 (fun i _ j _ => rfl) ?c1 ?c2 HSZ.out ?_)
          | go_in)
        case c1 => unfold maxLen; omega
        case c2 => omega
        intro vn sN hown hg hsep
        have HON : Hid (sN.ownsRow B 44 4 vn (k + 1) (rwl 4 (fun ia ja => .int .u64 ((limb ja ((vls s M T n) ia) : Nat) : Int)) (k + 1))) := own_same hown rfl (fun t ht q _ => by
          by_cases h1 : t < k
          · rw [if_pos h1]
          · rw [if_neg h1, show t = k by omega]
            exact congrArg (fun v => Value.int .u64 ((limb q v : Nat) : Int)) HVV.out.symm)
        have HBN : Hid (Below w3.heap.size w3 sN) := HT3.out.1.grown hg HT3.out.1.size (fun j hj => by have h1 := own_ge HT3.out.2.1 hj; have h2 := HBB.out; omega)
        clear hown hg hsep hR3 ha3 HSZ HT3 f0 f1 f2 f3
        go_wp2
        go_roundw
        case measure => simp [intOf]; omega
        case rel => exact ⟨k + 1, by go_num, hlt, HBN.out, HON, HNX⟩
      · have HRT : Hid (Calls _ _ _ _ _) := rat_first na cq oq Q (2, X, Y) (by omega) a3 (HQW.out a3 HS.out.1)
        have n0 := cell_of_block HS.out.2.2.1 0; have n1 := cell_of_block HS.out.2.2.1 1; have n2 := cell_of_block HS.out.2.2.1 2
        go_wp2_with fail
        refine Calls.mono HRT.out ?_
        rintro e a4 ⟨hrt, hb4⟩
        have HS4 : Hid (RS w3 a4 (.slice ol k cl) B k N12 N13 Z0 2 X Y Z (vls s M T n)) := HS.out.below hb4
        clear hb4 HRT n0 n1 n2
        rcases hrt with ⟨j, hj, rfl, hqj, hfj⟩ | ⟨hno, rfl⟩
        rotate_left
        · have HNO : Hid (okV n T M = false) := decide_eq_false (fun h => by
            have h1 := h k hlt (by rw [HE.out]; rfl)
            rw [HE.out, HEM.out] at h1
            rw [show qOf (2, X, Y, Z) = (2, X, Y) from rfl, fsM_none na hno] at h1
            cases h1)
          have HBF : Hid (Below w.heap.size w a4) := bStep HB4.out HS4.out.1
          clear hno
          go_wp2
          go_ret2
          exact ⟨Or.inr ⟨by rw [HOR.out, HNO.out]; exact (show ¬ (50 : Int) = 0 by decide), by rw [HOR.out, HNO.out]; rfl⟩, HBF.out⟩
        have hji : (j : Int) < (na : Int) := by omega
        have hj0 : ¬ (j : Int) < 0 := by omega
        have hj1 : (0 : Int) ≤ (j : Int) := by omega
        obtain ⟨U1, eU1⟩ : ∃ x, x = A j := ⟨_, rfl⟩
        have hU1 : U1 < 115792089237316195423570985008687907853269984665640564039457584007913129639936 := by rw [eU1]; exact HAA.out j hj
        have HMK : Hid ((M (2, X, Y)).getD 0 = U1) := by show (M (2, X, Y)).getD 0 = U1; rw [HEM.out, fsM_at hj hqj hfj, eU1]; rfl
        obtain ⟨R, eR⟩ : ∃ R, R = U1 % modN s := ⟨_, rfl⟩
        have HVV : Hid (R = vls s M T n k) := by show R = _; rw [HVK.out, eR]; show U1 % modN s = addP s ((M (2, X, Y)).getD 0) 0; unfold addP; rw [HMK.out, Nat.add_zero]
        have HNX : Hid (∀ i, i < k + 1 → isQ (T i).1 = true → (M (qOf (T i))).isSome = true) := fun i hi hq => by
          rcases Nat.lt_or_ge i k with h1 | h1
          · exact HOV.out i h1 hq
          · rw [show i = k by omega, HE.out, HEM.out, show qOf (2, X, Y, Z) = (2, X, Y) from rfl, fsM_at hj hqj hfj]; rfl
        rcases HAW.out a4 HS4.out.1 with ⟨_, h0⟩ | ⟨eb, eo, c', hv', _, _, _, hcell⟩
        · omega
        cases hv'
        have y0 := hcell j hj 0 (by decide); have y1 := hcell j hj 1 (by decide); have y2 := hcell j hj 2 (by decide); have y3 := hcell j hj 3 (by decide)
        rw [← eU1] at y0 y1 y2 y3
        rw [Nat.add_zero] at y0
        have HOC : Hid (Calls _ _ _ _ _) := ref2Of_any s U1 HSS0.out hU1 a4
        rw [← eR] at HOC
        clear hcell eU1 hU1 eR hqj hfj
        go_wp2_with fail
        refine Calls.mono HOC.out ?_
        rintro e a5 ⟨rfl, hb5⟩
        have HS5 : Hid (RS w3 a5 (.slice ol k cl) B k N12 N13 Z0 2 X Y Z (vls s M T n)) := HS4.out.below hb5
        have f0 := cell_of_block HS5.out.2.2.2.1 0; have f1 := cell_of_block HS5.out.2.2.2.1 1; have f2 := cell_of_block HS5.out.2.2.2.1 2; have f3 := cell_of_block HS5.out.2.2.2.1 3
        have fz : ∀ o, a5.frozen? ⟨N13, o, none⟩ = false := fun o => by simp [World.frozen?, HS5.out.2.2.2.1]
        obtain ⟨wS, ewS⟩ : ∃ x : World, x = (((a5.setCell ⟨N13, 0, none⟩ (.int .u64 ((limb 0 R : Nat) : Int))).setCell ⟨N13, 1, none⟩ (.int .u64 ((limb 1 R : Nat) : Int))).setCell ⟨N13, 2, none⟩ (.int .u64 ((limb 2 R : Nat) : Int))).setCell ⟨N13, 3, none⟩ (.int .u64 ((limb 3 R : Nat) : Int)) := ⟨_, rfl⟩
        have HSS : Hid (RS w3 wS (.slice ol k cl) B k N12 N13 R 2 X Y Z (vls s M T n)) := by rw [ewS]; exact HS5.out.set R
        clear hb5 HOC y0 y1 y2 y3
        go_upto_region 29 with fail
        rw [← ewS]
        clear ewS f0 f1 f2 f3 fz
        have f0 := cell_of_block HSS.out.2.2.2.1 0; have f1 := cell_of_block HSS.out.2.2.2.1 1; have f2 := cell_of_block HSS.out.2.2.2.1 2; have f3 := cell_of_block HSS.out.2.2.2.1 3
        obtain ⟨z3, ez3⟩ : ∃ x : World, x = wS.alloc (.cells #[.int .u64 ((limb 0 R : Nat) : Int), .int .u64 ((limb 1 R : Nat) : Int), .int .u64 ((limb 2 R : Nat) : Int), .int .u64 ((limb 3 R : Nat) : Int)] 44) := ⟨_, rfl⟩
        have hA3 : Below wS.heap.size wS z3 := by rw [ez3]; exact bAlloc (Below.refl _ _) _
        have hR3 : Rs z3 (.slice (some ⟨wS.heap.size, 0, none⟩) 1 1) 4 1 (fun _ j => .int .u64 ((limb j R : Nat) : Int)) := by rw [ez3]; exact one_E wS 44 R _ _ _ _ rfl rfl rfl rfl
        have ha3 : wS.alloc (.cells #[.int .u64 ((limb 0 R : Nat) : Int), .int .u64 ((limb 1 R : Nat) : Int), .int .u64 ((limb 2 R : Nat) : Int), .int .u64 ((limb 3 R : Nat) : Int)] 44) = z3 := ez3.symm
        have HT3 : Hid (RS w3 z3 (.slice ol k cl) B k N12 N13 R 2 X Y Z (vls s M T n)) := HSS.out.below hA3
        have HSZ : Hid (B ≤ z3.heap.size) := by have h1 := HT3.out.1.size; have h2 := HBB.out; show B ≤ z3.heap.size; omega
        clear ez3 hA3
        go_wp2_with (first
          | (at_builtin; refine wpList_appR _ rfl _ _ 36 rfl B 44 ie (.agg #[.int .u64 0, .int .u64 0, .int .u64 0, .int .u64 0]) 4 32 Tryd.underlying36 HIE.out HZE.out.1 HZE.out.2.1 HZE.out.2.2 rfl (by decide) _ k _ rfl HT3.out.2.1 1 _ _ rfl hR3 (fun i _ j _ => rfl) ?c1 ?c2 HSZ.out ?_)
          | go_in)
        case c1 => unfold maxLen; omega
        case c2 => omega
        intro vn sN hown hg hsep
        have HON : Hid (sN.ownsRow B 44 4 vn (k + 1) (rwl 4 (fun ia ja => .int .u64 ((limb ja ((vls s M T n) ia) : Nat) : Int)) (k + 1))) := own_same hown rfl (fun t ht q _ => by
          by_cases h1 : t < k
          · rw [if_pos h1]
          · rw [if_neg h1, show t = k by omega]
            exact congrArg (fun v => Value.int .u64 ((limb q v : Nat) : Int)) HVV.out.symm)
        have HBN : Hid (Below w3.heap.size w3 sN) := HT3.out.1.grown hg HT3.out.1.size (fun j hj => by have h1 := own_ge HT3.out.2.1 hj; have h2 := HBB.out; omega)
        clear hown hg hsep hR3 ha3 HSZ HT3 f0 f1 f2 f3
        go_wp2
        go_roundw
        case measure => simp [intOf]; omega
        case rel => exact ⟨k + 1, by go_num, hlt, HBN.out, HON, HNX⟩
      · have HRT : Hid (Calls _ _ _ _ _) := rat_first na cq oq Q (3, X, Y) (by omega) a3 (HQW.out a3 HS.out.1)
        have n0 := cell_of_block HS.out.2.2.1 0; have n1 := cell_of_block HS.out.2.2.1 1; have n2 := cell_of_block HS.out.2.2.1 2
        go_wp2_with fail
        refine Calls.mono HRT.out ?_
        rintro e a4 ⟨hrt, hb4⟩
        have HS4 : Hid (RS w3 a4 (.slice ol k cl) B k N12 N13 Z0 3 X Y Z (vls s M T n)) := HS.out.below hb4
        clear hb4 HRT n0 n1 n2
        rcases hrt with ⟨j, hj, rfl, hqj, hfj⟩ | ⟨hno, rfl⟩
        rotate_left
        · have HNO : Hid (okV n T M = false) := decide_eq_false (fun h => by
            have h1 := h k hlt (by rw [HE.out]; rfl)
            rw [HE.out, HEM.out] at h1
            rw [show qOf (3, X, Y, Z) = (3, X, Y) from rfl, fsM_none na hno] at h1
            cases h1)
          have HBF : Hid (Below w.heap.size w a4) := bStep HB4.out HS4.out.1
          clear hno
          go_wp2
          go_ret2
          exact ⟨Or.inr ⟨by rw [HOR.out, HNO.out]; exact (show ¬ (50 : Int) = 0 by decide), by rw [HOR.out, HNO.out]; rfl⟩, HBF.out⟩
        have hji : (j : Int) < (na : Int) := by omega
        have hj0 : ¬ (j : Int) < 0 := by omega
        have hj1 : (0 : Int) ≤ (j : Int) := by omega
        obtain ⟨U1, eU1⟩ : ∃ x, x = A j := ⟨_, rfl⟩
        have hU1 : U1 < 115792089237316195423570985008687907853269984665640564039457584007913129639936 := by rw [eU1]; exact HAA.out j hj
        have HMK : Hid ((M (3, X, Y)).getD 0 = U1) := by show (M (3, X, Y)).getD 0 = U1; rw [HEM.out, fsM_at hj hqj hfj, eU1]; rfl
        obtain ⟨R, eR⟩ : ∃ R, R = U1 % modN s := ⟨_, rfl⟩
        have HVV : Hid (R = vls s M T n k) := by show R = _; rw [HVK.out, eR]; show U1 % modN s = addP s ((M (3, X, Y)).getD 0) 0; unfold addP; rw [HMK.out, Nat.add_zero]
        have HNX : Hid (∀ i, i < k + 1 → isQ (T i).1 = true → (M (qOf (T i))).isSome = true) := fun i hi hq => by
          rcases Nat.lt_or_ge i k with h1 | h1
          · exact HOV.out i h1 hq
          · rw [show i = k by omega, HE.out, HEM.out, show qOf (3, X, Y, Z) = (3, X, Y) from rfl, fsM_at hj hqj hfj]; rfl
        rcases HAW.out a4 HS4.out.1 with ⟨_, h0⟩ | ⟨eb, eo, c', hv', _, _, _, hcell⟩
        · omega
        cases hv'
        have y0 := hcell j hj 0 (by decide); have y1 := hcell j hj 1 (by decide); have y2 := hcell j hj 2 (by decide); have y3 := hcell j hj 3 (by decide)
        rw [← eU1] at y0 y1 y2 y3
        rw [Nat.add_zero] at y0
        have HOC : Hid (Calls _ _ _ _ _) := ref2Of_any s U1 HSS0.out hU1 a4
        rw [← eR] at HOC
        clear hcell eU1 hU1 eR hqj hfj
        go_wp2_with fail
        refine Calls.mono HOC.out ?_
        rintro e a5 ⟨rfl, hb5⟩
        have HS5 : Hid (RS w3 a5 (.slice ol k cl) B k N12 N13 Z0 3 X Y Z (vls s M T n)) := HS4.out.below hb5
        have f0 := cell_of_block HS5.out.2.2.2.1 0; have f1 := cell_of_block HS5.out.2.2.2.1 1; have f2 := cell_of_block HS5.out.2.2.2.1 2; have f3 := cell_of_block HS5.out.2.2.2.1 3
        have fz : ∀ o, a5.frozen? ⟨N13, o, none⟩ = false := fun o => by simp [World.frozen?, HS5.out.2.2.2.1]
        obtain ⟨wS, ewS⟩ : ∃ x : World, x = (((a5.setCell ⟨N13, 0, none⟩ (.int .u64 ((limb 0 R : Nat) : Int))).setCell ⟨N13, 1, none⟩ (.int .u64 ((limb 1 R : Nat) : Int))).setCell ⟨N13, 2, none⟩ (.int .u64 ((limb 2 R : Nat) : Int))).setCell ⟨N13, 3, none⟩ (.int .u64 ((limb 3 R : Nat) : Int)) := ⟨_, rfl⟩
        have HSS : Hid (RS w3 wS (.slice ol k cl) B k N12 N13 R 3 X Y Z (vls s M T n)) := by rw [ewS]; exact HS5.out.set R
        clear hb5 HOC y0 y1 y2 y3
        go_upto_region 29 with fail
        rw [← ewS]
        clear ewS f0 f1 f2 f3 fz
        have f0 := cell_of_block HSS.out.2.2.2.1 0; have f1 := cell_of_block HSS.out.2.2.2.1 1; have f2 := cell_of_block HSS.out.2.2.2.1 2; have f3 := cell_of_block HSS.out.2.2.2.1 3
        obtain ⟨z3, ez3⟩ : ∃ x : World, x = wS.alloc (.cells #[.int .u64 ((limb 0 R : Nat) : Int), .int .u64 ((limb 1 R : Nat) : Int), .int .u64 ((limb 2 R : Nat) : Int), .int .u64 ((limb 3 R : Nat) : Int)] 44) := ⟨_, rfl⟩
        have hA3 : Below wS.heap.size wS z3 := by rw [ez3]; exact bAlloc (Below.refl _ _) _
        have hR3 : Rs z3 (.slice (some ⟨wS.heap.size, 0, none⟩) 1 1) 4 1 (fun _ j => .int .u64 ((limb j R : Nat) : Int)) := by rw [ez3]; exact one_E wS 44 R _ _ _ _ rfl rfl rfl rfl
        have ha3 : wS.alloc (.cells #[.int .u64 ((limb 0 R : Nat) : Int), .int .u64 ((limb 1 R : Nat) : Int), .int .u64 ((limb 2 R : Nat) : Int), .int .u64 ((limb 3 R : Nat) : Int)] 44) = z3 := ez3.symm
        have HT3 : Hid (RS w3 z3 (.slice ol k cl) B k N12 N13 R 3 X Y Z (vls s M T n)) := HSS.out.below hA3
        have HSZ : Hid (B ≤ z3.heap.size) := by have h1 := HT3.out.1.size; have h2 := HBB.out; show B ≤ z3.heap.size; omega
        clear ez3 hA3
        go_wp2_with (first
          | (at_builtin; refine wpList_appR _ rfl _ _ 36 rfl B 44 ie (.agg #[.int .u64 0, .int .u64 0, .int .u64 0, .int .u64 0]) 4 32 Tryd.underlying36 HIE.out HZE.out.1 HZE.out.2.1 HZE.out.2.2 rfl (by decide) _ k _ rfl HT3.out.2.1 1 _ _ rfl hR3 (fun i _ j _ => rfl) ?c1 ?c2 HSZ.out ?_)
          | go_in)
        case c1 => unfold maxLen; omega
        case c2 => omega
        intro vn sN hown hg hsep
        have HON : Hid (sN.ownsRow B 44 4 vn (k + 1) (rwl 4 (fun ia ja => .int .u64 ((limb ja ((vls s M T n) ia) : Nat) : Int)) (k + 1))) := own_same hown rfl (fun t ht q _ => by
          by_cases h1 : t < k
          · rw [if_pos h1]
          · rw [if_neg h1, show t = k by omega]
            exact congrArg (fun v => Value.int .u64 ((limb q v : Nat) : Int)) HVV.out.symm)
        have HBN : Hid (Below w3.heap.size w3 sN) := HT3.out.1.grown hg HT3.out.1.size (fun j hj => by have h1 := own_ge HT3.out.2.1 hj; have h2 := HBB.out; omega)
        clear hown hg hsep hR3 ha3 HSZ HT3 f0 f1 f2 f3
        go_wp2
        go_roundw
        case measure => simp [intOf]; omega
        case rel => exact ⟨k + 1, by go_num, hlt, HBN.out, HON, HNX⟩
      · have HRT : Hid (Calls _ _ _ _ _) := rat_first na cq oq Q (4, X, Y) (by omega) a3 (HQW.out a3 HS.out.1)
        have n0 := cell_of_block HS.out.2.2.1 0; have n1 := cell_of_block HS.out.2.2.1 1; have n2 := cell_of_block HS.out.2.2.1 2
        go_wp2_with fail
        refine Calls.mono HRT.out ?_
        rintro e a4 ⟨hrt, hb4⟩
        have HS4 : Hid (RS w3 a4 (.slice ol k cl) B k N12 N13 Z0 4 X Y Z (vls s M T n)) := HS.out.below hb4
        clear hb4 HRT n0 n1 n2
        rcases hrt with ⟨j, hj, rfl, hqj, hfj⟩ | ⟨hno, rfl⟩
        rotate_left
        · have HNO : Hid (okV n T M = false) := decide_eq_false (fun h => by
            have h1 := h k hlt (by rw [HE.out]; rfl)
            rw [HE.out, HEM.out] at h1
            rw [show qOf (4, X, Y, Z) = (4, X, Y) from rfl, fsM_none na hno] at h1
            cases h1)
          have HBF : Hid (Below w.heap.size w a4) := bStep HB4.out HS4.out.1
          clear hno
          go_wp2
          go_ret2
          exact ⟨Or.inr ⟨by rw [HOR.out, HNO.out]; exact (show ¬ (50 : Int) = 0 by decide), by rw [HOR.out, HNO.out]; rfl⟩, HBF.out⟩
        have hji : (j : Int) < (na : Int) := by omega
        have hj0 : ¬ (j : Int) < 0 := by omega
        have hj1 : (0 : Int) ≤ (j : Int) := by omega
        obtain ⟨U1, eU1⟩ : ∃ x, x = A j := ⟨_, rfl⟩
        have hU1 : U1 < 115792089237316195423570985008687907853269984665640564039457584007913129639936 := by rw [eU1]; exact HAA.out j hj
        have HMK : Hid ((M (4, X, Y)).getD 0 = U1) := by show (M (4, X, Y)).getD 0 = U1; rw [HEM.out, fsM_at hj hqj hfj, eU1]; rfl
        obtain ⟨R, eR⟩ : ∃ R, R = U1 % modN s := ⟨_, rfl⟩
        have HVV : Hid (R = vls s M T n k) := by show R = _; rw [HVK.out, eR]; show U1 % modN s = addP s ((M (4, X, Y)).getD 0) 0; unfold addP; rw [HMK.out, Nat.add_zero]
        have HNX : Hid (∀ i, i < k + 1 → isQ (T i).1 = true → (M (qOf (T i))).isSome = true) := fun i hi hq => by
          rcases Nat.lt_or_ge i k with h1 | h1
          · exact HOV.out i h1 hq
          · rw [show i = k by omega, HE.out, HEM.out, show qOf (4, X, Y, Z) = (4, X, Y) from rfl, fsM_at hj hqj hfj]; rfl
        rcases HAW.out a4 HS4.out.1 with ⟨_, h0⟩ | ⟨eb, eo, c', hv', _, _, _, hcell⟩
        · omega
        cases hv'
        have y0 := hcell j hj 0 (by decide); have y1 := hcell j hj 1 (by decide); have y2 := hcell j hj 2 (by decide); have y3 := hcell j hj 3 (by decide)
        rw [← eU1] at y0 y1 y2 y3
        rw [Nat.add_zero] at y0
        have HOC : Hid (Calls _ _ _ _ _) := ref2Of_any s U1 HSS0.out hU1 a4
        rw [← eR] at HOC
        clear hcell eU1 hU1 eR hqj hfj
        go_wp2_with fail
        refine Calls.mono HOC.out ?_
        rintro e a5 ⟨rfl, hb5⟩
        have HS5 : Hid (RS w3 a5 (.slice ol k cl) B k N12 N13 Z0 4 X Y Z (vls s M T n)) := HS4.out.below hb5
        have f0 := cell_of_block HS5.out.2.2.2.1 0; have f1 := cell_of_block HS5.out.2.2.2.1 1; have f2 := cell_of_block HS5.out.2.2.2.1 2; have f3 := cell_of_block HS5.out.2.2.2.1 3
        have fz : ∀ o, a5.frozen? ⟨N13, o, none⟩ = false := fun o => by simp [World.frozen?, HS5.out.2.2.2.1]
        obtain ⟨wS, ewS⟩ : ∃ x : World, x = (((a5.setCell ⟨N13, 0, none⟩ (.int .u64 ((limb 0 R : Nat) : Int))).setCell ⟨N13, 1, none⟩ (.int .u64 ((limb 1 R : Nat) : Int))).setCell ⟨N13, 2, none⟩ (.int .u64 ((limb 2 R : Nat) : Int))).setCell ⟨N13, 3, none⟩ (.int .u64 ((limb 3 R : Nat) : Int)) := ⟨_, rfl⟩
        have HSS : Hid (RS w3 wS (.slice ol k cl) B k N12 N13 R 4 X Y Z (vls s M T n)) := by rw [ewS]; exact HS5.out.set R
        clear hb5 HOC y0 y1 y2 y3
        go_upto_region 29 with fail
        rw [← ewS]
        clear ewS f0 f1 f2 f3 fz
        have f0 := cell_of_block HSS.out.2.2.2.1 0; have f1 := cell_of_block HSS.out.2.2.2.1 1; have f2 := cell_of_block HSS.out.2.2.2.1 2; have f3 := cell_of_block HSS.out.2.2.2.1 3
        obtain ⟨z3, ez3⟩ : ∃ x : World, x = wS.alloc (.cells #[.int .u64 ((limb 0 R : Nat) : Int), .int .u64 ((limb 1 R : Nat) : Int), .int .u64 ((limb 2 R : Nat) : Int), .int .u64 ((limb 3 R : Nat) : Int)] 44) := ⟨_, rfl⟩
        have hA3 : Below wS.heap.size wS z3 := by rw [ez3]; exact bAlloc (Below.refl _ _) _
        have hR3 : Rs z3 (.slice (some ⟨wS.heap.size, 0, none⟩) 1 1) 4 1 (fun _ j => .int .u64 ((limb j R : Nat) : Int)) := by rw [ez3]; exact one_E wS 44 R _ _ _ _ rfl rfl rfl rfl
        have ha3 : wS.alloc (.cells #[.int .u64 ((limb 0 R : Nat) : Int), .int .u64 ((limb 1 R : Nat) : Int), .int .u64 ((limb 2 R : Nat) : Int), .int .u64 ((limb 3 R : Nat) : Int)] 44) = z3 := ez3.symm
        have HT3 : Hid (RS w3 z3 (.slice ol k cl) B k N12 N13 R 4 X Y Z (vls s M T n)) := HSS.out.below hA3
        have HSZ : Hid (B ≤ z3.heap.size) := by have h1 := HT3.out.1.size; have h2 := HBB.out; show B ≤ z3.heap.size; omega
        clear ez3 hA3
        go_wp2_with (first
          | (at_builtin; refine wpList_appR _ rfl _ _ 36 rfl B 44 ie (.agg #[.int .u64 0, .int .u64 0, .int .u64 0, .int .u64 0]) 4 32 Tryd.underlying36 HIE.out HZE.out.1 HZE.out.2.1 HZE.out.2.2 rfl (by decide) _ k _ rfl HT3.out.2.1 1 _ _ rfl hR3 (fun i _ j _ => rfl) ?c1 ?c2 HSZ.out ?_)
          | go_in)
        case c1 => unfold maxLen; omega
        case c2 => omega
        intro vn sN hown hg hsep
        have HON : Hid (sN.ownsRow B 44 4 vn (k + 1) (rwl 4 (fun ia ja => .int .u64 ((limb ja ((vls s M T n) ia) : Nat) : Int)) (k + 1))) := own_same hown rfl (fun t ht q _ => by
          by_cases h1 : t < k
          · rw [if_pos h1]
          · rw [if_neg h1, show t = k by omega]
            exact congrArg (fun v => Value.int .u64 ((limb q v : Nat) : Int)) HVV.out.symm)
        have HBN : Hid (Below w3.heap.size w3 sN) := HT3.out.1.grown hg HT3.out.1.size (fun j hj => by have h1 := own_ge HT3.out.2.1 hj; have h2 := HBB.out; omega)
        clear hown hg hsep hR3 ha3 HSZ HT3 f0 f1 f2 f3
        go_wp2
        go_roundw
        case measure => simp [intOf]; omega
        case rel => exact ⟨k + 1, by go_num, hlt, HBN.out, HON, HNX⟩
      · have HNX : Hid (∀ i, i < k + 1 → isQ (T i).1 = true → (M (qOf (T i))).isSome = true) := fun i hi hq => by
          rcases Nat.lt_or_ge i k with h1 | h1
          · exact HOV.out i h1 hq
          · rw [show i = k by omega, HE.out] at hq; exact absurd hq (by show ¬ isQ 5 = true; decide)
        have hUS := HUS.out
        have hA : 0 ≤ X ∧ X < (k : Int) := hUS 0 (by decide)
        obtain ⟨p, rfl⟩ : ∃ p : Nat, X = p := ⟨X.toNat, by omega⟩
        obtain ⟨lb, cl', elv, hlc, _, _, hLB⟩ := own_BlkG HS.out.2.1 (by omega)
        cases elv
        have hpi : (p : Int) < (k : Int) := by omega
        have hp0 : (0 : Int) ≤ (p : Int) := by omega
        obtain ⟨U1, eU1⟩ : ∃ x, x = vls s M T n p := ⟨_, rfl⟩
        have hU1 : U1 < 115792089237316195423570985008687907853269984665640564039457584007913129639936 := by rw [eU1]; exact vls_lt s M T n p
        have HEU1 : Hid (∀ w', Below a3.heap.size a3 w' → w'.cell? ⟨lb, p * 4, none⟩ = some (.int .u64 ((limb 0 U1 : Nat) : Int)) ∧ w'.cell? ⟨lb, p * 4 + 1, none⟩ = some (.int .u64 ((limb 1 U1 : Nat) : Int)) ∧ w'.cell? ⟨lb, p * 4 + 2, none⟩ = some (.int .u64 ((limb 2 U1 : Nat) : Int)) ∧ w'.cell? ⟨lb, p * 4 + 3, none⟩ = some (.int .u64 ((limb 3 U1 : Nat) : Int))) := fun w' h => by
          have hB := hLB.belowAll h
          have q0 := hB.cell p (by omega) 0 (by decide); have q1 := hB.cell p (by omega) 1 (by decide); have q2 := hB.cell p (by omega) 2 (by decide); have q3 := hB.cell p (by omega) 3 (by decide)
          rw [← eU1] at q0 q1 q2 q3
          rw [Nat.add_zero] at q0
          exact ⟨q0, q1, q2, q3⟩
        obtain ⟨R, eR⟩ : ∃ R, R = subP s 0 U1 := ⟨_, rfl⟩
        have HVV : Hid (R = vls s M T n k) := by show R = _; rw [HVK.out, eR, eU1, HPV.out p (by omega)]; rfl
        have HOC : Hid (Calls _ _ _ _ _) := ref2Neg_any s U1 HSS0.out hU1 a3
        rw [← eR] at HOC
        obtain ⟨y0, y1, y2, y3⟩ := HEU1.out a3 (Below.refl _ _)
        have n1 := cell_of_block HS.out.2.2.1 1
        clear eR eU1 hU1
        go_wp2_with fail
        refine Calls.mono HOC.out ?_
        rintro e a5 ⟨rfl, hb5⟩
        have HS5 : Hid (RS w3 a5 (.slice (some ⟨lb, 0, none⟩) k cl) B k N12 N13 Z0 5 (p : Int) Y Z (vls s M T n)) := HS.out.below hb5
        have f0 := cell_of_block HS5.out.2.2.2.1 0; have f1 := cell_of_block HS5.out.2.2.2.1 1; have f2 := cell_of_block HS5.out.2.2.2.1 2; have f3 := cell_of_block HS5.out.2.2.2.1 3
        have fz : ∀ o, a5.frozen? ⟨N13, o, none⟩ = false := fun o => by simp [World.frozen?, HS5.out.2.2.2.1]
        obtain ⟨wS, ewS⟩ : ∃ x : World, x = (((a5.setCell ⟨N13, 0, none⟩ (.int .u64 ((limb 0 R : Nat) : Int))).setCell ⟨N13, 1, none⟩ (.int .u64 ((limb 1 R : Nat) : Int))).setCell ⟨N13, 2, none⟩ (.int .u64 ((limb 2 R : Nat) : Int))).setCell ⟨N13, 3, none⟩ (.int .u64 ((limb 3 R : Nat) : Int)) := ⟨_, rfl⟩
        have HSS : Hid (RS w3 wS (.slice (some ⟨lb, 0, none⟩) k cl) B k N12 N13 R 5 (p : Int) Y Z (vls s M T n)) := by rw [ewS]; exact HS5.out.set R
        clear hb5 HOC y0 y1 y2 y3 n1
        go_upto_region 29 with fail
        rw [← ewS]
        clear ewS f0 f1 f2 f3 fz
        have f0 := cell_of_block HSS.out.2.2.2.1 0; have f1 := cell_of_block HSS.out.2.2.2.1 1; have f2 := cell_of_block HSS.out.2.2.2.1 2; have f3 := cell_of_block HSS.out.2.2.2.1 3
        obtain ⟨z3, ez3⟩ : ∃ x : World, x = wS.alloc (.cells #[.int .u64 ((limb 0 R : Nat) : Int), .int .u64 ((limb 1 R : Nat) : Int), .int .u64 ((limb 2 R : Nat) : Int), .int .u64 ((limb 3 R : Nat) : Int)] 44) := ⟨_, rfl⟩
        have hA3 : Below wS.heap.size wS z3 := by rw [ez3]; exact bAlloc (Below.refl _ _) _
        have hR3 : Rs z3 (.slice (some ⟨wS.heap.size, 0, none⟩) 1 1) 4 1 (fun _ j => .int .u64 ((limb j R : Nat) : Int)) := by rw [ez3]; exact one_E wS 44 R _ _ _ _ rfl rfl rfl rfl
        have ha3 : wS.alloc (.cells #[.int .u64 ((limb 0 R : Nat) : Int), .int .u64 ((limb 1 R : Nat) : Int), .int .u64 ((limb 2 R : Nat) : Int), .int .u64 ((limb 3 R : Nat) : Int)] 44) = z3 := ez3.symm
        have HT3 : Hid (RS w3 z3 (.slice (some ⟨lb, 0, none⟩) k cl) B k N12 N13 R 5 (p : Int) Y Z (vls s M T n)) := HSS.out.below hA3
        have HSZ : Hid (B ≤ z3.heap.size) := by have h1 := HT3.out.1.size; have h2 := HBB.out; show B ≤ z3.heap.size; omega
        clear ez3 hA3
        go_wp2_with (first
          | (at_builtin; refine wpList_appR _ rfl _ _ 36 rfl B 44 ie (.agg #[.int .u64 0, .int .u64 0, .int .u64 0, .int .u64 0]) 4 32 Tryd.underlying36 HIE.out HZE.out.1 HZE.out.2.1 HZE.out.2.2 rfl (by decide) _ k _ rfl HT3.out.2.1 1 _ _ rfl hR3 (fun i _ j _ => rfl) ?c1 ?c2 HSZ.out ?_)
          | go_in)
        case c1 => unfold maxLen; omega
        case c2 => omega
        intro vn sN hown hg hsep
        have HON : Hid (sN.ownsRow B 44 4 vn (k + 1) (rwl 4 (fun ia ja => .int .u64 ((limb ja ((vls s M T n) ia) : Nat) : Int)) (k + 1))) := own_same hown rfl (fun t ht q _ => by
          by_cases h1 : t < k
          · rw [if_pos h1]
          · rw [if_neg h1, show t = k by omega]
            exact congrArg (fun v => Value.int .u64 ((limb q v : Nat) : Int)) HVV.out.symm)
        have HBN : Hid (Below w3.heap.size w3 sN) := HT3.out.1.grown hg HT3.out.1.size (fun j hj => by have h1 := own_ge HT3.out.2.1 hj; have h2 := HBB.out; omega)
        clear hown hg hsep hR3 ha3 HSZ HT3 f0 f1 f2 f3
        go_wp2
        go_roundw
        case measure => simp [intOf]; omega
        case rel => exact ⟨k + 1, by go_num, hlt, HBN.out, HON, HNX⟩
      · have HNX : Hid (∀ i, i < k + 1 → isQ (T i).1 = true → (M (qOf (T i))).isSome = true) := fun i hi hq => by
          rcases Nat.lt_or_ge i k with h1 | h1
          · exact HOV.out i h1 hq
          · rw [show i = k by omega, HE.out] at hq; exact absurd hq (by show ¬ isQ 6 = true; decide)
        have hUS := HUS.out
        have hA : 0 ≤ X ∧ X < (k : Int) := hUS 0 (by decide)
        obtain ⟨p, rfl⟩ : ∃ p : Nat, X = p := ⟨X.toNat, by omega⟩
        have hBq : 0 ≤ Y ∧ Y < (k : Int) := hUS 1 (by decide)
        obtain ⟨q, rfl⟩ : ∃ q : Nat, Y = q := ⟨Y.toNat, by omega⟩
        obtain ⟨lb, cl', elv, hlc, _, _, hLB⟩ := own_BlkG HS.out.2.1 (by omega)
        cases elv
        have hpi : (p : Int) < (k : Int) := by omega
        have hp0 : (0 : Int) ≤ (p : Int) := by omega
        have hqi : (q : Int) < (k : Int) := by omega
        have hq0 : (0 : Int) ≤ (q : Int) := by omega
        obtain ⟨U1, eU1⟩ : ∃ x, x = vls s M T n p := ⟨_, rfl⟩
        have hU1 : U1 < 115792089237316195423570985008687907853269984665640564039457584007913129639936 := by rw [eU1]; exact vls_lt s M T n p
        have HEU1 : Hid (∀ w', Below a3.heap.size a3 w' → w'.cell? ⟨lb, p * 4, none⟩ = some (.int .u64 ((limb 0 U1 : Nat) : Int)) ∧ w'.cell? ⟨lb, p * 4 + 1, none⟩ = some (.int .u64 ((limb 1 U1 : Nat) : Int)) ∧ w'.cell? ⟨lb, p * 4 + 2, none⟩ = some (.int .u64 ((limb 2 U1 : Nat) : Int)) ∧ w'.cell? ⟨lb, p * 4 + 3, none⟩ = some (.int .u64 ((limb 3 U1 : Nat) : Int))) := fun w' h => by
          have hB := hLB.belowAll h
          have q0 := hB.cell p (by omega) 0 (by decide); have q1 := hB.cell p (by omega) 1 (by decide); have q2 := hB.cell p (by omega) 2 (by decide); have q3 := hB.cell p (by omega) 3 (by decide)
          rw [← eU1] at q0 q1 q2 q3
          rw [Nat.add_zero] at q0
          exact ⟨q0, q1, q2, q3⟩
        obtain ⟨U2, eU2⟩ : ∃ x, x = vls s M T n q := ⟨_, rfl⟩
        have hU2 : U2 < 115792089237316195423570985008687907853269984665640564039457584007913129639936 := by rw [eU2]; exact vls_lt s M T n q
        have HEU2 : Hid (∀ w', Below a3.heap.size a3 w' → w'.cell? ⟨lb, q * 4, none⟩ = some (.int .u64 ((limb 0 U2 : Nat) : Int)) ∧ w'.cell? ⟨lb, q * 4 + 1, none⟩ = some (.int .u64 ((limb 1 U2 : Nat) : Int)) ∧ w'.cell? ⟨lb, q * 4 + 2, none⟩ = some (.int .u64 ((limb 2 U2 : Nat) : Int)) ∧ w'.cell? ⟨lb, q * 4 + 3, none⟩ = some (.int .u64 ((limb 3 U2 : Nat) : Int))) := fun w' h => by
          have hB := hLB.belowAll h
          have q0 := hB.cell q (by omega) 0 (by decide); have q1 := hB.cell q (by omega) 1 (by decide); have q2 := hB.cell q (by omega) 2 (by decide); have q3 := hB.cell q (by omega) 3 (by decide)
          rw [← eU2] at q0 q1 q2 q3
          rw [Nat.add_zero] at q0
          exact ⟨q0, q1, q2, q3⟩
        obtain ⟨R, eR⟩ : ∃ R, R = addP s U1 U2 := ⟨_, rfl⟩
        have HVV : Hid (R = vls s M T n k) := by
          show R = _
          rw [HVK.out, eR, eU1, HPV.out p (by omega), eU2, HPV.out q (by omega)]
          rfl
        have HOC : Hid (∀ w', Below a3.heap.size a3 w' → Calls Tryd.prog 41 #[.int .i64 (s : Int), .agg #[.int .u64 ((limb 0 (U1) : Nat) : Int), .int .u64 ((limb 1 (U1) : Nat) : Int), .int .u64 ((limb 2 (U1) : Nat) : Int), .int .u64 ((limb 3 (U1) : Nat) : Int)], .agg #[.int .u64 ((limb 0 (U2) : Nat) : Int), .int .u64 ((limb 1 (U2) : Nat) : Int), .int .u64 ((limb 2 (U2) : Nat) : Int), .int .u64 ((limb 3 (U2) : Nat) : Int)]] w' fun e w'' => e = .returned (.agg #[.int .u64 ((limb 0 (R) : Nat) : Int), .int .u64 ((limb 1 (R) : Nat) : Int), .int .u64 ((limb 2 (R) : Nat) : Int), .int .u64 ((limb 3 (R) : Nat) : Int)]) ∧ Below w'.heap.size w' w'') := fun w' _ => by rw [eR]; exact ref2Add_any s U1 U2 HSS0.out hU1 hU2 w'
        have HFA : Hid (∀ w', Below a3.heap.size a3 w' → w'.heap[N12]? = some (.cells #[.int .i64 6, .int .i64 (p : Int), .int .i64 (q : Int), .int .u64 ((limb 0 Z : Nat) : Int), .int .u64 ((limb 1 Z : Nat) : Int), .int .u64 ((limb 2 Z : Nat) : Int), .int .u64 ((limb 3 Z : Nat) : Int)] 46) ∧ w'.heap[N13]? = some (.cells #[.int .u64 ((limb 0 Z0 : Nat) : Int), .int .u64 ((limb 1 Z0 : Nat) : Int), .int .u64 ((limb 2 Z0 : Nat) : Int), .int .u64 ((limb 3 Z0 : Nat) : Int)] 44)) := fun w' h => ⟨(HS.out.below h).2.2.1, (HS.out.below h).2.2.2.1⟩
        clear eR eU1 hU1 eU2 hU2
        go_upto_region 24 with fail
        refine wp_region_Z (fun w' => Below a3.heap.size a3 w') 12 (by kernel_rfl) ?_
        obtain ⟨wD, hD⟩ : ∃ z : World, z = a3.drew := ⟨_, rfl⟩
        rw [← hD]
        have hpZ : Below a3.heap.size a3 wD := by rw [hD]; exact (Below.refl _ _).drew
        clear hD
        refine zt 0 78 (.int .i64 (s : Int)) rfl rfl (fun w hSw => by go_simp) hpZ ?_
        simp only [Act.put, List.setIfInBounds_toArray]
        dsimp only [List.set_cons_zero, List.set_cons_succ]
        refine zt 1 79 (.slice (some ⟨lb, 0, none⟩) k cl) rfl rfl (fun w hSw => by go_simp) hpZ ?_
        simp only [Act.put, List.setIfInBounds_toArray]
        dsimp only [List.set_cons_zero, List.set_cons_succ]
        refine zt 2 80 (.pointer (some ⟨N12, 1, none⟩)) rfl rfl (fun w hSw => by go_simp) hpZ ?_
        simp only [Act.put, List.setIfInBounds_toArray]
        dsimp only [List.set_cons_zero, List.set_cons_succ]
        refine zt 3 81 (.int .i64 (p : Int)) rfl rfl (fun w hSw => by obtain ⟨g12, g13⟩ := HFA.out w hSw; have n0 := cell_of_block g12 0; have n1 := cell_of_block g12 1; have n2 := cell_of_block g12 2; have v0 := cell_of_block g13 0; have v1 := cell_of_block g13 1; have v2 := cell_of_block g13 2; have v3 := cell_of_block g13 3; clear g12 g13; clear hSw; go_simp) hpZ ?_
        simp only [Act.put, List.setIfInBounds_toArray]
        dsimp only [List.set_cons_zero, List.set_cons_succ]
        refine zt 4 82 (.pointer (some ⟨lb, p * 4, none⟩)) rfl rfl (fun w hSw => by go_simp) hpZ ?_
        simp only [Act.put, List.setIfInBounds_toArray]
        dsimp only [List.set_cons_zero, List.set_cons_succ]
        refine zt 5 83 (.agg #[.int .u64 ((limb 0 (U1) : Nat) : Int), .int .u64 ((limb 1 (U1) : Nat) : Int), .int .u64 ((limb 2 (U1) : Nat) : Int), .int .u64 ((limb 3 (U1) : Nat) : Int)]) rfl rfl (fun w hSw => by obtain ⟨y0, y1, y2, y3⟩ := HEU1.out w hSw; clear hSw; go_simp) hpZ ?_
        simp only [Act.put, List.setIfInBounds_toArray]
        dsimp only [List.set_cons_zero, List.set_cons_succ]
        refine zt 6 84 (.slice (some ⟨lb, 0, none⟩) k cl) rfl rfl (fun w hSw => by go_simp) hpZ ?_
        simp only [Act.put, List.setIfInBounds_toArray]
        dsimp only [List.set_cons_zero, List.set_cons_succ]
        refine zt 7 85 (.pointer (some ⟨N12, 2, none⟩)) rfl rfl (fun w hSw => by go_simp) hpZ ?_
        simp only [Act.put, List.setIfInBounds_toArray]
        dsimp only [List.set_cons_zero, List.set_cons_succ]
        refine zt 8 86 (.int .i64 (q : Int)) rfl rfl (fun w hSw => by obtain ⟨g12, g13⟩ := HFA.out w hSw; have n0 := cell_of_block g12 0; have n1 := cell_of_block g12 1; have n2 := cell_of_block g12 2; have v0 := cell_of_block g13 0; have v1 := cell_of_block g13 1; have v2 := cell_of_block g13 2; have v3 := cell_of_block g13 3; clear g12 g13; clear hSw; go_simp) hpZ ?_
        simp only [Act.put, List.setIfInBounds_toArray]
        dsimp only [List.set_cons_zero, List.set_cons_succ]
        refine zt 9 87 (.pointer (some ⟨lb, q * 4, none⟩)) rfl rfl (fun w hSw => by go_simp) hpZ ?_
        simp only [Act.put, List.setIfInBounds_toArray]
        dsimp only [List.set_cons_zero, List.set_cons_succ]
        refine zt 10 88 (.agg #[.int .u64 ((limb 0 (U2) : Nat) : Int), .int .u64 ((limb 1 (U2) : Nat) : Int), .int .u64 ((limb 2 (U2) : Nat) : Int), .int .u64 ((limb 3 (U2) : Nat) : Int)]) rfl rfl (fun w hSw => by obtain ⟨y0, y1, y2, y3⟩ := HEU2.out w hSw; clear hSw; go_simp) hpZ ?_
        simp only [Act.put, List.setIfInBounds_toArray]
        dsimp only [List.set_cons_zero, List.set_cons_succ]
        refine wpZ_one (i := 11) (by kernel_rfl) rfl (fun K hK => ?_)
        go_simp
        refine Calls.mono (HOC.out wD hpZ) ?_
        rintro e wK1 ⟨rfl, hbK1⟩
        have hpK1 : Below a3.heap.size a3 wK1 := bStep hpZ hbK1
        clear hbK1
        go_wp2_with fail
        refine hK.out _ _ (fun _ => hpK1) ?_
        clear hK K
        have HSK : Hid (RS w3 wK1 (.slice (some ⟨lb, 0, none⟩) k cl) B k N12 N13 Z0 6 (p : Int) (q : Int) Z (vls s M T n)) := HS.out.below hpK1
        have f0 := cell_of_block HSK.out.2.2.2.1 0; have f1 := cell_of_block HSK.out.2.2.2.1 1; have f2 := cell_of_block HSK.out.2.2.2.1 2; have f3 := cell_of_block HSK.out.2.2.2.1 3
        have fz : ∀ o, wK1.frozen? ⟨N13, o, none⟩ = false := fun o => by simp [World.frozen?, HSK.out.2.2.2.1]
        obtain ⟨wS, ewS⟩ : ∃ x : World, x = (((wK1.setCell ⟨N13, 0, none⟩ (.int .u64 ((limb 0 R : Nat) : Int))).setCell ⟨N13, 1, none⟩ (.int .u64 ((limb 1 R : Nat) : Int))).setCell ⟨N13, 2, none⟩ (.int .u64 ((limb 2 R : Nat) : Int))).setCell ⟨N13, 3, none⟩ (.int .u64 ((limb 3 R : Nat) : Int)) := ⟨_, rfl⟩
        have HSS : Hid (RS w3 wS (.slice (some ⟨lb, 0, none⟩) k cl) B k N12 N13 R 6 (p : Int) (q : Int) Z (vls s M T n)) := by rw [ewS]; exact HSK.out.set R
        clear HSK
        refine wpZ_one (i := 12) (by kernel_rfl) rfl (fun K hK => ?_)
        go_simp
        rw [← ewS]
        refine hK.out _ _ (fun h => absurd rfl h) ?_
        clear hK K f0 f1 f2 f3 fz ewS hpK1
        refine wpZ_done (by kernel_rfl) ?_ _
        go_upto_region 29 with fail
        have f0 := cell_of_block HSS.out.2.2.2.1 0; have f1 := cell_of_block HSS.out.2.2.2.1 1; have f2 := cell_of_block HSS.out.2.2.2.1 2; have f3 := cell_of_block HSS.out.2.2.2.1 3
        obtain ⟨z3, ez3⟩ : ∃ x : World, x = wS.alloc (.cells #[.int .u64 ((limb 0 R : Nat) : Int), .int .u64 ((limb 1 R : Nat) : Int), .int .u64 ((limb 2 R : Nat) : Int), .int .u64 ((limb 3 R : Nat) : Int)] 44) := ⟨_, rfl⟩
        have hA3 : Below wS.heap.size wS z3 := by rw [ez3]; exact bAlloc (Below.refl _ _) _
        have hR3 : Rs z3 (.slice (some ⟨wS.heap.size, 0, none⟩) 1 1) 4 1 (fun _ j => .int .u64 ((limb j R : Nat) : Int)) := by rw [ez3]; exact one_E wS 44 R _ _ _ _ rfl rfl rfl rfl
        have ha3 : wS.alloc (.cells #[.int .u64 ((limb 0 R : Nat) : Int), .int .u64 ((limb 1 R : Nat) : Int), .int .u64 ((limb 2 R : Nat) : Int), .int .u64 ((limb 3 R : Nat) : Int)] 44) = z3 := ez3.symm
        have HT3 : Hid (RS w3 z3 (.slice (some ⟨lb, 0, none⟩) k cl) B k N12 N13 R 6 (p : Int) (q : Int) Z (vls s M T n)) := HSS.out.below hA3
        have HSZ : Hid (B ≤ z3.heap.size) := by have h1 := HT3.out.1.size; have h2 := HBB.out; show B ≤ z3.heap.size; omega
        clear ez3 hA3
        go_wp2_with (first
          | (at_builtin; refine wpList_appR _ rfl _ _ 36 rfl B 44 ie (.agg #[.int .u64 0, .int .u64 0, .int .u64 0, .int .u64 0]) 4 32 Tryd.underlying36 HIE.out HZE.out.1 HZE.out.2.1 HZE.out.2.2 rfl (by decide) _ k _ rfl HT3.out.2.1 1 _ _ rfl hR3 (fun i _ j _ => rfl) ?c1 ?c2 HSZ.out ?_)
          | go_in)
        case c1 => unfold maxLen; omega
        case c2 => omega
        intro vn sN hown hg hsep
        have HON : Hid (sN.ownsRow B 44 4 vn (k + 1) (rwl 4 (fun ia ja => .int .u64 ((limb ja ((vls s M T n) ia) : Nat) : Int)) (k + 1))) := own_same hown rfl (fun t ht q _ => by
          by_cases h1 : t < k
          · rw [if_pos h1]
          · rw [if_neg h1, show t = k by omega]
            exact congrArg (fun v => Value.int .u64 ((limb q v : Nat) : Int)) HVV.out.symm)
        have HBN : Hid (Below w3.heap.size w3 sN) := HT3.out.1.grown hg HT3.out.1.size (fun j hj => by have h1 := own_ge HT3.out.2.1 hj; have h2 := HBB.out; omega)
        clear hown hg hsep hR3 ha3 HSZ HT3 f0 f1 f2 f3
        go_wp2
        go_roundw
        case measure => simp [intOf]; omega
        case rel => exact ⟨k + 1, by go_num, hlt, HBN.out, HON, HNX⟩
      · have HNX : Hid (∀ i, i < k + 1 → isQ (T i).1 = true → (M (qOf (T i))).isSome = true) := fun i hi hq => by
          rcases Nat.lt_or_ge i k with h1 | h1
          · exact HOV.out i h1 hq
          · rw [show i = k by omega, HE.out] at hq; exact absurd hq (by show ¬ isQ 7 = true; decide)
        have hUS := HUS.out
        have hA : 0 ≤ X ∧ X < (k : Int) := hUS 0 (by decide)
        obtain ⟨p, rfl⟩ : ∃ p : Nat, X = p := ⟨X.toNat, by omega⟩
        have hBq : 0 ≤ Y ∧ Y < (k : Int) := hUS 1 (by decide)
        obtain ⟨q, rfl⟩ : ∃ q : Nat, Y = q := ⟨Y.toNat, by omega⟩
        obtain ⟨lb, cl', elv, hlc, _, _, hLB⟩ := own_BlkG HS.out.2.1 (by omega)
        cases elv
        have hpi : (p : Int) < (k : Int) := by omega
        have hp0 : (0 : Int) ≤ (p : Int) := by omega
        have hqi : (q : Int) < (k : Int) := by omega
        have hq0 : (0 : Int) ≤ (q : Int) := by omega
        obtain ⟨U1, eU1⟩ : ∃ x, x = vls s M T n p := ⟨_, rfl⟩
        have hU1 : U1 < 115792089237316195423570985008687907853269984665640564039457584007913129639936 := by rw [eU1]; exact vls_lt s M T n p
        have HEU1 : Hid (∀ w', Below a3.heap.size a3 w' → w'.cell? ⟨lb, p * 4, none⟩ = some (.int .u64 ((limb 0 U1 : Nat) : Int)) ∧ w'.cell? ⟨lb, p * 4 + 1, none⟩ = some (.int .u64 ((limb 1 U1 : Nat) : Int)) ∧ w'.cell? ⟨lb, p * 4 + 2, none⟩ = some (.int .u64 ((limb 2 U1 : Nat) : Int)) ∧ w'.cell? ⟨lb, p * 4 + 3, none⟩ = some (.int .u64 ((limb 3 U1 : Nat) : Int))) := fun w' h => by
          have hB := hLB.belowAll h
          have q0 := hB.cell p (by omega) 0 (by decide); have q1 := hB.cell p (by omega) 1 (by decide); have q2 := hB.cell p (by omega) 2 (by decide); have q3 := hB.cell p (by omega) 3 (by decide)
          rw [← eU1] at q0 q1 q2 q3
          rw [Nat.add_zero] at q0
          exact ⟨q0, q1, q2, q3⟩
        obtain ⟨U2, eU2⟩ : ∃ x, x = vls s M T n q := ⟨_, rfl⟩
        have hU2 : U2 < 115792089237316195423570985008687907853269984665640564039457584007913129639936 := by rw [eU2]; exact vls_lt s M T n q
        have HEU2 : Hid (∀ w', Below a3.heap.size a3 w' → w'.cell? ⟨lb, q * 4, none⟩ = some (.int .u64 ((limb 0 U2 : Nat) : Int)) ∧ w'.cell? ⟨lb, q * 4 + 1, none⟩ = some (.int .u64 ((limb 1 U2 : Nat) : Int)) ∧ w'.cell? ⟨lb, q * 4 + 2, none⟩ = some (.int .u64 ((limb 2 U2 : Nat) : Int)) ∧ w'.cell? ⟨lb, q * 4 + 3, none⟩ = some (.int .u64 ((limb 3 U2 : Nat) : Int))) := fun w' h => by
          have hB := hLB.belowAll h
          have q0 := hB.cell q (by omega) 0 (by decide); have q1 := hB.cell q (by omega) 1 (by decide); have q2 := hB.cell q (by omega) 2 (by decide); have q3 := hB.cell q (by omega) 3 (by decide)
          rw [← eU2] at q0 q1 q2 q3
          rw [Nat.add_zero] at q0
          exact ⟨q0, q1, q2, q3⟩
        obtain ⟨R, eR⟩ : ∃ R, R = mulP s U1 U2 := ⟨_, rfl⟩
        have HVV : Hid (R = vls s M T n k) := by
          show R = _
          rw [HVK.out, eR, eU1, HPV.out p (by omega), eU2, HPV.out q (by omega)]
          rfl
        have HOC : Hid (∀ w', Below a3.heap.size a3 w' → Calls Tryd.prog 42 #[.int .i64 (s : Int), .agg #[.int .u64 ((limb 0 (U1) : Nat) : Int), .int .u64 ((limb 1 (U1) : Nat) : Int), .int .u64 ((limb 2 (U1) : Nat) : Int), .int .u64 ((limb 3 (U1) : Nat) : Int)], .agg #[.int .u64 ((limb 0 (U2) : Nat) : Int), .int .u64 ((limb 1 (U2) : Nat) : Int), .int .u64 ((limb 2 (U2) : Nat) : Int), .int .u64 ((limb 3 (U2) : Nat) : Int)]] w' fun e w'' => e = .returned (.agg #[.int .u64 ((limb 0 (R) : Nat) : Int), .int .u64 ((limb 1 (R) : Nat) : Int), .int .u64 ((limb 2 (R) : Nat) : Int), .int .u64 ((limb 3 (R) : Nat) : Int)]) ∧ Below w'.heap.size w' w'') := fun w' _ => by rw [eR]; exact ref2Mul_any s U1 U2 HSS0.out hU1 hU2 w'
        have HFA : Hid (∀ w', Below a3.heap.size a3 w' → w'.heap[N12]? = some (.cells #[.int .i64 7, .int .i64 (p : Int), .int .i64 (q : Int), .int .u64 ((limb 0 Z : Nat) : Int), .int .u64 ((limb 1 Z : Nat) : Int), .int .u64 ((limb 2 Z : Nat) : Int), .int .u64 ((limb 3 Z : Nat) : Int)] 46) ∧ w'.heap[N13]? = some (.cells #[.int .u64 ((limb 0 Z0 : Nat) : Int), .int .u64 ((limb 1 Z0 : Nat) : Int), .int .u64 ((limb 2 Z0 : Nat) : Int), .int .u64 ((limb 3 Z0 : Nat) : Int)] 44)) := fun w' h => ⟨(HS.out.below h).2.2.1, (HS.out.below h).2.2.2.1⟩
        clear eR eU1 hU1 eU2 hU2
        go_upto_region 26 with fail
        refine wp_region_Z (fun w' => Below a3.heap.size a3 w') 12 (by kernel_rfl) ?_
        obtain ⟨wD, hD⟩ : ∃ z : World, z = a3.drew := ⟨_, rfl⟩
        rw [← hD]
        have hpZ : Below a3.heap.size a3 wD := by rw [hD]; exact (Below.refl _ _).drew
        clear hD
        refine zt 0 92 (.int .i64 (s : Int)) rfl rfl (fun w hSw => by go_simp) hpZ ?_
        simp only [Act.put, List.setIfInBounds_toArray]
        dsimp only [List.set_cons_zero, List.set_cons_succ]
        refine zt 1 93 (.slice (some ⟨lb, 0, none⟩) k cl) rfl rfl (fun w hSw => by go_simp) hpZ ?_
        simp only [Act.put, List.setIfInBounds_toArray]
        dsimp only [List.set_cons_zero, List.set_cons_succ]
        refine zt 2 94 (.pointer (some ⟨N12, 1, none⟩)) rfl rfl (fun w hSw => by go_simp) hpZ ?_
        simp only [Act.put, List.setIfInBounds_toArray]
        dsimp only [List.set_cons_zero, List.set_cons_succ]
        refine zt 3 95 (.int .i64 (p : Int)) rfl rfl (fun w hSw => by obtain ⟨g12, g13⟩ := HFA.out w hSw; have n0 := cell_of_block g12 0; have n1 := cell_of_block g12 1; have n2 := cell_of_block g12 2; have v0 := cell_of_block g13 0; have v1 := cell_of_block g13 1; have v2 := cell_of_block g13 2; have v3 := cell_of_block g13 3; clear g12 g13; clear hSw; go_simp) hpZ ?_
        simp only [Act.put, List.setIfInBounds_toArray]
        dsimp only [List.set_cons_zero, List.set_cons_succ]
        refine zt 4 96 (.pointer (some ⟨lb, p * 4, none⟩)) rfl rfl (fun w hSw => by go_simp) hpZ ?_
        simp only [Act.put, List.setIfInBounds_toArray]
        dsimp only [List.set_cons_zero, List.set_cons_succ]
        refine zt 5 97 (.agg #[.int .u64 ((limb 0 (U1) : Nat) : Int), .int .u64 ((limb 1 (U1) : Nat) : Int), .int .u64 ((limb 2 (U1) : Nat) : Int), .int .u64 ((limb 3 (U1) : Nat) : Int)]) rfl rfl (fun w hSw => by obtain ⟨y0, y1, y2, y3⟩ := HEU1.out w hSw; clear hSw; go_simp) hpZ ?_
        simp only [Act.put, List.setIfInBounds_toArray]
        dsimp only [List.set_cons_zero, List.set_cons_succ]
        refine zt 6 98 (.slice (some ⟨lb, 0, none⟩) k cl) rfl rfl (fun w hSw => by go_simp) hpZ ?_
        simp only [Act.put, List.setIfInBounds_toArray]
        dsimp only [List.set_cons_zero, List.set_cons_succ]
        refine zt 7 99 (.pointer (some ⟨N12, 2, none⟩)) rfl rfl (fun w hSw => by go_simp) hpZ ?_
        simp only [Act.put, List.setIfInBounds_toArray]
        dsimp only [List.set_cons_zero, List.set_cons_succ]
        refine zt 8 100 (.int .i64 (q : Int)) rfl rfl (fun w hSw => by obtain ⟨g12, g13⟩ := HFA.out w hSw; have n0 := cell_of_block g12 0; have n1 := cell_of_block g12 1; have n2 := cell_of_block g12 2; have v0 := cell_of_block g13 0; have v1 := cell_of_block g13 1; have v2 := cell_of_block g13 2; have v3 := cell_of_block g13 3; clear g12 g13; clear hSw; go_simp) hpZ ?_
        simp only [Act.put, List.setIfInBounds_toArray]
        dsimp only [List.set_cons_zero, List.set_cons_succ]
        refine zt 9 101 (.pointer (some ⟨lb, q * 4, none⟩)) rfl rfl (fun w hSw => by go_simp) hpZ ?_
        simp only [Act.put, List.setIfInBounds_toArray]
        dsimp only [List.set_cons_zero, List.set_cons_succ]
        refine zt 10 102 (.agg #[.int .u64 ((limb 0 (U2) : Nat) : Int), .int .u64 ((limb 1 (U2) : Nat) : Int), .int .u64 ((limb 2 (U2) : Nat) : Int), .int .u64 ((limb 3 (U2) : Nat) : Int)]) rfl rfl (fun w hSw => by obtain ⟨y0, y1, y2, y3⟩ := HEU2.out w hSw; clear hSw; go_simp) hpZ ?_
        simp only [Act.put, List.setIfInBounds_toArray]
        dsimp only [List.set_cons_zero, List.set_cons_succ]
        refine wpZ_one (i := 11) (by kernel_rfl) rfl (fun K hK => ?_)
        go_simp
        refine Calls.mono (HOC.out wD hpZ) ?_
        rintro e wK1 ⟨rfl, hbK1⟩
        have hpK1 : Below a3.heap.size a3 wK1 := bStep hpZ hbK1
        clear hbK1
        go_wp2_with fail
        refine hK.out _ _ (fun _ => hpK1) ?_
        clear hK K
        have HSK : Hid (RS w3 wK1 (.slice (some ⟨lb, 0, none⟩) k cl) B k N12 N13 Z0 7 (p : Int) (q : Int) Z (vls s M T n)) := HS.out.below hpK1
        have f0 := cell_of_block HSK.out.2.2.2.1 0; have f1 := cell_of_block HSK.out.2.2.2.1 1; have f2 := cell_of_block HSK.out.2.2.2.1 2; have f3 := cell_of_block HSK.out.2.2.2.1 3
        have fz : ∀ o, wK1.frozen? ⟨N13, o, none⟩ = false := fun o => by simp [World.frozen?, HSK.out.2.2.2.1]
        obtain ⟨wS, ewS⟩ : ∃ x : World, x = (((wK1.setCell ⟨N13, 0, none⟩ (.int .u64 ((limb 0 R : Nat) : Int))).setCell ⟨N13, 1, none⟩ (.int .u64 ((limb 1 R : Nat) : Int))).setCell ⟨N13, 2, none⟩ (.int .u64 ((limb 2 R : Nat) : Int))).setCell ⟨N13, 3, none⟩ (.int .u64 ((limb 3 R : Nat) : Int)) := ⟨_, rfl⟩
        have HSS : Hid (RS w3 wS (.slice (some ⟨lb, 0, none⟩) k cl) B k N12 N13 R 7 (p : Int) (q : Int) Z (vls s M T n)) := by rw [ewS]; exact HSK.out.set R
        clear HSK
        refine wpZ_one (i := 12) (by kernel_rfl) rfl (fun K hK => ?_)
        go_simp
        rw [← ewS]
        refine hK.out _ _ (fun h => absurd rfl h) ?_
        clear hK K f0 f1 f2 f3 fz ewS hpK1
        refine wpZ_done (by kernel_rfl) ?_ _
        go_upto_region 29 with fail
        have f0 := cell_of_block HSS.out.2.2.2.1 0; have f1 := cell_of_block HSS.out.2.2.2.1 1; have f2 := cell_of_block HSS.out.2.2.2.1 2; have f3 := cell_of_block HSS.out.2.2.2.1 3
        obtain ⟨z3, ez3⟩ : ∃ x : World, x = wS.alloc (.cells #[.int .u64 ((limb 0 R : Nat) : Int), .int .u64 ((limb 1 R : Nat) : Int), .int .u64 ((limb 2 R : Nat) : Int), .int .u64 ((limb 3 R : Nat) : Int)] 44) := ⟨_, rfl⟩
        have hA3 : Below wS.heap.size wS z3 := by rw [ez3]; exact bAlloc (Below.refl _ _) _
        have hR3 : Rs z3 (.slice (some ⟨wS.heap.size, 0, none⟩) 1 1) 4 1 (fun _ j => .int .u64 ((limb j R : Nat) : Int)) := by rw [ez3]; exact one_E wS 44 R _ _ _ _ rfl rfl rfl rfl
        have ha3 : wS.alloc (.cells #[.int .u64 ((limb 0 R : Nat) : Int), .int .u64 ((limb 1 R : Nat) : Int), .int .u64 ((limb 2 R : Nat) : Int), .int .u64 ((limb 3 R : Nat) : Int)] 44) = z3 := ez3.symm
        have HT3 : Hid (RS w3 z3 (.slice (some ⟨lb, 0, none⟩) k cl) B k N12 N13 R 7 (p : Int) (q : Int) Z (vls s M T n)) := HSS.out.below hA3
        have HSZ : Hid (B ≤ z3.heap.size) := by have h1 := HT3.out.1.size; have h2 := HBB.out; show B ≤ z3.heap.size; omega
        clear ez3 hA3
        go_wp2_with (first
          | (at_builtin; refine wpList_appR _ rfl _ _ 36 rfl B 44 ie (.agg #[.int .u64 0, .int .u64 0, .int .u64 0, .int .u64 0]) 4 32 Tryd.underlying36 HIE.out HZE.out.1 HZE.out.2.1 HZE.out.2.2 rfl (by decide) _ k _ rfl HT3.out.2.1 1 _ _ rfl hR3 (fun i _ j _ => rfl) ?c1 ?c2 HSZ.out ?_)
          | go_in)
        case c1 => unfold maxLen; omega
        case c2 => omega
        intro vn sN hown hg hsep
        have HON : Hid (sN.ownsRow B 44 4 vn (k + 1) (rwl 4 (fun ia ja => .int .u64 ((limb ja ((vls s M T n) ia) : Nat) : Int)) (k + 1))) := own_same hown rfl (fun t ht q _ => by
          by_cases h1 : t < k
          · rw [if_pos h1]
          · rw [if_neg h1, show t = k by omega]
            exact congrArg (fun v => Value.int .u64 ((limb q v : Nat) : Int)) HVV.out.symm)
        have HBN : Hid (Below w3.heap.size w3 sN) := HT3.out.1.grown hg HT3.out.1.size (fun j hj => by have h1 := own_ge HT3.out.2.1 hj; have h2 := HBB.out; omega)
        clear hown hg hsep hR3 ha3 HSZ HT3 f0 f1 f2 f3
        go_wp2
        go_roundw
        case measure => simp [intOf]; omega
        case rel => exact ⟨k + 1, by go_num, hlt, HBN.out, HON, HNX⟩
      · have HNX : Hid (∀ i, i < k + 1 → isQ (T i).1 = true → (M (qOf (T i))).isSome = true) := fun i hi hq => by
          rcases Nat.lt_or_ge i k with h1 | h1
          · exact HOV.out i h1 hq
          · rw [show i = k by omega, HE.out] at hq; exact absurd hq (by show ¬ isQ 8 = true; decide)
        have hUS := HUS.out
        have hA : 0 ≤ X ∧ X < (k : Int) := hUS 0 (by decide)
        obtain ⟨p, rfl⟩ : ∃ p : Nat, X = p := ⟨X.toNat, by omega⟩
        obtain ⟨lb, cl', elv, hlc, _, _, hLB⟩ := own_BlkG HS.out.2.1 (by omega)
        cases elv
        have hpi : (p : Int) < (k : Int) := by omega
        have hp0 : (0 : Int) ≤ (p : Int) := by omega
        obtain ⟨U1, eU1⟩ : ∃ x, x = vls s M T n p := ⟨_, rfl⟩
        have hU1 : U1 < 115792089237316195423570985008687907853269984665640564039457584007913129639936 := by rw [eU1]; exact vls_lt s M T n p
        have HEU1 : Hid (∀ w', Below a3.heap.size a3 w' → w'.cell? ⟨lb, p * 4, none⟩ = some (.int .u64 ((limb 0 U1 : Nat) : Int)) ∧ w'.cell? ⟨lb, p * 4 + 1, none⟩ = some (.int .u64 ((limb 1 U1 : Nat) : Int)) ∧ w'.cell? ⟨lb, p * 4 + 2, none⟩ = some (.int .u64 ((limb 2 U1 : Nat) : Int)) ∧ w'.cell? ⟨lb, p * 4 + 3, none⟩ = some (.int .u64 ((limb 3 U1 : Nat) : Int))) := fun w' h => by
          have hB := hLB.belowAll h
          have q0 := hB.cell p (by omega) 0 (by decide); have q1 := hB.cell p (by omega) 1 (by decide); have q2 := hB.cell p (by omega) 2 (by decide); have q3 := hB.cell p (by omega) 3 (by decide)
          rw [← eU1] at q0 q1 q2 q3
          rw [Nat.add_zero] at q0
          exact ⟨q0, q1, q2, q3⟩
        have hZ0 : Z0 < 115792089237316195423570985008687907853269984665640564039457584007913129639936 := by rw [HZ0.out]; exact Nat.lt_trans (Nat.mod_lt _ (modN_pos s)) (modN_lt s)
        obtain ⟨R, eR⟩ : ∃ R, R = mulP s Z0 U1 := ⟨_, rfl⟩
        have HVV : Hid (R = vls s M T n k) := by
          show R = _
          rw [HVK.out, eR, eU1, HPV.out p (by omega)]
          show mulP s Z0 _ = mulP s Z _; unfold mulP; rw [HZ0.out, Nat.mod_mul_mod]; rfl
        have HOC : Hid (∀ w', Below a3.heap.size a3 w' → Calls Tryd.prog 42 #[.int .i64 (s : Int), .agg #[.int .u64 ((limb 0 (Z0) : Nat) : Int), .int .u64 ((limb 1 (Z0) : Nat) : Int), .int .u64 ((limb 2 (Z0) : Nat) : Int), .int .u64 ((limb 3 (Z0) : Nat) : Int)], .agg #[.int .u64 ((limb 0 (U1) : Nat) : Int), .int .u64 ((limb 1 (U1) : Nat) : Int), .int .u64 ((limb 2 (U1) : Nat) : Int), .int .u64 ((limb 3 (U1) : Nat) : Int)]] w' fun e w'' => e = .returned (.agg #[.int .u64 ((limb 0 (R) : Nat) : Int), .int .u64 ((limb 1 (R) : Nat) : Int), .int .u64 ((limb 2 (R) : Nat) : Int), .int .u64 ((limb 3 (R) : Nat) : Int)]) ∧ Below w'.heap.size w' w'') := fun w' _ => by rw [eR]; exact ref2Mul_any s Z0 U1 HSS0.out hZ0 hU1 w'
        have HFA : Hid (∀ w', Below a3.heap.size a3 w' → w'.heap[N12]? = some (.cells #[.int .i64 8, .int .i64 (p : Int), .int .i64 Y, .int .u64 ((limb 0 Z : Nat) : Int), .int .u64 ((limb 1 Z : Nat) : Int), .int .u64 ((limb 2 Z : Nat) : Int), .int .u64 ((limb 3 Z : Nat) : Int)] 46) ∧ w'.heap[N13]? = some (.cells #[.int .u64 ((limb 0 Z0 : Nat) : Int), .int .u64 ((limb 1 Z0 : Nat) : Int), .int .u64 ((limb 2 Z0 : Nat) : Int), .int .u64 ((limb 3 Z0 : Nat) : Int)] 44)) := fun w' h => ⟨(HS.out.below h).2.2.1, (HS.out.below h).2.2.2.1⟩
        clear eR eU1 hU1 hZ0
        go_upto_region 28 with fail
        refine wp_region_Z (fun w' => Below a3.heap.size a3 w') 8 (by kernel_rfl) ?_
        obtain ⟨wD, hD⟩ : ∃ z : World, z = a3.drew := ⟨_, rfl⟩
        rw [← hD]
        have hpZ : Below a3.heap.size a3 wD := by rw [hD]; exact (Below.refl _ _).drew
        clear hD
        refine zt 0 106 (.int .i64 (s : Int)) rfl rfl (fun w hSw => by go_simp) hpZ ?_
        simp only [Act.put, List.setIfInBounds_toArray]
        dsimp only [List.set_cons_zero, List.set_cons_succ]
        refine zt 1 107 (.agg #[.int .u64 ((limb 0 (Z0) : Nat) : Int), .int .u64 ((limb 1 (Z0) : Nat) : Int), .int .u64 ((limb 2 (Z0) : Nat) : Int), .int .u64 ((limb 3 (Z0) : Nat) : Int)]) rfl rfl (fun w hSw => by obtain ⟨g12, g13⟩ := HFA.out w hSw; have n0 := cell_of_block g12 0; have n1 := cell_of_block g12 1; have n2 := cell_of_block g12 2; have v0 := cell_of_block g13 0; have v1 := cell_of_block g13 1; have v2 := cell_of_block g13 2; have v3 := cell_of_block g13 3; clear g12 g13; clear hSw; go_simp) hpZ ?_
        simp only [Act.put, List.setIfInBounds_toArray]
        dsimp only [List.set_cons_zero, List.set_cons_succ]
        refine zt 2 108 (.slice (some ⟨lb, 0, none⟩) k cl) rfl rfl (fun w hSw => by go_simp) hpZ ?_
        simp only [Act.put, List.setIfInBounds_toArray]
        dsimp only [List.set_cons_zero, List.set_cons_succ]
        refine zt 3 109 (.pointer (some ⟨N12, 1, none⟩)) rfl rfl (fun w hSw => by go_simp) hpZ ?_
        simp only [Act.put, List.setIfInBounds_toArray]
        dsimp only [List.set_cons_zero, List.set_cons_succ]
        refine zt 4 110 (.int .i64 (p : Int)) rfl rfl (fun w hSw => by obtain ⟨g12, g13⟩ := HFA.out w hSw; have n0 := cell_of_block g12 0; have n1 := cell_of_block g12 1; have n2 := cell_of_block g12 2; have v0 := cell_of_block g13 0; have v1 := cell_of_block g13 1; have v2 := cell_of_block g13 2; have v3 := cell_of_block g13 3; clear g12 g13; clear hSw; go_simp) hpZ ?_
        simp only [Act.put, List.setIfInBounds_toArray]
        dsimp only [List.set_cons_zero, List.set_cons_succ]
        refine zt 5 111 (.pointer (some ⟨lb, p * 4, none⟩)) rfl rfl (fun w hSw => by go_simp) hpZ ?_
        simp only [Act.put, List.setIfInBounds_toArray]
        dsimp only [List.set_cons_zero, List.set_cons_succ]
        refine zt 6 112 (.agg #[.int .u64 ((limb 0 (U1) : Nat) : Int), .int .u64 ((limb 1 (U1) : Nat) : Int), .int .u64 ((limb 2 (U1) : Nat) : Int), .int .u64 ((limb 3 (U1) : Nat) : Int)]) rfl rfl (fun w hSw => by obtain ⟨y0, y1, y2, y3⟩ := HEU1.out w hSw; clear hSw; go_simp) hpZ ?_
        simp only [Act.put, List.setIfInBounds_toArray]
        dsimp only [List.set_cons_zero, List.set_cons_succ]
        refine wpZ_one (i := 7) (by kernel_rfl) rfl (fun K hK => ?_)
        go_simp
        refine Calls.mono (HOC.out wD hpZ) ?_
        rintro e wK1 ⟨rfl, hbK1⟩
        have hpK1 : Below a3.heap.size a3 wK1 := bStep hpZ hbK1
        clear hbK1
        go_wp2_with fail
        refine hK.out _ _ (fun _ => hpK1) ?_
        clear hK K
        have HSK : Hid (RS w3 wK1 (.slice (some ⟨lb, 0, none⟩) k cl) B k N12 N13 Z0 8 (p : Int) Y Z (vls s M T n)) := HS.out.below hpK1
        have f0 := cell_of_block HSK.out.2.2.2.1 0; have f1 := cell_of_block HSK.out.2.2.2.1 1; have f2 := cell_of_block HSK.out.2.2.2.1 2; have f3 := cell_of_block HSK.out.2.2.2.1 3
        have fz : ∀ o, wK1.frozen? ⟨N13, o, none⟩ = false := fun o => by simp [World.frozen?, HSK.out.2.2.2.1]
        obtain ⟨wS, ewS⟩ : ∃ x : World, x = (((wK1.setCell ⟨N13, 0, none⟩ (.int .u64 ((limb 0 R : Nat) : Int))).setCell ⟨N13, 1, none⟩ (.int .u64 ((limb 1 R : Nat) : Int))).setCell ⟨N13, 2, none⟩ (.int .u64 ((limb 2 R : Nat) : Int))).setCell ⟨N13, 3, none⟩ (.int .u64 ((limb 3 R : Nat) : Int)) := ⟨_, rfl⟩
        have HSS : Hid (RS w3 wS (.slice (some ⟨lb, 0, none⟩) k cl) B k N12 N13 R 8 (p : Int) Y Z (vls s M T n)) := by rw [ewS]; exact HSK.out.set R
        clear HSK
        refine wpZ_one (i := 8) (by kernel_rfl) rfl (fun K hK => ?_)
        go_simp
        rw [← ewS]
        refine hK.out _ _ (fun h => absurd rfl h) ?_
        clear hK K f0 f1 f2 f3 fz ewS hpK1
        refine wpZ_done (by kernel_rfl) ?_ _
        go_upto_region 29 with fail
        have f0 := cell_of_block HSS.out.2.2.2.1 0; have f1 := cell_of_block HSS.out.2.2.2.1 1; have f2 := cell_of_block HSS.out.2.2.2.1 2; have f3 := cell_of_block HSS.out.2.2.2.1 3
        obtain ⟨z3, ez3⟩ : ∃ x : World, x = wS.alloc (.cells #[.int .u64 ((limb 0 R : Nat) : Int), .int .u64 ((limb 1 R : Nat) : Int), .int .u64 ((limb 2 R : Nat) : Int), .int .u64 ((limb 3 R : Nat) : Int)] 44) := ⟨_, rfl⟩
        have hA3 : Below wS.heap.size wS z3 := by rw [ez3]; exact bAlloc (Below.refl _ _) _
        have hR3 : Rs z3 (.slice (some ⟨wS.heap.size, 0, none⟩) 1 1) 4 1 (fun _ j => .int .u64 ((limb j R : Nat) : Int)) := by rw [ez3]; exact one_E wS 44 R _ _ _ _ rfl rfl rfl rfl
        have ha3 : wS.alloc (.cells #[.int .u64 ((limb 0 R : Nat) : Int), .int .u64 ((limb 1 R : Nat) : Int), .int .u64 ((limb 2 R : Nat) : Int), .int .u64 ((limb 3 R : Nat) : Int)] 44) = z3 := ez3.symm
        have HT3 : Hid (RS w3 z3 (.slice (some ⟨lb, 0, none⟩) k cl) B k N12 N13 R 8 (p : Int) Y Z (vls s M T n)) := HSS.out.below hA3
        have HSZ : Hid (B ≤ z3.heap.size) := by have h1 := HT3.out.1.size; have h2 := HBB.out; show B ≤ z3.heap.size; omega
        clear ez3 hA3
        go_wp2_with (first
          | (at_builtin; refine wpList_appR _ rfl _ _ 36 rfl B 44 ie (.agg #[.int .u64 0, .int .u64 0, .int .u64 0, .int .u64 0]) 4 32 Tryd.underlying36 HIE.out HZE.out.1 HZE.out.2.1 HZE.out.2.2 rfl (by decide) _ k _ rfl HT3.out.2.1 1 _ _ rfl hR3 (fun i _ j _ => rfl) ?c1 ?c2 HSZ.out ?_)
          | go_in)
        case c1 => unfold maxLen; omega
        case c2 => omega
        intro vn sN hown hg hsep
        have HON : Hid (sN.ownsRow B 44 4 vn (k + 1) (rwl 4 (fun ia ja => .int .u64 ((limb ja ((vls s M T n) ia) : Nat) : Int)) (k + 1))) := own_same hown rfl (fun t ht q _ => by
          by_cases h1 : t < k
          · rw [if_pos h1]
          · rw [if_neg h1, show t = k by omega]
            exact congrArg (fun v => Value.int .u64 ((limb q v : Nat) : Int)) HVV.out.symm)
        have HBN : Hid (Below w3.heap.size w3 sN) := HT3.out.1.grown hg HT3.out.1.size (fun j hj => by have h1 := own_ge HT3.out.2.1 hj; have h2 := HBB.out; omega)
        clear hown hg hsep hR3 ha3 HSZ HT3 f0 f1 f2 f3
        go_wp2
        go_roundw
        case measure => simp [intOf]; omega
        case rel => exact ⟨k + 1, by go_num, hlt, HBN.out, HON, HNX⟩
    · have hki : ¬ (k : Int) < (n : Int) := by omega
      have ek : k = n := by omega
      subst ek
      have HBF : Hid (Below w.heap.size w wr) := bStep HB4.out hbr
      have HOV' : Hid (okV k T M = true) := decide_eq_true HOV.out
      have HES : Hid (Es wr (.slice ol k cl) k (vls s M T k)) := own_Rs HLL.out
      clear hbr HLL HOV
      go_wp2
      go_ret2
      refine ⟨Or.inl ⟨?_, _, rfl, HES.out⟩, HBF.out⟩
      rw [HOR.out, HOV'.out]; rfl

end Go.Proofs.YtimjgebiffemnaaDoor

/- ExprValues: the walk. -/
namespace Go.Proofs.YtimjgebiffemnaaDoor
open Go.RowKit

/-- The code that Values answers, and how many numbers. -/
def vCode (s : Int) (n nq na : Nat) (T : Nat → Int × Int × Int × Nat) (Q : Nat → Int × Int × Int) (A : Nat → Nat) : Int := if s < 0 ∨ 3 < s then 20 else valC (ordB n T) (decide (na = nq)) (okV n T (fsM Q A nq))
def vLen (s : Int) (n nq na : Nat) (T : Nat → Int × Int × Int × Nat) (Q : Nat → Int × Int × Int) (A : Nat → Nat) : Nat := if vCode s n nq na T Q A = 0 then n else 0
section
variable {s : Int} {n nq na : Nat} {T : Nat → Int × Int × Int × Nat} {Q : Nat → Int × Int × Int} {A : Nat → Nat}
theorem vCode_low (h : s < 0) : vCode s n nq na T Q A = 20 := if_pos (Or.inl h)
theorem vCode_high (h : 3 < s) : vCode s n nq na T Q A = 20 := if_pos (Or.inr h)
theorem vLen_low (h : s < 0) : vLen s n nq na T Q A = 0 := by unfold vLen; rw [vCode_low h]; rfl
theorem vLen_high (h : 3 < s) : vLen s n nq na T Q A = 0 := by unfold vLen; rw [vCode_high h]; rfl
theorem vLen_le : vLen s n nq na T Q A ≤ n := by unfold vLen; split <;> omega
theorem vCode_in {k : Nat} (h : k < 4) : vCode (k : Int) n nq na T Q A = valC (ordB n T) (decide (na = nq)) (okV n T (fsM Q A nq)) := if_neg (by omega)
end
theorem vals_any (s : Int) (n cn nq cq na ca : Nat) (on oq oa : Option Addr) (T : Nat → Int × Int × Int × Nat) (Q : Nat → Int × Int × Int) (A : Nat → Nat) (hn : n ≤ 1000000) (hnq : nq ≤ 1000000) (hT : ∀ i, i < n → (T i).2.2.2 < 115792089237316195423570985008687907853269984665640564039457584007913129639936 ∧ (isQ (T i).1 = true → rng (T i).2.1 ∧ rng (T i).2.2.1)) (hQ : ∀ i, i < nq → rngQ (Q i)) (hA : ∀ i, i < na → A i < 115792089237316195423570985008687907853269984665640564039457584007913129639936) (w : World) (hg : Glob w) (hv : Rs w (.slice on n cn) 7 n (fun i => nC (T i))) (hq : Qs w (.slice oq nq cq) nq Q) (ha : Es w (.slice oa na ca) na A) :
    Calls Tryd.prog 22 #[.int .i64 s, .slice on n cn, .slice oq nq cq, .slice oa na ca] w fun e w' => (∃ v, e = .returned (.tuple #[v, .int .i64 (vCode s n nq na T Q A)]) ∧ Es w' v (vLen s n nq na T Q A) (vls s.toNat (fsM Q A nq) T n)) ∧ Below w.heap.size w w' := by
  by_cases h0 : s < 0
  · refine (values_out s (Or.inl h0) _ _ _ w).mono ?_
    rintro e w' ⟨rfl, hb⟩
    refine ⟨⟨_, by rw [vCode_low h0], ?_⟩, hb⟩
    rw [vLen_low h0]; exact Or.inl ⟨rfl, rfl⟩
  by_cases h4 : 3 < s
  · refine (values_out s (Or.inr (by omega)) _ _ _ w).mono ?_
    rintro e w' ⟨rfl, hb⟩
    refine ⟨⟨_, by rw [vCode_high h4], ?_⟩, hb⟩
    rw [vLen_high h4]; exact Or.inl ⟨rfl, rfl⟩
  obtain ⟨k, rfl⟩ : ∃ k : Nat, s = (k : Int) := ⟨s.toNat, by omega⟩
  have hk : k < 4 := by omega
  refine (values_in k n cn nq cq na ca on oq oa T Q A hk hn hnq hT hQ hA w hg hv hq ha).mono ?_
  rintro e w' ⟨h, hb⟩
  refine ⟨?_, hb⟩
  have ec : vCode (k : Int) n nq na T Q A = valC (ordB n T) (decide (na = nq)) (okV n T (fsM Q A nq)) := vCode_in hk
  rcases h with ⟨hc, G, he, _, hB⟩ | ⟨hc, he⟩
  · refine ⟨_, by rw [ec, hc]; exact he, ?_⟩
    rw [show vLen (k : Int) n nq na T Q A = n from if_pos (ec.trans hc)]
    exact BlkR.Rs hB (by unfold maxLen; omega)
  · refine ⟨_, by rw [ec]; exact he, ?_⟩
    rw [show vLen (k : Int) n nq na T Q A = 0 from if_neg (fun h => hc (ec.symm.trans h))]
    exact Or.inl ⟨rfl, rfl⟩
theorem rvals_any (s : Int) (n cn nq cq na ca : Nat) (on oq oa : Option Addr) (T : Nat → Int × Int × Int × Nat) (Q : Nat → Int × Int × Int) (A : Nat → Nat) (hn : n ≤ 1000000) (hnq : nq ≤ 1000000) (hT : ∀ i, i < n → (T i).2.2.2 < 115792089237316195423570985008687907853269984665640564039457584007913129639936 ∧ (isQ (T i).1 = true → rng (T i).2.1 ∧ rng (T i).2.2.1)) (hA : ∀ i, i < na → A i < 115792089237316195423570985008687907853269984665640564039457584007913129639936) (w : World) (hv : Rs w (.slice on n cn) 7 n (fun i => nC (T i))) (hq : Qs w (.slice oq nq cq) nq Q) (ha : Es w (.slice oa na ca) na A) :
    Calls Tryd.prog 23 #[.int .i64 s, .slice on n cn, .slice oq nq cq, .slice oa na ca] w fun e w' => (∃ v, e = .returned (.tuple #[v, .int .i64 (vCode s n nq na T Q A)]) ∧ Es w' v (vLen s n nq na T Q A) (vls s.toNat (fsM Q A nq) T n)) ∧ Below w.heap.size w w' := by
  by_cases h0 : s < 0
  · refine (rvalues_low s h0 _ _ _ w).mono ?_
    rintro e w' ⟨rfl, hb⟩
    refine ⟨⟨_, by rw [vCode_low h0], ?_⟩, hb⟩
    rw [vLen_low h0]; exact Or.inl ⟨rfl, rfl⟩
  by_cases h4 : 3 < s
  · refine (rvalues_high s h4 _ _ _ w).mono ?_
    rintro e w' ⟨rfl, hb⟩
    refine ⟨⟨_, by rw [vCode_high h4], ?_⟩, hb⟩
    rw [vLen_high h4]; exact Or.inl ⟨rfl, rfl⟩
  obtain ⟨k, rfl⟩ : ∃ k : Nat, s = (k : Int) := ⟨s.toNat, by omega⟩
  have hk : k < 4 := by omega
  refine (rvalues_in k n cn nq cq na ca on oq oa T Q A hk hn hnq (fun i hi => (hT i hi).1) hA w hv hq ha).mono ?_
  rintro e w' ⟨h, hb⟩
  refine ⟨?_, hb⟩
  have ec : vCode (k : Int) n nq na T Q A = valC (ordB n T) (decide (na = nq)) (okV n T (fsM Q A nq)) := vCode_in hk
  rcases h with ⟨hc, v, he, hE⟩ | ⟨hc, he⟩
  · refine ⟨v, by rw [ec, hc]; exact he, ?_⟩
    rw [show vLen (k : Int) n nq na T Q A = n from if_pos (ec.trans hc)]
    exact hE
  · refine ⟨_, by rw [ec]; exact he, ?_⟩
    rw [show vLen (k : Int) n nq na T Q A = 0 from if_neg (fun h => hc (ec.symm.trans h))]
    exact Or.inl ⟨rfl, rfl⟩
set_option maxHeartbeats 8000000 in
set_option maxRecDepth 100000 in
theorem evalues_any (s : Int) (n cn nq cq na ca : Nat) (on oq oa : Option Addr) (T : Nat → Int × Int × Int × Nat) (Q : Nat → Int × Int × Int) (A : Nat → Nat) (hna : na ≤ 4398046510976) (hT : ∀ i, i < n → (T i).2.2.2 < 115792089237316195423570985008687907853269984665640564039457584007913129639936 ∧ (isQ (T i).1 = true → rng (T i).2.1 ∧ rng (T i).2.2.1)) (hQ : ∀ i, i < nq → rngQ (Q i)) (hA : ∀ i, i < na → A i < 115792089237316195423570985008687907853269984665640564039457584007913129639936) (w : World) (hg : Glob w) (hv : Rs w (.slice on n cn) 7 n (fun i => nC (T i))) (hq : Qs w (.slice oq nq cq) nq Q) (ha : Es w (.slice oa na ca) na A) :
    Calls Tryd.prog 4 #[.int .i64 s, .slice on n cn, .slice oq nq cq, .slice oa na ca] w fun e w' => e = .returned (.bool true) ∧ Below w.heap.size w w' := by
  obtain ⟨iq, hiq, hq0, hq1, hq2⟩ := qryInf
  have HIQ := (show Hid _ from hiq); have HZQ := (show Hid _ from And.intro hq0 (And.intro hq1 hq2)); clear hiq hq0 hq1 hq2
  have HNR : Hid (∀ w', Below w.heap.size w w' → Rs w' (.slice on n cn) 7 n (fun i => nC (T i))) := fun w' h => hv.below h
  have HQR : Hid (∀ w', Below w.heap.size w w' → Rs w' (.slice oq nq cq) 3 nq (fun i => qC (Q i))) := fun w' h => Rs.below hq h
  have HAR : Hid (∀ w', Below w.heap.size w w' → Es w' (.slice oa na ca) na A) := fun w' h => ha.below h
  have HGW : Hid (∀ w', Below w.heap.size w w' → Glob w') := fun w' h => hg.below h
  have HAL : Hid (Calls _ _ _ _ _) := alive11_any w hg
  have HTT : Hid (∀ i, i < n → (T i).2.2.2 < 115792089237316195423570985008687907853269984665640564039457584007913129639936 ∧ (isQ (T i).1 = true → rng (T i).2.1 ∧ rng (T i).2.2.1)) := hT
  have HQQ : Hid (∀ i, i < nq → rngQ (Q i)) := hQ
  have HAA : Hid (∀ i, i < na → A i < 115792089237316195423570985008687907853269984665640564039457584007913129639936) := hA
  clear hg hv hq ha hT hQ hA
  go_enter Tryd.func4, Tryd.ntmps4
  go_wp2_with fail
  refine Calls.mono HAL.out ?_
  rintro e w1 ⟨rfl, hb1⟩
  have HB1 : Hid (Below w.heap.size w w1) := hb1
  clear hb1 HAL
  by_cases hn : 200 < n
  · have hni : (200 : Int) < (n : Int) := by omega
    have hd1 : decide ((200 : Int) < (n : Int)) = true := decide_eq_true hni
    go_wp2
    go_ret
    exact ⟨rfl, HB1.out⟩
  have hni : ¬ (200 : Int) < (n : Int) := by omega
  have hd1 : decide ((200 : Int) < (n : Int)) = false := decide_eq_false hni
  by_cases hm : 200 < nq
  · have hmi : (200 : Int) < (nq : Int) := by omega
    have hd2 : decide ((200 : Int) < (nq : Int)) = true := decide_eq_true hmi
    go_wp2
    go_ret
    exact ⟨rfl, HB1.out⟩
  have hmi : ¬ (200 : Int) < (nq : Int) := by omega
  have hd2 : decide ((200 : Int) < (nq : Int)) = false := decide_eq_false hmi
  have hn1 : n ≤ 1000000 := by omega
  have hm1 : nq ≤ 1000000 := by omega
  have HCP : Hid (Calls _ _ _ _ _) := copyN_any n (.slice on n cn) T (by omega) w1 (HNR.out w1 HB1.out)
  obtain ⟨VC, eVC⟩ : ∃ x, x = vCode s n nq na T Q A := ⟨_, rfl⟩
  obtain ⟨VN, eVN⟩ : ∃ x, x = vLen s n nq na T Q A := ⟨_, rfl⟩
  obtain ⟨VF, eVF⟩ : ∃ x, x = vls s.toNat (fsM Q A nq) T n := ⟨_, rfl⟩
  have hVN : VN ≤ 200 := by rw [eVN]; exact Nat.le_trans vLen_le (by omega)
  have hVF : ∀ i, i < VN → VF i < 115792089237316195423570985008687907853269984665640564039457584007913129639936 := fun i _ => by rw [eVF]; exact vls_lt _ _ _ _ _
  have HV1 : Hid (∀ (b1 b2 b3 : Option Addr) (k1 k2 k3 : Nat) (w' : World), Below w.heap.size w w' → Rs w' (.slice b1 n k1) 7 n (fun i => nC (T i)) → Rs w' (.slice b2 nq k2) 3 nq (fun i => qC (Q i)) → Es w' (.slice b3 na k3) na A → Calls Tryd.prog 22 #[.int .i64 s, .slice b1 n k1, .slice b2 nq k2, .slice b3 na k3] w' fun e w'' => (∃ v, e = .returned (.tuple #[v, .int .i64 VC]) ∧ Es w'' v VN VF) ∧ Below w'.heap.size w' w'') := fun b1 b2 b3 k1 k2 k3 w' hb h1 h2 h3 => by
    rw [eVC, eVN, eVF]; exact vals_any s n k1 nq k2 na k3 b1 b2 b3 T Q A hn1 hm1 HTT.out HQQ.out HAA.out w' (HGW.out w' hb) h1 h2 h3
  have HV2 : Hid (∀ (w' : World), Below w.heap.size w w' → Calls Tryd.prog 23 #[.int .i64 s, .slice on n cn, .slice oq nq cq, .slice oa na ca] w' fun e w'' => (∃ v, e = .returned (.tuple #[v, .int .i64 VC]) ∧ Es w'' v VN VF) ∧ Below w'.heap.size w' w'') := fun w' hb => by
    rw [eVC, eVN, eVF]; exact rvals_any s n cn nq cq na ca on oq oa T Q A hn1 hm1 HTT.out HAA.out w' (HNR.out w' hb) (HQR.out w' hb) (HAR.out w' hb)
  have HV3 : Hid (∀ (w' : World) (u v : Value), Es w' u VN VF → Es w' v VN VF → Calls Tryd.prog 24 #[u, v] w' fun e w'' => e = .returned (.bool true) ∧ Below w'.heap.size w' w'') := fun w' u v h1 h2 => sameD_self u v VN VF (by omega) hVF w' h1 h2
  have HSE : Hid (∀ (w' : World) (u v : Value), Es w' u (na + 4) (spE A na) → Es w' v (na + 4) (spE A na) → Calls Tryd.prog 24 #[u, v] w' fun e w'' => e = .returned (.bool true) ∧ Below w'.heap.size w' w'') := fun w' u v h1 h2 => sameD_self u v (na + 4) (spE A na) (by omega) (spE_lt HAA.out) w' h1 h2
  have HSP : Hid (∀ (w' : World), Below w.heap.size w w' → Calls Tryd.prog 21 #[.slice oa na ca] w' fun e w'' => ∃ g c, e = .returned (.slice (some ⟨g, 0, none⟩) (na + 4) c) ∧ FullE w'' g na c A ∧ w'.heap.size ≤ g ∧ Below w'.heap.size w' w'') := fun w' hb => spare_fullE na _ A hna w' (HAR.out w' hb)
  have HN3 : Hid (∀ (w' : World) (u v : Value), Rs w' u 7 n (fun i => nC (T i)) → Rs w' v 7 n (fun i => nC (T i)) → Calls Tryd.prog 20 #[u, v] w' fun e w'' => e = .returned (.bool true) ∧ Below w'.heap.size w' w'') := fun w' u v h1 h2 => sameN_any n u v T hn1 w' h1 h2
  have HQ3 : Hid (∀ (w' : World) (u v : Value), Rs w' u 3 nq (fun i => qC (Q i)) → Rs w' v 3 nq (fun i => qC (Q i)) → Calls Tryd.prog 15 #[u, v] w' fun e w'' => e = .returned (.bool true) ∧ Below w'.heap.size w' w'') := fun w' u v h1 h2 => sameQ11_any nq u v Q hm1 w' h1 h2
  clear eVC eVN eVF hVN hVF HTT HQQ HAA HGW
  go_wp2_with fail
  refine Calls.mono HCP.out ?_
  rintro e w2 ⟨v2, rfl, hv2, hb2⟩
  obtain ⟨ob, cb, rfl, _⟩ := own_shape hv2
  have HBA : Hid (Below w.heap.size w w2) := bStep HB1.out hb2
  have HOW : Hid (∀ w', Below w2.heap.size w2 w' → Rs w' (.slice ob n cb) 7 n (fun i => nC (T i))) := fun w' h => (own_Rs hv2).below h
  clear hv2 hb2 HCP HB1
  obtain ⟨wA, hwA⟩ : ∃ x : World, x = w2.alloc (.cells #[] 51) := ⟨_, rfl⟩
  have hbA : Below w2.heap.size w2 wA := by rw [hwA]; exact (Below.refl _ _).alloc (Nat.le_refl _) _
  have HO : Hid (wA.ownsRow w2.heap.size 51 3 (.slice (some ⟨w2.heap.size, 0, none⟩) 0 0) 0 (rwl 3 (fun _ _ => undef) 0)) := by rw [hwA]; exact own_new w2 51 3
  have HR : Hid (Rs wA (.slice oq nq cq) 3 nq (fun i => qC (Q i))) := HQR.out wA (bStep HBA.out hbA)
  have HBB := (show Hid (Below w2.heap.size w2 wA) from hbA)
  clear hbA
  go_wp2_with (first
    | (at_builtin; rw [← hwA]; refine wpList_appR _ rfl _ _ 31 rfl w2.heap.size 51 iq (.agg #[.int .i64 0, .int .i64 0, .int .i64 0]) 3 24 Tryd.underlying31 HIQ.out HZQ.out.1 HZQ.out.2.1 HZQ.out.2.2 rfl (by decide) _ 0 _ rfl HO.out nq _ _ rfl HR.out (fun i _ j _ => qC_one _ j) ?c1 ?c2 ?c3 ?_)
    | go_in)
  case c1 => unfold maxLen; omega
  case c2 => omega
  case c3 => exact HBB.out.size
  intro v' w3 hown' hgrow hsep
  have hF : w3.ownsRow w2.heap.size 51 3 v' nq (rwl 3 (fun i => qC (Q i)) nq) := by simpa only [Nat.zero_add, Nat.not_lt_zero, if_false, Nat.sub_zero] using hown'
  obtain ⟨oc, cc, rfl, _⟩ := own_shape hF
  have HBC : Hid (Below w2.heap.size w2 w3) := HBB.out.grown (by rw [hwA]; exact hgrow) HBB.out.size (fun j hj => own_ge HO.out hj)
  have HBW : Hid (∀ w', Below w3.heap.size w3 w' → Below w.heap.size w w') := fun w' h => bStep (bStep HBA.out HBC.out) h
  have HOW3 : Hid (∀ w', Below w3.heap.size w3 w' → Rs w' (.slice ob n cb) 7 n (fun i => nC (T i))) := fun w' h => HOW.out w' (bStep HBC.out h)
  have HOQ3 : Hid (∀ w', Below w3.heap.size w3 w' → Rs w' (.slice oc nq cc) 3 nq (fun i => qC (Q i))) := fun w' h => (own_Rs hF).below h
  have HB3 : Hid (Below w3.heap.size w3 w3) := Below.refl _ _
  clear hown' hgrow hsep hF HOW HBB HO HR hwA wA
  go_wp2_with fail
  refine Calls.mono (HSP.out w3 (HBW.out w3 HB3.out)) ?_
  rintro e w4 ⟨g0, cf, rfl, hfu, _, hbx⟩
  have HB4 : Hid (Below w3.heap.size w3 w4) := bStep HB3.out hbx
  have hnc : (na : Int) ≤ (cf : Int) := by have := hfu.1; omega
  have hn0 : (0 : Int) ≤ (na : Int) := by omega
  have HFU : Hid (∀ w', Below w4.heap.size w4 w' → FullE w' g0 na cf A) := fun w' h => hfu.belowAll h
  clear hbx hfu
  go_wp2_with fail
  refine Calls.mono (HV1.out ob oc (some ⟨g0, 0, none⟩) cb cc cf w4 (HBW.out w4 HB4.out) (HOW3.out w4 HB4.out) (HOQ3.out w4 HB4.out) (HFU.out w4 (Below.refl _ _)).part) ?_
  rintro e w5 ⟨⟨va, rfl, hva⟩, hbx⟩
  have HB5 : Hid (Below w3.heap.size w3 w5) := bStep HB4.out hbx
  have HC5 : Hid (Below w4.heap.size w4 w5) := bStep (Below.refl _ _) hbx
  have HVA : Hid (∀ w', Below w5.heap.size w5 w' → Es w' va VN VF) := fun w' h => hva.below h
  clear hbx hva
  go_wp2_with fail
  refine Calls.mono (HV2.out w5 (HBW.out w5 HB5.out)) ?_
  rintro e w6 ⟨⟨vb, rfl, hvb⟩, hbx⟩
  have HB6 : Hid (Below w3.heap.size w3 w6) := bStep HB5.out hbx
  have HC6 : Hid (Below w4.heap.size w4 w6) := bStep HC5.out hbx
  have HVB : Hid (Es w6 vb VN VF) := hvb
  have HVA6 : Hid (Es w6 va VN VF) := HVA.out w6 hbx
  clear hbx hvb
  go_wp2_with fail
  refine Calls.mono (HV3.out w6 va vb HVA6.out HVB.out) ?_
  rintro e w7 ⟨rfl, hbx⟩
  have HB7 : Hid (Below w3.heap.size w3 w7) := bStep HB6.out hbx
  have HC7 : Hid (Below w4.heap.size w4 w7) := bStep HC6.out hbx
  clear hbx
  go_wp2_with fail
  refine Calls.mono (HN3.out w7 _ _ (HOW3.out w7 HB7.out) (HNR.out w7 (HBW.out w7 HB7.out))) ?_
  rintro e w8 ⟨rfl, hbx⟩
  have HB8 : Hid (Below w3.heap.size w3 w8) := bStep HB7.out hbx
  have HC8 : Hid (Below w4.heap.size w4 w8) := bStep HC7.out hbx
  clear hbx
  go_wp2_with fail
  refine Calls.mono (HQ3.out w8 _ _ (HOQ3.out w8 HB8.out) (HQR.out w8 (HBW.out w8 HB8.out))) ?_
  rintro e w9 ⟨rfl, hbx⟩
  have HB9 : Hid (Below w3.heap.size w3 w9) := bStep HB8.out hbx
  have HC9 : Hid (Below w4.heap.size w4 w9) := bStep HC8.out hbx
  clear hbx
  go_wp2_with fail
  refine Calls.mono (HSP.out w9 (HBW.out w9 HB9.out)) ?_
  rintro e w10 ⟨g1, cg, rfl, hfu, _, hbx⟩
  have HB10 : Hid (Below w3.heap.size w3 w10) := bStep HB9.out hbx
  have HC10 : Hid (Below w4.heap.size w4 w10) := bStep HC9.out hbx
  have HFV : Hid (FullE w10 g1 na cg A) := hfu
  clear hbx hfu
  go_wp2_with fail
  refine Calls.mono (HSE.out w10 _ _ (HFU.out w10 HC10.out).all HFV.out.all) ?_
  rintro e w11 ⟨rfl, hbx⟩
  have HBF : Hid (Below w.heap.size w w11) := HBW.out _ (bStep HB10.out hbx)
  clear hbx
  go_wp2
  go_ret
  exact ⟨rfl, HBF.out⟩
theorem evalues_card (s : Int) (n cn : Nat) (on : Option Addr) (T : Nat → Int × Int × Int × Nat) (nq cq : Nat) (oq : Option Addr) (Q : Nat → Int × Int × Int) (na : Nat) (va : Value) (A : Nat → Nat) (hna : na ≤ 4398046510976) (hT : ∀ i, i < n → (T i).2.2.2 < 115792089237316195423570985008687907853269984665640564039457584007913129639936 ∧ rng (T i).1 ∧ rng (T i).2.1 ∧ rng (T i).2.2.1) (hQ : ∀ i, i < nq → rngQ (Q i)) (hA : ∀ i, i < na → A i < 115792089237316195423570985008687907853269984665640564039457584007913129639936) (w : World) (hg : Glob w) (hv : Rs w (.slice on n cn) 7 n (fun i => nC (T i))) (hq : Rs w (.slice oq nq cq) 3 nq (fun i => qC (Q i))) (ha : Es w va na A) :
    Calls Tryd.prog 4 #[.int .i64 s, .slice on n cn, .slice oq nq cq, va] w fun e w' => e = .returned (.bool true) ∧ Below w.heap.size w w' := by
  obtain ⟨oa, ca, rfl⟩ := ha.shape
  exact evalues_any s n cn nq cq na ca on oq oa T Q A hna (fun i hi => ⟨(hT i hi).1, fun _ => (hT i hi).2.2⟩) hQ hA w hg hv hq ha

end Go.Proofs.YtimjgebiffemnaaDoor

