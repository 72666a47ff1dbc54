/- Lists of elements: what SameElems and CopyElems do. -/
import Derived.Test.YtfdddpndjmookaaGreatDoorCC
import Derived.Test.YtfdddpndjmookaaGreatDoorBA
import Derived.Test.YtfdddpndjmookaaGreatDoorChecked
import Derived.LoopN
import Derived.Deep.QuietTactic
import Derived.BigQuiet
import Derived.Deep.Draws
import Derived.OwnWalk
import Derived.Laws.AppendOwnNone
namespace Go.Proofs.YtfdddpndjmookaaGreatDoor
open Go.RowKit

/-- v is a slice of n elements, f 0 and on. -/
def Es (w : World) (v : Value) (n : Nat) (f : Nat → Nat) : Prop :=
  (v = .slice none 0 0 ∧ n = 0) ∨ ∃ (b o c : Nat), v = .slice (some ⟨b, o, none⟩) n c ∧ n ≤ c ∧ c ≤ maxLen ∧ b < w.heap.size ∧ ∀ i, i < n → ∀ j, j < 4 → w.cell? ⟨b, o + i * 4 + j, none⟩ = some (.int .u64 ((limb j (f i) : Nat) : Int))
theorem Es.below {w w' : World} {v : Value} {n : Nat} {f : Nat → Nat} (h : Es w v n f) (hb : Below w.heap.size w w') : Es w' v n f := by
  rcases h with h | ⟨b, o, c, hv, h1, h2, h3, h4⟩
  · exact Or.inl h
  · refine Or.inr ⟨b, o, c, hv, h1, h2, Nat.lt_of_lt_of_le h3 hb.size, fun i hi j hj => ?_⟩
    rw [hb.cell (p := ⟨b, o + i * 4 + j, none⟩) h3]
    exact h4 i hi j hj
theorem Es.shape {w : World} {v : Value} {n : Nat} {f : Nat → Nat} (h : Es w v n f) : ∃ oa c, v = .slice oa n c := by
  rcases h with ⟨rfl, rfl⟩ | ⟨b, o, c, rfl, _⟩
  · exact ⟨_, _, rfl⟩
  · exact ⟨_, _, rfl⟩
/-- The first n elements are the same. -/
def sameE (f g : Nat → Nat) (n : Nat) : Bool := decide (∀ i, i < n → f i = g i)

set_option maxHeartbeats 4000000 in
set_option maxRecDepth 20000 in
theorem sameE_some (n cn cm a oa b ob : Nat) (f g : Nat → Nat) (hn : n ≤ 1000) (hf : ∀ i, i < n → f i < 115792089237316195423570985008687907853269984665640564039457584007913129639936) (hg : ∀ i, i < n → g i < 115792089237316195423570985008687907853269984665640564039457584007913129639936) (w : World) (ha : ∀ i, i < n → ∀ j, j < 4 → w.cell? ⟨a, oa + i * 4 + j, none⟩ = some (.int .u64 ((limb j (f i) : Nat) : Int))) (hb : ∀ i, i < n → ∀ j, j < 4 → w.cell? ⟨b, ob + i * 4 + j, none⟩ = some (.int .u64 ((limb j (g i) : Nat) : Int))) :
    Calls Tryz.prog 13 #[.slice (some ⟨a, oa, none⟩) n cn, .slice (some ⟨b, ob, none⟩) n cm] w fun e w' => e = .returned (.bool (sameE f g n)) ∧ ∃ k, w' = w.drewN k := by
  have HA := (show Hid _ from ha); have HB := (show Hid _ from hb); have HF := (show Hid _ from hf); have HG := (show Hid _ from hg)
  clear ha hb hf hg
  go_enter Tryz.func13, Tryz.ntmps13
  go_wp2
  go_loopw [5] (fun i wr => ∃ k : Nat, i = .int .i64 (k : Int) ∧ k ≤ n ∧ Hid (∀ j, j < k → f j = g j) ∧ ∃ d, wr = w.drewN d) (fun i _ => n - (intOf i).toNat)
  case atStart => exact ⟨0, rfl, by omega, fun j hj => by omega, 0, rfl⟩
  case round =>
    obtain ⟨k, rfl, hk, hs, d, rfl⟩ := hrel
    by_cases hlt : k < n
    · have hki : (k : Int) < (n : Int) := by omega
      have a0 := HA.out k hlt 0 (by decide); have a1 := HA.out k hlt 1 (by decide); have a2 := HA.out k hlt 2 (by decide); have a3 := HA.out k hlt 3 (by decide)
      have b0 := HB.out k hlt 0 (by decide); have b1 := HB.out k hlt 1 (by decide); have b2 := HB.out k hlt 2 (by decide); have b3 := HB.out k hlt 3 (by decide)
      rw [Nat.add_zero] at a0 b0
      have hq := fun w => neqE (f k) (g k) (HF.out k hlt) (HG.out k hlt) w
      obtain ⟨x, ex⟩ : ∃ x, x = f k := ⟨_, rfl⟩
      obtain ⟨y, ey⟩ : ∃ y, y = g k := ⟨_, rfl⟩
      rw [← ex] at a0 a1 a2 a3 hq
      rw [← ey] at b0 b1 b2 b3 hq
      by_cases he : x = y
      · rw [show decide (x = y) = true from by simp [he]] at hq
        have HE : Hid (f k = g k) := by show _ = _; rw [← ex, ← ey]; exact he
        clear he ex ey
        go_wp2_with fail
        go_quiet (fail)
        go_wp2
        go_roundw
        case measure => simp [intOf]; omega
        case rel =>
          refine ⟨k + 1, by go_num, by omega, fun j hj => ?_, _, rfl⟩
          rcases Nat.lt_or_ge j k with h | h
          · exact hs.out j h
          · rw [show j = k from by omega]; exact HE.out
      · rw [show decide (x = y) = false from by simp [he]] at hq
        have HE : Hid (sameE f g n = false) := by
          show _ = _
          unfold sameE
          simp only [decide_eq_false_iff_not]
          exact fun h => he (by rw [ex, ey]; exact h k hlt)
        clear he ex ey
        go_wp2_with fail
        go_quiet (fail)
        go_wp2
        go_ret
        exact ⟨by rw [HE.out]; rfl, _, World.drewN_drewN _ _ _⟩
    · have hki : ¬ (k : Int) < (n : Int) := by omega
      have hkn : k = n := by omega
      have HE : Hid (sameE f g n = true) := by
        show _ = _
        unfold sameE
        simp only [decide_eq_true_eq]
        rw [← hkn]
        exact hs.out
      clear hkn hlt
      go_wp2
      go_ret
      exact ⟨by rw [HE.out]; rfl, d, rfl⟩

theorem Below.drewN2 (w : World) (k : Nat) : Below w.heap.size w (w.drewN k) := by
  induction k with
  | zero => exact Below.refl _ _
  | succ k ih => exact ih.drew
set_option maxHeartbeats 2000000 in
theorem sameE_empty (v u : Value) (w : World) (hv : ∃ oa c, v = .slice oa 0 c) (hu : ∃ ob c, u = .slice ob 0 c) : Calls Tryz.prog 13 #[v, u] w fun e w' => e = .returned (.bool true) ∧ w' = w := by
  obtain ⟨oa, c, rfl⟩ := hv
  obtain ⟨ob, c', rfl⟩ := hu
  go_enter Tryz.func13, Tryz.ntmps13
  go_wp2
  go_loop [5] (fun i => i = .int .i64 0) (fun _ => 0)
  case atStart => rfl
  case round =>
    subst hrel
    go_wp2
    go_ret
    exact ⟨rfl, rfl⟩
/-- SameElems of the same elements. -/
theorem sameE_self (v u : Value) (n : Nat) (f : Nat → Nat) (hn : n ≤ 1000) (hf : ∀ i, i < n → f i < 115792089237316195423570985008687907853269984665640564039457584007913129639936) (w : World) (hv : Es w v n f) (hu : Es w u n f) :
    Calls Tryz.prog 13 #[v, u] w fun e w' => e = .returned (.bool true) ∧ Below w.heap.size w w' := by
  by_cases h0 : n = 0
  · subst h0
    refine (sameE_empty v u w hv.shape hu.shape).mono ?_
    rintro e w' ⟨rfl, rfl⟩
    exact ⟨rfl, Below.refl _ _⟩
  · rcases hv with ⟨_, h⟩ | ⟨a, oa, ca, rfl, _, _, _, ha⟩
    · exact absurd h h0
    · rcases hu with ⟨_, h⟩ | ⟨b, ob, cb, rfl, _, _, _, hb⟩
      · exact absurd h h0
      · refine (sameE_some n ca cb a oa b ob f f hn hf hf w ha hb).mono ?_
        rintro e w' ⟨rfl, k, rfl⟩
        refine ⟨?_, Below.drewN2 w k⟩
        rw [show sameE f f n = true from by unfold sameE; simp]

/-- The cells of a list of elements. -/
def els (f : Nat → Nat) (n : Nat) : List Value := (List.range (n * 4)).map (fun t => Value.int .u64 ((limb (t % 4) (f (t / 4)) : Nat) : Int))
theorem els_len (f : Nat → Nat) (n : Nat) : (els f n).length = n * 4 := by simp [els]
theorem els_get (f : Nat → Nat) (n i j : Nat) (hi : i < n) (hj : j < 4) : (els f n)[i * 4 + j]? = some (.int .u64 ((limb j (f i) : Nat) : Int)) := by
  unfold els
  rw [List.getElem?_map, List.getElem?_range (by omega)]
  show some _ = _
  dsimp only
  rw [show (i * 4 + j) % 4 = j from by omega, show (i * 4 + j) / 4 = i from by omega]
theorem els_succ (f : Nat → Nat) (n : Nat) : els f (n + 1) = els f n ++ [.int .u64 ((limb 0 (f n) : Nat) : Int), .int .u64 ((limb 1 (f n) : Nat) : Int), .int .u64 ((limb 2 (f n) : Nat) : Int), .int .u64 ((limb 3 (f n) : Nat) : Int)] := by
  unfold els
  rw [show (n + 1) * 4 = n * 4 + 1 + 1 + 1 + 1 from by omega, List.range_succ, List.range_succ, List.range_succ, List.range_succ]
  simp only [List.map_append, List.map_cons, List.map_nil, List.append_assoc, List.cons_append, List.nil_append]
  rw [show (n * 4) % 4 = 0 from by omega, show (n * 4) / 4 = n from by omega, show (n * 4 + 1) % 4 = 1 from by omega, show (n * 4 + 1) / 4 = n from by omega, show (n * 4 + 1 + 1) % 4 = 2 from by omega, show (n * 4 + 1 + 1) / 4 = n from by omega, show (n * 4 + 1 + 1 + 1) % 4 = 3 from by omega, show (n * 4 + 1 + 1 + 1) / 4 = n from by omega]
theorem els_congr {f g : Nat → Nat} {n : Nat} (h : ∀ i, i < n → f i = g i) : els f n = els g n := by
  unfold els
  apply List.map_congr_left
  intro i hi
  have : i < n * 4 := by simpa using hi
  rw [h (i / 4) (by omega)]
theorem elemInfo : ∃ i : TypeInfo, Tryz.prog.info? 25 = some i ∧ i.zero = some (.agg #[.int .u64 0, .int .u64 0, .int .u64 0, .int .u64 0]) ∧ i.size = 4 ∧ i.bytes = 32 := by
  have h : (Tryz.prog.info? 25).map (fun i => (i.zero, i.size, i.bytes)) = some (some (.agg #[.int .u64 0, .int .u64 0, .int .u64 0, .int .u64 0]), 4, 32) := by kernel_rfl
  obtain ⟨i, hi, he⟩ := Option.map_eq_some_iff.mp h
  simp only [Prod.mk.injEq] at he
  exact ⟨i, hi, he.1, he.2.1, he.2.2⟩
theorem new_blockE (w : World) (o : Obj) : (w.alloc o).heap[w.heap.size]? = some o := by
  show (w.heap.push o)[w.heap.size]? = _; simp
theorem own_block_geE {w : World} {base : Nat} {e : TypeId} {size : Nat} {v : Value} {n : Nat} {xs : List Value} (h : w.ownsRow base e size v n xs) {j : Nat} (hj : v.ownBlock = some j) : base ≤ j := by
  obtain ⟨_, h⟩ := h
  rcases h with ⟨rfl, _⟩ | ⟨g, c, cur, rfl, hb, _⟩
  · simp [Value.ownBlock] at hj
  · simp [Value.ownBlock] at hj; omega
/-- A list of the call's own, as elements. -/
theorem own_Es {w : World} {base n : Nat} {v : Value} {f : Nat → Nat} (h : w.ownsRow base 25 4 v n (els f n)) : Es w v n f := by
  obtain ⟨_, h⟩ := h
  rcases h with ⟨rfl, h0⟩ | ⟨g, c, cur, rfl, hb, hg, hc, hm, hs, ht⟩
  · exact Or.inl ⟨rfl, h0⟩
  · refine Or.inr ⟨g, 0, c, rfl, hc, hm, ?_, fun i hi j hj => ?_⟩
    · rcases Nat.lt_or_ge g w.heap.size with hl | hl
      · exact hl
      · rw [Array.getElem?_eq_none hl] at hg; cases hg
    · have h1 : cur[i * 4 + j]? = (els f n)[i * 4 + j]? := by rw [← ht, List.getElem?_take_of_lt (by omega), Array.getElem?_toList]
      rw [els_get f n i j hi hj] at h1
      rw [Nat.zero_add]
      simp [World.cell?, hg, h1]
set_option maxHeartbeats 2000000 in
theorem copyE_some (n cn a oa : Nat) (f : Nat → Nat) (hn : n ≤ 1000) (w : World) (ha : a < w.heap.size) (hc : ∀ i, i < n → ∀ j, j < 4 → w.cell? ⟨a, oa + i * 4 + j, none⟩ = some (.int .u64 ((limb j (f i) : Nat) : Int))) :
    Calls Tryz.prog 6 #[.slice (some ⟨a, oa, none⟩) n cn] w fun e w' => ∃ v, e = .returned v ∧ w'.ownsRow w.heap.size 25 4 v n (els f n) ∧ Below w.heap.size w w' := by
  obtain ⟨i0, hi, hz0, hz1, hz2⟩ := elemInfo
  have HI := (show Hid _ from hi); have HZ := (show Hid _ from And.intro hz0 (And.intro hz1 hz2)); clear hi hz0 hz1 hz2
  have HC := (show Hid _ from hc); clear hc
  have hown0 : (w.alloc (.cells #[] 25)).ownsRow w.heap.size 25 4 (.slice (some ⟨w.heap.size, 0, none⟩) 0 0) 0 [] :=
    ⟨rfl, Or.inr ⟨w.heap.size, 0, #[], rfl, Nat.le_refl _, new_blockE _ _, Nat.le_refl _, by decide, rfl, rfl⟩⟩
  have HO : Hid ((w.alloc (.cells #[] 25)).ownsRow w.heap.size 25 4 (.slice (some ⟨w.heap.size, 0, none⟩) 0 0) 0 []) := hown0
  clear hown0
  go_enter Tryz.func6, Tryz.ntmps6
  go_wp2_with (first
    | (at_builtin; refine wpList_append_own _ rfl _ _ 22 rfl w.heap.size 25 i0 (.agg #[.int .u64 0, .int .u64 0, .int .u64 0, .int .u64 0]) 4 32 Tryz.underlying22 HI.out HZ.out.1 HZ.out.2.1 HZ.out.2.2 rfl (by decide) _ _ _ rfl HO.out ⟨a, oa, none⟩ n cn (els f n) rfl ?c0 ?c1 ?c2 ?c3 ?c4 ?c5 ?_)
    | go_in)
  case c0 => exact els_len f n
  case c1 =>
    intro j u hj
    have hjn : j < n * 4 := by
      rcases Nat.lt_or_ge j (n * 4) with h | h
      · exact h
      · rw [List.getElem?_eq_none (by rw [els_len]; exact h)] at hj; cases hj
    have e := els_get f n (j / 4) (j % 4) (by omega) (by omega)
    rw [show j / 4 * 4 + j % 4 = j from by omega, hj] at e
    cases e
    have hb : Below w.heap.size w (w.alloc (.cells #[] 25)) := (Below.refl _ _).alloc (Nat.le_refl _) _
    have hadd : (⟨a, oa, none⟩ : Addr).add j = ⟨a, oa + j / 4 * 4 + j % 4, none⟩ := by
      have e2 : oa + j / 4 * 4 + j % 4 = oa + j := by omega
      rw [e2]; unfold Addr.add; split <;> simp_all
    rw [hadd, hb.cell (p := ⟨a, oa + j / 4 * 4 + j % 4, none⟩) ha]
    exact HC.out (j / 4) (by omega) (j % 4) (by omega)
  case c2 => intro u hu; unfold els at hu; obtain ⟨i, _, rfl⟩ := List.mem_map.mp hu; rfl
  case c3 => unfold maxLen; omega
  case c4 => omega
  case c5 => simp
  intro v' w2 hown' hgrow _
  go_wp2
  go_ret
  refine ⟨_, rfl, ?_, ?_⟩
  · exact hown'
  · exact ((Below.refl _ w).alloc (Nat.le_refl _) _).grown hgrow (by simp) (fun j hj => own_block_geE HO.out hj)

set_option maxHeartbeats 2000000 in
theorem copyE_nil (w : World) :
    Calls Tryz.prog 6 #[.slice none 0 0] w fun e w' => ∃ v, e = .returned v ∧ w'.ownsRow w.heap.size 25 4 v 0 [] ∧ Below w.heap.size w w' := by
  obtain ⟨i0, hi, _, hz1, _⟩ := elemInfo
  have HI := (show Hid _ from hi); clear hi
  have hown0 : (w.alloc (.cells #[] 25)).ownsRow w.heap.size 25 4 (.slice (some ⟨w.heap.size, 0, none⟩) 0 0) 0 [] :=
    ⟨rfl, Or.inr ⟨w.heap.size, 0, #[], rfl, Nat.le_refl _, new_blockE _ _, Nat.le_refl _, by decide, rfl, rfl⟩⟩
  have HO : Hid ((w.alloc (.cells #[] 25)).ownsRow w.heap.size 25 4 (.slice (some ⟨w.heap.size, 0, none⟩) 0 0) 0 []) := hown0
  clear hown0
  go_enter Tryz.func6, Tryz.ntmps6
  go_wp2_with (first
    | (at_builtin; refine wpList_append_own_none rfl _ _ 22 rfl w.heap.size 25 i0 4 Tryz.underlying22 HI.out _ _ _ rfl HO.out rfl ?_)
    | go_in)
  go_wp2
  go_ret
  exact ⟨_, rfl, HO.out, (Below.refl _ w).alloc (Nat.le_refl _) _⟩
/-- CopyElems: the same elements in new memory. -/
theorem copyE_any (n : Nat) (v : Value) (f : Nat → Nat) (hn : n ≤ 1000) (w : World) (h : Es w v n f) :
    Calls Tryz.prog 6 #[v] w fun e w' => ∃ v', e = .returned v' ∧ w'.ownsRow w.heap.size 25 4 v' n (els f n) ∧ Below w.heap.size w w' := by
  rcases h with ⟨rfl, rfl⟩ | ⟨b, o, c, rfl, _, _, hb, hc⟩
  · exact copyE_nil w
  · exact copyE_some n c b o f hn w hb hc

end Go.Proofs.YtfdddpndjmookaaGreatDoor
