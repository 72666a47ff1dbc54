import Derived.Test.YtdeijnlbencfdaaGreatDoorWSA
import Derived.Test.YtdeijnlbencfdaaGreatDoorWKD
import Derived.LoopN
import Derived.Deep.QuietTactic
import Derived.BigQuiet
import Derived.Deep.Draws
import Derived.OwnWalk
import Derived.Laws.AppendOwnNone
set_option maxHeartbeats 4000000
namespace Go.Proofs.YtdeijnlbencfdaaGreatDoor
open Go.RowKit
abbrev mM : Nat := 115792089237316195423570985008687907853269984665640564039457584007913129639936
def pC (T : Nat × Nat × Bool) (j : Nat) : Value :=
 if j < 4 then .int .u64 ((limb j T.1 : Nat) : Int) else if j < 8 then .int .u64 ((limb (j - 4) T.2.1 : Nat) : Int) else .bool T.2.2
theorem pC_cells (X Y : Nat) (I : Bool) : pC (X, Y, I) 0 = .int .u64 (limb 0 X) ∧ pC (X, Y, I) 1 = .int .u64 (limb 1 X) ∧ pC (X, Y, I) 2 = .int .u64 (limb 2 X) ∧ pC (X, Y, I) 3 = .int .u64 (limb 3 X) ∧ pC (X, Y, I) 4 = .int .u64 (limb 0 Y) ∧ pC (X, Y, I) 5 = .int .u64 (limb 1 Y) ∧ pC (X, Y, I) 6 = .int .u64 (limb 2 Y) ∧ pC (X, Y, I) 7 = .int .u64 (limb 3 Y) ∧ pC (X, Y, I) 8 = .bool I := by
 simp [pC]
def parV (C K : Int) (g : Value) (A B : Nat × Nat × Bool) : Value := .agg #[.int .i64 C, .int .i64 K, g, .int .u64 (limb 0 A.1), .int .u64 (limb 1 A.1), .int .u64 (limb 2 A.1), .int .u64 (limb 3 A.1), .int .u64 (limb 0 A.2.1), .int .u64 (limb 1 A.2.1), .int .u64 (limb 2 A.2.1), .int .u64 (limb 3 A.2.1), .bool A.2.2, .int .u64 (limb 0 B.1), .int .u64 (limb 1 B.1), .int .u64 (limb 2 B.1), .int .u64 (limb 3 B.1), .int .u64 (limb 0 B.2.1), .int .u64 (limb 1 B.2.1), .int .u64 (limb 2 B.2.1), .int .u64 (limb 3 B.2.1), .bool B.2.2]
theorem pointInfo : ∃ i : TypeInfo, Tryz.prog.info? 27 = some i ∧ i.zero = some (.agg #[.int .u64 0, .int .u64 0, .int .u64 0, .int .u64 0, .int .u64 0, .int .u64 0, .int .u64 0, .int .u64 0, .bool false]) ∧ i.size = 9 ∧ i.bytes = 72 := by
 have h : (Tryz.prog.info? 27).map (fun i => (i.zero, i.size, i.bytes)) = some (some (.agg #[.int .u64 0, .int .u64 0, .int .u64 0, .int .u64 0, .int .u64 0, .int .u64 0, .int .u64 0, .int .u64 0, .bool false]), 9, 72) := by kernel_rfl
 obtain ⟨i, hi, he⟩ := Option.map_eq_some_iff.mp h
 simp only [Prod.mk.injEq] at he
 exact ⟨i, hi, he.1, he.2.1, he.2.2⟩
theorem neqP_self9 (x y : Nat) (i : Bool) (hx : x < mM) (hy : y < mM) (w : World) : (binOp .neq 27 (.agg #[.int .u64 (limb 0 x), .int .u64 (limb 1 x), .int .u64 (limb 2 x), .int .u64 (limb 3 x), .int .u64 (limb 0 y), .int .u64 (limb 1 y), .int .u64 (limb 2 y), .int .u64 (limb 3 y), .bool i]) (.agg #[.int .u64 (limb 0 x), .int .u64 (limb 1 x), .int .u64 (limb 2 x), .int .u64 (limb 3 x), .int .u64 (limb 0 y), .int .u64 (limb 1 y), .int .u64 (limb 2 y), .int .u64 (limb 3 y), .bool i])).run Tryz.prog w = .ok (.bool false) w := by
 rw [run_neq_struct, eqP_in x y x y i i hx hy hx hy, decide_eq_true (⟨rfl, rfl, rfl⟩ : x = x ∧ y = y ∧ i = i)]; rfl
def prs (T : Nat → Nat × Nat × Bool) (n : Nat) : List Value := (List.range (n * 9)).map (fun t => pC (T (t / 9)) (t % 9))
theorem prs_len (T : Nat → Nat × Nat × Bool) (n : Nat) : (prs T n).length = n * 9 := by simp [prs]
theorem prs_get (T : Nat → Nat × Nat × Bool) (n i j : Nat) (hi : i < n) (hj : j < 9) : (prs T n)[i * 9 + j]? = some (pC (T i) j) := by
 unfold prs
 rw [List.getElem?_map, List.getElem?_range (by omega)]
 show some _ = _
 dsimp only
 rw [show (i * 9 + j) % 9 = j from by omega, show (i * 9 + j) / 9 = i from by omega]
theorem prs_add (T U : Nat → Nat × Nat × Bool) (n m : Nat) : prs T n ++ prs U m = prs (fun i => if i < n then T i else U (i - n)) (n + m) := by
 apply List.ext_getElem?
 intro t
 by_cases h1 : t < n * 9
 ·rw [List.getElem?_append_left (by rw [prs_len]; exact h1)]
  have e : t = t / 9 * 9 + t % 9 := by omega
  rw [e, prs_get T n _ _ (by omega) (by omega), prs_get _ (n + m) _ _ (by omega) (by omega)]
  rw [if_pos (by omega)]
 ·rw [List.getElem?_append_right (by rw [prs_len]; omega), prs_len]
  by_cases h2 : t < (n + m) * 9
  ·have e : t - n * 9 = (t - n * 9) / 9 * 9 + (t - n * 9) % 9 := by omega
   have e2 : t = t / 9 * 9 + t % 9 := by omega
   rw [e, prs_get U m _ _ (by omega) (by omega)]
   conv => rhs; rw [e2]
   rw [prs_get _ (n + m) _ _ (by omega) (by omega), if_neg (by omega)]
   rw [show (t - n * 9) / 9 = t / 9 - n from by omega, show (t - n * 9) % 9 = t % 9 from by omega]
  ·rw [List.getElem?_eq_none (by rw [prs_len]; omega), List.getElem?_eq_none (by rw [prs_len]; omega)]
theorem pC_one (X : Nat × Nat × Bool) (j : Nat) : (pC X j).oneCell' = true := by
 unfold pC
 split
 ·rfl
 ·split
  ·rfl
  ·rfl
theorem prs_one (T : Nat → Nat × Nat × Bool) (n : Nat) : ∀ u ∈ prs T n, u.oneCell' = true := by
 intro u hu
 unfold prs at hu
 obtain ⟨i, _, rfl⟩ := List.mem_map.mp hu
 exact pC_one _ _
theorem prs_cells (T : Nat → Nat × Nat × Bool) (n a oa : Nat) (w w' : World) (hb : Below w.heap.size w w') (ha : a < w.heap.size) (hc : ∀ i, i < n → ∀ j, j < 9 → w.cell? ⟨a, oa + i * 9 + j, none⟩ = some (pC (T i) j)) (j : Nat) (u : Value) (hj : (prs T n)[j]? = some u) : w'.cell? ((⟨a, oa, none⟩ : Addr).add j) = some u := by
 have hjn : j < n * 9 := by
  rcases Nat.lt_or_ge j (n * 9) with h | h
  ·exact h
  ·rw [List.getElem?_eq_none (by rw [prs_len]; exact h)] at hj; cases hj
 have e := prs_get T n (j / 9) (j % 9) (by omega) (by omega)
 rw [show j / 9 * 9 + j % 9 = j from by omega, hj] at e
 cases e
 have hadd : (⟨a, oa, none⟩ : Addr).add j = ⟨a, oa + j / 9 * 9 + j % 9, none⟩ := by
  have e2 : oa + j / 9 * 9 + j % 9 = oa + j := by omega
  rw [e2]; unfold Addr.add; split <;> simp_all
 rw [hadd, hb.cell (p := ⟨a, oa + j / 9 * 9 + j % 9, none⟩) ha]
 exact hc (j / 9) (by omega) (j % 9) (by omega)
theorem new_blockQ (w : World) (o : Obj) : (w.alloc o).heap[w.heap.size]? = some o := by
 show (w.heap.push o)[w.heap.size]? = _; simp
theorem own_newQ (w : World) (t : TypeId) (s : Nat) : (w.alloc (.cells #[] t)).ownsRow w.heap.size t s (.slice (some ⟨w.heap.size, 0, none⟩) 0 0) 0 [] :=
 ⟨by simp, Or.inr ⟨w.heap.size, 0, #[], rfl, Nat.le_refl _, new_blockQ _ _, Nat.le_refl _, by decide, by simp, by simp⟩⟩
theorem own_geQ {w : World} {base : Nat} {e : TypeId} {size : Nat} {v : Value} {n : Nat} {xs : List Value} (h : w.ownsRow base e size v n xs) {j : Nat} (hj : v.ownBlock = some j) : base ≤ j := by
 obtain ⟨_, h⟩ := h
 rcases h with ⟨rfl, _⟩ | ⟨g, c, cur, rfl, hb, _⟩
 ·simp [Value.ownBlock] at hj
 ·simp [Value.ownBlock] at hj; omega
theorem own_Ps {w : World} {base n : Nat} {v : Value} {T : Nat → Nat × Nat × Bool} (h : w.ownsRow base 27 9 v n (prs T n)) : Rs w v 9 n (fun i => pC (T i)) := by
 obtain ⟨_, h⟩ := h
 rcases h with ⟨rfl, h0⟩ | ⟨g, c, cur, rfl, hb, hg, hc, hm, hs, ht⟩
 ·exact Or.inl ⟨rfl, h0⟩
 ·refine Or.inr ⟨g, 0, c, rfl, hc, hm, ?_, fun i hi j hj => ?_⟩
  ·rcases Nat.lt_or_ge g w.heap.size with hl | hl
   ·exact hl
   ·rw [Array.getElem?_eq_none hl] at hg; cases hg
  ·have h1 : cur[i * 9 + j]? = (prs T n)[i * 9 + j]? := by rw [← ht, List.getElem?_take_of_lt (by omega), Array.getElem?_toList]
   rw [prs_get T n i j hi hj] at h1
   rw [Nat.zero_add]
   simp [World.cell?, hg, h1]
set_option maxRecDepth 20000 in
theorem copyP_some (n cn a oa : Nat) (T : Nat → Nat × Nat × Bool) (hn : n ≤ 1000000) (w : World) (ha : a < w.heap.size) (hc : ∀ i, i < n → ∀ j, j < 9 → w.cell? ⟨a, oa + i * 9 + j, none⟩ = some (pC (T i) j)) :
  Calls Tryz.prog 21 #[.slice (some ⟨a, oa, none⟩) n cn] w fun e w' => ∃ v, e = .returned v ∧ w'.ownsRow w.heap.size 27 9 v n (prs T n) ∧ Below w.heap.size w w' := by
 obtain ⟨i0, hi, hz0, hz1, hz2⟩ := pointInfo
 have HI := (show Hid _ from hi); have HZ := (show Hid _ from And.intro hz0 (And.intro hz1 hz2)); clear hi hz0 hz1 hz2
 have HC := (show Hid _ from hc); clear hc
 have HO : Hid ((w.alloc (.cells #[] 27)).ownsRow w.heap.size 27 9 (.slice (some ⟨w.heap.size, 0, none⟩) 0 0) 0 []) := own_newQ w 27 9
 go_enter Tryz.func21, Tryz.ntmps21
 go_wp2_with (first
  | (at_builtin; refine wpList_append_own _ rfl _ _ 22 rfl w.heap.size 27 i0 (.agg #[.int .u64 0, .int .u64 0, .int .u64 0, .int .u64 0, .int .u64 0, .int .u64 0, .int .u64 0, .int .u64 0, .bool false]) 9 72 Tryz.underlying22 HI.out HZ.out.1 HZ.out.2.1 HZ.out.2.2 rfl (by decide) _ _ _ rfl HO.out ⟨a, oa, none⟩ n cn (prs T n) rfl ?c0 ?c1 ?c2 ?c3 ?c4 ?c5 ?_)
  | go_in)
 case c0 => exact prs_len T n
 case c1 =>
  intro j u hj
  have hb : Below w.heap.size w (w.alloc (.cells #[] 27)) := (Below.refl _ _).alloc (Nat.le_refl _) _
  exact prs_cells T n a oa w _ hb ha HC.out j u hj
 case c2 => exact prs_one T n
 case c3 => unfold maxLen; omega
 case c4 => omega
 case c5 => simp
 intro v' w2 hown' hgrow _
 go_wp2
 go_ret
 refine ⟨_, rfl, ?_, ?_⟩
 ·exact hown'
 ·exact ((Below.refl _ w).alloc (Nat.le_refl _) _).grown hgrow (by simp) (fun j hj => own_geQ HO.out hj)
theorem copyP_nil (w : World) :
  Calls Tryz.prog 21 #[.slice none 0 0] w fun e w' => ∃ v, e = .returned v ∧ w'.ownsRow w.heap.size 27 9 v 0 [] ∧ Below w.heap.size w w' := by
 obtain ⟨i0, hi, _, hz1, _⟩ := pointInfo
 have HI := (show Hid _ from hi); clear hi
 have HO : Hid ((w.alloc (.cells #[] 27)).ownsRow w.heap.size 27 9 (.slice (some ⟨w.heap.size, 0, none⟩) 0 0) 0 []) := own_newQ w 27 9
 go_enter Tryz.func21, Tryz.ntmps21
 go_wp2_with (first
  | (at_builtin; refine wpList_append_own_none rfl _ _ 22 rfl w.heap.size 27 i0 9 Tryz.underlying22 HI.out _ _ _ rfl HO.out rfl ?_)
  | go_in)
 go_wp2
 go_ret
 exact ⟨_, rfl, HO.out, (Below.refl _ w).alloc (Nat.le_refl _) _⟩
theorem copyP_any (n : Nat) (v : Value) (T : Nat → Nat × Nat × Bool) (hn : n ≤ 1000000) (w : World) (h : Rs w v 9 n (fun i => pC (T i))) :
  Calls Tryz.prog 21 #[v] w fun e w' => ∃ v', e = .returned v' ∧ w'.ownsRow w.heap.size 27 9 v' n (prs T n) ∧ Below w.heap.size w w' := by
 rcases h with ⟨rfl, rfl⟩ | ⟨b, o, c, rfl, _, _, hb, hc⟩
 ·exact copyP_nil w
 ·exact copyP_some n c b o T hn w hb hc
set_option maxRecDepth 20000 in
theorem sameP_some (n cn cm a oa b ob : Nat) (T : Nat → Nat × Nat × Bool) (hn : n ≤ 1000000) (hf : ∀ i, i < n → (T i).1 < mM ∧ (T i).2.1 < mM) (w : World) (ha : ∀ i, i < n → ∀ j, j < 9 → w.cell? ⟨a, oa + i * 9 + j, none⟩ = some (pC (T i) j)) (hb : ∀ i, i < n → ∀ j, j < 9 → w.cell? ⟨b, ob + i * 9 + j, none⟩ = some (pC (T i) j)) :
  Calls Tryz.prog 25 #[.slice (some ⟨a, oa, none⟩) n cn, .slice (some ⟨b, ob, none⟩) n cm] w fun e w' => e = .returned (.bool true) ∧ ∃ k, w' = w.drewN k := by
 have HA := (show Hid _ from ha); have HB := (show Hid _ from hb); have HF := (show Hid _ from hf)
 clear ha hb hf
 go_enter Tryz.func25, Tryz.ntmps25
 go_wp2
 go_loopw [5] (fun i wr => ∃ k : Nat, i = .int .i64 (k : Int) ∧ k ≤ n ∧ ∃ d, wr = w.drewN d) (fun i _ => n - (intOf i).toNat)
 case atStart => exact ⟨0, rfl, by omega, 0, rfl⟩
 case round =>
  obtain ⟨k, rfl, hk, d, rfl⟩ := hrel
  by_cases hlt : k < n
  ·have hki : (k : Int) < (n : Int) := by omega
   have hTE : ∃ X Y I, T k = (X, Y, I) := ⟨_, _, _, rfl⟩
   obtain ⟨X, Y, I, hE⟩ := hTE
   have ca := HA.out k hlt; have cb := HB.out k hlt
   have hM := HF.out k hlt
   rw [hE] at ca cb hM
   have QT := fun w => neqP_self9 X Y I hM.1 hM.2 w
   clear hE hM
   obtain ⟨t0, t1, t2, t3, t4, t5, t6, t7, t8⟩ := pC_cells X Y I
   have a0 := ca 0 (by decide); have b0 := cb 0 (by decide)
   rw [t0] at a0 b0
   have a1 := ca 1 (by decide); have b1 := cb 1 (by decide)
   rw [t1] at a1 b1
   have a2 := ca 2 (by decide); have b2 := cb 2 (by decide)
   rw [t2] at a2 b2
   have a3 := ca 3 (by decide); have b3 := cb 3 (by decide)
   rw [t3] at a3 b3
   have a4 := ca 4 (by decide); have b4 := cb 4 (by decide)
   rw [t4] at a4 b4
   have a5 := ca 5 (by decide); have b5 := cb 5 (by decide)
   rw [t5] at a5 b5
   have a6 := ca 6 (by decide); have b6 := cb 6 (by decide)
   rw [t6] at a6 b6
   have a7 := ca 7 (by decide); have b7 := cb 7 (by decide)
   rw [t7] at a7 b7
   have a8 := ca 8 (by decide); have b8 := cb 8 (by decide)
   rw [t8] at a8 b8
   clear ca cb t0 t1 t2 t3 t4 t5 t6 t7 t8
   rw [Nat.add_zero] at a0 b0
   go_wp2_with fail
   go_quiet (fail)
   go_wp2
   go_roundw
   case measure => simp [intOf]; omega
   case rel => exact ⟨k + 1, by go_num, by omega, _, rfl⟩
  ·have hki : ¬ (k : Int) < (n : Int) := by omega
   clear hlt
   go_wp2
   go_ret
   exact ⟨rfl, d, rfl⟩
theorem Below.drewN9 (w : World) (k : Nat) : Below w.heap.size w (w.drewN k) := by
 induction k with
 | zero => exact Below.refl _ _
 | succ k ih => exact ih.drew
theorem sameP_empty (v u : Value) (w : World) (hv : ∃ oa c, v = .slice oa 0 c) (hu : ∃ ob c, u = .slice ob 0 c) : Calls Tryz.prog 25 #[v, u] w fun e w' => e = .returned (.bool true) ∧ w' = w := by
 obtain ⟨oa, c, rfl⟩ := hv
 obtain ⟨ob, c', rfl⟩ := hu
 go_enter Tryz.func25, Tryz.ntmps25
 go_wp2
 go_loop [5] (fun i => i = .int .i64 0) (fun _ => 0)
 case atStart => rfl
 case round =>
  subst hrel
  go_wp2
  go_ret
  exact ⟨rfl, rfl⟩
theorem sameP_self (v u : Value) (n : Nat) (T : Nat → Nat × Nat × Bool) (hn : n ≤ 1000000) (hf : ∀ i, i < n → (T i).1 < mM ∧ (T i).2.1 < mM) (w : World) (hv : Rs w v 9 n (fun i => pC (T i))) (hu : Rs w u 9 n (fun i => pC (T i))) :
  Calls Tryz.prog 25 #[v, u] w fun e w' => e = .returned (.bool true) ∧ Below w.heap.size w w' := by
 by_cases h0 : n = 0
 ·subst h0
  refine (sameP_empty v u w hv.shape hu.shape).mono ?_
  rintro e w' ⟨rfl, rfl⟩
  exact ⟨rfl, Below.refl _ _⟩
 ·rcases hv with ⟨_, h⟩ | ⟨a, oa, ca, rfl, _, _, _, ha⟩
  ·exact absurd h h0
  ·rcases hu with ⟨_, h⟩ | ⟨b, ob, cb, rfl, _, _, _, hb⟩
   ·exact absurd h h0
   ·refine (sameP_some n ca cb a oa b ob T hn hf w ha hb).mono ?_
    rintro e w' ⟨rfl, k, rfl⟩
    exact ⟨rfl, Below.drewN9 w k⟩
end Go.Proofs.YtdeijnlbencfdaaGreatDoor
