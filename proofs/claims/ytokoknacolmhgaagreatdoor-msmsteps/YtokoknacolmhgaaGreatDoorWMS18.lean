import Derived.Test.YtokoknacolmhgaaGreatDoorWSC
import Derived.Test.YtokoknacolmhgaaGreatDoorWK1
import Derived.LoopN
import Derived.Deep.QuietTactic
import Derived.BigQuiet
import Derived.Deep.Draws
import Derived.OwnWalk
import Derived.Laws.AppendOwnNone
set_option maxHeartbeats 4000000
namespace Go.Proofs.YtokoknacolmhgaaGreatDoor
open Go.RowKit
def trs (T : Nat → Nat × Nat × Nat × Bool) (n : Nat) : List Value := (List.range (n * 13)).map (fun t => tC (T (t / 13)) (t % 13))
theorem trs_len (T : Nat → Nat × Nat × Nat × Bool) (n : Nat) : (trs T n).length = n * 13 := by simp [trs]
theorem trs_get (T : Nat → Nat × Nat × Nat × Bool) (n i j : Nat) (hi : i < n) (hj : j < 13) : (trs T n)[i * 13 + j]? = some (tC (T i) j) := by
 unfold trs
 rw [List.getElem?_map, List.getElem?_range (by omega)]
 show some _ = _
 dsimp only
 rw [show (i * 13 + j) % 13 = j from by omega, show (i * 13 + j) / 13 = i from by omega]
theorem trs_add (T U : Nat → Nat × Nat × Nat × Bool) (n m : Nat) : trs T n ++ trs U m = trs (fun i => if i < n then T i else U (i - n)) (n + m) := by
 apply List.ext_getElem?
 intro t
 by_cases h1 : t < n * 13
 ·rw [List.getElem?_append_left (by rw [trs_len]; exact h1)]
  have e : t = t / 13 * 13 + t % 13 := by omega
  rw [e, trs_get T n _ _ (by omega) (by omega), trs_get _ (n + m) _ _ (by omega) (by omega)]
  rw [if_pos (by omega)]
 ·rw [List.getElem?_append_right (by rw [trs_len]; omega), trs_len]
  by_cases h2 : t < (n + m) * 13
  ·have e : t - n * 13 = (t - n * 13) / 13 * 13 + (t - n * 13) % 13 := by omega
   have e2 : t = t / 13 * 13 + t % 13 := by omega
   rw [e, trs_get U m _ _ (by omega) (by omega)]
   conv => rhs; rw [e2]
   rw [trs_get _ (n + m) _ _ (by omega) (by omega), if_neg (by omega)]
   rw [show (t - n * 13) / 13 = t / 13 - n from by omega, show (t - n * 13) % 13 = t % 13 from by omega]
  ·rw [List.getElem?_eq_none (by rw [trs_len]; omega), List.getElem?_eq_none (by rw [trs_len]; omega)]
theorem trs_congr {T U : Nat → Nat × Nat × Nat × Bool} {n : Nat} (h : ∀ i, i < n → T i = U i) : trs T n = trs U n := by
 unfold trs
 apply List.map_congr_left
 intro i hi
 have : i < n * 13 := by simpa using hi
 rw [h (i / 13) (by omega)]
theorem tC_one (X : Nat × Nat × Nat × Bool) (j : Nat) : (tC X j).oneCell' = true := by
 unfold tC
 split
 ·rfl
 ·split
  ·rfl
  ·split <;> rfl
theorem trs_one (T : Nat → Nat × Nat × Nat × Bool) (n : Nat) : ∀ u ∈ trs T n, u.oneCell' = true := by
 intro u hu
 unfold trs at hu
 obtain ⟨i, _, rfl⟩ := List.mem_map.mp hu
 exact tC_one _ _
theorem trs_cells (T : Nat → Nat × Nat × Nat × Bool) (n a oa : Nat) (w w' : World) (hb : Below w.heap.size w w') (ha : a < w.heap.size) (hc : ∀ i, i < n → ∀ j, j < 13 → w.cell? ⟨a, oa + i * 13 + j, none⟩ = some (tC (T i) j)) (j : Nat) (u : Value) (hj : (trs T n)[j]? = some u) : w'.cell? ((⟨a, oa, none⟩ : Addr).add j) = some u := by
 have hjn : j < n * 13 := by
  rcases Nat.lt_or_ge j (n * 13) with h | h
  ·exact h
  ·rw [List.getElem?_eq_none (by rw [trs_len]; exact h)] at hj; cases hj
 have e := trs_get T n (j / 13) (j % 13) (by omega) (by omega)
 rw [show j / 13 * 13 + j % 13 = j from by omega, hj] at e
 cases e
 have hadd : (⟨a, oa, none⟩ : Addr).add j = ⟨a, oa + j / 13 * 13 + j % 13, none⟩ := by
  have e2 : oa + j / 13 * 13 + j % 13 = oa + j := by omega
  rw [e2]; unfold Addr.add; split <;> simp_all
 rw [hadd, hb.cell (p := ⟨a, oa + j / 13 * 13 + j % 13, none⟩) ha]
 exact hc (j / 13) (by omega) (j % 13) (by omega)
theorem new_blockT (w : World) (o : Obj) : (w.alloc o).heap[w.heap.size]? = some o := by
 show (w.heap.push o)[w.heap.size]? = _; simp
theorem own_new (w : World) (t : TypeId) (s : Nat) : (w.alloc (.cells #[] t)).ownsRow w.heap.size t s (.slice (some ⟨w.heap.size, 0, none⟩) 0 0) 0 [] :=
 ⟨by simp, Or.inr ⟨w.heap.size, 0, #[], rfl, Nat.le_refl _, new_blockT _ _, Nat.le_refl _, by decide, by simp, by simp⟩⟩
theorem own_ge {w : World} {base : Nat} {e : TypeId} {size : Nat} {v : Value} {n : Nat} {xs : List Value} (h : w.ownsRow base e size v n xs) {j : Nat} (hj : v.ownBlock = some j) : base ≤ j := by
 obtain ⟨_, h⟩ := h
 rcases h with ⟨rfl, _⟩ | ⟨g, c, cur, rfl, hb, _⟩
 ·simp [Value.ownBlock] at hj
 ·simp [Value.ownBlock] at hj; omega
theorem own_Rs {w : World} {base n : Nat} {v : Value} {T : Nat → Nat × Nat × Nat × Bool} (h : w.ownsRow base 43 13 v n (trs T n)) : Rs w v 13 n (fun i => tC (T i)) := by
 obtain ⟨_, h⟩ := h
 rcases h with ⟨rfl, h0⟩ | ⟨g, c, cur, rfl, hb, hg, hc, hm, hs, ht⟩
 ·exact Or.inl ⟨rfl, h0⟩
 ·refine Or.inr ⟨g, 0, c, rfl, hc, hm, ?_, fun i hi j hj => ?_⟩
  ·rcases Nat.lt_or_ge g w.heap.size with hl | hl
   ·exact hl
   ·rw [Array.getElem?_eq_none hl] at hg; cases hg
  ·have h1 : cur[i * 13 + j]? = (trs T n)[i * 13 + j]? := by rw [← ht, List.getElem?_take_of_lt (by omega), Array.getElem?_toList]
   rw [trs_get T n i j hi hj] at h1
   rw [Nat.zero_add]
   simp [World.cell?, hg, h1]
set_option maxRecDepth 20000 in
theorem copyT_some (n cn a oa : Nat) (T : Nat → Nat × Nat × Nat × Bool) (hn : n ≤ 1000000) (w : World) (ha : a < w.heap.size) (hc : ∀ i, i < n → ∀ j, j < 13 → w.cell? ⟨a, oa + i * 13 + j, none⟩ = some (tC (T i) j)) :
  Calls Tryz.prog 10 #[.slice (some ⟨a, oa, none⟩) n cn] w fun e w' => ∃ v, e = .returned v ∧ w'.ownsRow w.heap.size 43 13 v n (trs T n) ∧ Below w.heap.size w w' := by
 obtain ⟨i0, hi, hz0, hz1, hz2⟩ := termInfo
 have HI := (show Hid _ from hi); have HZ := (show Hid _ from And.intro hz0 (And.intro hz1 hz2)); clear hi hz0 hz1 hz2
 have HC := (show Hid _ from hc); clear hc
 have HO : Hid ((w.alloc (.cells #[] 43)).ownsRow w.heap.size 43 13 (.slice (some ⟨w.heap.size, 0, none⟩) 0 0) 0 []) := own_new w 43 13
 go_enter Tryz.func10, Tryz.ntmps10
 go_wp2_with (first
  | (at_builtin; refine wpList_append_own _ rfl _ _ 22 rfl w.heap.size 43 i0 (.agg #[.int .u64 0, .int .u64 0, .int .u64 0, .int .u64 0, .int .u64 0, .int .u64 0, .int .u64 0, .int .u64 0, .int .u64 0, .int .u64 0, .int .u64 0, .int .u64 0, .bool false]) 13 104 Tryz.underlying22 HI.out HZ.out.1 HZ.out.2.1 HZ.out.2.2 rfl (by decide) _ _ _ rfl HO.out ⟨a, oa, none⟩ n cn (trs T n) rfl ?c0 ?c1 ?c2 ?c3 ?c4 ?c5 ?_)
  | go_in)
 case c0 => exact trs_len T n
 case c1 =>
  intro j u hj
  have hb : Below w.heap.size w (w.alloc (.cells #[] 43)) := (Below.refl _ _).alloc (Nat.le_refl _) _
  exact trs_cells T n a oa w _ hb ha HC.out j u hj
 case c2 => exact trs_one T n
 case c3 => unfold maxLen; omega
 case c4 => omega
 case c5 => simp
 intro v' w2 hown' hgrow _
 go_wp2
 go_ret
 refine ⟨_, rfl, ?_, ?_⟩
 ·exact hown'
 ·exact ((Below.refl _ w).alloc (Nat.le_refl _) _).grown hgrow (by simp) (fun j hj => own_ge HO.out hj)
theorem copyT_nil (w : World) :
  Calls Tryz.prog 10 #[.slice none 0 0] w fun e w' => ∃ v, e = .returned v ∧ w'.ownsRow w.heap.size 43 13 v 0 [] ∧ Below w.heap.size w w' := by
 obtain ⟨i0, hi, _, hz1, _⟩ := termInfo
 have HI := (show Hid _ from hi); clear hi
 have HO : Hid ((w.alloc (.cells #[] 43)).ownsRow w.heap.size 43 13 (.slice (some ⟨w.heap.size, 0, none⟩) 0 0) 0 []) := own_new w 43 13
 go_enter Tryz.func10, Tryz.ntmps10
 go_wp2_with (first
  | (at_builtin; refine wpList_append_own_none rfl _ _ 22 rfl w.heap.size 43 i0 13 Tryz.underlying22 HI.out _ _ _ rfl HO.out rfl ?_)
  | go_in)
 go_wp2
 go_ret
 exact ⟨_, rfl, HO.out, (Below.refl _ w).alloc (Nat.le_refl _) _⟩
theorem copyT_any (n : Nat) (v : Value) (T : Nat → Nat × Nat × Nat × Bool) (hn : n ≤ 1000000) (w : World) (h : Rs w v 13 n (fun i => tC (T i))) :
  Calls Tryz.prog 10 #[v] w fun e w' => ∃ v', e = .returned v' ∧ w'.ownsRow w.heap.size 43 13 v' n (trs T n) ∧ Below w.heap.size w w' := by
 rcases h with ⟨rfl, rfl⟩ | ⟨b, o, c, rfl, _, _, hb, hc⟩
 ·exact copyT_nil w
 ·exact copyT_some n c b o T hn w hb hc
set_option maxRecDepth 20000 in
theorem cloneT_some (n cn a oa : Nat) (T : Nat → Nat × Nat × Nat × Bool) (hn : n ≤ 1000000) (w : World) (ha : a < w.heap.size) (hc : ∀ i, i < n → ∀ j, j < 13 → w.cell? ⟨a, oa + i * 13 + j, none⟩ = some (tC (T i) j)) :
  Calls Tryz.prog 41 #[.slice (some ⟨a, oa, none⟩) n cn] w fun e w' => ∃ v, e = .returned v ∧ w'.ownsRow w.heap.size 43 13 v n (trs T n) ∧ Below w.heap.size w w' := by
 obtain ⟨i0, hi, hz0, hz1, hz2⟩ := termInfo
 have HI := (show Hid _ from hi); have HZ := (show Hid _ from And.intro hz0 (And.intro hz1 hz2)); clear hi hz0 hz1 hz2
 have HC := (show Hid _ from hc); clear hc
 have HO : Hid ((w.alloc (.cells #[] 43)).ownsRow w.heap.size 43 13 (.slice (some ⟨w.heap.size, 0, none⟩) 0 0) 0 []) := own_new w 43 13
 have EQ : (binOp .eql 22 (.slice (some ⟨a, oa, none⟩) n cn) (.slice none 0 0)).run Tryz.prog w = .ok (.bool false) w := by
  rw [Lib.run_eql_slice_nil w 22 43 (some ⟨a, oa, none⟩) n cn 0 0 Tryz.underlying22]; rfl
 go_enter Tryz.func41, Tryz.ntmps41
 go_wp2_with (first
  | (at_builtin; refine wpList_append_own _ rfl _ _ 22 rfl w.heap.size 43 i0 (.agg #[.int .u64 0, .int .u64 0, .int .u64 0, .int .u64 0, .int .u64 0, .int .u64 0, .int .u64 0, .int .u64 0, .int .u64 0, .int .u64 0, .int .u64 0, .int .u64 0, .bool false]) 13 104 Tryz.underlying22 HI.out HZ.out.1 HZ.out.2.1 HZ.out.2.2 rfl (by decide) _ _ _ rfl HO.out ⟨a, oa, none⟩ n cn (trs T n) rfl ?c0 ?c1 ?c2 ?c3 ?c4 ?c5 ?_)
  | go_in)
 case c0 => exact trs_len T n
 case c1 =>
  intro j u hj
  have hb : Below w.heap.size w (w.alloc (.cells #[] 43)) := (Below.refl _ _).alloc (Nat.le_refl _) _
  exact trs_cells T n a oa w _ hb ha HC.out j u hj
 case c2 => exact trs_one T n
 case c3 => unfold maxLen; omega
 case c4 => omega
 case c5 => simp
 intro v' w2 hown' hgrow _
 go_wp2
 go_ret
 refine ⟨_, rfl, ?_, ?_⟩
 ·exact hown'
 ·exact ((Below.refl _ w).alloc (Nat.le_refl _) _).grown hgrow (by simp) (fun j hj => own_ge HO.out hj)
theorem cloneT_nil (w : World) :
  Calls Tryz.prog 41 #[.slice none 0 0] w fun e w' => ∃ v, e = .returned v ∧ w'.ownsRow w.heap.size 43 13 v 0 [] ∧ Below w.heap.size w w' := by
 have EQ : (binOp .eql 22 (.slice none 0 0) (.slice none 0 0)).run Tryz.prog w = .ok (.bool true) w := by
  rw [Lib.run_eql_slice_nil w 22 43 none 0 0 0 0 Tryz.underlying22]; rfl
 go_enter Tryz.func41, Tryz.ntmps41
 go_wp2
 go_ret
 exact ⟨_, rfl, ⟨rfl, Or.inl ⟨rfl, rfl⟩⟩, Below.refl _ _⟩
theorem cloneT_any (n : Nat) (v : Value) (T : Nat → Nat × Nat × Nat × Bool) (hn : n ≤ 1000000) (w : World) (h : Rs w v 13 n (fun i => tC (T i))) :
  Calls Tryz.prog 41 #[v] w fun e w' => ∃ v', e = .returned v' ∧ w'.ownsRow w.heap.size 43 13 v' n (trs T n) ∧ Below w.heap.size w w' := by
 rcases h with ⟨rfl, rfl⟩ | ⟨b, o, c, rfl, _, _, hb, hc⟩
 ·exact cloneT_nil w
 ·exact cloneT_some n c b o T hn w hb hc
theorem list2t {α : Type} (l : List α) (h : l.length = 2) : ∃ a b, l = [a, b] := by
 match l, h with
 | [a, b], _ => exact ⟨a, b, rfl⟩
theorem fieldsTm : ∃ n0 n1 : Field, (Tryz.prog.fieldsOf 43).toList = [n0, n1] ∧ n0.name ≠ "_" ∧ n1.name ≠ "_" ∧ n0.type = 28 ∧ n1.type = 30 ∧ n0.offset = 0 ∧ n1.offset = 4 := by
 have h : (Tryz.prog.fieldsOf 43).toList.map (fun f => (f.name, f.type, f.offset)) = [("K", 28, 0), ("P", 30, 4)] := by kernel_rfl
 have hlen : (Tryz.prog.fieldsOf 43).toList.length = 2 := by
  have := congrArg List.length h
  simpa using this
 obtain ⟨n0, n1, hl⟩ := list2t _ hlen
 rw [hl] at h ⊢
 simp only [List.map_cons, List.map_nil, List.cons.injEq, Prod.mk.injEq, and_true] at h
 obtain ⟨⟨a1, a2, a3⟩, ⟨b1, b2, b3⟩⟩ := h
 exact ⟨n0, n1, rfl, by rw [a1]; decide, by rw [b1]; decide, a2, b2, a3, b3⟩
theorem part13_at (k0 k1 k2 k3 x0 x1 x2 x3 y0 y1 y2 y3 : Int) (i : Bool) (w : World) :
  (part 28 #[.int .u64 k0, .int .u64 k1, .int .u64 k2, .int .u64 k3, .int .u64 x0, .int .u64 x1, .int .u64 x2, .int .u64 x3, .int .u64 y0, .int .u64 y1, .int .u64 y2, .int .u64 y3, .bool i] 0).run Tryz.prog w = .ok (.agg #[.int .u64 k0, .int .u64 k1, .int .u64 k2, .int .u64 k3]) w ∧
  (part 30 #[.int .u64 k0, .int .u64 k1, .int .u64 k2, .int .u64 k3, .int .u64 x0, .int .u64 x1, .int .u64 x2, .int .u64 x3, .int .u64 y0, .int .u64 y1, .int .u64 y2, .int .u64 y3, .bool i] 4).run Tryz.prog w = .ok (.agg #[.int .u64 x0, .int .u64 x1, .int .u64 x2, .int .u64 x3, .int .u64 y0, .int .u64 y1, .int .u64 y2, .int .u64 y3, .bool i]) w :=
 ⟨by kernel_rfl, by kernel_rfl⟩
theorem eqP_self (d x y : Nat) (i : Bool) (hx : x < 115792089237316195423570985008687907853269984665640564039457584007913129639936) (hy : y < 115792089237316195423570985008687907853269984665640564039457584007913129639936) (w : World) :
  (Op.equalIn (d + 3) 30 (.agg #[.int .u64 (limb 0 x), .int .u64 (limb 1 x), .int .u64 (limb 2 x), .int .u64 (limb 3 x), .int .u64 (limb 0 y), .int .u64 (limb 1 y), .int .u64 (limb 2 y), .int .u64 (limb 3 y), .bool i]) (.agg #[.int .u64 (limb 0 x), .int .u64 (limb 1 x), .int .u64 (limb 2 x), .int .u64 (limb 3 x), .int .u64 (limb 0 y), .int .u64 (limb 1 y), .int .u64 (limb 2 y), .int .u64 (limb 3 y), .bool i])).run Tryz.prog w = .ok true w := by
 obtain ⟨n0, n1, n2, hl, m0, m1, m2, t0, t1, t2, o0, o1, o2⟩ := fieldsPt
 rw [run_equalIn_struct w (d + 2) _ _ _ (by kernel_rfl) (by kernel_rfl), hl]
 obtain ⟨p0, p1, p2⟩ := part9_at (limb 0 x : Nat) (limb 1 x : Nat) (limb 2 x : Nat) (limb 3 x : Nat) (limb 0 y : Nat) (limb 1 y : Nat) (limb 2 y : Nat) (limb 3 y : Nat) i w
 have e1 := eq4N x x hx hx
 have e2 := eq4N y y hy hy
 rw [decide_eq_true rfl] at e1 e2
 have hq := eqE_in d
 have hb : (Op.equalIn (d + 2) 4 (.bool i) (.bool i)).run Tryz.prog w = .ok (i == i) w := run_equalIn_bool w (d + 1) 4 i i Tryz.underlying4
 simp only [Op.eqFields, m0, m1, m2, ne_eq, not_false_eq_true, if_true, t0, t1, t2, o0, o1, o2, Sem.run_bind, p0, hq, e1, Result.andThen_ok, Bool.not_true, Bool.false_eq_true, if_false, p1, e2, p2, hb]
 cases i <;> simp
theorem neqT_self (K X Y : Nat) (I : Bool) (hK : K < 115792089237316195423570985008687907853269984665640564039457584007913129639936) (hX : X < 115792089237316195423570985008687907853269984665640564039457584007913129639936) (hY : Y < 115792089237316195423570985008687907853269984665640564039457584007913129639936) (w : World) :
  (binOp .neq 43 (.agg #[.int .u64 (limb 0 K), .int .u64 (limb 1 K), .int .u64 (limb 2 K), .int .u64 (limb 3 K), .int .u64 (limb 0 X), .int .u64 (limb 1 X), .int .u64 (limb 2 X), .int .u64 (limb 3 X), .int .u64 (limb 0 Y), .int .u64 (limb 1 Y), .int .u64 (limb 2 Y), .int .u64 (limb 3 Y), .bool I]) (.agg #[.int .u64 (limb 0 K), .int .u64 (limb 1 K), .int .u64 (limb 2 K), .int .u64 (limb 3 K), .int .u64 (limb 0 X), .int .u64 (limb 1 X), .int .u64 (limb 2 X), .int .u64 (limb 3 X), .int .u64 (limb 0 Y), .int .u64 (limb 1 Y), .int .u64 (limb 2 Y), .int .u64 (limb 3 Y), .bool I])).run Tryz.prog w = .ok (.bool false) w := by
 have h : (Op.equalIn 10000 43 (.agg #[.int .u64 (limb 0 K), .int .u64 (limb 1 K), .int .u64 (limb 2 K), .int .u64 (limb 3 K), .int .u64 (limb 0 X), .int .u64 (limb 1 X), .int .u64 (limb 2 X), .int .u64 (limb 3 X), .int .u64 (limb 0 Y), .int .u64 (limb 1 Y), .int .u64 (limb 2 Y), .int .u64 (limb 3 Y), .bool I]) (.agg #[.int .u64 (limb 0 K), .int .u64 (limb 1 K), .int .u64 (limb 2 K), .int .u64 (limb 3 K), .int .u64 (limb 0 X), .int .u64 (limb 1 X), .int .u64 (limb 2 X), .int .u64 (limb 3 X), .int .u64 (limb 0 Y), .int .u64 (limb 1 Y), .int .u64 (limb 2 Y), .int .u64 (limb 3 Y), .bool I])).run Tryz.prog w = .ok true w := by
  obtain ⟨n0, n1, hl, m0, m1, t0, t1, o0, o1⟩ := fieldsTm
  rw [run_equalIn_struct w 9999 _ _ _ (by kernel_rfl) (by kernel_rfl), hl]
  obtain ⟨p0, p1⟩ := part13_at (limb 0 K : Nat) (limb 1 K : Nat) (limb 2 K : Nat) (limb 3 K : Nat) (limb 0 X : Nat) (limb 1 X : Nat) (limb 2 X : Nat) (limb 3 X : Nat) (limb 0 Y : Nat) (limb 1 Y : Nat) (limb 2 Y : Nat) (limb 3 Y : Nat) I w
  have e1 := eq4N K K hK hK
  rw [decide_eq_true rfl] at e1
  have hq := eqE_in 9997
  have hp := eqP_self 9996 X Y I hX hY w
  simp only [Op.eqFields, m0, m1, ne_eq, not_false_eq_true, if_true, t0, t1, o0, o1, Sem.run_bind, p0, hq, e1, Result.andThen_ok, Bool.not_true, Bool.false_eq_true, if_false, p1, hp]
  simp
 rw [run_neq_struct, h]; rfl
set_option maxRecDepth 20000 in
theorem sameT_some (n cn cm a oa b ob : Nat) (T : Nat → Nat × Nat × Nat × Bool) (hn : n ≤ 1000000) (hf : ∀ i, i < n → (T i).1 < 115792089237316195423570985008687907853269984665640564039457584007913129639936 ∧ (T i).2.1 < 115792089237316195423570985008687907853269984665640564039457584007913129639936 ∧ (T i).2.2.1 < 115792089237316195423570985008687907853269984665640564039457584007913129639936) (w : World) (ha : ∀ i, i < n → ∀ j, j < 13 → w.cell? ⟨a, oa + i * 13 + j, none⟩ = some (tC (T i) j)) (hb : ∀ i, i < n → ∀ j, j < 13 → w.cell? ⟨b, ob + i * 13 + j, none⟩ = some (tC (T i) j)) :
  Calls Tryz.prog 13 #[.slice (some ⟨a, oa, none⟩) n cn, .slice (some ⟨b, ob, none⟩) n cm] w fun e w' => e = .returned (.bool true) ∧ ∃ k, w' = w.drewN k := by
 have HA := (show Hid _ from ha); have HB := (show Hid _ from hb); have HF := (show Hid _ from hf)
 clear ha hb hf
 go_enter Tryz.func13, Tryz.ntmps13
 go_wp2
 go_loopw [5] (fun i wr => ∃ k : Nat, i = .int .i64 (k : Int) ∧ k ≤ n ∧ ∃ d, wr = w.drewN d) (fun i _ => n - (intOf i).toNat)
 case atStart => exact ⟨0, rfl, by omega, 0, rfl⟩
 case round =>
  obtain ⟨k, rfl, hk, d, rfl⟩ := hrel
  by_cases hlt : k < n
  ·have hki : (k : Int) < (n : Int) := by omega
   have hTE : ∃ K X Y I, T k = (K, X, Y, I) := ⟨_, _, _, _, rfl⟩
   obtain ⟨K, X, Y, I, hE⟩ := hTE
   have ca := HA.out k hlt; have cb := HB.out k hlt
   have hM := HF.out k hlt
   rw [hE] at ca cb hM
   have QT := fun w => neqT_self K X Y I hM.1 hM.2.1 hM.2.2 w
   clear hE hM
   obtain ⟨t0, t1, t2, t3, t4, t5, t6, t7, t8, t9, t10, t11, t12⟩ := tC_cells K X Y I
   have a0 := ca 0 (by decide); have b0 := cb 0 (by decide)
   rw [t0] at a0 b0
   have a1 := ca 1 (by decide); have b1 := cb 1 (by decide)
   rw [t1] at a1 b1
   have a2 := ca 2 (by decide); have b2 := cb 2 (by decide)
   rw [t2] at a2 b2
   have a3 := ca 3 (by decide); have b3 := cb 3 (by decide)
   rw [t3] at a3 b3
   have a4 := ca 4 (by decide); have b4 := cb 4 (by decide)
   rw [t4] at a4 b4
   have a5 := ca 5 (by decide); have b5 := cb 5 (by decide)
   rw [t5] at a5 b5
   have a6 := ca 6 (by decide); have b6 := cb 6 (by decide)
   rw [t6] at a6 b6
   have a7 := ca 7 (by decide); have b7 := cb 7 (by decide)
   rw [t7] at a7 b7
   have a8 := ca 8 (by decide); have b8 := cb 8 (by decide)
   rw [t8] at a8 b8
   have a9 := ca 9 (by decide); have b9 := cb 9 (by decide)
   rw [t9] at a9 b9
   have a10 := ca 10 (by decide); have b10 := cb 10 (by decide)
   rw [t10] at a10 b10
   have a11 := ca 11 (by decide); have b11 := cb 11 (by decide)
   rw [t11] at a11 b11
   have a12 := ca 12 (by decide); have b12 := cb 12 (by decide)
   rw [t12] at a12 b12
   clear ca cb t0 t1 t2 t3 t4 t5 t6 t7 t8 t9 t10 t11 t12
   rw [Nat.add_zero] at a0 b0
   go_wp2_with fail
   go_quiet (fail)
   go_wp2
   go_roundw
   case measure => simp [intOf]; omega
   case rel => exact ⟨k + 1, by go_num, by omega, _, rfl⟩
  ·have hki : ¬ (k : Int) < (n : Int) := by omega
   clear hlt
   go_wp2
   go_ret
   exact ⟨rfl, d, rfl⟩
theorem Below.drewN3 (w : World) (k : Nat) : Below w.heap.size w (w.drewN k) := by
 induction k with
 | zero => exact Below.refl _ _
 | succ k ih => exact ih.drew
theorem sameT_empty (v u : Value) (w : World) (hv : ∃ oa c, v = .slice oa 0 c) (hu : ∃ ob c, u = .slice ob 0 c) : Calls Tryz.prog 13 #[v, u] w fun e w' => e = .returned (.bool true) ∧ w' = w := by
 obtain ⟨oa, c, rfl⟩ := hv
 obtain ⟨ob, c', rfl⟩ := hu
 go_enter Tryz.func13, Tryz.ntmps13
 go_wp2
 go_loop [5] (fun i => i = .int .i64 0) (fun _ => 0)
 case atStart => rfl
 case round =>
  subst hrel
  go_wp2
  go_ret
  exact ⟨rfl, rfl⟩
theorem sameT_self (v u : Value) (n : Nat) (T : Nat → Nat × Nat × Nat × Bool) (hn : n ≤ 1000000) (hf : ∀ i, i < n → (T i).1 < 115792089237316195423570985008687907853269984665640564039457584007913129639936 ∧ (T i).2.1 < 115792089237316195423570985008687907853269984665640564039457584007913129639936 ∧ (T i).2.2.1 < 115792089237316195423570985008687907853269984665640564039457584007913129639936) (w : World) (hv : Rs w v 13 n (fun i => tC (T i))) (hu : Rs w u 13 n (fun i => tC (T i))) :
  Calls Tryz.prog 13 #[v, u] w fun e w' => e = .returned (.bool true) ∧ Below w.heap.size w w' := by
 by_cases h0 : n = 0
 ·subst h0
  refine (sameT_empty v u w hv.shape hu.shape).mono ?_
  rintro e w' ⟨rfl, rfl⟩
  exact ⟨rfl, Below.refl _ _⟩
 ·rcases hv with ⟨_, h⟩ | ⟨a, oa, ca, rfl, _, _, _, ha⟩
  ·exact absurd h h0
  ·rcases hu with ⟨_, h⟩ | ⟨b, ob, cb, rfl, _, _, _, hb⟩
   ·exact absurd h h0
   ·refine (sameT_some n ca cb a oa b ob T hn hf w ha hb).mono ?_
    rintro e w' ⟨rfl, k, rfl⟩
    exact ⟨rfl, Below.drewN3 w k⟩
end Go.Proofs.YtokoknacolmhgaaGreatDoor
