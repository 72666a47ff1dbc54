/- Lists of terms: copies, and whether they are the same. -/
import Derived.Test.YtmpgillbjnpahaaDoorQSC
import Derived.Test.YtmpgillbjnpahaaDoorQK1
import Derived.LoopN
import Derived.Deep.QuietTactic
import Derived.BigQuiet
import Derived.Deep.Draws
import Derived.OwnWalk
import Derived.Laws.AppendOwnNone
namespace Go.Proofs.YtmpgillbjnpahaaDoor
open Go.RowKit
/-- The cells of a list of terms. -/
def trs (T : Nat → Nat × Nat × Nat × Bool) (n : Nat) : List Value := (List.range (n * 13)).map (fun t => tC (T (t / 13)) (t % 13))
theorem trs_len (T : Nat → Nat × Nat × Nat × Bool) (n : Nat) : (trs T n).length = n * 13 := by simp [trs]
theorem trs_get (T : Nat → Nat × Nat × Nat × Bool) (n i j : Nat) (hi : i < n) (hj : j < 13) : (trs T n)[i * 13 + j]? = some (tC (T i) j) := by
 unfold trs
 rw [List.getElem?_map, List.getElem?_range (by omega)]
 show some _ = _
 dsimp only
 rw [show (i * 13 + j) % 13 = j from by omega, show (i * 13 + j) / 13 = i from by omega]
theorem trs_add (T U : Nat → Nat × Nat × Nat × Bool) (n m : Nat) : trs T n ++ trs U m = trs (fun i => if i < n then T i else U (i - n)) (n + m) := by
 apply List.ext_getElem?
 intro t
 by_cases h1 : t < n * 13
 ·rw [List.getElem?_append_left (by rw [trs_len]; exact h1)]
  have e : t = t / 13 * 13 + t % 13 := by omega
  rw [e, trs_get T n _ _ (by omega) (by omega), trs_get _ (n + m) _ _ (by omega) (by omega)]
  rw [if_pos (by omega)]
 ·rw [List.getElem?_append_right (by rw [trs_len]; omega), trs_len]
  by_cases h2 : t < (n + m) * 13
  ·have e : t - n * 13 = (t - n * 13) / 13 * 13 + (t - n * 13) % 13 := by omega
   have e2 : t = t / 13 * 13 + t % 13 := by omega
   rw [e, trs_get U m _ _ (by omega) (by omega)]
   conv => rhs; rw [e2]
   rw [trs_get _ (n + m) _ _ (by omega) (by omega), if_neg (by omega)]
   rw [show (t - n * 13) / 13 = t / 13 - n from by omega, show (t - n * 13) % 13 = t % 13 from by omega]
  ·rw [List.getElem?_eq_none (by rw [trs_len]; omega), List.getElem?_eq_none (by rw [trs_len]; omega)]
theorem trs_congr {T U : Nat → Nat × Nat × Nat × Bool} {n : Nat} (h : ∀ i, i < n → T i = U i) : trs T n = trs U n := by
 unfold trs
 apply List.map_congr_left
 intro i hi
 have : i < n * 13 := by simpa using hi
 rw [h (i / 13) (by omega)]
theorem tC_one (X : Nat × Nat × Nat × Bool) (j : Nat) : (tC X j).oneCell' = true := by
 unfold tC
 split
 ·rfl
 ·split
  ·rfl
  ·split <;> rfl
theorem trs_one (T : Nat → Nat × Nat × Nat × Bool) (n : Nat) : ∀ u ∈ trs T n, u.oneCell' = true := by
 intro u hu
 unfold trs at hu
 obtain ⟨i, _, rfl⟩ := List.mem_map.mp hu
 exact tC_one _ _
theorem trs_cells (T : Nat → Nat × Nat × Nat × Bool) (n a oa : Nat) (w w' : World) (hb : Below w.heap.size w w') (ha : a < w.heap.size) (hc : ∀ i, i < n → ∀ j, j < 13 → w.cell? ⟨a, oa + i * 13 + j, none⟩ = some (tC (T i) j)) (j : Nat) (u : Value) (hj : (trs T n)[j]? = some u) : w'.cell? ((⟨a, oa, none⟩ : Addr).add j) = some u := by
 have hjn : j < n * 13 := by
  rcases Nat.lt_or_ge j (n * 13) with h | h
  ·exact h
  ·rw [List.getElem?_eq_none (by rw [trs_len]; exact h)] at hj; cases hj
 have e := trs_get T n (j / 13) (j % 13) (by omega) (by omega)
 rw [show j / 13 * 13 + j % 13 = j from by omega, hj] at e
 cases e
 have hadd : (⟨a, oa, none⟩ : Addr).add j = ⟨a, oa + j / 13 * 13 + j % 13, none⟩ := by
  have e2 : oa + j / 13 * 13 + j % 13 = oa + j := by omega
  rw [e2]; unfold Addr.add; split <;> simp_all
 rw [hadd, hb.cell (p := ⟨a, oa + j / 13 * 13 + j % 13, none⟩) ha]
 exact hc (j / 13) (by omega) (j % 13) (by omega)
theorem new_blockT (w : World) (o : Obj) : (w.alloc o).heap[w.heap.size]? = some o := by
 show (w.heap.push o)[w.heap.size]? = _; simp
theorem own_new (w : World) (t : TypeId) (s : Nat) : (w.alloc (.cells #[] t)).ownsRow w.heap.size t s (.slice (some ⟨w.heap.size, 0, none⟩) 0 0) 0 [] :=
 ⟨by simp, Or.inr ⟨w.heap.size, 0, #[], rfl, Nat.le_refl _, new_blockT _ _, Nat.le_refl _, by decide, by simp, by simp⟩⟩
theorem own_ge {w : World} {base : Nat} {e : TypeId} {size : Nat} {v : Value} {n : Nat} {xs : List Value} (h : w.ownsRow base e size v n xs) {j : Nat} (hj : v.ownBlock = some j) : base ≤ j := by
 obtain ⟨_, h⟩ := h
 rcases h with ⟨rfl, _⟩ | ⟨g, c, cur, rfl, hb, _⟩
 ·simp [Value.ownBlock] at hj
 ·simp [Value.ownBlock] at hj; omega
/-- A list of the call's own, as terms. -/
theorem own_Rs {w : World} {base n : Nat} {v : Value} {T : Nat → Nat × Nat × Nat × Bool} (h : w.ownsRow base 30 13 v n (trs T n)) : Rs w v 13 n (fun i => tC (T i)) := by
 obtain ⟨_, h⟩ := h
 rcases h with ⟨rfl, h0⟩ | ⟨g, c, cur, rfl, hb, hg, hc, hm, hs, ht⟩
 ·exact Or.inl ⟨rfl, h0⟩
 ·refine Or.inr ⟨g, 0, c, rfl, hc, hm, ?_, fun i hi j hj => ?_⟩
  ·rcases Nat.lt_or_ge g w.heap.size with hl | hl
   ·exact hl
   ·rw [Array.getElem?_eq_none hl] at hg; cases hg
  ·have h1 : cur[i * 13 + j]? = (trs T n)[i * 13 + j]? := by rw [← ht, List.getElem?_take_of_lt (by omega), Array.getElem?_toList]
   rw [trs_get T n i j hi hj] at h1
   rw [Nat.zero_add]
   simp [World.cell?, hg, h1]
set_option maxHeartbeats 2000000 in
set_option maxRecDepth 20000 in
theorem copyT_some (n cn a oa : Nat) (T : Nat → Nat × Nat × Nat × Bool) (hn : n ≤ 1000000) (w : World) (ha : a < w.heap.size) (hc : ∀ i, i < n → ∀ j, j < 13 → w.cell? ⟨a, oa + i * 13 + j, none⟩ = some (tC (T i) j)) :
  Calls Tryd.prog 6 #[.slice (some ⟨a, oa, none⟩) n cn] w fun e w' => ∃ v, e = .returned v ∧ w'.ownsRow w.heap.size 30 13 v n (trs T n) ∧ Below w.heap.size w w' := by
 obtain ⟨i0, hi, hz0, hz1, hz2⟩ := termInfo
 have HI := (show Hid _ from hi); have HZ := (show Hid _ from And.intro hz0 (And.intro hz1 hz2)); clear hi hz0 hz1 hz2
 have HC := (show Hid _ from hc); clear hc
 have HO : Hid ((w.alloc (.cells #[] 30)).ownsRow w.heap.size 30 13 (.slice (some ⟨w.heap.size, 0, none⟩) 0 0) 0 []) := own_new w 30 13
 go_enter Tryd.func6, Tryd.ntmps6
 go_wp2_with (first
  | (at_builtin; refine wpList_append_own _ rfl _ _ 22 rfl w.heap.size 30 i0 (.agg #[.int .u64 0, .int .u64 0, .int .u64 0, .int .u64 0, .int .u64 0, .int .u64 0, .int .u64 0, .int .u64 0, .int .u64 0, .int .u64 0, .int .u64 0, .int .u64 0, .bool false]) 13 104 Tryd.underlying22 HI.out HZ.out.1 HZ.out.2.1 HZ.out.2.2 rfl (by decide) _ _ _ rfl HO.out ⟨a, oa, none⟩ n cn (trs T n) rfl ?c0 ?c1 ?c2 ?c3 ?c4 ?c5 ?_)
  | go_in)
 case c0 => exact trs_len T n
 case c1 =>
  intro j u hj
  have hb : Below w.heap.size w (w.alloc (.cells #[] 30)) := (Below.refl _ _).alloc (Nat.le_refl _) _
  exact trs_cells T n a oa w _ hb ha HC.out j u hj
 case c2 => exact trs_one T n
 case c3 => unfold maxLen; omega
 case c4 => omega
 case c5 => simp
 intro v' w2 hown' hgrow _
 go_wp2
 go_ret
 refine ⟨_, rfl, ?_, ?_⟩
 ·exact hown'
 ·exact ((Below.refl _ w).alloc (Nat.le_refl _) _).grown hgrow (by simp) (fun j hj => own_ge HO.out hj)
set_option maxHeartbeats 2000000 in
theorem copyT_nil (w : World) :
  Calls Tryd.prog 6 #[.slice none 0 0] w fun e w' => ∃ v, e = .returned v ∧ w'.ownsRow w.heap.size 30 13 v 0 [] ∧ Below w.heap.size w w' := by
 obtain ⟨i0, hi, _, hz1, _⟩ := termInfo
 have HI := (show Hid _ from hi); clear hi
 have HO : Hid ((w.alloc (.cells #[] 30)).ownsRow w.heap.size 30 13 (.slice (some ⟨w.heap.size, 0, none⟩) 0 0) 0 []) := own_new w 30 13
 go_enter Tryd.func6, Tryd.ntmps6
 go_wp2_with (first
  | (at_builtin; refine wpList_append_own_none rfl _ _ 22 rfl w.heap.size 30 i0 13 Tryd.underlying22 HI.out _ _ _ rfl HO.out rfl ?_)
  | go_in)
 go_wp2
 go_ret
 exact ⟨_, rfl, HO.out, (Below.refl _ w).alloc (Nat.le_refl _) _⟩
/-- copyTerms: the same terms in new memory. -/
theorem copyT_any (n : Nat) (v : Value) (T : Nat → Nat × Nat × Nat × Bool) (hn : n ≤ 1000000) (w : World) (h : Rs w v 13 n (fun i => tC (T i))) :
  Calls Tryd.prog 6 #[v] w fun e w' => ∃ v', e = .returned v' ∧ w'.ownsRow w.heap.size 30 13 v' n (trs T n) ∧ Below w.heap.size w w' := by
 rcases h with ⟨rfl, rfl⟩ | ⟨b, o, c, rfl, _, _, hb, hc⟩
 ·exact copyT_nil w
 ·exact copyT_some n c b o T hn w hb hc
theorem list2t {α : Type} (l : List α) (h : l.length = 2) : ∃ a b, l = [a, b] := by
 match l, h with
 | [a, b], _ => exact ⟨a, b, rfl⟩
theorem fieldsTm : ∃ n0 n1 : Field, (Tryd.prog.fieldsOf 30).toList = [n0, n1] ∧ n0.name ≠ "_" ∧ n1.name ≠ "_" ∧ n0.type = 26 ∧ n1.type = 28 ∧ n0.offset = 0 ∧ n1.offset = 4 := by
 have h : (Tryd.prog.fieldsOf 30).toList.map (fun f => (f.name, f.type, f.offset)) = [("K", 26, 0), ("P", 28, 4)] := by kernel_rfl
 have hlen : (Tryd.prog.fieldsOf 30).toList.length = 2 := by
  have := congrArg List.length h
  simpa using this
 obtain ⟨n0, n1, hl⟩ := list2t _ hlen
 rw [hl] at h ⊢
 simp only [List.map_cons, List.map_nil, List.cons.injEq, Prod.mk.injEq, and_true] at h
 obtain ⟨⟨a1, a2, a3⟩, ⟨b1, b2, b3⟩⟩ := h
 exact ⟨n0, n1, rfl, by rw [a1]; decide, by rw [b1]; decide, a2, b2, a3, b3⟩
end Go.Proofs.YtmpgillbjnpahaaDoor
