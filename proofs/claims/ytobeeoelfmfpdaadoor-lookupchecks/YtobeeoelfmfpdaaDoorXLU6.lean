/- slices.Delete of one element. -/
import Derived.Test.YtobeeoelfmfpdaaDoorXLU5
import Derived.Test.YtobeeoelfmfpdaaDoorXBE
import Derived.Laws.IdiomCopy
namespace Go.Proofs.YtobeeoelfmfpdaaDoor
open Go.RowKit
/-- append into the room of a block. -/
theorem wp_append_roomE {P : Program} (w : World) {o : Oper} {a : Act} {K : Act → World → Prop} {Q : Exit → Act → World → Prop} (s x : Operand) (t : TypeId)
    (ho : o.op = .call { callee := .builtin .append, args := #[s, x], argTypes := #[t, t] })
    (e : TypeId) (i : TypeInfo) (ht : P.underlying t = some (.slice e)) (hi : P.info? e = some i)
    (g sLen sCap : Nat) (cur : Array Value) (hg : w.heap[g]? = some (.cells cur e (0, 0))) (hs : a.eval s = .slice (some ⟨g, 0, none⟩) sLen sCap)
    (ad : Addr) (m c r : Nat) (news : List Value) (hx : a.eval x = .slice (some ad) m c) (hl : news.length = m * i.size) (hnews : ∀ j u, news[j]? = some u → w.cell? (ad.add j) = some u) (h1 : ∀ u ∈ news, u.oneCell' = true)
    (hroom : sLen + m ≤ sCap) (hfit : sLen * i.size + news.length ≤ cur.size) (hr : sLen + m = r)
    (h : K (a.put o.dst (.slice (some ⟨g, 0, none⟩) r sCap)) (w.setRow g (cur.toList.take (sLen * i.size) ++ news ++ cur.toList.drop (sLen * i.size + news.length)).toArray)) : o.wp P a w K Q := by
  subst hr
  have hrun := run_append_room (P := P) w t o.type e i ht hi g sLen sCap cur hg ad m c news hl hnews h1 hroom hfit
  unfold Oper.wp execOp
  simp only [ho, resolve, invoke, builtin, Sem.run_bind, Sem.run_pure, Result.andThen_ok, List.map_toArray, List.map_cons, List.map_nil, hs, hx, hrun]
  exact h
/-- clear of one element. -/
theorem run_clearE (w : World) (ty : TypeId) (b o c : Nat) (hc : ∀ j, j < 4 → (w.cell? ⟨b, o + j, none⟩).isSome = true) (hf : ∀ j, w.frozen? ⟨b, j, none⟩ = false) :
    (Builtin.clear_ #[25] ty #[.slice (some ⟨b, o, none⟩) 1 c]).run Tryd.prog w = .ok (.tuple #[]) (w.setCells b o [.int .u64 0, .int .u64 0, .int .u64 0, .int .u64 0]) := by
  have hz : (Builtin.zeroCells (Value.agg #[.int .u64 0, .int .u64 0, .int .u64 0, .int .u64 0]).cells 1).toList = [.int .u64 0, .int .u64 0, .int .u64 0, .int .u64 0] := by kernel_rfl
  have hst := run_storeCells_cells (P := Tryd.prog) b o [.int .u64 0, .int .u64 0, .int .u64 0, .int .u64 0] 0 w (by simpa using hc) (fun j _ => hf _) (by intro v hv; simp at hv; subst hv; rfl)
  simp only [Nat.add_zero] at hst
  have hv := fun w => Tryd.zeroValue24 w
  simp [Builtin.clear_, run_underlying (P := Tryd.prog) Tryd.underlying25, hv, hz, hst]
/-- A block's elements behind an append into its room. -/
theorem row_moved {w : World} {G N k m : Nat} {f : Nat → Nat} {cur : Array Value} (hg : w.heap[G]? = some (.cells cur 24)) (hs : cur.size = N * 4) (hf : ∀ i, i < N → ∀ j, j < 4 → cur[i * 4 + j]? = some (.int .u64 ((limb j (f i) : Nat) : Int)))
    (hk : k < m) (hm : m ≤ N) : BlkE (w.setRow G (cur.toList.take (k * 4) ++ els (fun i => f (k + 1 + i)) (m - (k + 1)) ++ cur.toList.drop (k * 4 + (els (fun i => f (k + 1 + i)) (m - (k + 1))).length)).toArray) G N (fun i => if i < k then f i else if i + 1 < m then f (i + 1) else f i) := by
  have hl := els_len (fun i => f (k + 1 + i)) (m - (k + 1))
  refine ⟨_, setRow_heap w G cur _ _ _ hg, ?_, fun i hi j hj => ?_⟩
  · simp only [List.size_toArray, List.length_append, List.length_take, List.length_drop, hl, Array.length_toList, hs]
    omega
  · have hcl : cur.toList.length = N * 4 := by rw [Array.length_toList, hs]
    rw [List.getElem?_toArray]
    dsimp only
    by_cases h1 : i < k
    · rw [if_pos h1, List.append_assoc, List.getElem?_append_left (by rw [List.length_take, hcl]; omega), List.getElem?_take_of_lt (by omega), Array.getElem?_toList]
      exact hf i hi j hj
    · rw [if_neg h1]
      by_cases h2 : i + 1 < m
      · rw [if_pos h2, List.append_assoc, List.getElem?_append_right (by rw [List.length_take, hcl]; omega), List.length_take, hcl, List.getElem?_append_left (by rw [hl]; omega)]
        rw [show i * 4 + j - min (k * 4) (N * 4) = (i - k) * 4 + j by omega, els_get _ _ (i - k) j (by omega) hj]
        rw [show k + 1 + (i - k) = i + 1 by omega]
      · rw [if_neg h2, List.getElem?_append_right (by rw [List.length_append, List.length_take, hcl, hl]; omega), List.length_append, List.length_take, hcl, hl, List.getElem?_drop, Array.getElem?_toList]
        rw [show k * 4 + (m - (k + 1)) * 4 + (i * 4 + j - (min (k * 4) (N * 4) + (m - (k + 1)) * 4)) = i * 4 + j by omega]
        exact hf i hi j hj
theorem setRow_kept (w : World) (G : Nat) (cs : Array Value) : Kept G w (w.setRow G cs) := by
  refine ⟨rfl, rfl, rfl, by simp [World.setRow], fun k hk hne => ?_⟩
  show (w.heap.modify G _)[k]? = _
  rw [Array.getElem?_modify, if_neg (fun e => hne e.symm)]
set_option maxHeartbeats 4000000 in
set_option maxRecDepth 20000 in
/-- slices.Delete of the element at k. -/
theorem delete_any (G N m k k1 : Nat) (f : Nat → Nat) (hk : k < m) (ek : k1 = k + 1) (hm : m ≤ N) (w : World) (hb : BlkE w G N f) :
    Calls Tryd.prog 53 #[.slice (some ⟨G, 0, none⟩) m N, .int .i64 (k : Int), .int .i64 (k1 : Int)] w fun e w' => e = .returned (.slice (some ⟨G, 0, none⟩) (m - 1) N) ∧ BlkE w' G N (fun i => if i = m - 1 then 0 else if i < k then f i else if i + 1 < m then f (i + 1) else f i) ∧ Kept G w w' := by
  obtain ⟨i0, hi, hz0, hz1, hz2⟩ := elemInfo
  have hb' := hb
  obtain ⟨cur, hg, hs, hf⟩ := hb'
  obtain ⟨news, en⟩ : ∃ l, l = els (fun i => f (k + 1 + i)) (m - (k + 1)) := ⟨_, rfl⟩
  have hl : news.length = (m - k1) * 4 := by rw [en, els_len, ek]
  have hk1 : ¬ ((k : Int) = (k1 : Int)) := by omega
  have hk2 : (k : Int) ≤ (k1 : Int) := by omega
  have hk3 : (k1 : Int) ≤ (m : Int) := by omega
  have hk4 : (m : Int) ≤ (N : Int) := by omega
  have hk5 : (k : Int) ≤ (N : Int) := by omega
  have hk6 : ¬ (k = k1) := by omega
  obtain ⟨A, oA, hoA, hAe, hcells⟩ : ∃ (A : Addr) (oA : Option Addr), oA = some A ∧ (if N = k1 then some (⟨G, 0, none⟩ : Addr) else some ⟨G, k1 * 4, none⟩) = oA ∧ ∀ t u, news[t]? = some u → w.drew.cell? (A.add t) = some u := by
    by_cases h : N = k1
    · refine ⟨⟨G, 0, none⟩, _, rfl, by rw [if_pos h], fun t u hu => ?_⟩
      have h0 : news.length = 0 := by rw [hl]; omega
      rw [List.length_eq_zero_iff.1 h0] at hu
      simp at hu
    · refine ⟨⟨G, k1 * 4, none⟩, _, rfl, by rw [if_neg h], fun t u hu => ?_⟩
      have ht : t < (m - k1) * 4 := by
        have := (List.getElem?_eq_some_iff.1 hu).1
        rwa [hl] at this
      rw [en] at hu
      have e := els_get (fun i => f (k + 1 + i)) (m - (k + 1)) (t / 4) (t % 4) (by omega) (by omega)
      rw [show t / 4 * 4 + t % 4 = t by omega, hu] at e
      cases e
      rw [Addr.add_lit, show k1 * 4 + t = (k + 1 + t / 4) * 4 + t % 4 by omega]
      exact hb.drew.cell _ (by omega) _ (by omega)
  have hd : BlkE w.drew G N f := hb.drew
  obtain ⟨cur', hg', hs', hf'⟩ := hd
  have hgc : cur' = cur := by
    have e : w.heap[G]? = some (.cells cur' 24) := hg'
    rw [hg] at e
    injection e with e
    injection e with e1
    exact e1.symm
  subst hgc
  obtain ⟨W1, hW1⟩ : ∃ z, z = w.drew.setRow G (cur'.toList.take (k * i0.size) ++ news ++ cur'.toList.drop (k * i0.size + news.length)).toArray := ⟨_, rfl⟩
  have b1 : BlkE W1 G N (fun i => if i < k then f i else if i + 1 < m then f (i + 1) else f i) := by rw [hW1, en, hz1]; exact row_moved hg' hs' hf' hk hm
  have k1' : Kept G w W1 := by rw [hW1]; exact (Kept.refl G w).trans (Kept.trans (Kept.ofBelow G (Below.refl _ _).drew) (setRow_kept _ _ _))
  obtain ⟨m1, em⟩ : ∃ z, z = m - 1 := ⟨_, rfl⟩
  have hlm : m1 < N := by omega
  have fz := b1.frozen
  have cz : ∀ j, j < 4 → (W1.cell? ⟨G, m1 * 4 + j, none⟩).isSome = true := fun j hj => by rw [b1.cell m1 hlm j hj]; rfl
  obtain ⟨W2, hW2, b2, k2⟩ := b1.put hlm 0
  have hcl : ∀ ty, (Builtin.clear_ #[25] ty #[.slice (some ⟨G, m1 * 4, none⟩) (m - m1) (N - m1)]).run Tryd.prog W1 = .ok (.tuple #[]) W2 := by
    intro ty
    rw [show m - m1 = 1 by omega, run_clearE W1 ty G (m1 * 4) _ cz fz, ← hW2]
    simp only [limb_zero]
    rfl
  have hK : Hid (Kept G w W2) := k1'.trans k2
  have hB : Hid (BlkE W2 G N (fun i => if i = m - 1 then 0 else if i < k then f i else if i + 1 < m then f (i + 1) else f i)) := b2.congr (fun i hi => by rw [em])
  have HOA : Hid (oA = some A) := hoA
  have HC : Hid (∀ t u, news[t]? = some u → w.drew.cell? (A.add t) = some u) := hcells
  have HG : Hid (w.drew.heap[G]? = some (.cells cur' 24)) := hg'
  have HL : Hid (news.length = (m - k1) * 4) := hl
  have HE : Hid (news = els (fun i => f (k + 1 + i)) (m - (k + 1))) := en
  have HI := (show Hid _ from hi); have HZ : Hid (i0.size = 4) := hz1
  have HW1 : Hid (W1 = w.drew.setRow G (cur'.toList.take (k * i0.size) ++ news ++ cur'.toList.drop (k * i0.size + news.length)).toArray) := hW1
  have HS : Hid (cur'.size = N * 4) := hs'
  have HM : Hid (m1 = m - 1) := em
  have HKM : Hid (k1 = k + 1 ∧ k < m ∧ m ≤ N) := ⟨ek, hk, hm⟩
  have hm1 : (m1 : Int) ≤ (m : Int) := by omega
  have hm2 : ¬ N = m1 := by omega
  rw [← em]
  clear hb hg hs hf en hl hoA hcells hg' hs' hf' hW1 b1 k1' fz cz hW2 b2 k2 hi hz0 hz1 hz2 em ek hk hm
  rw [show m - 1 = m1 from HM.out.symm] at hB
  go_enter Tryd.func53, Tryd.ntmps53
  go_upto_region 5 with fail
  refine wp_region_Z (fun _ => True) 99 (by kernel_rfl) ?_
  refine zt 0 20 (.slice (some ⟨G, 0, none⟩) m N) rfl rfl (fun w hSw => by clear hSw; go_simp) trivial ?_
  simp only [Act.put, List.setIfInBounds_toArray]
  (try dsimp only [List.set_cons_zero, List.set_cons_succ])
  refine zt 1 21 (.int .i64 (k : Int)) rfl rfl (fun w hSw => by clear hSw; go_simp) trivial ?_
  simp only [Act.put, List.setIfInBounds_toArray]
  (try dsimp only [List.set_cons_zero, List.set_cons_succ])
  refine zt 2 22 (.slice (some ⟨G, 0, none⟩) k N) rfl rfl (fun w hSw => by clear hSw; go_simp) trivial ?_
  simp only [Act.put, List.setIfInBounds_toArray]
  (try dsimp only [List.set_cons_zero, List.set_cons_succ])
  refine zt 3 23 (.slice (some ⟨G, 0, none⟩) m N) rfl rfl (fun w hSw => by clear hSw; go_simp) trivial ?_
  simp only [Act.put, List.setIfInBounds_toArray]
  (try dsimp only [List.set_cons_zero, List.set_cons_succ])
  refine zt 4 24 (.int .i64 (k1 : Int)) rfl rfl (fun w hSw => by clear hSw; go_simp) trivial ?_
  simp only [Act.put, List.setIfInBounds_toArray]
  (try dsimp only [List.set_cons_zero, List.set_cons_succ])
  refine zt 5 25 (.slice oA (m - k1) (N - k1)) rfl rfl (fun w hSw => by (have qA := HOA.out); clear hSw; go_simp) trivial ?_
  simp only [Act.put, List.setIfInBounds_toArray]
  (try dsimp only [List.set_cons_zero, List.set_cons_succ])
  refine wpZ_one (i := 6) (by kernel_rfl) rfl (fun K hK2 => ?_)
  refine wp_append_roomE w.drew (.tmp 22) (.tmp 25) 25 rfl 24 i0 Tryd.underlying25 HI.out G k N cur' HG.out (by simp [Act.eval]) A (m - k1) (N - k1) m1 news (by simp [Act.eval, HOA.out]) (by rw [HL.out, HZ.out]) HC.out (by rw [HE.out]; intro u hu; unfold els at hu; obtain ⟨i, _, rfl⟩ := List.mem_map.mp hu; rfl) (by have := HKM.out; omega) (by rw [HL.out, HZ.out, HS.out]; have := HKM.out; omega) (by have := HKM.out; have := HM.out; omega) ?_
  rw [← HW1.out]
  refine hK2.out _ _ (fun _ => trivial) ?_
  clear hK2 K
  simp only [Act.put]
  refine zt 7 0 (.slice (some ⟨G, 0, none⟩) m1 N) rfl rfl (fun w hSw => by clear hSw; go_simp) trivial ?_
  simp only [Act.put, List.setIfInBounds_toArray]
  (try dsimp only [List.set_cons_zero, List.set_cons_succ])
  refine wpZ_done (by kernel_rfl) ?_ _
  go_wp2
  go_ret
  exact ⟨rfl, hB.out, hK.out⟩
end Go.Proofs.YtobeeoelfmfpdaaDoor
